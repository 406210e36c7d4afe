import Derived.Test.YtpbfiffgcgnidaaGreatYal
import Derived.Test.YtpbfiffgcgnidaaGreatY13
namespace Go.Proofs.YtpbfiffgcgnidaaGreat
set_option maxRecDepth 100000
set_option maxHeartbeats 4000000
set_option linter.unusedSimpArgs false
open Go.Proofs.Tryz
section
attribute [local go_sem] Ai Ae
open Go.RowKit Go.WideMaps Go.Maps
theorem KN{k:IntKind}{a b:Int}(h:a=b):Ending.returned (.int k a)=.returned (.int k b):=by rw[h]
def EN(c:Int)(n:Nat):Nat:=((if c<0 then-(c+1) else c)%(n:Int)).toNat
theorem Fb(c:Int)(n:Nat)(hn:0<n):EN c n<n:=by unfold EN;have h1:=Int.emod_lt_of_pos (if c<0 then-(c+1) else c) (show(0:Int)<n by omega);have h2:=Int.emod_nonneg (if c<0 then-(c+1) else c) (show(n:Int)≠0 by omega);omega
theorem Gs(c:Int)(n:Nat)(hn:0<n):((EN c n:Nat):Int)=(if c<0 then-(c+1) else c)%(n:Int):=by unfold EN;have h2:=Int.emod_nonneg (if c<0 then-(c+1) else c) (show(n:Int)≠0 by omega);omega
theorem J1(c:Int)(n:Nat)(w:World)(h1: -9223372036854775808<=c)(h2:c<=9223372036854775807)(hn:0<n)(hn2:n<=1000):
 Calls prog 13 #[.int .i64 c,.int .i64 (n:Int)] w fun e w'=>e=.returned (.int .i64 (EN c n:Nat))/\w'=w:=by
 have hn0:((n:Int)==0)=false:=by rw[beq_eq_false_iff_ne];omega
 by_cases hc:c<0
 ·go_enter func13,ntmps13;go_wp2
  go_ret
  refine⟨KN ?_,rfl⟩;rw[Gs c n hn,if_pos hc,<-Int.neg_tmod,Int.tmod_eq_emod_of_nonneg (by omega)]
 ·go_enter func13,ntmps13;go_wp2
  go_ret
  refine⟨KN ?_,rfl⟩;rw[Gs c n hn,if_neg (by omega)]
def Ad(k:Nat):B8:=[UInt8.ofNat (97+k)]
theorem D3(k:Nat)(hk:k<4)(w:World):Calls prog 14 #[.int .i64 (k:Int)] w fun e w'=>e=.returned (.string (bs (Ad k)))/\w'=w:=by
 have h:k=0\/k=1\/k=2\/k=3:=by omega
 rcases h with rfl|rfl|rfl|rfl
 all_goals
  go_enter func14,ntmps14;go_wp2
  go_ret
  exact⟨rfl,rfl⟩
def Am(q:List Bool):List Value:=q.map Value.bool
def Ov(w:World)(ao:Option Addr)(n:Nat):Prop:=∀i,i<n->∃b off z,ao=some ⟨b,off,none⟩/\b<w.heap.size/\w.cell? ⟨b,off+i,none⟩=some (.int .i64 z)/\ -9223372036854775808<=z/\z<=9223372036854775807
def zG:List Value:=Am (List.replicate 16 false)
def GB(w:World)(b:Nat):Prop:=∃q:List Bool,q.length=16/\Ag w b (Am q) 25
theorem GB.set{w:World}{b:Nat}{q:List Bool}(h:Ag w b (Am q) 25)(hq:q.length=16)(k:Nat)(x:Bool):GB ((w.setCell ⟨b,k,none⟩ (.bool x)).drew) b:=by refine⟨q.set k x,by simpa using hq,?_⟩;have:=h.setCell k (.bool x);unfold Am at*;rw[List.map_set];exact this
theorem N6(w:World)(ao:Option Addr)(n cap:Nat)(hn:n<=maxLen)(hc:Ov w ao n):
 Calls prog 7 #[.slice ao n cap] w fun e w'=>∃q:List Bool,q.length=16/\e=.returned (.agg (Am q).toArray)/\Below w.heap.size w w':=by
 have hn':=hn;unfold maxLen at hn';go_enter func7,ntmps7;go_wp2
 go_loopw [4] (fun iv wr=>∃(i:Nat),i<=n/\iv=.int .i64 i/\Ag wr w.heap.size zG 25/\GB wr (w.heap.size+1)/\Below w.heap.size w wr) (fun iv _=>n-(intOf iv).toNat)
 case atStart=>exact⟨0,by omega,rfl,Df w zG 25 zG 25,⟨List.replicate 16 false,by simp,BZ w _ zG 25⟩,((Below.refl _ _).alloc (Nat.le_refl _) _).alloc (by simp) _⟩
 case round=>
  obtain⟨i,hi,rfl,hR,⟨q,hql,hG⟩,hB⟩:=hrel;have hgw:w.heap.size+1<wr.heap.size:=hG.lt;by_cases hlt:i<n
  ·obtain⟨b,off,z,rfl,hb,hz,hz1,hz2⟩:=hc i hlt;rw[<-hB.cell (p:=⟨b,off+i,none⟩) hb]at hz;have hp:=Fb z 16 (by decide);obtain⟨k,HK⟩:∃k,Hid (k=EN z 16):=⟨_,rfl⟩;rw[<-HK.out]at hp;have fG:=hG.frozen
   match q,hql with
   |[q0,q1,q2,q3,q4,q5,q6,q7,q8,q9,q10,q11,q12,q13,q14,q15],_=>
    have g0:=hG.cell 0;have g1:=hG.cell 1;have g2:=hG.cell 2;have g3:=hG.cell 3;have g4:=hG.cell 4;have g5:=hG.cell 5;have g6:=hG.cell 6;have g7:=hG.cell 7;have g8:=hG.cell 8;have g9:=hG.cell 9;have g10:=hG.cell 10;have g11:=hG.cell 11;have g12:=hG.cell 12;have g13:=hG.cell 13;have g14:=hG.cell 14;have g15:=hG.cell 15;simp[Am]at g0 g1 g2 g3 g4 g5 g6 g7 g8 g9 g10 g11 g12 g13 g14 g15;have hpc:=J1 z 16;rw[<-HK.out]at hpc;have HPC:=AJ hpc;clear hpc;have h16:k=0\/k=1\/k=2\/k=3\/k=4\/k=5\/k=6\/k=7\/k=8\/k=9\/k=10\/k=11\/k=12\/k=13\/k=14\/k=15:=by omega
    clear hp HK;rcases h16 with rfl|rfl|rfl|rfl|rfl|rfl|rfl|rfl|rfl|rfl|rfl|rfl|rfl|rfl|rfl|rfl
    all_goals
     go_wp2_with (go_at_call 13;refine(HPC.out _ hz1 hz2 (by decide) (by decide)).mono ?_;rintro e w' ⟨rfl,rfl⟩)
    all_goals go_region
    all_goals go_wp2_with fail
    all_goals
     exact⟨⟨i+1,hlt,by go_num,Ag.drew (hR.setOther ⟨w.heap.size+1,_,none⟩ _ (by simp only[ne_eq];omega)),GB.set hG rfl _ _,(hB.setCell (p:=⟨w.heap.size+1,_,none⟩) (by simp only[];omega) _).drew⟩,by simp[intOf];omega⟩
  ·match q,hql with
   |[q0,q1,q2,q3,q4,q5,q6,q7,q8,q9,q10,q11,q12,q13,q14,q15],_=>
    have fR:=hR.frozen;have g0:=hG.cell 0;have g1:=hG.cell 1;have g2:=hG.cell 2;have g3:=hG.cell 3;have g4:=hG.cell 4;have g5:=hG.cell 5;have g6:=hG.cell 6;have g7:=hG.cell 7;have g8:=hG.cell 8;have g9:=hG.cell 9;have g10:=hG.cell 10;have g11:=hG.cell 11;have g12:=hG.cell 12;have g13:=hG.cell 13;have g14:=hG.cell 14;have g15:=hG.cell 15;have r0:=hR.cell 0;have r1:=hR.cell 1;have r2:=hR.cell 2;have r3:=hR.cell 3;have r4:=hR.cell 4;have r5:=hR.cell 5;have r6:=hR.cell 6;have r7:=hR.cell 7;have r8:=hR.cell 8;have r9:=hR.cell 9;have r10:=hR.cell 10;have r11:=hR.cell 11;have r12:=hR.cell 12;have r13:=hR.cell 13;have r14:=hR.cell 14;have r15:=hR.cell 15;simp[Am]at g0 g1 g2 g3 g4 g5 g6 g7 g8 g9 g10 g11 g12 g13 g14 g15;simp[zG,Am]at r0 r1 r2 r3 r4 r5 r6 r7 r8 r9 r10 r11 r12 r13 r14 r15;go_wp2;refine bodyPost_ret (v:=.agg (Am [q0,q1,q2,q3,q4,q5,q6,q7,q8,q9,q10,q11,q12,q13,q14,q15]).toArray) (by simp[results,results7,go_sem,Am,r0,r1,r2,r3,r4,r5,r6,r7,r8,r9,r10,r11,r12,r13,r14,r15]) rfl ⟨_,rfl,rfl,?_⟩
    repeat (refine Below.setCell ?_ (by simp only[];omega) _)
    exact hB
def DE(i k:Nat):B8:=[101,100,103,101,40]++Ad i++[44]++Ad k++[41]
def BP(q:List Bool)(j:Nat):Bool:=q.getD j false
def Bb(q:List Bool)(m:Nat):List B8:=((List.range m).filter (BP q)).map fun j=>DE (j / 4) (j%4)
theorem Iv(q:List Bool)(i k:Nat)(hk:k<4):Bb q (4*i+(k+1))=if BP q (4*i+k)=true then Bb q (4*i+k)++[DE i k] else Bb q (4*i+k):=by
 unfold Bb;rw[show 4*i+(k+1)=(4*i+k)+1 by omega,List.range_succ,List.filter_append,List.map_append];have e1:(4*i+k) / 4=i:=by omega
 have e2:(4*i+k)%4=k:=by omega
 cases h:BP q (4*i+k)
 ·simp[h]
 ·simp[h,e1,e2]
theorem FT(q:List Bool)(m:Nat):(Bb q m).length<=m:=by unfold Bb;rw[List.length_map];have:=List.length_filter_le (BP q) (List.range m);simpa using this
theorem Cy(a b:B8):bs a++bs b=bs (a++b):=by apply ByteArray.ext;simp[bs,ByteArray.data_append]
def MV(i k:Nat):ByteArray:=(⟨#[101,100,103,101]⟩++⟨#[40]⟩)++bs (Ad i)++⟨#[44]⟩++bs (Ad k)++⟨#[41]⟩
theorem MU(i k:Nat):MV i k=bs (DE i k):=by show(bs [101,100,103,101]++bs [40])++bs (Ad i)++bs [44]++bs (Ad k)++bs [41]=_;simp only[Cy];rfl
def CM(l:List B8):List Value:=l.map fun x=>.string (bs x)
theorem N5(w:World)(q:List Bool)(hq:q.length=16):
 Calls prog 11 #[.agg (Am q).toArray,.string ⟨#[101,100,103,101]⟩] w fun e w'=>∃v,e=.returned v/\w'.ownsRow w.heap.size 9 1 v (Bb q 16).length (CM (Bb q 16))/\Below w.heap.size w w':=by
 obtain⟨i1,hi1,hy0,hy1,hy2⟩:=info_parts EB;have hbx0:=Ag.new w (Am q) 25;have hcl:∀(W:World),Ag W w.heap.size (Am q) 25->∀i k,i<4->k<4->W.cell? ⟨w.heap.size,i*4+k,none⟩=some (.bool (BP q (4*i+k))):=by intro W hW i k hi hk;rw[hW.cell];simp[Am,BP,show i*4+k=4*i+k by omega,show 4*i+k<q.length by omega]
 go_enter func11,ntmps11;go_wp2
 go_loopw [5,6] (fun v iv wr=>∃(i:Nat),i<=4/\iv=.int .i64 i/\wr.ownsRow w.heap.size 9 1 v (Bb q (4*i)).length (CM (Bb q (4*i)))/\Ag wr w.heap.size (Am q) 25/\Below w.heap.size w wr) (fun _ iv _=>4-(intOf iv).toNat)
 case atStart=>exact⟨0,by omega,rfl,World.ownsRow_nil _ _ _ _,hbx0,Ac _ _⟩
 case round=>
  clear hbx0;obtain⟨i,hi,rfl,ho,hbx,hB⟩:=hrel;by_cases hlt:i<4
  ·go_wp2_with fail;generalize decide ((i:Int)<4)=bb
   go_loopw [5,7] (fun v kv wr=>∃(k:Nat),k<=4/\kv=.int .i64 k/\wr.ownsRow w.heap.size 9 1 v (Bb q (4*i+k)).length (CM (Bb q (4*i+k)))/\Ag wr w.heap.size (Am q) 25/\Below w.heap.size w wr) (fun _ kv _=>4-(intOf kv).toNat)
   case atStart=>exact⟨0,by omega,rfl,ho,hbx,hB⟩
   case round=>
    clear ho hbx hB;obtain⟨k,hk,rfl,ho,hbx,hB⟩:=hrel;have hbw:w.heap.size<wr.heap.size:=hbx.lt;by_cases hkl:k<4
    ·have hc:=hcl wr hbx i k hlt hkl;have HT:=AJ (Iv q i k hkl);have hfl:=FT q (4*i+k);obtain⟨vo,vcap,rfl⟩:=Al ho;cases hqk:BP q (4*i+k)
     ·rw[hqk]at hc;go_wp2_with fail;exact⟨⟨k+1,hkl,by go_num,by rw[HT.out,hqk];exact ho,hbx,hB⟩,by simp[intOf];omega⟩
     ·rw[hqk]at hc;go_wp2_with fail;refine(D3 i hlt _).mono ?_;rintro e w' ⟨rfl,rfl⟩;go_wp2_with fail;refine(D3 k hkl _).mono ?_;rintro e w' ⟨rfl,rfl⟩;go_wp2_with (at_builtin;refine AQ _ rfl _ _ 31 rfl w.heap.size 9 i1 _ 1 16 underlying31 hi1 hy0 hy1 hy2 rfl (by decide) _ (Bb q (4*i+k)).length (CM (Bb q (4*i+k))) rfl (ho.alloc _) ⟨_,0,none⟩ 1 [.string (MV i k)] rfl rfl (AP _ [.string (MV i k)] _) (by intro u hu;simp at hu;subst hu;rfl) (by unfold maxLen;omega) (by omega) (by simp;omega) ?_;intro g cap2 w2 ho2 hg2);have hbx2:=(hbx.alloc _).grown hg2 (Ah ho hbx (by decide));have hB2:=(hB.alloc (by omega) _).grown hg2 (by simp;omega) (B3 ho);exact⟨⟨k+1,hkl,by go_num,by rw[HT.out,hqk];simpa[CM,MU]using ho2,hbx2,hB2⟩,by simp[intOf];omega⟩
    ·have hke:k=4:=by omega
     subst hke;go_wp2;exact⟨⟨i+1,hlt,by go_num,by rw[show 4*(i+1)=4*i+4 by omega];exact ho,hbx,hB⟩,by simp[intOf];omega⟩
  ·have hie:i=4:=by omega
   subst hie;go_wp2
   go_ret
   exact⟨_,rfl,ho,hB⟩
def CY(fs:List B8):B8:=fs.flatMap fun f=>f++[46,32]
theorem JQ(fs:List B8)(k:Nat)(h:k<fs.length):CY (fs.take (k+1))=CY (fs.take k)++(fs[k]++[46,32]):=by unfold CY;rw[List.take_succ_eq_append_getElem h,List.flatMap_append,List.flatMap_singleton]
theorem Mj(fs:List B8)(k:Nat)(h:k<fs.length):(CM fs)[k]? =some (.string (bs fs[k])):=by unfold CM;simp[h]
theorem OM(w:World)(base:Nat)(ao:Option Addr)(cap:Nat)(fs:List B8)(ho:w.ownsRow base 9 1 (.slice ao fs.length cap) fs.length (CM fs))(hl:∀f∈fs,f.length<=20)(hn:fs.length<=16):
 Calls prog 10 #[.slice ao fs.length cap] w fun e w'=>e=.returned (.string (bs (CY fs)))/\w'=w:=by
 go_enter func10,ntmps10;go_wp2
 go_loopw [3,4] (fun v iv wr=>∃(i:Nat),i<=fs.length/\iv=.int .i64 i/\v=.string (bs (CY (fs.take i)))/\(CY (fs.take i)).length<=22*i/\wr=w) (fun _ iv _=>fs.length-(intOf iv).toNat)
 case atStart=>exact⟨0,by omega,rfl,rfl,by simp[CY],rfl⟩
 case round=>
  obtain⟨i,hi,rfl,rfl,hle,rfl⟩:=hrel;by_cases hlt:i<fs.length
  ·obtain⟨g,rfl,hc⟩:=DS ho i hlt;rw[Mj _ _ hlt]at hc;have hfl:=hl _ (List.getElem_mem hlt);have HT:=AJ (JQ fs i hlt);generalize fs[i]=f at*;generalize CY (fs.take i)=acc at*;have hb1:(bs acc).size=acc.length:=rfl;have hb2:(bs f).size=f.length:=rfl;go_wp2;exact⟨⟨i+1,hlt,by go_num,by rw[HT.out,<-Cy,<-Cy,ByteArray.append_assoc];rfl,by rw[HT.out];simp;omega,trivial⟩,by simp[intOf];omega⟩
  ·have hie:i=fs.length:=by omega
   have HS:=AJ (show CY fs=CY (fs.take i) by rw[hie,List.take_length]);clear hie;go_wp2
   go_ret
   rw[HS.out];exact⟨rfl,rfl⟩
def Ia:B8:=[110,111,100,101,40,97,41,46,32,110,111,100,101,40,98,41,46,32,110,111,100,101,40,99,41,46,32,110,111,100,101,40,100,41,46,32,97,112,97,114,116,40,88,44,89,41,32,58,45,32,110,111,100,101,40,88,41,44,32,110,111,100,101,40,89,41,44,32,33,112,97,116,104,40,88,44,89,41,46,32,115,105,110,107,40,88,41,32,58,45,32,110,111,100,101,40,88,41,44,32,33,111,117,116,40,88,41,46,32,111,117,116,40,88,41,32,58,45,32,101,100,103,101,40,88,44,89,41,46,32,108,111,110,101,40,88,41,32,58,45,32,97,112,97,114,116,40,88,44,89,41,44,32,33,115,111,109,101,40,88,41,46,32,115,111,109,101,40,88,41,32,58,45,32,112,97,116,104,40,88,44,89,41,46,32]
def CO(v:Nat):B8:=
 if v=0 then Ia++[112,97,116,104,40,88,44,89,41,32,58,45,32,101,100,103,101,40,88,44,89,41,46,32,112,97,116,104,40,88,44,90,41,32,58,45,32,112,97,116,104,40,88,44,89,41,44,32,101,100,103,101,40,89,44,90,41,46]
 else if v=1 then Ia++[112,97,116,104,40,88,44,90,41,32,58,45,32,101,100,103,101,40,88,44,89,41,44,32,112,97,116,104,40,89,44,90,41,46,32,112,97,116,104,40,88,44,89,41,32,58,45,32,101,100,103,101,40,88,44,89,41,46]
 else if v=2 then [112,97,116,104,40,65,44,67,41,32,58,45,32,112,97,116,104,40,65,44,66,41,44,32,112,97,116,104,40,66,44,67,41,46,32,112,97,116,104,40,65,44,66,41,32,58,45,32,101,100,103,101,40,65,44,66,41,46,32]++Ia
 else Ia++[112,97,116,104,40,88,44,89,41,32,58,45,32,104,111,112,40,88,44,89,41,46,32,104,111,112,40,88,44,89,41,32,58,45,32,101,100,103,101,40,88,44,89,41,46,32,104,111,112,40,88,44,90,41,32,58,45,32,104,111,112,40,88,44,89,41,44,32,112,97,116,104,40,89,44,90,41,46]
theorem OO{a b:ByteArray}(h:a.data.toList=b.data.toList):Ending.returned (.string a)=.returned (.string b):=by
 have:a=b:=by apply ByteArray.ext;exact Array.toList_inj.1 h
 rw[this]
theorem ND(w:World)(c:Int)(h1: -9223372036854775808<=c)(h2:c<=9223372036854775807):
 Calls prog 12 #[.int .i64 c] w fun e w'=>e=.returned (.string (bs (CO (EN c 4))))/\w'=w:=by
 have hp:=Fb c 4 (by decide);obtain⟨k,HK⟩:∃k,Hid (k=EN c 4):=⟨_,rfl⟩;have hpc:=J1 c 4;rw[<-HK.out]at hp hpc⊢;have HPC:=AJ hpc;clear hpc;have h4:k=0\/k=1\/k=2\/k=3:=by omega
 clear hp HK;rcases h4 with rfl|rfl|rfl|rfl
 all_goals
  go_enter func12,ntmps12;go_wp2_with (go_at_call 13;refine(HPC.out _ h1 h2 (by decide) (by decide)).mono ?_;rintro e w' ⟨rfl,rfl⟩)
  go_ret
  refine⟨OO ?_,rfl⟩;decide+kernel
end
section
attribute [local go_sem] Ai Ae
open Go.RowKit
def EO(nm:B8)(i k:Nat):B8:=nm++([40]++Ad i++[44]++Ad k++[41])
def Li(nm:B8)(i:Nat):B8:=nm++([40]++Ad i++[41])
def B6(nm:B8)(q:List Bool)(m:Nat):List B8:=((List.range m).filter (BP q)).map fun j=>EO nm (j / 4) (j%4)
theorem Jp(nm:B8)(q:List Bool)(i k:Nat)(hk:k<4):B6 nm q (4*i+(k+1))=if BP q (4*i+k)=true then B6 nm q (4*i+k)++[EO nm i k] else B6 nm q (4*i+k):=by
 unfold B6;rw[show 4*i+(k+1)=(4*i+k)+1 by omega,List.range_succ,List.filter_append,List.map_append];cases h:BP q (4*i+k)
 ·simp[h]
 ·simp[h,show(4*i+k) / 4=i by omega,show(4*i+k)%4=k by omega]
theorem Ks(nm:B8)(q:List Bool)(m:Nat):(B6 nm q m).length<=m:=by unfold B6;rw[List.length_map];refine Nat.le_trans (List.length_filter_le _ _) ?_;simp
def Gu(nm:B8)(i k:Nat):ByteArray:=(bs nm++⟨#[40]⟩)++bs (Ad i)++⟨#[44]⟩++bs (Ad k)++⟨#[41]⟩
theorem Gt(nm:B8)(i k:Nat):Gu nm i k=bs (EO nm i k):=by show(bs nm++bs [40])++bs (Ad i)++bs [44]++bs (Ad k)++bs [41]=_;simp only[Cy];unfold EO;simp only[List.append_assoc]
theorem KU(w:World)(q:List Bool)(hq:q.length=16)(nm:B8)(hnm:nm.length<=12):
 Calls prog 11 #[.agg (Am q).toArray,.string (bs nm)] w fun e w'=>∃v,e=.returned v/\w'.ownsRow w.heap.size 9 1 v (B6 nm q 16).length (CM (B6 nm q 16))/\Below w.heap.size w w':=by
 obtain⟨i1,hi1,hy0,hy1,hy2⟩:=info_parts EB;have hbx0:=Ag.new w (Am q) 25;have hcl:∀(W:World),Ag W w.heap.size (Am q) 25->∀i k,i<4->k<4->W.cell? ⟨w.heap.size,i*4+k,none⟩=some (.bool (BP q (4*i+k))):=by intro W hW i k hi hk;rw[hW.cell];simp[Am,BP,show i*4+k=4*i+k by omega,show 4*i+k<q.length by omega]
 have hb1:(bs nm).size=nm.length:=rfl;go_enter func11,ntmps11;go_wp2
 go_loopw [5,6] (fun v iv wr=>∃(i:Nat),i<=4/\iv=.int .i64 i/\wr.ownsRow w.heap.size 9 1 v (B6 nm q (4*i)).length (CM (B6 nm q (4*i)))/\Ag wr w.heap.size (Am q) 25/\Below w.heap.size w wr) (fun _ iv _=>4-(intOf iv).toNat)
 case atStart=>exact⟨0,by omega,rfl,World.ownsRow_nil _ _ _ _,hbx0,Ac _ _⟩
 case round=>
  clear hbx0;obtain⟨i,hi,rfl,ho,hbx,hB⟩:=hrel;by_cases hlt:i<4
  ·go_wp2_with fail;generalize decide ((i:Int)<4)=bb
   go_loopw [5,7] (fun v kv wr=>∃(k:Nat),k<=4/\kv=.int .i64 k/\wr.ownsRow w.heap.size 9 1 v (B6 nm q (4*i+k)).length (CM (B6 nm q (4*i+k)))/\Ag wr w.heap.size (Am q) 25/\Below w.heap.size w wr) (fun _ kv _=>4-(intOf kv).toNat)
   case atStart=>exact⟨0,by omega,rfl,ho,hbx,hB⟩
   case round=>
    clear ho hbx hB;obtain⟨k,hk,rfl,ho,hbx,hB⟩:=hrel;have hbw:w.heap.size<wr.heap.size:=hbx.lt;by_cases hkl:k<4
    ·have hc:=hcl wr hbx i k hlt hkl;have HT:=AJ (Jp nm q i k hkl);have hfl:=Ks nm q (4*i+k);obtain⟨vo,vcap,rfl⟩:=Al ho;cases hqk:BP q (4*i+k)
     ·rw[hqk]at hc;go_wp2_with fail;exact⟨⟨k+1,hkl,by go_num,by rw[HT.out,hqk];exact ho,hbx,hB⟩,by simp[intOf];omega⟩
     ·rw[hqk]at hc;have hb2:(bs (Ad i)).size=1:=rfl;have hb3:(bs (Ad k)).size=1:=rfl;go_wp2_with fail;refine(D3 i hlt _).mono ?_;rintro e w' ⟨rfl,rfl⟩;go_wp2_with fail;refine(D3 k hkl _).mono ?_;rintro e w' ⟨rfl,rfl⟩;go_wp2_with (at_builtin;refine AQ _ rfl _ _ 31 rfl w.heap.size 9 i1 _ 1 16 underlying31 hi1 hy0 hy1 hy2 rfl (by decide) _ (B6 nm q (4*i+k)).length (CM (B6 nm q (4*i+k))) rfl (ho.alloc _) ⟨_,0,none⟩ 1 [.string (Gu nm i k)] rfl rfl (AP _ [.string (Gu nm i k)] _) (by intro u hu;simp at hu;subst hu;rfl) (by unfold maxLen;omega) (by omega) (by simp;omega) ?_;intro g cap2 w2 ho2 hg2);have hbx2:=(hbx.alloc _).grown hg2 (Ah ho hbx (by decide));have hB2:=(hB.alloc (by omega) _).grown hg2 (by simp;omega) (B3 ho);rw[Gt]at ho2;exact⟨⟨k+1,hkl,by go_num,by rw[HT.out,hqk];simpa[CM]using ho2,hbx2,hB2⟩,by simp[intOf];omega⟩
    ·have hke:k=4:=by omega
     subst hke;go_wp2;exact⟨⟨i+1,hlt,by go_num,by rw[show 4*(i+1)=4*i+4 by omega];exact ho,hbx,hB⟩,by simp[intOf];omega⟩
  ·have hie:i=4:=by omega
   subst hie;go_wp2
   go_ret
   exact⟨_,rfl,ho,hB⟩
def EK(nm:B8)(q:List Bool)(i:Nat)(nt:Bool)(m:Nat):List B8:=((List.range m).filter fun k=>BP q (4*i+k) != nt).map fun k=>EO nm i k
theorem LC(nm:B8)(q:List Bool)(i:Nat)(nt:Bool)(k:Nat):EK nm q i nt (k+1)=if(BP q (4*i+k) != nt)=true then EK nm q i nt k++[EO nm i k] else EK nm q i nt k:=by
 unfold EK;rw[List.range_succ,List.filter_append,List.map_append];cases h:(BP q (4*i+k) != nt)
 ·simp[h]
 ·simp[h]
theorem M0(nm:B8)(q:List Bool)(i:Nat)(nt:Bool)(m:Nat):(EK nm q i nt m).length<=m:=by unfold EK;rw[List.length_map];refine Nat.le_trans (List.length_filter_le _ _) ?_;simp
theorem MY(w:World)(q:List Bool)(hq:q.length=16)(nm:B8)(hnm:nm.length<=12)(i:Nat)(hi:i<4)(nt:Bool):
 Calls prog 16 #[.agg (Am q).toArray,.string (bs nm),.int .i64 (i:Nat),.bool nt] w fun e w'=>∃v,e=.returned v/\w'.ownsRow w.heap.size 9 1 v (EK nm q i nt 4).length (CM (EK nm q i nt 4))/\Below w.heap.size w w':=by
 obtain⟨i1,hi1,hy0,hy1,hy2⟩:=info_parts EB;have hbx0:=Ag.new w (Am q) 25;have hcl:∀(W:World),Ag W w.heap.size (Am q) 25->∀k,k<4->W.cell? ⟨w.heap.size,i*4+k,none⟩=some (.bool (BP q (4*i+k))):=by intro W hW k hk;rw[hW.cell];simp[Am,BP,show i*4+k=4*i+k by omega,show 4*i+k<q.length by omega]
 have hb1:(bs nm).size=nm.length:=rfl;have hb2:(bs (Ad i)).size=1:=rfl;go_enter func16,ntmps16;go_wp2
 go_loopw [9,10] (fun v kv wr=>∃(k:Nat),k<=4/\kv=.int .i64 k/\wr.ownsRow w.heap.size 9 1 v (EK nm q i nt k).length (CM (EK nm q i nt k))/\Ag wr w.heap.size (Am q) 25/\Below w.heap.size w wr) (fun _ kv _=>4-(intOf kv).toNat)
 case atStart=>exact⟨0,by omega,rfl,World.ownsRow_nil _ _ _ _,hbx0,Ac _ _⟩
 case round=>
  clear hbx0;obtain⟨k,hk,rfl,ho,hbx,hB⟩:=hrel;have hbw:w.heap.size<wr.heap.size:=hbx.lt;by_cases hkl:k<4
  ·have hc:=hcl wr hbx k hkl;clear hcl;have HT:=AJ (LC nm q i nt k);have hfl:=M0 nm q i nt k;have hb3:(bs (Ad k)).size=1:=rfl;obtain⟨vo,vcap,rfl⟩:=Al ho;generalize BP q (4*i+k)=x at*;generalize EK nm q i nt k=L at*;cases x<;>cases nt
   all_goals first
    |(have HN:=AJ (HT.out.trans (if_neg (by decide)))
      clear HT;go_wp2_with fail
      exact⟨⟨k+1,hkl,by go_num,by rw[HN.out];exact ho,hbx,hB⟩,by simp[intOf];omega⟩)
    |(have HN:=AJ (HT.out.trans (if_pos (by decide)))
      clear HT;go_wp2_with fail;refine(D3 i hi _).mono ?_;rintro e w' ⟨rfl,rfl⟩;go_wp2_with fail;refine(D3 k hkl _).mono ?_;rintro e w' ⟨rfl,rfl⟩;go_wp2_with (at_builtin;refine AQ _ rfl _ _ 31 rfl w.heap.size 9 i1 _ 1 16 underlying31 hi1 hy0 hy1 hy2 rfl (by decide) _ L.length (CM L) rfl (ho.alloc _) ⟨_,0,none⟩ 1 [.string (Gu nm i k)] rfl rfl (AP _ [.string (Gu nm i k)] _) (by intro u hu;simp at hu;subst hu;rfl) (by unfold maxLen;omega) (by omega) (by simp;omega) ?_;intro g cap2 w2 ho2 hg2);have hbx2:=(hbx.alloc _).grown hg2 (Ah ho hbx (by decide));have hB2:=(hB.alloc (by omega) _).grown hg2 (by simp;omega) (B3 ho);rw[Gt]at ho2
      exact⟨⟨k+1,hkl,by go_num,by rw[HN.out];simpa[CM]using ho2,hbx2,hB2⟩,by simp[intOf];omega⟩)
  ·have hke:k=4:=by omega
   subst hke;go_wp2
   go_ret
   exact⟨_,rfl,ho,hB⟩
end
end Go.Proofs.YtpbfiffgcgnidaaGreat
