import Derived.Test.YtpbfiffgcgnidaaGreatYal
import Derived.Test.YtpbfiffgcgnidaaGreatY12
namespace Go.Proofs.YtpbfiffgcgnidaaGreat
set_option maxRecDepth 100000
set_option maxHeartbeats 4000000
set_option linter.unusedSimpArgs false
open Go.Proofs.Tryz
section
attribute [local go_sem] drewN_alloc drewN_setCell
open Go.RowKit Go.WideMaps Go.Maps
theorem ret_int{k:IntKind}{a b:Int}(h:a=b):Ending.returned (.int k a)=.returned (.int k b):=by rw[h]
def pickN(c:Int)(n:Nat):Nat:=((if c<0 then-(c+1) else c)%(n:Int)).toNat
theorem pickN_lt(c:Int)(n:Nat)(hn:0<n):pickN c n<n:=by unfold pickN;have h1:=Int.emod_lt_of_pos (if c<0 then-(c+1) else c) (show(0:Int)<n by omega);have h2:=Int.emod_nonneg (if c<0 then-(c+1) else c) (show(n:Int)≠0 by omega);omega
theorem pickN_cast(c:Int)(n:Nat)(hn:0<n):((pickN c n:Nat):Int)=(if c<0 then-(c+1) else c)%(n:Int):=by unfold pickN;have h2:=Int.emod_nonneg (if c<0 then-(c+1) else c) (show(n:Int)≠0 by omega);omega
theorem pick_c(c:Int)(n:Nat)(w:World)(h1: -9223372036854775808<=c)(h2:c<=9223372036854775807)(hn:0<n)(hn2:n<=1000):
 Calls prog 13 #[.int .i64 c,.int .i64 (n:Int)] w fun e w'=>e=.returned (.int .i64 (pickN c n:Nat))/\w'=w:=by
 have hn0:((n:Int)==0)=false:=by rw[beq_eq_false_iff_ne];omega
 by_cases hc:c<0
 ·go_enter func13,ntmps13;go_wp2
  go_ret
  refine⟨ret_int ?_,rfl⟩;rw[pickN_cast c n hn,if_pos hc,<-Int.neg_tmod,Int.tmod_eq_emod_of_nonneg (by omega)]
 ·go_enter func13,ntmps13;go_wp2
  go_ret
  refine⟨ret_int ?_,rfl⟩;rw[pickN_cast c n hn,if_neg (by omega)]
def nodeB(k:Nat):B8:=[UInt8.ofNat (97+k)]
theorem node_c(k:Nat)(hk:k<4)(w:World):Calls prog 14 #[.int .i64 (k:Int)] w fun e w'=>e=.returned (.string (bs (nodeB k)))/\w'=w:=by
 have h:k=0\/k=1\/k=2\/k=3:=by omega
 rcases h with rfl|rfl|rfl|rfl
 all_goals
  go_enter func14,ntmps14;go_wp2
  go_ret
  exact⟨rfl,rfl⟩
def gCells(q:List Bool):List Value:=q.map Value.bool
def Ints(w:World)(ao:Option Addr)(n:Nat):Prop:=∀i,i<n->∃b off z,ao=some ⟨b,off,none⟩/\b<w.heap.size/\w.cell? ⟨b,off+i,none⟩=some (.int .i64 z)/\ -9223372036854775808<=z/\z<=9223372036854775807
def zG:List Value:=gCells (List.replicate 16 false)
def GB(w:World)(b:Nat):Prop:=∃q:List Bool,q.length=16/\Blk w b (gCells q) 25
theorem GB.set{w:World}{b:Nat}{q:List Bool}(h:Blk w b (gCells q) 25)(hq:q.length=16)(k:Nat)(x:Bool):GB ((w.setCell ⟨b,k,none⟩ (.bool x)).drew) b:=by refine⟨q.set k x,by simpa using hq,?_⟩;have:=h.setCell k (.bool x);unfold gCells at*;rw[List.map_set];exact this
theorem edges_c(w:World)(ao:Option Addr)(n cap:Nat)(hn:n<=maxLen)(hc:Ints w ao n):
 Calls prog 7 #[.slice ao n cap] w fun e w'=>∃q:List Bool,q.length=16/\e=.returned (.agg (gCells q).toArray)/\Below w.heap.size w w':=by
 have hn':=hn;unfold maxLen at hn';go_enter func7,ntmps7;go_wp2
 go_loopw [4] (fun iv wr=>∃(i:Nat),i<=n/\iv=.int .i64 i/\Blk wr w.heap.size zG 25/\GB wr (w.heap.size+1)/\Below w.heap.size w wr) (fun iv _=>n-(intOf iv).toNat)
 case atStart=>exact⟨0,by omega,rfl,new_one w zG 25 zG 25,⟨List.replicate 16 false,by simp,new_two w _ zG 25⟩,((Below.refl _ _).alloc (Nat.le_refl _) _).alloc (by simp) _⟩
 case round=>
  obtain⟨i,hi,rfl,hR,⟨q,hql,hG⟩,hB⟩:=hrel;have hgw:w.heap.size+1<wr.heap.size:=hG.lt;by_cases hlt:i<n
  ·obtain⟨b,off,z,rfl,hb,hz,hz1,hz2⟩:=hc i hlt;rw[<-hB.cell (p:=⟨b,off+i,none⟩) hb]at hz;have hp:=pickN_lt z 16 (by decide);obtain⟨k,HK⟩:∃k,Hid (k=pickN z 16):=⟨_,rfl⟩;rw[<-HK.out]at hp;have fG:=hG.frozen
   match q,hql with
   |[q0,q1,q2,q3,q4,q5,q6,q7,q8,q9,q10,q11,q12,q13,q14,q15],_=>
    have g0:=hG.cell 0;have g1:=hG.cell 1;have g2:=hG.cell 2;have g3:=hG.cell 3;have g4:=hG.cell 4;have g5:=hG.cell 5;have g6:=hG.cell 6;have g7:=hG.cell 7;have g8:=hG.cell 8;have g9:=hG.cell 9;have g10:=hG.cell 10;have g11:=hG.cell 11;have g12:=hG.cell 12;have g13:=hG.cell 13;have g14:=hG.cell 14;have g15:=hG.cell 15;simp[gCells]at g0 g1 g2 g3 g4 g5 g6 g7 g8 g9 g10 g11 g12 g13 g14 g15;have hpc:=pick_c z 16;rw[<-HK.out]at hpc;have HPC:=hid hpc;clear hpc;have h16:k=0\/k=1\/k=2\/k=3\/k=4\/k=5\/k=6\/k=7\/k=8\/k=9\/k=10\/k=11\/k=12\/k=13\/k=14\/k=15:=by omega
    clear hp HK;rcases h16 with rfl|rfl|rfl|rfl|rfl|rfl|rfl|rfl|rfl|rfl|rfl|rfl|rfl|rfl|rfl|rfl
    all_goals
     go_wp2_with (go_at_call 13;refine(HPC.out _ hz1 hz2 (by decide) (by decide)).mono ?_;rintro e w' ⟨rfl,rfl⟩)
    all_goals go_region
    all_goals go_wp2_with fail
    all_goals
     exact⟨⟨i+1,hlt,by go_num,Blk.drew (hR.setOther ⟨w.heap.size+1,_,none⟩ _ (by simp only[ne_eq];omega)),GB.set hG rfl _ _,(hB.setCell (p:=⟨w.heap.size+1,_,none⟩) (by simp only[];omega) _).drew⟩,by simp[intOf];omega⟩
  ·match q,hql with
   |[q0,q1,q2,q3,q4,q5,q6,q7,q8,q9,q10,q11,q12,q13,q14,q15],_=>
    have fR:=hR.frozen;have g0:=hG.cell 0;have g1:=hG.cell 1;have g2:=hG.cell 2;have g3:=hG.cell 3;have g4:=hG.cell 4;have g5:=hG.cell 5;have g6:=hG.cell 6;have g7:=hG.cell 7;have g8:=hG.cell 8;have g9:=hG.cell 9;have g10:=hG.cell 10;have g11:=hG.cell 11;have g12:=hG.cell 12;have g13:=hG.cell 13;have g14:=hG.cell 14;have g15:=hG.cell 15;have r0:=hR.cell 0;have r1:=hR.cell 1;have r2:=hR.cell 2;have r3:=hR.cell 3;have r4:=hR.cell 4;have r5:=hR.cell 5;have r6:=hR.cell 6;have r7:=hR.cell 7;have r8:=hR.cell 8;have r9:=hR.cell 9;have r10:=hR.cell 10;have r11:=hR.cell 11;have r12:=hR.cell 12;have r13:=hR.cell 13;have r14:=hR.cell 14;have r15:=hR.cell 15;simp[gCells]at g0 g1 g2 g3 g4 g5 g6 g7 g8 g9 g10 g11 g12 g13 g14 g15;simp[zG,gCells]at r0 r1 r2 r3 r4 r5 r6 r7 r8 r9 r10 r11 r12 r13 r14 r15;go_wp2;refine bodyPost_ret (v:=.agg (gCells [q0,q1,q2,q3,q4,q5,q6,q7,q8,q9,q10,q11,q12,q13,q14,q15]).toArray) (by simp[results,results7,go_sem,gCells,r0,r1,r2,r3,r4,r5,r6,r7,r8,r9,r10,r11,r12,r13,r14,r15]) rfl ⟨_,rfl,rfl,?_⟩
    repeat (refine Below.setCell ?_ (by simp only[];omega) _)
    exact hB
def factB(i k:Nat):B8:=[101,100,103,101,40]++nodeB i++[44]++nodeB k++[41]
def qAt(q:List Bool)(j:Nat):Bool:=q.getD j false
def factsTo(q:List Bool)(m:Nat):List B8:=((List.range m).filter (qAt q)).map fun j=>factB (j / 4) (j%4)
theorem factsTo_succ(q:List Bool)(i k:Nat)(hk:k<4):factsTo q (4*i+(k+1))=if qAt q (4*i+k)=true then factsTo q (4*i+k)++[factB i k] else factsTo q (4*i+k):=by
 unfold factsTo;rw[show 4*i+(k+1)=(4*i+k)+1 by omega,List.range_succ,List.filter_append,List.map_append];have e1:(4*i+k) / 4=i:=by omega
 have e2:(4*i+k)%4=k:=by omega
 cases h:qAt q (4*i+k)
 ·simp[h]
 ·simp[h,e1,e2]
theorem factsTo_len(q:List Bool)(m:Nat):(factsTo q m).length<=m:=by unfold factsTo;rw[List.length_map];have:=List.length_filter_le (qAt q) (List.range m);simpa using this
theorem bs_append(a b:B8):bs a++bs b=bs (a++b):=by apply ByteArray.ext;simp[bs,ByteArray.data_append]
def factX(i k:Nat):ByteArray:=(⟨#[101,100,103,101]⟩++⟨#[40]⟩)++bs (nodeB i)++⟨#[44]⟩++bs (nodeB k)++⟨#[41]⟩
theorem factX_eq(i k:Nat):factX i k=bs (factB i k):=by show(bs [101,100,103,101]++bs [40])++bs (nodeB i)++bs [44]++bs (nodeB k)++bs [41]=_;simp only[bs_append];rfl
def strs(l:List B8):List Value:=l.map fun x=>.string (bs x)
theorem facts_c(w:World)(q:List Bool)(hq:q.length=16):
 Calls prog 11 #[.agg (gCells q).toArray,.string ⟨#[101,100,103,101]⟩] w fun e w'=>∃v,e=.returned v/\w'.ownsRow w.heap.size 9 1 v (factsTo q 16).length (strs (factsTo q 16))/\Below w.heap.size w w':=by
 obtain⟨i1,hi1,hy0,hy1,hy2⟩:=info_parts infoStr;have hbx0:=Blk.new w (gCells q) 25;have hcl:∀(W:World),Blk W w.heap.size (gCells q) 25->∀i k,i<4->k<4->W.cell? ⟨w.heap.size,i*4+k,none⟩=some (.bool (qAt q (4*i+k))):=by intro W hW i k hi hk;rw[hW.cell];simp[gCells,qAt,show i*4+k=4*i+k by omega,show 4*i+k<q.length by omega]
 go_enter func11,ntmps11;go_wp2
 go_loopw [5,6] (fun v iv wr=>∃(i:Nat),i<=4/\iv=.int .i64 i/\wr.ownsRow w.heap.size 9 1 v (factsTo q (4*i)).length (strs (factsTo q (4*i)))/\Blk wr w.heap.size (gCells q) 25/\Below w.heap.size w wr) (fun _ iv _=>4-(intOf iv).toNat)
 case atStart=>exact⟨0,by omega,rfl,World.ownsRow_nil _ _ _ _,hbx0,below_alloc _ _⟩
 case round=>
  clear hbx0;obtain⟨i,hi,rfl,ho,hbx,hB⟩:=hrel;by_cases hlt:i<4
  ·go_wp2_with fail;generalize decide ((i:Int)<4)=bb
   go_loopw [5,7] (fun v kv wr=>∃(k:Nat),k<=4/\kv=.int .i64 k/\wr.ownsRow w.heap.size 9 1 v (factsTo q (4*i+k)).length (strs (factsTo q (4*i+k)))/\Blk wr w.heap.size (gCells q) 25/\Below w.heap.size w wr) (fun _ kv _=>4-(intOf kv).toNat)
   case atStart=>exact⟨0,by omega,rfl,ho,hbx,hB⟩
   case round=>
    clear ho hbx hB;obtain⟨k,hk,rfl,ho,hbx,hB⟩:=hrel;have hbw:w.heap.size<wr.heap.size:=hbx.lt;by_cases hkl:k<4
    ·have hc:=hcl wr hbx i k hlt hkl;have HT:=hid (factsTo_succ q i k hkl);have hfl:=factsTo_len q (4*i+k);obtain⟨vo,vcap,rfl⟩:=own_form ho;cases hqk:qAt q (4*i+k)
     ·rw[hqk]at hc;go_wp2_with fail;exact⟨⟨k+1,hkl,by go_num,by rw[HT.out,hqk];exact ho,hbx,hB⟩,by simp[intOf];omega⟩
     ·rw[hqk]at hc;go_wp2_with fail;refine(node_c i hlt _).mono ?_;rintro e w' ⟨rfl,rfl⟩;go_wp2_with fail;refine(node_c k hkl _).mono ?_;rintro e w' ⟨rfl,rfl⟩;go_wp2_with (at_builtin;refine wpList_append_ownS _ rfl _ _ 31 rfl w.heap.size 9 i1 _ 1 16 underlying31 hi1 hy0 hy1 hy2 rfl (by decide) _ (factsTo q (4*i+k)).length (strs (factsTo q (4*i+k))) rfl (ho.alloc _) ⟨_,0,none⟩ 1 [.string (factX i k)] rfl rfl (new_cells _ [.string (factX i k)] _) (by intro u hu;simp at hu;subst hu;rfl) (by unfold maxLen;omega) (by omega) (by simp;omega) ?_;intro g cap2 w2 ho2 hg2);have hbx2:=(hbx.alloc _).grown hg2 (own_ne ho hbx (by decide));have hB2:=(hB.alloc (by omega) _).grown hg2 (by simp;omega) (own_base ho);exact⟨⟨k+1,hkl,by go_num,by rw[HT.out,hqk];simpa[strs,factX_eq]using ho2,hbx2,hB2⟩,by simp[intOf];omega⟩
    ·have hke:k=4:=by omega
     subst hke;go_wp2;exact⟨⟨i+1,hlt,by go_num,by rw[show 4*(i+1)=4*i+4 by omega];exact ho,hbx,hB⟩,by simp[intOf];omega⟩
  ·have hie:i=4:=by omega
   subst hie;go_wp2
   go_ret
   exact⟨_,rfl,ho,hB⟩
def textR(fs:List B8):B8:=fs.flatMap fun f=>f++[46,32]
theorem textR_snoc(fs:List B8)(k:Nat)(h:k<fs.length):textR (fs.take (k+1))=textR (fs.take k)++(fs[k]++[46,32]):=by unfold textR;rw[List.take_succ_eq_append_getElem h,List.flatMap_append,List.flatMap_singleton]
theorem strs_get(fs:List B8)(k:Nat)(h:k<fs.length):(strs fs)[k]? =some (.string (bs fs[k])):=by unfold strs;simp[h]
theorem text_c(w:World)(base:Nat)(ao:Option Addr)(cap:Nat)(fs:List B8)(ho:w.ownsRow base 9 1 (.slice ao fs.length cap) fs.length (strs fs))(hl:∀f∈fs,f.length<=20)(hn:fs.length<=16):
 Calls prog 10 #[.slice ao fs.length cap] w fun e w'=>e=.returned (.string (bs (textR fs)))/\w'=w:=by
 go_enter func10,ntmps10;go_wp2
 go_loopw [3,4] (fun v iv wr=>∃(i:Nat),i<=fs.length/\iv=.int .i64 i/\v=.string (bs (textR (fs.take i)))/\(textR (fs.take i)).length<=22*i/\wr=w) (fun _ iv _=>fs.length-(intOf iv).toNat)
 case atStart=>exact⟨0,by omega,rfl,rfl,by simp[textR],rfl⟩
 case round=>
  obtain⟨i,hi,rfl,rfl,hle,rfl⟩:=hrel;by_cases hlt:i<fs.length
  ·obtain⟨g,rfl,hc⟩:=own_cell ho i hlt;rw[strs_get _ _ hlt]at hc;have hfl:=hl _ (List.getElem_mem hlt);have HT:=hid (textR_snoc fs i hlt);generalize fs[i]=f at*;generalize textR (fs.take i)=acc at*;have hb1:(bs acc).size=acc.length:=rfl;have hb2:(bs f).size=f.length:=rfl;go_wp2;exact⟨⟨i+1,hlt,by go_num,by rw[HT.out,<-bs_append,<-bs_append,ByteArray.append_assoc];rfl,by rw[HT.out];simp;omega,trivial⟩,by simp[intOf];omega⟩
  ·have hie:i=fs.length:=by omega
   have HS:=hid (show textR fs=textR (fs.take i) by rw[hie,List.take_length]);clear hie;go_wp2
   go_ret
   rw[HS.out];exact⟨rfl,rfl⟩
def rulesS:B8:=[110,111,100,101,40,97,41,46,32,110,111,100,101,40,98,41,46,32,110,111,100,101,40,99,41,46,32,110,111,100,101,40,100,41,46,32,97,112,97,114,116,40,88,44,89,41,32,58,45,32,110,111,100,101,40,88,41,44,32,110,111,100,101,40,89,41,44,32,33,112,97,116,104,40,88,44,89,41,46,32,115,105,110,107,40,88,41,32,58,45,32,110,111,100,101,40,88,41,44,32,33,111,117,116,40,88,41,46,32,111,117,116,40,88,41,32,58,45,32,101,100,103,101,40,88,44,89,41,46,32,108,111,110,101,40,88,41,32,58,45,32,97,112,97,114,116,40,88,44,89,41,44,32,33,115,111,109,101,40,88,41,46,32,115,111,109,101,40,88,41,32,58,45,32,112,97,116,104,40,88,44,89,41,46,32]
def rulesT(v:Nat):B8:=
 if v=0 then rulesS++[112,97,116,104,40,88,44,89,41,32,58,45,32,101,100,103,101,40,88,44,89,41,46,32,112,97,116,104,40,88,44,90,41,32,58,45,32,112,97,116,104,40,88,44,89,41,44,32,101,100,103,101,40,89,44,90,41,46]
 else if v=1 then rulesS++[112,97,116,104,40,88,44,90,41,32,58,45,32,101,100,103,101,40,88,44,89,41,44,32,112,97,116,104,40,89,44,90,41,46,32,112,97,116,104,40,88,44,89,41,32,58,45,32,101,100,103,101,40,88,44,89,41,46]
 else if v=2 then [112,97,116,104,40,65,44,67,41,32,58,45,32,112,97,116,104,40,65,44,66,41,44,32,112,97,116,104,40,66,44,67,41,46,32,112,97,116,104,40,65,44,66,41,32,58,45,32,101,100,103,101,40,65,44,66,41,46,32]++rulesS
 else rulesS++[112,97,116,104,40,88,44,89,41,32,58,45,32,104,111,112,40,88,44,89,41,46,32,104,111,112,40,88,44,89,41,32,58,45,32,101,100,103,101,40,88,44,89,41,46,32,104,111,112,40,88,44,90,41,32,58,45,32,104,111,112,40,88,44,89,41,44,32,112,97,116,104,40,89,44,90,41,46]
theorem str_eq{a b:ByteArray}(h:a.data.toList=b.data.toList):Ending.returned (.string a)=.returned (.string b):=by
 have:a=b:=by apply ByteArray.ext;exact Array.toList_inj.1 h
 rw[this]
theorem rules_c(w:World)(c:Int)(h1: -9223372036854775808<=c)(h2:c<=9223372036854775807):
 Calls prog 12 #[.int .i64 c] w fun e w'=>e=.returned (.string (bs (rulesT (pickN c 4))))/\w'=w:=by
 have hp:=pickN_lt c 4 (by decide);obtain⟨k,HK⟩:∃k,Hid (k=pickN c 4):=⟨_,rfl⟩;have hpc:=pick_c c 4;rw[<-HK.out]at hp hpc⊢;have HPC:=hid hpc;clear hpc;have h4:k=0\/k=1\/k=2\/k=3:=by omega
 clear hp HK;rcases h4 with rfl|rfl|rfl|rfl
 all_goals
  go_enter func12,ntmps12;go_wp2_with (go_at_call 13;refine(HPC.out _ h1 h2 (by decide) (by decide)).mono ?_;rintro e w' ⟨rfl,rfl⟩)
  go_ret
  refine⟨str_eq ?_,rfl⟩;decide+kernel
end
section
attribute [local go_sem] drewN_alloc drewN_setCell
open Go.RowKit
def pairB(nm:B8)(i k:Nat):B8:=nm++([40]++nodeB i++[44]++nodeB k++[41])
def oneB(nm:B8)(i:Nat):B8:=nm++([40]++nodeB i++[41])
def factsN(nm:B8)(q:List Bool)(m:Nat):List B8:=((List.range m).filter (qAt q)).map fun j=>pairB nm (j / 4) (j%4)
theorem factsN_succ(nm:B8)(q:List Bool)(i k:Nat)(hk:k<4):factsN nm q (4*i+(k+1))=if qAt q (4*i+k)=true then factsN nm q (4*i+k)++[pairB nm i k] else factsN nm q (4*i+k):=by
 unfold factsN;rw[show 4*i+(k+1)=(4*i+k)+1 by omega,List.range_succ,List.filter_append,List.map_append];cases h:qAt q (4*i+k)
 ·simp[h]
 ·simp[h,show(4*i+k) / 4=i by omega,show(4*i+k)%4=k by omega]
theorem factsN_len(nm:B8)(q:List Bool)(m:Nat):(factsN nm q m).length<=m:=by unfold factsN;rw[List.length_map];refine Nat.le_trans (List.length_filter_le _ _) ?_;simp
def pairX(nm:B8)(i k:Nat):ByteArray:=(bs nm++⟨#[40]⟩)++bs (nodeB i)++⟨#[44]⟩++bs (nodeB k)++⟨#[41]⟩
theorem pairX_eq(nm:B8)(i k:Nat):pairX nm i k=bs (pairB nm i k):=by show(bs nm++bs [40])++bs (nodeB i)++bs [44]++bs (nodeB k)++bs [41]=_;simp only[bs_append];unfold pairB;simp only[List.append_assoc]
theorem facts_n(w:World)(q:List Bool)(hq:q.length=16)(nm:B8)(hnm:nm.length<=12):
 Calls prog 11 #[.agg (gCells q).toArray,.string (bs nm)] w fun e w'=>∃v,e=.returned v/\w'.ownsRow w.heap.size 9 1 v (factsN nm q 16).length (strs (factsN nm q 16))/\Below w.heap.size w w':=by
 obtain⟨i1,hi1,hy0,hy1,hy2⟩:=info_parts infoStr;have hbx0:=Blk.new w (gCells q) 25;have hcl:∀(W:World),Blk W w.heap.size (gCells q) 25->∀i k,i<4->k<4->W.cell? ⟨w.heap.size,i*4+k,none⟩=some (.bool (qAt q (4*i+k))):=by intro W hW i k hi hk;rw[hW.cell];simp[gCells,qAt,show i*4+k=4*i+k by omega,show 4*i+k<q.length by omega]
 have hb1:(bs nm).size=nm.length:=rfl;go_enter func11,ntmps11;go_wp2
 go_loopw [5,6] (fun v iv wr=>∃(i:Nat),i<=4/\iv=.int .i64 i/\wr.ownsRow w.heap.size 9 1 v (factsN nm q (4*i)).length (strs (factsN nm q (4*i)))/\Blk wr w.heap.size (gCells q) 25/\Below w.heap.size w wr) (fun _ iv _=>4-(intOf iv).toNat)
 case atStart=>exact⟨0,by omega,rfl,World.ownsRow_nil _ _ _ _,hbx0,below_alloc _ _⟩
 case round=>
  clear hbx0;obtain⟨i,hi,rfl,ho,hbx,hB⟩:=hrel;by_cases hlt:i<4
  ·go_wp2_with fail;generalize decide ((i:Int)<4)=bb
   go_loopw [5,7] (fun v kv wr=>∃(k:Nat),k<=4/\kv=.int .i64 k/\wr.ownsRow w.heap.size 9 1 v (factsN nm q (4*i+k)).length (strs (factsN nm q (4*i+k)))/\Blk wr w.heap.size (gCells q) 25/\Below w.heap.size w wr) (fun _ kv _=>4-(intOf kv).toNat)
   case atStart=>exact⟨0,by omega,rfl,ho,hbx,hB⟩
   case round=>
    clear ho hbx hB;obtain⟨k,hk,rfl,ho,hbx,hB⟩:=hrel;have hbw:w.heap.size<wr.heap.size:=hbx.lt;by_cases hkl:k<4
    ·have hc:=hcl wr hbx i k hlt hkl;have HT:=hid (factsN_succ nm q i k hkl);have hfl:=factsN_len nm q (4*i+k);obtain⟨vo,vcap,rfl⟩:=own_form ho;cases hqk:qAt q (4*i+k)
     ·rw[hqk]at hc;go_wp2_with fail;exact⟨⟨k+1,hkl,by go_num,by rw[HT.out,hqk];exact ho,hbx,hB⟩,by simp[intOf];omega⟩
     ·rw[hqk]at hc;have hb2:(bs (nodeB i)).size=1:=rfl;have hb3:(bs (nodeB k)).size=1:=rfl;go_wp2_with fail;refine(node_c i hlt _).mono ?_;rintro e w' ⟨rfl,rfl⟩;go_wp2_with fail;refine(node_c k hkl _).mono ?_;rintro e w' ⟨rfl,rfl⟩;go_wp2_with (at_builtin;refine wpList_append_ownS _ rfl _ _ 31 rfl w.heap.size 9 i1 _ 1 16 underlying31 hi1 hy0 hy1 hy2 rfl (by decide) _ (factsN nm q (4*i+k)).length (strs (factsN nm q (4*i+k))) rfl (ho.alloc _) ⟨_,0,none⟩ 1 [.string (pairX nm i k)] rfl rfl (new_cells _ [.string (pairX nm i k)] _) (by intro u hu;simp at hu;subst hu;rfl) (by unfold maxLen;omega) (by omega) (by simp;omega) ?_;intro g cap2 w2 ho2 hg2);have hbx2:=(hbx.alloc _).grown hg2 (own_ne ho hbx (by decide));have hB2:=(hB.alloc (by omega) _).grown hg2 (by simp;omega) (own_base ho);rw[pairX_eq]at ho2;exact⟨⟨k+1,hkl,by go_num,by rw[HT.out,hqk];simpa[strs]using ho2,hbx2,hB2⟩,by simp[intOf];omega⟩
    ·have hke:k=4:=by omega
     subst hke;go_wp2;exact⟨⟨i+1,hlt,by go_num,by rw[show 4*(i+1)=4*i+4 by omega];exact ho,hbx,hB⟩,by simp[intOf];omega⟩
  ·have hie:i=4:=by omega
   subst hie;go_wp2
   go_ret
   exact⟨_,rfl,ho,hB⟩
def colN(nm:B8)(q:List Bool)(i:Nat)(nt:Bool)(m:Nat):List B8:=((List.range m).filter fun k=>qAt q (4*i+k) != nt).map fun k=>pairB nm i k
theorem colN_succ(nm:B8)(q:List Bool)(i:Nat)(nt:Bool)(k:Nat):colN nm q i nt (k+1)=if(qAt q (4*i+k) != nt)=true then colN nm q i nt k++[pairB nm i k] else colN nm q i nt k:=by
 unfold colN;rw[List.range_succ,List.filter_append,List.map_append];cases h:(qAt q (4*i+k) != nt)
 ·simp[h]
 ·simp[h]
theorem colN_len(nm:B8)(q:List Bool)(i:Nat)(nt:Bool)(m:Nat):(colN nm q i nt m).length<=m:=by unfold colN;rw[List.length_map];refine Nat.le_trans (List.length_filter_le _ _) ?_;simp
theorem column_c(w:World)(q:List Bool)(hq:q.length=16)(nm:B8)(hnm:nm.length<=12)(i:Nat)(hi:i<4)(nt:Bool):
 Calls prog 16 #[.agg (gCells q).toArray,.string (bs nm),.int .i64 (i:Nat),.bool nt] w fun e w'=>∃v,e=.returned v/\w'.ownsRow w.heap.size 9 1 v (colN nm q i nt 4).length (strs (colN nm q i nt 4))/\Below w.heap.size w w':=by
 obtain⟨i1,hi1,hy0,hy1,hy2⟩:=info_parts infoStr;have hbx0:=Blk.new w (gCells q) 25;have hcl:∀(W:World),Blk W w.heap.size (gCells q) 25->∀k,k<4->W.cell? ⟨w.heap.size,i*4+k,none⟩=some (.bool (qAt q (4*i+k))):=by intro W hW k hk;rw[hW.cell];simp[gCells,qAt,show i*4+k=4*i+k by omega,show 4*i+k<q.length by omega]
 have hb1:(bs nm).size=nm.length:=rfl;have hb2:(bs (nodeB i)).size=1:=rfl;go_enter func16,ntmps16;go_wp2
 go_loopw [9,10] (fun v kv wr=>∃(k:Nat),k<=4/\kv=.int .i64 k/\wr.ownsRow w.heap.size 9 1 v (colN nm q i nt k).length (strs (colN nm q i nt k))/\Blk wr w.heap.size (gCells q) 25/\Below w.heap.size w wr) (fun _ kv _=>4-(intOf kv).toNat)
 case atStart=>exact⟨0,by omega,rfl,World.ownsRow_nil _ _ _ _,hbx0,below_alloc _ _⟩
 case round=>
  clear hbx0;obtain⟨k,hk,rfl,ho,hbx,hB⟩:=hrel;have hbw:w.heap.size<wr.heap.size:=hbx.lt;by_cases hkl:k<4
  ·have hc:=hcl wr hbx k hkl;clear hcl;have HT:=hid (colN_succ nm q i nt k);have hfl:=colN_len nm q i nt k;have hb3:(bs (nodeB k)).size=1:=rfl;obtain⟨vo,vcap,rfl⟩:=own_form ho;generalize qAt q (4*i+k)=x at*;generalize colN nm q i nt k=L at*;cases x<;>cases nt
   all_goals first
    |(have HN:=hid (HT.out.trans (if_neg (by decide)))
      clear HT;go_wp2_with fail
      exact⟨⟨k+1,hkl,by go_num,by rw[HN.out];exact ho,hbx,hB⟩,by simp[intOf];omega⟩)
    |(have HN:=hid (HT.out.trans (if_pos (by decide)))
      clear HT;go_wp2_with fail;refine(node_c i hi _).mono ?_;rintro e w' ⟨rfl,rfl⟩;go_wp2_with fail;refine(node_c k hkl _).mono ?_;rintro e w' ⟨rfl,rfl⟩;go_wp2_with (at_builtin;refine wpList_append_ownS _ rfl _ _ 31 rfl w.heap.size 9 i1 _ 1 16 underlying31 hi1 hy0 hy1 hy2 rfl (by decide) _ L.length (strs L) rfl (ho.alloc _) ⟨_,0,none⟩ 1 [.string (pairX nm i k)] rfl rfl (new_cells _ [.string (pairX nm i k)] _) (by intro u hu;simp at hu;subst hu;rfl) (by unfold maxLen;omega) (by omega) (by simp;omega) ?_;intro g cap2 w2 ho2 hg2);have hbx2:=(hbx.alloc _).grown hg2 (own_ne ho hbx (by decide));have hB2:=(hB.alloc (by omega) _).grown hg2 (by simp;omega) (own_base ho);rw[pairX_eq]at ho2
      exact⟨⟨k+1,hkl,by go_num,by rw[HN.out];simpa[strs]using ho2,hbx2,hB2⟩,by simp[intOf];omega⟩)
  ·have hke:k=4:=by omega
   subst hke;go_wp2
   go_ret
   exact⟨_,rfl,ho,hB⟩
end
end Go.Proofs.YtpbfiffgcgnidaaGreat
