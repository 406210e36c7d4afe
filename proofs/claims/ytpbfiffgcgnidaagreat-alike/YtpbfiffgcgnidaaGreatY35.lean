import Derived.Test.YtpbfiffgcgnidaaGreatYal
import Derived.ChangeKeysEq
import Derived.Test.YtpbfiffgcgnidaaGreatY28
import Derived.Test.YtpbfiffgcgnidaaGreatY29
namespace Go.Proofs.YtpbfiffgcgnidaaGreat
set_option maxRecDepth 100000
set_option maxHeartbeats 4000000
set_option linter.unusedSimpArgs false
open Go.Proofs.Tryz
section
attribute [local go_sem] drewN_alloc drewN_setCell
open Go.RowKit Go.WideMaps Go.Maps
theorem cellsStr:prog.cellsOf 9=1:=by kernel_rfl
theorem arr_eq(x0 x1 x2 y0 y1 y2:ByteArray)(W:World):(Op.equalIn 9999 52 (.agg #[.string x0,.string x1,.string x2]) (.agg #[.string y0,.string y1,.string y2])).run prog W=.ok ((x0.toList==y0.toList)&&((x1.toList==y1.toList)&&(x2.toList==y2.toList))) W:=by obtain⟨i1,hi1,hy0,hy1,hy2⟩:=info_parts infoStr;rw[show(9999:Nat)=9998+1 from rfl,run_equalIn_array W 9998 _ _ underlying52 hi1,cellsStr];rw[show List.range 3=[0,1,2] by decide];simp[Op.eqItems,go_sem,underlying9];by_cases h0:x0.toList=y0.toList<;>by_cases h1:x1.toList=y1.toList<;>by_cases h2:x2.toList=y2.toList<;>simp[h0,h1,h2]
def arrB(x0 x1 x2 y0 y1 y2:ByteArray):Bool:=(x0.toList==y0.toList)&&((x1.toList==y1.toList)&&(x2.toList==y2.toList))
theorem isFactOf1_core(w:World)(nm:ByteArray)(ts:List B8)(bo:Option Addr)(n bcap:Nat)(h3:ts.length<=3)(hn:n<=4)(B:Nat)(an a0 a1 a2:ByteArray)(ac:Int)(hA:Blk w B [.string an,.int .i64 ac,.string a0,.string a1,.string a2] 54)(same:Bool)
 (s1:¬nm.toList=an.toList->same=false)(s2:¬((ts.length:Nat):Int)=ac->same=false)(s3:nm.toList=an.toList->((ts.length:Nat):Int)=ac->same=arrB (bs (ts.getD 0 [])) (bs (ts.getD 1 [])) (bs (ts.getD 2 [])) a0 a1 a2):
 Calls prog 40 #[.agg #[.string nm,.int .i64 (ts.length:Nat),.string (bs (ts.getD 0 [])),.string (bs (ts.getD 1 [])),.string (bs (ts.getD 2 [])),.slice bo n bcap],.pointer (some ⟨B,0,none⟩)] w fun e w'=>e=.returned (.bool (isFactB n ts&&same))/\Below w.heap.size w w':=by
 have hfv:=fun W:World=>isFact_c W nm ts bo n bcap h3 hn;obtain⟨y0,Y0⟩:∃y0,Hid (y0=bs (ts.getD 0 [])):=⟨_,rfl⟩;obtain⟨y1,Y1⟩:∃y1,Hid (y1=bs (ts.getD 1 [])):=⟨_,rfl⟩;obtain⟨y2,Y2⟩:∃y2,Hid (y2=bs (ts.getD 2 [])):=⟨_,rfl⟩;rw[<-Y0.out,<-Y1.out,<-Y2.out];rw[<-Y0.out,<-Y1.out,<-Y2.out]at hfv s3;have HV:=hid hfv;have S1:=hid s1;have S2:=hid s2;have S3:=hid s3;clear hfv s1 s2 s3;have harr:=arr_eq y0 y1 y2 a0 a1 a2;obtain⟨r,HR⟩:∃r,Hid (r=arrB y0 y1 y2 a0 a1 a2):=⟨_,rfl⟩;have harr':∀W:World,(Op.equalIn 9999 52 (.agg #[.string y0,.string y1,.string y2]) (.agg #[.string a0,.string a1,.string a2])).run prog W=.ok r W:=by intro W;rw[HR.out];exact harr W
 clear harr;rw[<-HR.out]at S3;cases hf:isFactB n ts
 ·rw[hf]at HV;go_enter func40,ntmps40;go_wp2_with fail;refine(HV.out _).mono ?_;rintro e w1 ⟨rfl,hB1⟩;go_wp2_with fail
  go_ret
  exact⟨rfl,(below_alloc _ _).trans (hB1.mono (by simp))⟩
 ·rw[hf]at HV;go_enter func40,ntmps40;go_wp2_with fail;refine(HV.out _).mono ?_;rintro e w1 ⟨rfl,hB1⟩;obtain⟨c0,c1,c2,c3,c4⟩:=((hA.alloc _).below hB1).c5;obtain⟨d0,d1,d2,d3,d4,d5⟩:=((Blk.new w [.string nm,.int .i64 (ts.length:Nat),.string y0,.string y1,.string y2,.slice bo n bcap] 60).below hB1).c6;have hBw:=(below_alloc w (.cells #[.string nm,.int .i64 (ts.length:Nat),.string y0,.string y1,.string y2,.slice bo n bcap] 60)).trans (hB1.mono (by simp));have HBW:=hid hBw;clear hB1 hBw hA;by_cases g1:nm.toList=an.toList
  ·by_cases g2:((ts.length:Nat):Int)=ac
   ·have HS:=hid (S3.out g1 g2);have g1b:(nm.toList==an.toList)=true:=by rw[g1];simp
    have g2b:(((ts.length:Nat):Int)==ac)=true:=by rw[g2];simp
    clear g1 g2;cases r
    ·go_wp2_with fail
     go_ret
     rw[HS.out];exact⟨rfl,HBW.out⟩
    ·go_wp2_with fail
     go_ret
     rw[HS.out];exact⟨rfl,HBW.out⟩
   ·have HS:=hid (S2.out g2);have g1b:(nm.toList==an.toList)=true:=by rw[g1];simp
    have g2b:(((ts.length:Nat):Int)==ac)=false:=by rw[beq_eq_false_iff_ne];exact g2
    clear g1 g2;go_wp2_with fail
    go_ret
    rw[HS.out];exact⟨rfl,HBW.out⟩
  ·have HS:=hid (S1.out g1);have g1b:(nm.toList==an.toList)=false:=by rw[beq_eq_false_iff_ne];exact g1
   clear g1;go_wp2_with fail
   go_ret
   rw[HS.out];exact⟨rfl,HBW.out⟩
open Go.RowKit Go.WideMaps Go.Maps
attribute [local go_sem] drewN_alloc drewN_setCell
def sameB(name an:B8)(ts ats:List B8):Bool:=decide (name=an)&&decide (ts=ats)
theorem bs_list(l:B8):(bs l).toList=l:=by rw[Lib.toList_data,bs_data]
theorem three_eq(ts ats:List B8)(h:ts.length<=3)(hl:ts.length=ats.length):decide (ts=ats)=arrB (bs (ts.getD 0 [])) (bs (ts.getD 1 [])) (bs (ts.getD 2 [])) (bs (ats.getD 0 [])) (bs (ats.getD 1 [])) (bs (ats.getD 2 [])):=by
 unfold arrB;simp only[bs_list]
 match ts,ats,hl with
 |[],[],_=>simp
 |[a],[b],_=>by_cases h:a=b<;>simp[h]
 |[a,c],[b,d],_=>by_cases h:a=b<;>by_cases h2:c=d<;>simp[h,h2]
 |[a,c,e],[b,d,f],_=>by_cases h:a=b<;>by_cases h2:c=d<;>by_cases h3:e=f<;>simp[h,h2,h3]
 |_::_::_::_::_,_,_=>simp at h
theorem isFactOf1_c(w:World)(name:B8)(ts:List B8)(bo:Option Addr)(n bcap:Nat)(h3:ts.length<=3)(hn:n<=4)(B:Nat)(an:B8)(ats:List B8)(hA:Blk w B (atomCells an ats) 54):
 Calls prog 40 #[.agg #[.string (bs name),.int .i64 (ts.length:Nat),.string (bs (ts.getD 0 [])),.string (bs (ts.getD 1 [])),.string (bs (ts.getD 2 [])),.slice bo n bcap],.pointer (some ⟨B,0,none⟩)] w fun e w'=>e=.returned (.bool (isFactB n ts&&sameB name an ts ats))/\Below w.heap.size w w':=by
 refine isFactOf1_core w (bs name) ts bo n bcap h3 hn B (bs an) (bs (ats.getD 0 [])) (bs (ats.getD 1 [])) (bs (ats.getD 2 [])) (ats.length:Nat) hA (sameB name an ts ats) ?_ ?_ ?_
 ·intro h;rw[bs_list,bs_list]at h;simp[sameB,h]
 ·intro h;have:¬ts=ats:=fun e=>h (by rw[e]);simp[sameB,this]
 ·intro h1 h2;rw[bs_list,bs_list]at h1;rw[<-three_eq ts ats h3 (by omega)];simp[sameB,h1]
def matchB(an:B8)(ats:List B8)(d:ClD):Bool:=isFactB d.lits.length d.ts&&sameB d.name an d.ts ats
def idxGo(an:B8)(ats:List B8):Nat->List ClD->Int
 |_,[]=> -1
 |k,d::r=>if matchB an ats d=true then(k:Int) else idxGo an ats (k+1) r
def idx(an:B8)(ats:List B8)(ds:List ClD):Int:=idxGo an ats 0 ds
theorem idxGo_drop(an:B8)(ats:List B8)(ds:List ClD)(k:Nat)(h:k<ds.length):idxGo an ats k (ds.drop k)=if matchB an ats ds[k]=true then(k:Int) else idxGo an ats (k+1) (ds.drop (k+1)):=by rw[List.drop_eq_getElem_cons h,idxGo]
def factOfV(B:Nat):Value:=.func (.func 40) #[] #[.pointer (some ⟨B,0,none⟩)]
theorem isFactOf_c(w:World)(an:B8)(ats:List B8):
 Calls prog 26 #[.agg (atomCells an ats).toArray] w fun e w'=>e=.returned (factOfV w.heap.size)/\w'=w.alloc (.cells (atomCells an ats).toArray 54):=by
 unfold atomCells factOfV;generalize bs an=x at*;generalize bs (ats.getD 0 [])=y0 at*;generalize bs (ats.getD 1 [])=y1 at*;generalize bs (ats.getD 2 [])=y2 at*;go_enter func26,ntmps26;go_wp2
 go_ret
 exact⟨rfl,rfl⟩
theorem indexCl_c(w:World)(base:Nat)(ao:Option Addr)(cap:Nat)(ds:List ClD)(hP:ClausesIs w base (.slice ao ds.length cap) ds)(hW:∀d∈ds,d.WF)(hn:ds.length<=40)(B:Nat)(an:B8)(ats:List B8)(hA:Blk w B (atomCells an ats) 54):
 Calls prog 39 #[.slice ao ds.length cap,.func (.func 40) #[] #[.pointer (some ⟨B,0,none⟩)]] w fun e w'=>e=.returned (.int .i64 (idx an ats ds))/\Below w.heap.size w w':=by
 go_enter func39,ntmps39;go_wp2
 go_loopw [8] (fun iv wr=>∃(i:Nat),i<=ds.length/\iv=.int .i64 i/\Hid (idxGo an ats i (ds.drop i)=idx an ats ds)/\Below w.heap.size w wr) (fun iv _=>ds.length-(intOf iv).toNat)
 case atStart=>exact⟨0,by omega,rfl,rfl,Below.refl _ _⟩
 case round=>
  obtain⟨i,hi,rfl,HX,hB⟩:=hrel;by_cases hlt:i<ds.length
  ·obtain⟨g,bo,bcap,hao,hg,e0,e1,e2,e3,e4,e5,hLb⟩:=clause_at hP i hlt;subst hao;have hwf:=hW ds[i] (List.getElem_mem hlt);have HD:=hid (idxGo_drop an ats ds i hlt);generalize ds[i]=d at*;have h3:=(hwf.words (d.name,d.ts) (by simp[ClD.atoms])).2.1;rw[<-hB.cell (p:=⟨g,i*6,none⟩) hg]at e0;rw[<-hB.cell (p:=⟨g,i*6+1,none⟩) hg]at e1;rw[<-hB.cell (p:=⟨g,i*6+2,none⟩) hg]at e2;rw[<-hB.cell (p:=⟨g,i*6+3,none⟩) hg]at e3;rw[<-hB.cell (p:=⟨g,i*6+4,none⟩) hg]at e4;rw[<-hB.cell (p:=⟨g,i*6+5,none⟩) hg]at e5;have HC:=hid (fun(W:World) (hb:Blk W B (atomCells an ats) 54)=>isFactOf1_c W d.name d.ts bo d.lits.length bcap h3 hwf.lits B an ats hb);have HA:=hid hA;clear hA;cases hm:matchB an ats d
   ·go_wp2_with (go_at_call 40;refine(HC.out _ (by exact(HA.out).below hB)).mono ?_;rintro e w1 ⟨he,hB1⟩;rw[show(isFactB d.lits.length d.ts&&sameB d.name an d.ts ats)=false from hm]at he;subst he);exact⟨⟨i+1,hlt,by go_num,by show _=_;rw[<-HX.out,HD.out,hm];rfl,hB.trans (hB1.mono hB.size)⟩,by simp[intOf];omega⟩
   ·have HE:=hid (show idx an ats ds=(i:Int) by rw[<-HX.out,HD.out,hm];rfl);go_wp2_with (go_at_call 40;refine(HC.out _ (by exact(HA.out).below hB)).mono ?_;rintro e w1 ⟨he,hB1⟩;rw[show(isFactB d.lits.length d.ts&&sameB d.name an d.ts ats)=true from hm]at he;subst he)
    go_ret
    rw[HE.out];exact⟨rfl,hB.trans (hB1.mono hB.size)⟩
  ·have hie:i=ds.length:=by omega
   have HE:=hid (show idx an ats ds= -1 by rw[<-HX.out,hie,List.drop_length];rfl);clear hie;go_wp2
   go_ret
   rw[HE.out];exact⟨rfl,hB⟩
theorem containsCl_c(w:World)(base:Nat)(ao:Option Addr)(cap:Nat)(ds:List ClD)(hP:ClausesIs w base (.slice ao ds.length cap) ds)(hW:∀d∈ds,d.WF)(hn:ds.length<=40)(B:Nat)(an:B8)(ats:List B8)(hA:Blk w B (atomCells an ats) 54):
 Calls prog 25 #[.slice ao ds.length cap,.func (.func 40) #[] #[.pointer (some ⟨B,0,none⟩)]] w fun e w'=>e=.returned (.bool (decide (0<=idx an ats ds)))/\Below w.heap.size w w':=by
 have HI:=hid (indexCl_c w base ao cap ds hP hW hn B an ats hA);generalize idx an ats ds=k at*;go_enter func25,ntmps25;go_wp2_with fail;refine(HI.out).mono ?_;rintro e w1 ⟨rfl,hB1⟩;go_wp2_with fail
 go_ret
 exact⟨rfl,hB1⟩
def qAtom(s:ByteArray):AtR:=atomR s s.data.toList
theorem readQuestion_ok(w:World)(s:ByteArray)(hs:s.size<=2000)(hok:(qAtom s).ok=true)(hend:(skipL (qAtom s).rest).isEmpty=true):
 Calls prog 54 #[.string s] w fun e w'=>e=.returned (.tuple #[.agg (atomCells (qAtom s).name (qAtom s).ts).toArray,.agg (spotCells 0 (qAtom s).np (qAtom s).ps).toArray,.int .i64 0,.bool true])/\Below w.heap.size w w':=by
 have hsm:s.size<=maxLen:=by unfold maxLen;omega
 have hRb:=Blk.new ((w.alloc (.cells zA.toArray 54)).alloc (.cells zS.toArray 82)) [.string s,.int .i64 0] 121;have hsz:((w.alloc (.cells zA.toArray 54)).alloc (.cells zS.toArray 82)).heap.size=w.heap.size+1+1:=by simp
 rw[hsz]at hRb;have hR0:Rd (((w.alloc (.cells zA.toArray 54)).alloc (.cells zS.toArray 82)).alloc (.cells #[.string s,.int .i64 0] 121)) (w.heap.size+1+1) s s.data.toList:=⟨0,by omega,by simp,hRb⟩;have hP0:=((Blk.new w zA 54).alloc (.cells zS.toArray 82)).alloc (.cells #[.string s,.int .i64 0] 121);have hQ0:=(new_two w (.cells zA.toArray 54) zS 82).alloc (.cells #[.string s,.int .i64 0] 121);have hB0:Below w.heap.size w (((w.alloc (.cells zA.toArray 54)).alloc (.cells zS.toArray 82)).alloc (.cells #[.string s,.int .i64 0] 121)):=(((Below.refl _ w).alloc (Nat.le_refl _) _).alloc (by simp) _).alloc (by simp;omega) _;clear hRb hsz;have HAL:=hid (atom_l _ (w.heap.size+1+1) s s.data.toList hR0 (by omega));obtain⟨A,HA⟩:∃A,Hid (A=qAtom s):=⟨_,rfl⟩;rw[<-HA.out]at hok hend⊢;have HAE:Hid (atomR s s.data.toList=A):=HA.out.symm;have HQ0:=hid hQ0;have HP0:=hid hP0;have HB0:=hid hB0;clear hR0 hQ0 hP0 hB0;go_enter func54,ntmps54;go_wp2_with fail;refine(HAL.out).mono ?_;rintro e w1 ⟨he,hR1,hK1⟩;rw[HAE.out]at he hR1;rw[AtR.val_eq,hok]at he;subst he;have hb1:w.heap.size+1+1<w1.heap.size:=hR1.lt;have hP1:=HP0.out.kept hK1 (by omega);have hQ1:=HQ0.out.kept hK1 (by omega);have hBw1:Below w.heap.size w w1:=HB0.out.trans (hK1.below (by omega) (by simp;omega));clear HAL HB0 HP0 HQ0;have hC1:=new_one w1 [.string A.nm,.int .i64 A.cn,.string (A.t 0),.string (A.t 1),.string (A.t 2)] 54 [.int .i64 0,.int .i64 A.np',.int .i64 (A.p 0),.int .i64 (A.p 1),.int .i64 (A.p 2)] 82;have hS1:=new_two w1 (.cells #[.string A.nm,.int .i64 A.cn,.string (A.t 0),.string (A.t 1),.string (A.t 2)] 54) [.int .i64 0,.int .i64 A.np',.int .i64 (A.p 0),.int .i64 (A.p 1),.int .i64 (A.p 2)] 82;have HE1:=hid (atEnd_l _ (w.heap.size+1+1) s A.rest ((hR1.alloc (.cells #[.string A.nm,.int .i64 A.cn,.string (A.t 0),.string (A.t 1),.string (A.t 2)] 54)).alloc (.cells #[.int .i64 0,.int .i64 A.np',.int .i64 (A.p 0),.int .i64 (A.p 1),.int .i64 (A.p 2)] 82)) hsm);rw[hend]at HE1;have HC1:=hid hC1;have HS1:=hid hS1;have HP1:=hid ((hP1.alloc (.cells #[.string A.nm,.int .i64 A.cn,.string (A.t 0),.string (A.t 1),.string (A.t 2)] 54)).alloc (.cells #[.int .i64 0,.int .i64 A.np',.int .i64 (A.p 0),.int .i64 (A.p 1),.int .i64 (A.p 2)] 82));have HQ1:=hid ((hQ1.alloc (.cells #[.string A.nm,.int .i64 A.cn,.string (A.t 0),.string (A.t 1),.string (A.t 2)] 54)).alloc (.cells #[.int .i64 0,.int .i64 A.np',.int .i64 (A.p 0),.int .i64 (A.p 1),.int .i64 (A.p 2)] 82));have HB1:=hid ((hBw1.alloc (by omega) (.cells #[.string A.nm,.int .i64 A.cn,.string (A.t 0),.string (A.t 1),.string (A.t 2)] 54)).alloc (by simp;omega) (.cells #[.int .i64 0,.int .i64 A.np',.int .i64 (A.p 0),.int .i64 (A.p 1),.int .i64 (A.p 2)] 82));clear hC1 hS1 hP1 hQ1 hBw1 hend hok hK1 hR1 HA HAE;go_wp2_with fail;refine(HE1.out).mono ?_;rintro e w2 ⟨rfl,hR2,hK2⟩;have hb2:w1.heap.size+1<w2.heap.size:=(HS1.out.kept hK2 (by omega)).lt;obtain⟨c0,c1,c2,c3,c4⟩:=(HC1.out.kept hK2 (by omega)).c5;obtain⟨d0,d1,d2,d3,d4⟩:=(HS1.out.kept hK2 (by omega)).c5;have hP2:=HP1.out.kept hK2 (by omega);have hQ2:=HQ1.out.kept hK2 (by omega);have fP:=hP2.frozen;have fQ:=hQ2.frozen;have HB2:=hid (HB1.out.trans (hK2.below (by omega) (by simp;omega)));clear HE1 HC1 HS1 HP1 HQ1 HB1 hK2 hR2;obtain⟨a0,a1,a2,a3,a4⟩:=hP2.c5;obtain⟨s0,s1,s2,s3,s4⟩:=hQ2.c5;clear hP2 hQ2;have hz1:w.heap.size<w1.heap.size:=by omega
 have hz2:w.heap.size+1<w1.heap.size:=by omega
 have hz3:w.heap.size<w1.heap.size+1:=by omega
 have hz4:w.heap.size+1<w1.heap.size+1:=by omega
 go_wp2_with fail;go_region;go_wp2;refine bodyPost_ret (v:=.tuple #[.agg #[.string A.nm,.int .i64 A.cn,.string (A.t 0),.string (A.t 1),.string (A.t 2)],.agg #[.int .i64 0,.int .i64 A.np',.int .i64 (A.p 0),.int .i64 (A.p 1),.int .i64 (A.p 2)],.int .i64 0,.bool true]) (by simp[results,results54,go_sem,a0,a1,a2,a3,a4,s0,s1,s2,s3,s4]) rfl ⟨rfl,?_⟩;refine Below.drew ?_
 repeat (refine Below.setCell ?_ (by simp only[];omega) _)
 exact HB2.out
theorem fits_any(w:World)(base sb:Nat)(mv lv cv:Value)(xs:List B8)(ns:List Nat)(k:B8)(c:Nat)(t0 t1 t2:ByteArray)(hB:Blk w sb [mv,lv,cv] 164)(hC:CountsIs w base mv lv cv xs ns)(hk:k.length<=maxLen)(hn:xs.length<=100000)(hbw:base<=w.heap.size)(hbs:base<=sb)(b:Bool)
 (h:hasW xs k=true/\(nAt ns (posIn xs k)==(c:Int))=b\/hasW xs k=false/\true=b):
 Calls prog 56 #[.pointer (some ⟨sb,0,none⟩),.agg #[.string (bs k),.int .i64 c,.string t0,.string t1,.string t2]] w fun e w'=>e=.returned (.bool b)/\Below base w w':=by
 rcases h with⟨h,rfl⟩|⟨h,rfl⟩
 ·refine(fits_old w base sb mv lv cv xs ns k c t0 t1 t2 hB hC hk h).mono ?_;rintro e w' ⟨he,hB'⟩;exact⟨he,hB'.mono hbw⟩
 ·refine(fits_new w base sb mv lv cv xs ns k c t0 t1 t2 hB hC hk h hn hbw).mono ?_;rintro e w' ⟨he,-,-,-,-,-,hK⟩;exact⟨he,hK.toBelow hbs⟩
theorem question_all(w:World)(base bb:Nat)(ds:List ClD)(hI:BaseIs w base bb ds)(hW:∀d∈ds,d.WF)(hn:ds.length<=40)(s:ByteArray)(hs:s.size<=2000)(hok:(qAtom s).ok=true)(hend:(skipL (qAtom s).rest).isEmpty=true)
 (b:Bool)(hf:hasW (countsR ds).1 (qAtom s).name=true/\(nAt (countsR ds).2 (posIn (countsR ds).1 (qAtom s).name)==((qAtom s).ts.length:Int))=b\/hasW (countsR ds).1 (qAtom s).name=false/\true=b)(hnl:(qAtom s).name.length<=12):
 Calls prog 37 #[.pointer (some ⟨bb,0,none⟩),.string s] w fun e w'=>e=.returned (cond b (.tuple #[.agg (atomCells (qAtom s).name (qAtom s).ts).toArray,.agg (spotCells 0 (qAtom s).np (qAtom s).ps).toArray,.int .i64 0,.int .i64 0]) (.tuple #[.agg zA.toArray,.agg zS.toArray,.int .i64 3,.int .i64 ((qAtom s).np:Nat)]))/\Below w.heap.size w w':=by
 obtain⟨v,h1,h2⟩:=hI;obtain⟨ao,cap,rfl⟩:=h2.form;have HRQ:=hid (fun W=>readQuestion_ok W s hs hok hend);have hq:¬((2000:Int)<(s.size:Int)):=by omega
 have c0:w.cell? ⟨bb,0,none⟩=some (.slice ao ds.length cap):=h1.cell 0;have hP0:=new_one w zA 54 zS 82;have hQ0:=new_two w (.cells zA.toArray 54) zS 82;have hB0:Below w.heap.size w ((w.alloc (.cells zA.toArray 54)).alloc (.cells zS.toArray 82)):=((Below.refl _ w).alloc (Nat.le_refl _) _).alloc (by simp) _;have HP0:=hid hP0;have HQ0:=hid hQ0;have HB0:=hid hB0;clear hP0 hQ0 hB0;obtain⟨A,HA⟩:∃A,Hid (A=qAtom s):=⟨_,rfl⟩;rw[<-HA.out]at hok hend hf hnl⊢;have HV:Hid (∀W:World,Calls prog 54 #[.string s] W fun e w'=>e=.returned (.tuple #[.agg #[.string A.nm,.int .i64 A.cn,.string (A.t 0),.string (A.t 1),.string (A.t 2)],.agg #[.int .i64 0,.int .i64 A.np',.int .i64 (A.p 0),.int .i64 (A.p 1),.int .i64 (A.p 2)],.int .i64 0,.bool true])/\Below W.heap.size W w'):=by intro W;rw[HA.out];exact HRQ.out W
 have HK:=hid hf;have hsz:=h1.lt;clear HRQ hok hend hf HA;go_enter func37,ntmps37;go_wp2_with fail;refine(HV.out _).mono ?_;rintro e w1 ⟨rfl,hB1⟩;have hP1:=HP0.out.below hB1;have hQ1:=HQ0.out.below hB1;have hBw1:Below w.heap.size w w1:=HB0.out.trans (hB1.mono (by simp;omega));have c1:w1.cell? ⟨bb,0,none⟩=some (.slice ao ds.length cap):=by rw[hBw1.cell (p:=⟨bb,0,none⟩) hsz];exact c0
 clear c0 HP0 HQ0 HB0 hB1 HV;have hC1:=new_one w1 [.string A.nm,.int .i64 A.cn,.string (A.t 0),.string (A.t 1),.string (A.t 2)] 54 [.int .i64 0,.int .i64 A.np',.int .i64 (A.p 0),.int .i64 (A.p 1),.int .i64 (A.p 2)] 82;have hS1:=new_two w1 (.cells #[.string A.nm,.int .i64 A.cn,.string (A.t 0),.string (A.t 1),.string (A.t 2)] 54) [.int .i64 0,.int .i64 A.np',.int .i64 (A.p 0),.int .i64 (A.p 1),.int .i64 (A.p 2)] 82;have hBx:Below w1.heap.size w1 ((w1.alloc (.cells #[.string A.nm,.int .i64 A.cn,.string (A.t 0),.string (A.t 1),.string (A.t 2)] 54)).alloc (.cells #[.int .i64 0,.int .i64 A.np',.int .i64 (A.p 0),.int .i64 (A.p 1),.int .i64 (A.p 2)] 82)):=((Below.refl _ w1).alloc (Nat.le_refl _) _).alloc (by simp) _;have hz1:=hBw1.size;have hz2:=hQ1.lt;have hD1:=((h2.below (hBw1.mono (Nat.le_refl _))).below hBx);have hP2:=hP1.below hBx;have hQ2:=hQ1.below hBx;have HCO:=hid (countsOf_c _ base ao cap ds hD1 hW hn);have HC1:=hid hC1;have HS1:=hid hS1;have HP2:=hid hP2;have HQ2:=hid hQ2;have HB:=hid (hBw1.trans (hBx.mono hz1));obtain⟨q0,q1,q2,q3,q4⟩:=hC1.c5;have hsz2:bb<w1.heap.size:=by omega
 have hsz3:bb<w1.heap.size+1:=by omega
 go_wp2_with fail;clear hP1 hQ1 hP2 hQ2 hBw1 hBx h1 h2
 go_region_with (first|(go_at_call 55;refine(countsOf_c _ base ao cap ds (by exact hD1) hW hn).mono ?_;rintro e w2 ⟨mv,lv,cv,rfl,hCb,hCI,hlen,hB2⟩;obtain⟨r0,r1,r2,r3,r4⟩:=(HC1.out.drew.below hB2).c5)|(go_at_call 56;refine(fits_any _ (w1.heap.size+1+1) (w1.heap.size+1+1) mv lv cv (countsR ds).1 (countsR ds).2 A.name A.ts.length _ _ _ (by simpa using hCb) (by simpa using hCI) (by unfold maxLen;omega) (by omega) (by have h9:=hB2.size;simp at h9;omega) (Nat.le_refl _) b HK.out).mono ?_;rintro e w3 ⟨rfl,hB3⟩))
 all_goals
  have hB23:=hB2.trans (hB3.mono (Nat.le_of_eq (by simp)));have HB3:=hid (HB.out.drew.trans (hB23.mono (by simp;omega)));obtain⟨c0,c1,c2,c3,c4⟩:=(HC1.out.drew.below hB23).c5;have hS3:=HS1.out.drew.below hB23;obtain⟨d0,d1,d2,d3,d4⟩:=hS3.c5;have hb3:w1.heap.size+1<w3.heap.size:=hS3.lt;have hP3:=HP2.out.drew.below hB23;have hQ3:=HQ2.out.drew.below hB23;have fP:=hP3.frozen;have fQ:=hQ3.frozen;obtain⟨a0,a1,a2,a3,a4⟩:=hP3.c5;obtain⟨s0,s1,s2,s3,s4⟩:=hQ3.c5;clear hP3 hQ3 hS3 hB23 HC1 HS1 HP2 HQ2 HB HCO r0 r1 r2 r3 r4 hB2 hB3 hCb hCI hD1 q0 q1 q2 q3 q4 hC1 hS1 HK;have hz3:w.heap.size<w1.heap.size:=by omega
  have hz4:w.heap.size+1<w1.heap.size:=by omega
  have hz5:w.heap.size<w1.heap.size+1:=by omega
  have hz6:w.heap.size+1<w1.heap.size+1:=by omega
  cases b
  all_goals
   go_wp2_with fail;go_region
   all_goals
    go_wp2
    first
     |refine bodyPost_ret (v:=.tuple #[.agg #[.string A.nm,.int .i64 A.cn,.string (A.t 0),.string (A.t 1),.string (A.t 2)],.agg #[.int .i64 0,.int .i64 A.np',.int .i64 (A.p 0),.int .i64 (A.p 1),.int .i64 (A.p 2)],.int .i64 0,.int .i64 0]) (by simp[results,results37,go_sem,a0,a1,a2,a3,a4,s0,s1,s2,s3,s4]) rfl ⟨rfl,?_⟩
     |refine bodyPost_ret (v:=.tuple #[.agg #[.string ⟨#[]⟩,.int .i64 0,.string ⟨#[]⟩,.string ⟨#[]⟩,.string ⟨#[]⟩],.agg #[.int .i64 0,.int .i64 0,.int .i64 0,.int .i64 0,.int .i64 0],.int .i64 3,.int .i64 A.np']) (by simp[results,results37,go_sem,a0,a1,a2,a3,a4,s0,s1,s2,s3,s4]) rfl ⟨rfl,?_⟩
    refine Below.drew ?_
    repeat (refine Below.setCell ?_ (by simp only[];omega) _)
    exact HB3.out
theorem question_ok(w:World)(base bb:Nat)(ds:List ClD)(hI:BaseIs w base bb ds)(hW:∀d∈ds,d.WF)(hn:ds.length<=40)(s:ByteArray)(hs:s.size<=2000)(hok:(qAtom s).ok=true)(hend:(skipL (qAtom s).rest).isEmpty=true)
 (hknow:hasW (countsR ds).1 (qAtom s).name=true)(hfit:nAt (countsR ds).2 (posIn (countsR ds).1 (qAtom s).name)=((qAtom s).ts.length:Nat))(hnl:(qAtom s).name.length<=12):
 Calls prog 37 #[.pointer (some ⟨bb,0,none⟩),.string s] w fun e w'=>e=.returned (.tuple #[.agg (atomCells (qAtom s).name (qAtom s).ts).toArray,.agg (spotCells 0 (qAtom s).np (qAtom s).ps).toArray,.int .i64 0,.int .i64 0])/\Below w.heap.size w w':=
 question_all w base bb ds hI hW hn s hs hok hend true (.inl ⟨hknow,by simp[hfit]⟩) hnl
end
end Go.Proofs.YtpbfiffgcgnidaaGreat
