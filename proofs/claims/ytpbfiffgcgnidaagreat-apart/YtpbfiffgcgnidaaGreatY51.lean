import Derived.Test.YtpbfiffgcgnidaaGreatYal
import Derived.Deep.OwnRows
import Derived.Laws.OwnMore
import Derived.Test.YtpbfiffgcgnidaaGreatY49
namespace Go.Proofs.YtpbfiffgcgnidaaGreat
set_option maxRecDepth 100000
set_option maxHeartbeats 4000000
set_option linter.unusedSimpArgs false
open Go.Proofs.Tryz
section
structure Edge where
 h:B8
 b:B8
 n:Bool
def Edge.w(e:Edge):Nat:=if e.n then 1 else 0
def jacGo(f:B8->Nat)(p:B8):Nat->List Edge->Nat
 |m,[]=>m
 |m,e::es=>jacGo f p (if e.h=p/\m<f e.b+e.w then f e.b+e.w else m) es
def jac(E:List Edge)(f:B8->Nat)(p:B8):Nat:=jacGo f p 0 E
theorem jacGo_le(f:B8->Nat)(p:B8)(m:Nat)(E:List Edge):m<=jacGo f p m E:=by
 induction E generalizing m with
 |nil=>exact Nat.le_refl _
 |cons e es ih=>
  rw[jacGo];refine Nat.le_trans ?_ (ih _)
  split<;>omega
theorem jacGo_edge(f:B8->Nat)(p:B8)(m:Nat)(E:List Edge)(e:Edge)(he:e∈E)(hp:e.h=p):f e.b+e.w<=jacGo f p m E:=by
 induction E generalizing m with
 |nil=>simp at he
 |cons x es ih=>
  rw[jacGo];rcases List.mem_cons.1 he with rfl|h
  ·refine Nat.le_trans ?_ (jacGo_le _ _ _ _);by_cases hm:m<f e.b+e.w
   ·rw[if_pos ⟨hp,hm⟩];exact Nat.le_refl _
   ·rw[if_neg (fun h=>hm h.2)];omega
  ·exact ih _ h
theorem jacGo_from(f:B8->Nat)(p:B8)(m:Nat)(E:List Edge):jacGo f p m E=m\/∃e∈E,e.h=p/\jacGo f p m E=f e.b+e.w:=by
 induction E generalizing m with
 |nil=>exact .inl rfl
 |cons x es ih=>
  rw[jacGo];by_cases hx:x.h=p/\m<f x.b+x.w
  ·rw[if_pos hx];rcases ih (f x.b+x.w) with h|⟨e,he,h1,h2⟩
   ·exact .inr ⟨x,by simp,hx.1,h⟩
   ·exact .inr ⟨e,by simp[he],h1,h2⟩
  ·rw[if_neg hx];rcases ih m with h|⟨e,he,h1,h2⟩
   ·exact .inl h
   ·exact .inr ⟨e,by simp[he],h1,h2⟩
def WayN(E:List Edge):Nat->B8->B8->Nat->Prop
 |0,p,q,n=>p=q/\n=0
 |k+1,p,q,n=>∃e∈E,∃m,e.h=p/\n=m+e.w/\WayN E k e.b q m
def Way(E:List Edge)(p q:B8)(n:Nat):Prop:=∃k,WayN E k p q n
theorem Way.nil{E:List Edge}(p:B8):Way E p p 0:=⟨0,rfl,rfl⟩
theorem Way.cons{E:List Edge}(e:Edge)(he:e∈E)(q:B8)(n:Nat)(h:Way E e.b q n):Way E e.h q (n+e.w):=by obtain⟨k,hk⟩:=h;exact⟨k+1,e,he,n,rfl,rfl,hk⟩
theorem Way.trans{E:List Edge}{p q r:B8}{n m:Nat}(h:Way E p q n)(h':Way E q r m):Way E p r (m+n):=by
 obtain⟨k,hk⟩:=h
 induction k generalizing p n with
 |zero=>obtain⟨rfl,rfl⟩:=hk;exact h'
 |succ k ih=>
  obtain⟨e,he,x,rfl,rfl,hx⟩:=hk;have h2:=Way.cons e he _ _ (ih hx)
  rwa [Nat.add_assoc]at h2
def raiseE(e:Edge)(f:B8->Nat):B8->Nat:=fun p=>if p=e.h/\f e.h<f e.b+e.w then f e.b+e.w else f p
theorem raiseE_le(E:List Edge)(L:B8->Nat)(hL:∀p,jac E L p=L p)(e:Edge)(he:e∈E)(f:B8->Nat)(hf:∀p,f p<=L p):∀p,raiseE e f p<=L p:=by
 intro p;unfold raiseE
 split
 ·rename_i h;have h1:=jacGo_edge L e.h 0 E e he rfl;have h2:=hL e.h;have h3:=hf e.b;unfold jac at h2;rw[h.1];omega
 ·exact hf p
end
section
open Go.RowKit Go.WideMaps Go.Maps
theorem infoInt2:(prog.info? 3).map (fun i=>(i.zero,i.size,i.bytes))=some (some (.int .i64 0),1,8):=by kernel_rfl
theorem make_ints(n:Nat)(hn:n<=100000)(W:World):(Instr.makeSlice 22 (.int .i64 (n:Int)) (.int .i64 (n:Int))).run prog W=.ok (.slice (some ⟨W.heap.size,0,none⟩) n n) (W.alloc (.cells (List.replicate n (.int .i64 0)).toArray 3)):=by rw[Go.run_make_row' 22 3 (.int .i64 0) 8 underlying22 infoInt2 rfl .i64 .i64 n (by omega) (by omega) W];congr 3;rw[<-Go.toList_madeCells_one]
def rowI(U:List B8)(f:B8->Nat):List Value:=U.map fun x=>.int .i64 (f x:Nat)
theorem rowI_zero(U:List B8):rowI U (fun _=>0)=List.replicate U.length (.int .i64 0):=by unfold rowI;rw[List.map_const'];rfl
theorem rowI_at(U:List B8)(f:B8->Nat)(k:B8)(hk:k∈U):(rowI U f)[U.idxOf k]? =some (.int .i64 (f k:Nat)):=by unfold rowI;rw[List.getElem?_map,List.getElem?_eq_getElem (List.idxOf_lt_length_of_mem hk),List.getElem_idxOf];rfl
theorem new_zero(w:World)(U:List B8):Blk (w.alloc (.cells (Array.replicate U.length (.int .i64 0)) 3)) w.heap.size (rowI U (fun _=>0)) 3:=by have h:=Blk.new w (rowI U (fun _=>0)) 3;rw[rowI_zero,List.toArray_replicate]at h;rw[rowI_zero];exact h
end
section
attribute [local go_sem] drewN_alloc drewN_setCell
open Go.RowKit Go.WideMaps Go.Maps
def ClD.heads(d:ClD):List B8:=d.atoms.map fun a=>a.1
def addAll(xs:List B8)(l:List B8):List B8:=l.foldl addW xs
def namesD(ds:List ClD):List B8:=addAll [] (ds.flatMap ClD.heads)
theorem heads_at(d:ClD)(j:Nat)(h:j<d.atoms.length):d.heads.drop j=d.atoms[j].1::d.heads.drop (j+1):=by
 have hl:j<d.heads.length:=by simpa[ClD.heads]using h
 rw[List.drop_eq_getElem_cons hl];simp[ClD.heads]
theorem namesOf_c(w:World)(base:Nat)(ao:Option Addr)(cap:Nat)(ds:List ClD)(hP:ClausesIs w base (.slice ao ds.length cap) ds)(hW:∀d∈ds,d.WF)(hn:ds.length<=40):
 Calls prog 33 #[.slice ao ds.length cap] w fun e w'=>∃mv lv,e=.returned (.pointer (some ⟨w.heap.size,0,none⟩))/\Blk w' w.heap.size [mv,lv] 100/\SetIs w' w.heap.size mv lv (namesD ds)/\(namesD ds).length<=200/\Below w.heap.size w w':=by
 go_enter func33,ntmps33;go_wp2
 go_loopw [12] (fun i wr=>∃(k:Nat) (xs:List B8) (mv lv:Value),k<=ds.length/\i=.int .i64 k/\xs.length<=5*k/\Hid (addAll xs ((ds.drop k).flatMap ClD.heads)=namesD ds)/\
  Blk wr w.heap.size [mv,lv] 100/\SetIs wr w.heap.size mv lv xs/\Below w.heap.size w wr) (fun i _=>ds.length-(intOf i).toNat)
 case atStart=>exact⟨0,[],.map none,.slice none 0 0,by omega,rfl,by simp,rfl,Blk.new w [.map none,.slice none 0 0] 100,⟨World.ownsRow_nil _ _ _ _,.inl ⟨rfl,rfl⟩⟩,(Below.refl _ _).alloc (Nat.le_refl _) _⟩
 case round=>
  obtain⟨k,xs,mv,lv,hk,rfl,hxl,HX,hC,hCI,hB⟩:=hrel;by_cases hlt:k<ds.length
  ·obtain⟨g,bo,bcap,hao,hg,e0,e1,e2,e3,e4,e5,hLb⟩:=clause_at hP k hlt;subst hao;have hwf:=hW ds[k] (List.getElem_mem hlt);have HD:Hid ((ds.drop k).flatMap ClD.heads=ds[k].heads++(ds.drop (k+1)).flatMap ClD.heads):=by show(ds.drop k).flatMap ClD.heads=_;rw[List.drop_eq_getElem_cons hlt];rfl
   generalize ds[k]=d at*;have hbw:w.heap.size<wr.heap.size:=hC.lt;have hl4:=hwf.lits;rw[<-hB.cell (p:=⟨g,k*6,none⟩) hg]at e0;rw[<-hB.cell (p:=⟨g,k*6+1,none⟩) hg]at e1;rw[<-hB.cell (p:=⟨g,k*6+2,none⟩) hg]at e2;rw[<-hB.cell (p:=⟨g,k*6+3,none⟩) hg]at e3;rw[<-hB.cell (p:=⟨g,k*6+4,none⟩) hg]at e4;rw[<-hB.cell (p:=⟨g,k*6+5,none⟩) hg]at e5;have hBr:Below wr.heap.size wr (wr.alloc (.cells #[Value.string d.nm,.int .i64 d.cn,.string (d.t 0),.string (d.t 1),.string (d.t 2),.slice bo d.lits.length bcap] 60)):=below_alloc _ _;go_wp2_with (go_at_call 51;refine(atoms_c _ base d.nm (d.t 0) (d.t 1) (d.t 2) d.cn bo bcap d.name d.ts d.lits rfl (by exact(own_below hLb hB).alloc _) (by omega)).mono ?_;rintro e w1 ⟨ga,capa,rfl,hA1,hB1⟩);clear e0 e1 e2 e3 e4 e5;have hC1:=(hC.alloc _).below hB1;have hCI1:=(hCI.below hBr).below hB1;have hBw1:Below w.heap.size w w1:=(hB.alloc (by omega) _).trans (hB1.mono (by simp;omega));clear hBr hC hCI hB hB1;simp only[World.size_alloc]at hA1;generalize wr.heap.size=R at*
   go_loopw [19] (fun jv wr=>∃(j:Nat) (xs:List B8) (mv lv:Value),j<=d.lits.length+1/\jv=.int .i64 j/\xs.length<=5*k+j/\Hid (addAll xs (d.heads.drop j++(ds.drop (k+1)).flatMap ClD.heads)=namesD ds)/\
    Blk wr w.heap.size [mv,lv] 100/\SetIs wr w.heap.size mv lv xs/\
    wr.ownsRow (R+1) 54 5 (.slice (some ⟨ga,0,none⟩) (d.lits.length+1) capa) (d.lits.length+1) (d.atoms.flatMap atomC)/\Below w.heap.size w wr) (fun jv _=>d.lits.length+1-(intOf jv).toNat)
   case atStart=>
    refine⟨0,xs,mv,lv,by omega,rfl,by omega,?_,hC1,hCI1,?_,hBw1⟩
    ·show addAll xs (d.heads.drop 0++_)=namesD ds;rw[<-HX.out,HD.out];rfl
    ·exact hA1
   case round=>
    clear hC1 hCI1 hBw1 hA1 HX hxl;obtain⟨j,xs,mv,lv,hj,rfl,hxl,HX,hC,hCI,hA,hB⟩:=hrel;have hbw1:w.heap.size<wr.heap.size:=hC.lt;have hal:d.atoms.length=d.lits.length+1:=by simp[ClD.atoms]
    by_cases hjl:j<d.lits.length+1
    ·obtain⟨a0,a1,a2,a3,a4⟩:=atom_at hA hal j (by omega);have hdrop:=heads_at d j (by omega);have hkl:=(hwf.words _ (List.getElem_mem (show j<d.atoms.length by omega))).1;obtain⟨a,ha⟩:∃a,d.atoms[j]=a:=⟨_,rfl⟩;simp only[ha]at a0 a1 a2 a3 a4 hdrop hkl;have HDR:=hid hdrop;clear ha hdrop;obtain⟨nm,ts⟩:=a;have a0':wr.cell? ⟨ga,j*5,none⟩=some (.string (bs nm)):=a0;have a1':wr.cell? ⟨ga,j*5+1,none⟩=some (.int .i64 (ts.length:Nat)):=a1;clear a0 a1;have hkm:nm.length<=maxLen:=by unfold maxLen;simp only[]at hkl;omega
     have hbe:Below wr.heap.size wr (wr.alloc (.cells #[Value.string (bs nm),.int .i64 (ts.length:Nat),.string (atT (nm,ts) 0),.string (atT (nm,ts) 1),.string (atT (nm,ts) 2)] 54)):=below_alloc _ _;have HN:Hid (addAll (addW xs nm) (d.heads.drop (j+1)++(ds.drop (k+1)).flatMap ClD.heads)=namesD ds):=by show _=_;rw[<-HX.out,HDR.out];rfl
     have hal2:=addW_len xs nm;go_wp2_with (go_at_call 52;refine(add_any _ w.heap.size w.heap.size mv lv 100 xs nm (by exact hC.alloc _) (by exact hCI.below hbe) hkm (by omega) (by decide) (by simp;omega)).mono ?_;rintro e w2 ⟨pp,qq,mv',lv',rfl,hC2,hCI2,hX2⟩);have hB2:Below w.heap.size w w2:=(hB.trans (hbe.mono (by omega))).trans (hX2.toBelow (Nat.le_refl _));exact⟨⟨j+1,addW xs nm,mv',lv',hjl,by go_num,by omega,HN,hC2,hCI2,hX2.own (hA.alloc _) (own_ne hA hC (by decide)) (by decide),hB2⟩,by simp[intOf];omega⟩
    ·have hje:j=d.lits.length+1:=by omega
     have HN:Hid (addAll xs ((ds.drop (k+1)).flatMap ClD.heads)=namesD ds):=by
      show _=_;rw[<-HX.out,hje];have:d.heads.drop (d.lits.length+1)=[]:=by apply List.drop_eq_nil_of_le;simp[ClD.heads,ClD.atoms]
      rw[this,List.nil_append]
     clear hje;go_wp2;exact⟨⟨k+1,xs,mv,lv,hlt,by go_num,by omega,HN,hC,hCI,hB⟩,by simp[intOf];omega⟩
  ·have hke:k=ds.length:=by omega
   have HE:Hid (xs=namesD ds):=by show _=_;rw[<-HX.out,hke,List.drop_length];rfl
   clear hke;go_wp2
   go_ret
   rw[<-HE.out];exact⟨mv,lv,rfl,hC,hCI,by omega,hB⟩
def raiseL:List Edge->(B8->Nat)×Bool->(B8->Nat)×Bool
 |[],x=>x
 |e::r,x=>raiseL r (raiseE e x.1,x.2||decide (x.1 e.h<x.1 e.b+e.w))
theorem raiseL_append(A B:List Edge)(x:(B8->Nat)×Bool):raiseL (A++B) x=raiseL B (raiseL A x):=by
 induction A generalizing x with
 |nil=>rfl
 |cons e r ih=>rw[List.cons_append,raiseL,raiseL,ih]
theorem raiseL_le(E:List Edge)(L:B8->Nat)(hL:∀p,jac E L p=L p)(A:List Edge)(hA:∀e∈A,e∈E)(x:(B8->Nat)×Bool)(hf:∀p,x.1 p<=L p):∀p,(raiseL A x).1 p<=L p:=by
 induction A generalizing x with
 |nil=>exact hf
 |cons e r ih=>exact ih (fun y hy=>hA y (by simp[hy])) _ (raiseE_le E L hL e (hA e (by simp)) x.1 hf)
theorem raiseE_ge(e:Edge)(f:B8->Nat)(p:B8):f p<=raiseE e f p:=by
 unfold raiseE
 split
 ·rename_i h;rw[h.1];omega
 ·exact Nat.le_refl _
theorem raiseL_ge(A:List Edge)(x:(B8->Nat)×Bool)(p:B8):x.1 p<=(raiseL A x).1 p:=by
 induction A generalizing x with
 |nil=>exact Nat.le_refl _
 |cons e r ih=>exact Nat.le_trans (raiseE_ge e x.1 p) (ih (raiseE e x.1,x.2||decide (x.1 e.h<x.1 e.b+e.w)))
theorem raiseL_true(A:List Edge)(f:B8->Nat):(raiseL A (f,true)).2=true:=by
 induction A generalizing f with
 |nil=>rfl
 |cons e r ih=>rw[raiseL,Bool.true_or];exact ih _
theorem raiseE_none(e:Edge)(f:B8->Nat)(h:¬f e.h<f e.b+e.w):raiseE e f=f:=by
 funext p
 unfold raiseE;rw[if_neg (fun x=>h x.2)]
theorem raiseL_still(A:List Edge)(f:B8->Nat)(h:(raiseL A (f,false)).2=false):(raiseL A (f,false)).1=f/\∀e∈A,f e.b+e.w<=f e.h:=by
 induction A generalizing f with
 |nil=>exact⟨rfl,by simp⟩
 |cons e r ih=>
  by_cases hn:f e.h<f e.b+e.w
  ·have hc:raiseL (e::r) (f,false)=raiseL r (raiseE e f,true):=by simp[raiseL,hn]
   rw[hc,raiseL_true]at h;cases h
  ·have hc:raiseL (e::r) (f,false)=raiseL r (f,false):=by simp[raiseL,hn,raiseE_none e f hn]
   rw[hc]at h⊢;obtain⟨h1,h2⟩:=ih f h;refine⟨h1,fun x hx=>?_⟩;rcases List.mem_cons.1 hx with rfl|hx
   ·omega
   ·exact h2 x hx
theorem raiseL_grew(A:List Edge)(f:B8->Nat)(h:(raiseL A (f,false)).2=true):∃e∈A,f e.h<(raiseL A (f,false)).1 e.h:=by
 induction A generalizing f with
 |nil=>simp[raiseL]at h
 |cons e r ih=>
  by_cases hn:f e.h<f e.b+e.w
  ·have hc:raiseL (e::r) (f,false)=raiseL r (raiseE e f,true):=by simp[raiseL,hn]
   rw[hc];refine⟨e,by simp,?_⟩;have h1:f e.h<raiseE e f e.h:=by unfold raiseE;rw[if_pos ⟨rfl,hn⟩];exact hn
   exact Nat.lt_of_lt_of_le h1 (raiseL_ge r (raiseE e f,true) e.h)
  ·have hc:raiseL (e::r) (f,false)=raiseL r (f,false):=by simp[raiseL,hn,raiseE_none e f hn]
   rw[hc]at h⊢;obtain⟨x,hx,h1⟩:=ih f h;exact⟨x,by simp[hx],h1⟩
def ClD.edges(d:ClD):List Edge:=d.lits.map fun l=>⟨d.name,l.name,l.neg⟩
def edgesD(ds:List ClD):List Edge:=ds.flatMap ClD.edges
theorem edgesD_step(ds:List ClD)(i:Nat)(h:i<ds.length):edgesD (ds.take (i+1))=edgesD (ds.take i)++ds[i].edges:=by unfold edgesD;rw[List.take_succ_eq_append_getElem h,List.flatMap_append,List.flatMap_singleton]
theorem edgesD_sub(ds:List ClD)(i k:Nat)(h:i<ds.length):∀e∈edgesD (ds.take i)++ds[i].edges.take k,e∈edgesD ds:=by
 intro e he;unfold edgesD at*;rw[List.mem_append,List.mem_flatMap]at he;rw[List.mem_flatMap];rcases he with⟨d,hd,he⟩|he
 ·exact⟨d,List.mem_of_mem_take hd,he⟩
 ·exact⟨ds[i],List.getElem_mem h,List.mem_of_mem_take he⟩
theorem edges_step(d:ClD)(k:Nat)(h:k<d.lits.length)(x:(B8->Nat)×Bool):raiseL (d.edges.take (k+1)) x=(raiseE ⟨d.name,d.lits[k].name,d.lits[k].neg⟩ (raiseL (d.edges.take k) x).1,(raiseL (d.edges.take k) x).2||decide ((raiseL (d.edges.take k) x).1 d.name<(raiseL (d.edges.take k) x).1 d.lits[k].name+(if d.lits[k].neg then 1 else 0))):=by
 have hl:k<d.edges.length:=by simpa[ClD.edges]using h
 rw[List.take_succ_eq_append_getElem hl,raiseL_append];have he:d.edges[k]=⟨d.name,d.lits[k].name,d.lits[k].neg⟩:=by simp[ClD.edges]
 rw[he];rfl
theorem posIn_mem(U:List B8)(k:B8)(h:k∈U):posIn U k=U.idxOf k:=by unfold posIn;rw[if_pos h]
theorem hasW_mem(U:List B8)(k:B8)(h:k∈U):hasW U k=true:=List.contains_iff_mem.2 h
theorem leastAbove_c(w:World)(base sb:Nat)(mv lv:Value)(U:List B8)(hC:Blk w sb [mv,lv] 100)(hS:SetIs w base mv lv U)(g:Nat)(f:B8->Nat)(hG:Blk w g (rowI U f) 3)(nm:B8)(hnm:nm∈U)(hl:nm.length<=12)(hf:f nm<=1000)(neg:Bool)(c:Int)(t0 t1 t2:ByteArray):
 Calls prog 53 #[.agg #[.string (bs nm),.int .i64 c,.string t0,.string t1,.string t2,.bool neg],.pointer (some ⟨sb,0,none⟩),.slice (some ⟨g,0,none⟩) U.length U.length] w fun e w'=>e=.returned (.int .i64 ((f nm+(if neg then 1 else 0):Nat):Int))/\Below w.heap.size w w':=by
 have hp:=List.idxOf_lt_length_of_mem hnm;have q1:=hG.cell (U.idxOf nm);rw[rowI_at U f nm hnm]at q1;have HP:=hid (posIn_mem U nm hnm);have HH:=hid (hasW_mem U nm hnm);have hgl:=hG.lt;generalize U.idxOf nm=pos at*;generalize f nm=fx at*;have hB0:=below_alloc w (.cells #[.string (bs nm),.int .i64 c,.string t0,.string t1,.string t2,.bool neg] 130);cases neg
 ·go_enter func53,ntmps53;go_wp2_with (go_at_call 34;refine(find_c _ base sb mv lv [] 100 U nm (by exact hC.alloc _) (by exact hS.alloc _) (by unfold maxLen;omega)).mono ?_;rintro e w2 ⟨he,hw2⟩;subst w2;rw[HP.out,HH.out]at he;subst he)
  go_ret
  exact⟨rfl,hB0⟩
 ·go_enter func53,ntmps53;go_wp2_with (go_at_call 34;refine(find_c _ base sb mv lv [] 100 U nm (by exact hC.alloc _) (by exact hS.alloc _) (by unfold maxLen;omega)).mono ?_;rintro e w2 ⟨he,hw2⟩;subst w2;rw[HP.out,HH.out]at he;subst he)
  go_ret
  exact⟨rfl,hB0⟩
end
section
open Go.RowKit Go.WideMaps Go.Maps
def sumU(U:List B8)(f:B8->Nat):Nat:=(U.map f).sum
theorem sumU_le(U:List B8)(f g:B8->Nat)(h:∀p,f p<=g p):sumU U f<=sumU U g:=by
 unfold sumU
 induction U with
 |nil=>exact Nat.le_refl _
 |cons x r ih=>have:=h x;simp only[List.map_cons,List.sum_cons];omega
theorem sumU_lt(U:List B8)(f g:B8->Nat)(h:∀p,f p<=g p)(x:B8)(hx:x∈U)(hl:f x<g x):sumU U f<sumU U g:=by
 unfold sumU
 induction U with
 |nil=>simp at hx
 |cons y r ih=>
  have h1:=h y;have h2:=sumU_le r f g h;unfold sumU at h2;simp only[List.map_cons,List.sum_cons];rcases List.mem_cons.1 hx with rfl|hx
  ·omega
  ·have:=ih hx;omega
def rowSum(w:World)(g n:Nat):Nat:=((List.range n).map fun i=>(intOf ((w.cell? ⟨g,i,none⟩).getD (.int .i64 0))).toNat).sum
theorem rowSum_is(w:World)(g:Nat)(U:List B8)(f:B8->Nat)(h:Blk w g (rowI U f) 3):rowSum w g U.length=sumU U f:=by
 unfold rowSum sumU;congr 1;apply List.ext_getElem?;intro i;rw[List.getElem?_map,List.getElem?_map];by_cases hi:i<U.length
 ·rw[List.getElem?_range hi,List.getElem?_eq_getElem hi,Option.map_some,Option.map_some,h.cell i];unfold rowI;rw[List.getElem?_map,List.getElem?_eq_getElem hi];simp[intOf]
 ·rw[List.getElem?_eq_none (by simpa using hi),List.getElem?_eq_none (by omega)];rfl
theorem raiseL_sum(E:List Edge)(U:List B8)(hU:∀e∈E,e.h∈U)(f:B8->Nat)(h:(raiseL E (f,false)).2=true):sumU U f<sumU U (raiseL E (f,false)).1:=by obtain⟨e,he,h1⟩:=raiseL_grew E f h;exact sumU_lt U _ _ (fun p=>raiseL_ge E (f,false) p) e.h (hU e he) h1
theorem addAll_mem(l xs:List B8)(x:B8):x∈addAll xs l↔x∈xs\/x∈l:=by
 unfold addAll
 induction l generalizing xs with
 |nil=>simp
 |cons a r ih=>
  rw[List.foldl_cons,ih];unfold addW
  split
  ·rename_i h;have:a∈xs:=List.contains_iff_mem.1 h;constructor
   ·rintro(h|h)
    ·exact .inl h
    ·exact .inr (by simp[h])
   ·rintro(h|h)
    ·exact .inl h
    ·rcases List.mem_cons.1 h with rfl|h
     ·exact .inl this
     ·exact .inr h
  ·simp only[List.mem_append,List.mem_cons,List.not_mem_nil,or_false];exact or_assoc
end
section
attribute [local go_sem] drewN_alloc drewN_setCell
open Go.RowKit Go.WideMaps Go.Maps
theorem idxOf_ne(U:List B8)(hU:U.Nodup)(x:B8)(i:Nat)(hi:i<U.length)(h:i≠U.idxOf x):U[i]≠x:=by intro he;apply h;rw[<-he,hU.idxOf_getElem]
theorem rowI_set(U:List B8)(hU:U.Nodup)(f:B8->Nat)(x:B8)(hx:x∈U)(v:Nat):rowI U (fun p=>if p=x then v else f p)=(rowI U f).set (U.idxOf x) (.int .i64 (v:Nat)):=by
 unfold rowI;apply List.ext_getElem?;intro i;rw[List.getElem?_map,List.getElem?_set,List.length_map,List.getElem?_map];by_cases hi:i<U.length
 ·rw[List.getElem?_eq_getElem hi];by_cases he:U.idxOf x=i
  ·rw[if_pos he,if_pos (by omega)];subst he;simp[List.getElem_idxOf]
  ·rw[if_neg he];have:=idxOf_ne U hU x i hi (fun h=>he h.symm);simp[this]
 ·have h1:=List.idxOf_lt_length_of_mem hx;rw[List.getElem?_eq_none (by omega),if_neg (by omega)];rfl
theorem raiseE_up(e:Edge)(f:B8->Nat)(h:f e.h<f e.b+e.w):raiseE e f=fun p=>if p=e.h then f e.b+e.w else f p:=by
 funext p
 unfold raiseE;by_cases hp:p=e.h
 ·rw[if_pos ⟨hp,h⟩,if_pos hp]
 ·rw[if_neg (fun x=>hp x.1),if_neg hp]
theorem addAll_nodup(l xs:List B8)(h:xs.Nodup):(addAll xs l).Nodup:=by
 unfold addAll
 induction l generalizing xs with
 |nil=>exact h
 |cons a r ih=>exact ih _ (addW_nodup h)
theorem raise_c(w0 w:World)(hB0:Below w0.heap.size w0 w)(base:Nat)(ao:Option Addr)(cap:Nat)(ds:List ClD)(hP:ClausesIs w0 base (.slice ao ds.length cap) ds)(hW:∀d∈ds,d.WF)(hn:ds.length<=40)(sbase sb:Nat)(mv lv:Value)(U:List B8)(hUd:U.Nodup)(hC:Blk w0 sb [mv,lv] 100)(hS:SetIs w0 sbase mv lv U)
 (hU:∀d∈ds,d.name∈U/\∀l∈d.lits,l.name∈U)(g:Nat)(hg:w0.heap.size<=g)(f L:B8->Nat)(hL:∀p,jac (edgesD ds) L p=L p)(hLb:∀p,L p<=200)(hf:∀p,f p<=L p)(hG:Blk w g (rowI U f) 3):
 Calls prog 36 #[.slice ao ds.length cap,.pointer (some ⟨sb,0,none⟩),.slice (some ⟨g,0,none⟩) U.length U.length] w fun e w'=>e=.returned (.bool (raiseL (edgesD ds) (f,false)).2)/\Blk w' g (rowI U (raiseL (edgesD ds) (f,false)).1) 3/\Below w0.heap.size w0 w':=by
 have HLE:=hid (fun A (hA:∀e∈A,e∈edgesD ds)=>raiseL_le (edgesD ds) L hL A hA (f,false) hf);have HLB:=hid hLb;have HUU:=hid hU;have HUD:=hid hUd;have HWW:=hid hW;clear hL hLb hf hU hUd hW;go_enter func36,ntmps36;go_wp2
 go_loopw [7,17] (fun gv iv wr=>∃(k:Nat),k<=ds.length/\iv=.int .i64 k/\gv=.bool (raiseL (edgesD (ds.take k)) (f,false)).2/\Blk wr g (rowI U (raiseL (edgesD (ds.take k)) (f,false)).1) 3/\Below w0.heap.size w0 wr) (fun _ iv _=>ds.length-(intOf iv).toNat)
 case atStart=>exact⟨0,by omega,rfl,rfl,hG,hB0⟩
 case round=>
  clear hG hB0;obtain⟨k,hk,rfl,rfl,hG,hB⟩:=hrel;by_cases hlt:k<ds.length
  ·obtain⟨gc,bo,bcap,hao,hgc,e0,e1,e2,e3,e4,e5,hLb⟩:=clause_at hP k hlt;subst hao;have hwf:=HWW.out ds[k] (List.getElem_mem hlt);have HST:=hid (edgesD_step ds k hlt);have HSUB:=hid (fun j=>edgesD_sub ds k j hlt);have HU1:=hid (HUU.out ds[k] (List.getElem_mem hlt));have hwl:ds[k].name.length<=12:=(hwf.words (ds[k].name,ds[k].ts) (by simp[ClD.atoms])).1;have HWL:Hid (∀l∈ds[k].lits,l.name.length<=12):=fun l hl=>(hwf.words (l.name,l.ts) (by simp only[ClD.atoms,List.mem_cons,List.mem_map];exact .inr ⟨l,hl,rfl⟩)).1;have HNM:Hid (ds[k].nm=bs ds[k].name):=rfl;rw[HNM.out]at e0;generalize ds[k]=d at*;have hl4:=hwf.lits;have HX:=hid (fun j=>raiseL_append (edgesD (ds.take k)) (d.edges.take j) (f,false));have HXE:=hid (raiseL_append (edgesD (ds.take k)) d.edges (f,false));have HLQ:=hid (fun j=>HLE.out (edgesD (ds.take k)++d.edges.take j) (HSUB.out j));simp only[HX.out]at HLQ;rw[<-HST.out]at HXE;generalize raiseL (edgesD (ds.take k)) (f,false)=X at*;rw[<-hB.cell (p:=⟨gc,k*6,none⟩) hgc]at e0;rw[<-hB.cell (p:=⟨gc,k*6+1,none⟩) hgc]at e1;rw[<-hB.cell (p:=⟨gc,k*6+2,none⟩) hgc]at e2;rw[<-hB.cell (p:=⟨gc,k*6+3,none⟩) hgc]at e3;rw[<-hB.cell (p:=⟨gc,k*6+4,none⟩) hgc]at e4;rw[<-hB.cell (p:=⟨gc,k*6+5,none⟩) hgc]at e5;have hsz:=hB.size;have HPO:=hid (posIn_mem U d.name HU1.out.1);have HH:=hid (hasW_mem U d.name HU1.out.1);have hCr:=(hC.below hB).alloc (.cells #[Value.string (bs d.name),.int .i64 d.cn,.string (d.t 0),.string (d.t 1),.string (d.t 2),.slice bo d.lits.length bcap] 60);have hSr:=(hS.below hB).alloc (.cells #[Value.string (bs d.name),.int .i64 d.cn,.string (d.t 0),.string (d.t 1),.string (d.t 2),.slice bo d.lits.length bcap] 60);have hGr:=hG.alloc (.cells #[Value.string (bs d.name),.int .i64 d.cn,.string (d.t 0),.string (d.t 1),.string (d.t 2),.slice bo d.lits.length bcap] 60);have hBr:=hB.alloc hsz (.cells #[Value.string (bs d.name),.int .i64 d.cn,.string (d.t 0),.string (d.t 1),.string (d.t 2),.slice bo d.lits.length bcap] 60);go_wp2_with (go_at_call 34;refine(find_c _ sbase sb mv lv [] 100 U d.name hCr hSr (by unfold maxLen;omega)).mono ?_;rintro e w2 ⟨he,hw2⟩;subst w2;rw[HPO.out,HH.out]at he;subst he);clear e0 e1 e2 e3 e4 e5 hCr hSr hG hB
   go_loopw [7,32] (fun gv jv wr=>∃(j:Nat),j<=d.lits.length/\jv=.int .i64 j/\gv=.bool (raiseL (d.edges.take j) X).2/\Blk wr g (rowI U (raiseL (d.edges.take j) X).1) 3/\Below w0.heap.size w0 wr) (fun _ jv _=>d.lits.length-(intOf jv).toNat)
   case atStart=>exact⟨0,by omega,rfl,rfl,hGr,hBr⟩
   case round=>
    clear hGr hBr;obtain⟨j,hj,rfl,rfl,hG,hB⟩:=hrel;by_cases hjl:j<d.lits.length
    ·obtain⟨gl,rfl,hgl,a0,a1,a2,a3,a4,a5⟩:=lits_at hLb j hjl;have HES:=hid (edges_step d j hjl X);have hln:=HWL.out d.lits[j] (List.getElem_mem hjl);have HLM:=hid (HU1.out.2 d.lits[j] (List.getElem_mem hjl));have HNA:Hid (d.lits[j].nm=bs d.lits[j].name):=rfl;rw[HNA.out]at a0;generalize d.lits[j]=l at*;rw[<-hB.cell (p:=⟨gl,j*6,none⟩) hgl]at a0;rw[<-hB.cell (p:=⟨gl,j*6+1,none⟩) hgl]at a1;rw[<-hB.cell (p:=⟨gl,j*6+2,none⟩) hgl]at a2;rw[<-hB.cell (p:=⟨gl,j*6+3,none⟩) hgl]at a3;rw[<-hB.cell (p:=⟨gl,j*6+4,none⟩) hgl]at a4;rw[<-hB.cell (p:=⟨gl,j*6+5,none⟩) hgl]at a5;have hsz2:=hB.size;have hgll:gl<wr.heap.size:=by omega
     have hbd1:=Nat.le_trans (HLQ.out j d.name) (HLB.out d.name);have hbd2:=Nat.le_trans (HLQ.out j l.name) (HLB.out l.name);generalize raiseL (d.edges.take j) X=Y at*;obtain⟨fy,byy⟩:=Y;simp only[]at hG HES hbd1 hbd2⊢;have HQ:=hid (rowI_at U fy d.name HU1.out.1);have hpl:=List.idxOf_lt_length_of_mem HU1.out.1;cases hng:l.neg
     ·rw[hng]at a5;simp only[hng,Bool.false_eq_true,if_false,Nat.add_zero]at HES;have hCr:=(hC.below hB).alloc (.cells #[Value.string (bs l.name),.int .i64 l.cn,.string (l.t 0),.string (l.t 1),.string (l.t 2),.bool false] 130);have hSr:=(hS.below hB).alloc (.cells #[Value.string (bs l.name),.int .i64 l.cn,.string (l.t 0),.string (l.t 1),.string (l.t 2),.bool false] 130);have hGr:=hG.alloc (.cells #[Value.string (bs l.name),.int .i64 l.cn,.string (l.t 0),.string (l.t 1),.string (l.t 2),.bool false] 130);have hBr:=hB.alloc hsz2 (.cells #[Value.string (bs l.name),.int .i64 l.cn,.string (l.t 0),.string (l.t 1),.string (l.t 2),.bool false] 130);by_cases hup:fy d.name<fy l.name
      ·have HV:=hid (show raiseL (d.edges.take (j+1)) X=((fun p=>if p=d.name then fy l.name else fy p),true) by
           rw[HES.out,raiseE_up _ _ (show fy d.name<fy l.name+Edge.w ⟨d.name,l.name,false⟩ from hup),decide_eq_true hup,Bool.or_true]
           rfl)
       have hlm:((fy d.name:Nat):Int)<((fy l.name:Nat):Int):=by omega
       clear HES;go_wp2_with (go_at_call 53;refine(leastAbove_c _ sbase sb mv lv U hCr hSr g fy hGr l.name HLM.out hln (by omega) false l.cn (l.t 0) (l.t 1) (l.t 2)).mono ?_;rintro e w2 ⟨rfl,hB2⟩;have hG2:=hGr.below hB2;have fG:=hG2.frozen;have hg2l:=hG2.lt;have q1:=hG2.cell (U.idxOf d.name);rw[HQ.out]at q1);have hG3:=hG2.setCell (U.idxOf d.name) (.int .i64 ((fy l.name:Nat):Int));rw[<-rowI_set U HUD.out fy d.name HU1.out.1 (fy l.name)]at hG3;exact⟨⟨j+1,hjl,by go_num,by rw[HV.out],by rw[HV.out];exact hG3,(hBr.trans (hB2.mono (by simp;omega))).setCell (p:=⟨g,U.idxOf d.name,none⟩) hg _⟩,by simp[intOf];omega⟩
      ·have HV:=hid (show raiseL (d.edges.take (j+1)) X=(fy,byy) by
           rw[HES.out,raiseE_none _ _ (show ¬fy d.name<fy l.name+Edge.w ⟨d.name,l.name,false⟩ from hup),decide_eq_false hup,Bool.or_false])
       have hlm:¬((fy d.name:Nat):Int)<((fy l.name:Nat):Int):=by omega
       clear HES;go_wp2_with (go_at_call 53;refine(leastAbove_c _ sbase sb mv lv U hCr hSr g fy hGr l.name HLM.out hln (by omega) false l.cn (l.t 0) (l.t 1) (l.t 2)).mono ?_;rintro e w2 ⟨rfl,hB2⟩;have hG2:=hGr.below hB2;have fG:=hG2.frozen;have hg2l:=hG2.lt;have q1:=hG2.cell (U.idxOf d.name);rw[HQ.out]at q1);exact⟨⟨j+1,hjl,by go_num,by rw[HV.out],by rw[HV.out];exact hG2,hBr.trans (hB2.mono (by simp;omega))⟩,by simp[intOf];omega⟩
     ·rw[hng]at a5;simp only[hng,if_true]at HES;have hCr:=(hC.below hB).alloc (.cells #[Value.string (bs l.name),.int .i64 l.cn,.string (l.t 0),.string (l.t 1),.string (l.t 2),.bool true] 130);have hSr:=(hS.below hB).alloc (.cells #[Value.string (bs l.name),.int .i64 l.cn,.string (l.t 0),.string (l.t 1),.string (l.t 2),.bool true] 130);have hGr:=hG.alloc (.cells #[Value.string (bs l.name),.int .i64 l.cn,.string (l.t 0),.string (l.t 1),.string (l.t 2),.bool true] 130);have hBr:=hB.alloc hsz2 (.cells #[Value.string (bs l.name),.int .i64 l.cn,.string (l.t 0),.string (l.t 1),.string (l.t 2),.bool true] 130);by_cases hup:fy d.name<fy l.name+1
      ·have HV:=hid (show raiseL (d.edges.take (j+1)) X=((fun p=>if p=d.name then fy l.name+1 else fy p),true) by
           rw[HES.out,raiseE_up _ _ (show fy d.name<fy l.name+Edge.w ⟨d.name,l.name,true⟩ from hup),decide_eq_true hup,Bool.or_true]
           rfl)
       have hlm:((fy d.name:Nat):Int)<((fy l.name+1:Nat):Int):=by omega
       clear HES;go_wp2_with (go_at_call 53;refine(leastAbove_c _ sbase sb mv lv U hCr hSr g fy hGr l.name HLM.out hln (by omega) true l.cn (l.t 0) (l.t 1) (l.t 2)).mono ?_;rintro e w2 ⟨rfl,hB2⟩;have hG2:=hGr.below hB2;have fG:=hG2.frozen;have hg2l:=hG2.lt;have q1:=hG2.cell (U.idxOf d.name);rw[HQ.out]at q1);have hG3:=hG2.setCell (U.idxOf d.name) (.int .i64 ((fy l.name+1:Nat):Int));rw[<-rowI_set U HUD.out fy d.name HU1.out.1 (fy l.name+1)]at hG3;exact⟨⟨j+1,hjl,by go_num,by rw[HV.out],by rw[HV.out];exact hG3,(hBr.trans (hB2.mono (by simp;omega))).setCell (p:=⟨g,U.idxOf d.name,none⟩) hg _⟩,by simp[intOf];omega⟩
      ·have HV:=hid (show raiseL (d.edges.take (j+1)) X=(fy,byy) by
           rw[HES.out,raiseE_none _ _ (show ¬fy d.name<fy l.name+Edge.w ⟨d.name,l.name,true⟩ from hup),decide_eq_false hup,Bool.or_false])
       have hlm:¬((fy d.name:Nat):Int)<((fy l.name+1:Nat):Int):=by omega
       clear HES;go_wp2_with (go_at_call 53;refine(leastAbove_c _ sbase sb mv lv U hCr hSr g fy hGr l.name HLM.out hln (by omega) true l.cn (l.t 0) (l.t 1) (l.t 2)).mono ?_;rintro e w2 ⟨rfl,hB2⟩;have hG2:=hGr.below hB2;have fG:=hG2.frozen;have hg2l:=hG2.lt;have q1:=hG2.cell (U.idxOf d.name);rw[HQ.out]at q1);exact⟨⟨j+1,hjl,by go_num,by rw[HV.out],by rw[HV.out];exact hG2,hBr.trans (hB2.mono (by simp;omega))⟩,by simp[intOf];omega⟩
    ·have hje:j=d.lits.length:=by omega
     have HE:=hid (show raiseL (d.edges.take j) X=raiseL d.edges X by
      rw[hje,show d.lits.length=d.edges.length by simp[ClD.edges],List.take_length])
     clear hje;go_wp2_with fail;rw[HE.out,<-HXE.out]at hG;exact⟨⟨k+1,hlt,by go_num,by rw[HE.out,<-HXE.out],hG,hB⟩,by simp[intOf];omega⟩
  ·have hke:k=ds.length:=by omega
   have HE:=hid (show ds.take k=ds by rw[hke,List.take_length]);clear hke;go_wp2_with fail
   go_ret
   rw[HE.out]at hG⊢;exact⟨rfl,hG,hB⟩
end
section
attribute [local go_sem] drewN_alloc drewN_setCell
open Go.RowKit Go.WideMaps Go.Maps
def layG(U:List B8)(L:B8->Nat)(nm:B8):Int:=if nm∈U then(L nm:Nat) else-1
theorem namesD_in(ds:List ClD)(d:ClD)(hd:d∈ds)(x:B8)(hx:x∈d.heads):x∈namesD ds:=by unfold namesD;rw[addAll_mem,List.mem_flatMap];exact .inr ⟨d,hd,hx⟩
theorem of_g(w:World)(base:Nat)(ao:Option Addr)(cap:Nat)(ds:List ClD)(hP':ClausesIs w base (.slice ao ds.length cap) ds)(hW:∀d∈ds,d.WF)(hn:ds.length<=40)(L:B8->Nat)(hL:∀p,jac (edgesD ds) L p=L p)(hLb:∀p,L p<=200)
 (hEq:∀f:B8->Nat,(∀p,f p<=L p)->(∀e∈edgesD ds,f e.b+e.w<=f e.h)->f=L)(nm:B8)(hnm:nm.length<=maxLen):
 Calls prog 23 #[.slice ao ds.length cap,.string (bs nm)] w fun e w'=>e=.returned (.int .i64 (layG (namesD ds) L nm))/\Below w.heap.size w w':=by
 have HNO:=hid (namesOf_c w base ao cap ds hP' hW hn);have hin:∀d∈ds,d.name∈namesD ds/\∀l∈d.lits,l.name∈namesD ds:=by intro d hd;refine⟨namesD_in ds d hd _ (by simp[ClD.heads,ClD.atoms]),fun l hl=>namesD_in ds d hd _ ?_⟩;simp only[ClD.heads,ClD.atoms,List.map_cons,List.map_map,List.mem_cons,List.mem_map];exact .inr ⟨l,hl,rfl⟩
 have hEU:∀e∈edgesD ds,e.h∈namesD ds:=by intro e he;unfold edgesD at he;obtain⟨d,hd,he⟩:=List.mem_flatMap.1 he;obtain⟨l,_,rfl⟩:=List.mem_map.1 (show e∈d.lits.map _ from he);exact(hin d hd).1
 have HST:=hid hL;have HLB:=hid hLb;have HRS:=hid (fun W w1 g f mv lv sb=>raise_c W w1 (base:=base) (ao:=ao) (cap:=cap) (ds:=ds) (hW:=hW) (hn:=hn) (sbase:=w.heap.size) (sb:=sb) (mv:=mv) (lv:=lv) (U:=namesD ds) (hUd:=addAll_nodup _ _ List.nodup_nil) (hU:=hin) (g:=g) (f:=f) (L:=L));have HSU:=hid (fun f=>raiseL_sum (edgesD ds) (namesD ds) hEU f);have HSI:=hid (fun f hf h=>hEq f hf (raiseL_still (edgesD ds) f h).2);have HLE:=hid (fun f=>raiseL_le (edgesD ds) L hL (edgesD ds) (fun _ h=>h) (f,false));clear hin hEU hL hLb hEq;generalize edgesD ds=E at*;generalize namesD ds=U at*;by_cases hm:nm∈U
 ·have HA:=hid (show layG U L nm=((L nm:Nat):Int) by unfold layG;rw[if_pos hm]);have HPO:=hid (posIn_mem U nm hm);have HH:=hid (hasW_mem U nm hm);have hpl:=List.idxOf_lt_length_of_mem hm;have HRA:=hid (rowI_at U L nm hm);generalize U.idxOf nm=pos at*;go_enter func23,ntmps23;go_wp2_with (first|(go_at_call 33;refine(HNO.out).mono ?_;rintro e w1 ⟨mv,lv,rfl,hC,hS,hUl,hB1⟩;have hmk:=make_ints U.length (by omega))|(go_at_call 34;refine(find_c _ w.heap.size w.heap.size mv lv [] 100 U nm (by exact hC) (by exact hS) hnm).mono ?_;rintro e w2 ⟨he,hw2⟩;subst w2;rw[HPO.out,HH.out]at he;subst he)|(go_at_call 35;refine(len_c _ w.heap.size w.heap.size mv lv [] 100 U (by exact hC) (by exact hS)).mono ?_;rintro e w2 ⟨he,hw2⟩;subst w2;subst he));have hPw:=hP'.below hB1;have hN0:=new_zero w1 U;have hs1:=hB1.size;clear hmk
  go_loopw [] (fun wr=>∃f,(∀p,f p<=L p)/\Blk wr w1.heap.size (rowI U f) 3/\Below w1.heap.size w1 wr) (fun wr=>sumU U L-rowSum wr w1.heap.size U.length)
  case atStart=>exact⟨fun _=>0,fun _=>Nat.zero_le _,hN0,below_alloc _ _⟩
  case round=>
   clear hN0;obtain⟨f,hf,hG,hB⟩:=hrel;have HSM:=hid (rowSum_is wr w1.heap.size U f hG);have HR:=hid (HRS.out w1 wr w1.heap.size f mv lv w.heap.size hB (by exact hPw) (by exact hC) (by exact hS) (Nat.le_refl _) HST.out HLB.out hf hG);have HF2:=hid (HLE.out f hf);have HSS:=hid (HSU.out f);have HSE:=hid (HSI.out f hf);cases hgr:(raiseL E (f,false)).2
   ·have HE:=hid (HSE.out hgr);have HK:=hid (raiseL_still E f hgr).1;rw[hgr]at HR;go_wp2_with (go_at_call 36;refine(HR.out).mono ?_;rintro e w2 ⟨rfl,hG2,hB2⟩;rw[HK.out,HE.out]at hG2;have q0:=hG2.cell pos;rw[HRA.out]at q0)
    go_ret
    rw[HA.out];exact⟨rfl,hB1.trans (hB2.mono hs1)⟩
   ·have HS3:=hid (HSS.out hgr);rw[hgr]at HR;go_wp2_with (go_at_call 36;refine(HR.out).mono ?_;rintro e w2 ⟨rfl,hG2,hB2⟩);refine⟨⟨_,HF2.out,hG2,hB2⟩,?_⟩;have h1:=rowSum_is w2 w1.heap.size U _ hG2;have h2:=sumU_le U _ L HF2.out;have h3:=HS3.out;have h4:=HSM.out;omega
 ·have HA:=hid (show layG U L nm= -1 by unfold layG;rw[if_neg hm])
  have HH:=hid (show hasW U nm=false by
   cases h:hasW U nm
   ·rfl
   ·exact absurd (List.contains_iff_mem.1 h) hm)
  go_enter func23,ntmps23;go_wp2_with (first|(go_at_call 33;refine(HNO.out).mono ?_;rintro e w1 ⟨mv,lv,rfl,hC,hS,hUl,hB1⟩)|(go_at_call 34;refine(find_c _ w.heap.size w.heap.size mv lv [] 100 U nm (by exact hC) (by exact hS) hnm).mono ?_;rintro e w2 ⟨he,hw2⟩;subst w2;rw[HH.out]at he;subst he))
  go_ret
  rw[HA.out];exact⟨rfl,hB1⟩
section
variable {q:List Bool} {v:Nat} {D:List ClD}
theorem edge_mem{ds:List ClD}{e:Edge}:e∈edgesD ds↔ ∃d∈ds,∃l∈d.lits,e=⟨d.name,l.name,l.neg⟩:=by
 unfold edgesD ClD.edges;rw[List.mem_flatMap];constructor
 ·rintro⟨d,hd,h⟩;obtain⟨l,hl,rfl⟩:=List.mem_map.1 h;exact⟨d,hd,l,hl,rfl⟩
 ·rintro⟨d,hd,l,hl,rfl⟩;exact⟨d,hd,List.mem_map.2 ⟨l,hl,rfl⟩⟩
theorem GraphD.edge_of{ps:List (Nat×Nat)}(hD:GraphD ps v D)(c:Cor)(hc:c∈rulesC++rulesV v)(l:LitD)(hl:l∈c.2.2):(⟨c.1,l.name,l.neg⟩:Edge)∈edgesD D:=by rw[List.mem_append]at hc;obtain⟨d,hd,e⟩:=hD.rule c hc;rw[edge_mem];have e':(d.name,d.ts,d.lits)=c:=e;subst e';exact⟨d,hd,l,hl,rfl⟩
theorem lay_up{ps:List (Nat×Nat)}(hD:GraphD ps v D)(k:B8)(hk:layP k=1):∃b,(⟨k,b,true⟩:Edge)∈edgesD D:=by
 have hk':k=apartB\/k=sinkB\/k=loneB:=by
  unfold layP at hk
  split at hk
  ·assumption
  ·omega
 have key:∀k∈[apartB,sinkB,loneB],∃c∈rulesC,c.1=k/\∃l∈c.2.2,l.neg=true:=by decide+kernel
 obtain⟨c,hc,rfl,l,hl,hn⟩:=key k (by simpa using hk');refine⟨l.name,?_⟩;have:=hD.edge_of c (List.mem_append.2 (.inl hc)) l hl
 rwa [hn]at this
theorem layP_le(k:B8):layP k<=1:=by unfold layP;split<;>omega
theorem lay_still{ps:List (Nat×Nat)}(hD:GraphD ps v D)(hv:v<4)(p:B8):jac (edgesD D) layP p=layP p:=by
 have h1:jac (edgesD D) layP p<=layP p:=by
  rcases jacGo_from layP p 0 (edgesD D) with h|⟨e,he,h1,h2⟩
  ·unfold jac;rw[h];omega
  ·unfold jac;rw[h2];obtain⟨d,hd,l,hl,rfl⟩:=edge_mem.1 he;have:=hD.lay hv d hd l hl;rw[<-h1];exact this
 have h2:layP p<=jac (edgesD D) layP p:=by
  have:=layP_le p;by_cases h0:layP p=1
  ·obtain⟨b,hb⟩:=lay_up hD p h0;have:=jacGo_edge layP p 0 (edgesD D) _ hb rfl;unfold jac;simp only[Edge.w,if_true]at this;omega
  ·omega
 omega
theorem lay_only{ps:List (Nat×Nat)}(hD:GraphD ps v D)(f:B8->Nat)(hf:∀p,f p<=layP p)(hs:∀e∈edgesD D,f e.b+e.w<=f e.h):f=layP:=by
 funext p
 have h1:=hf p;have:=layP_le p;by_cases h0:layP p=1
 ·obtain⟨b,hb⟩:=lay_up hD p h0;have:=hs _ hb;simp only[Edge.w,if_true]at this;omega
 ·omega
end
end
section
open Go.RowKit Go.WideMaps Go.Maps
def noneB:B8:=[110,111,110,101]
theorem layer_given(w:World)(base bb:Nat)(D:List ClD)(hI:BaseIs w base bb D)(hW:∀d∈D,d.WF)(hn:D.length<=40){q:List Bool}{v:Nat}(hv:v<4)(hG:GivenD q v D)(nm:B8)(hnm:nm.length<=maxLen):
 Calls prog 17 #[.pointer (some ⟨bb,0,none⟩),.string (bs nm)] w fun e w'=>e=.returned (.int .i64 (layG (namesD D) layP nm))/\Below w.heap.size w w':=by
 obtain⟨u,hV,hL⟩:=hI;obtain⟨ao,cap,rfl⟩:=hL.form;have v0:w.cell? ⟨bb,0,none⟩=some (.slice ao D.length cap):=hV.cell 0;have hbl:=hV.lt;have HOF:=hid (of_g w base ao cap D hL hW hn layP (lay_still (hG.graph hv) hv) (fun p=>Nat.le_trans (layP_le p) (by omega)) (lay_only (hG.graph hv)) nm hnm);clear hW hG;go_enter func17,ntmps17;go_wp2_with (go_at_call 23;refine(HOF.out).mono ?_;rintro e w1 ⟨rfl,hB1⟩)
 go_ret
 exact⟨rfl,hB1⟩
theorem names_known{q:List Bool}{v:Nat}(hv:v<4){D:List ClD}(hG:GivenD q v D)(k:B8)(hk:k=pathB\/k=apartB\/k=loneB):k∈namesD D:=by
 have key:∀v,v<4->∀k∈[pathB,apartB,loneB],∃c∈rulesC++rulesV v,c.1=k:=by decide+kernel
 obtain⟨c,hc,rfl⟩:=key v hv k (by simpa using hk);rw[List.mem_append]at hc;obtain⟨d,hd,e⟩:=(hG.graph hv).rule c hc;have e':(d.name,d.ts,d.lits)=c:=e;subst e';exact namesD_in D d hd _ (by simp[ClD.heads,ClD.atoms])
theorem none_not{q:List Bool}{v:Nat}(hv:v<4){D:List ClD}(hG:GivenD q v D):noneB∉namesD D:=by
 intro h;unfold namesD at h;rw[addAll_mem,List.mem_flatMap]at h;rcases h with h|⟨d,hd,h⟩
 ·simp at h
 ·have key:=(hG.graph hv).each (P:=fun n _ ls=>n≠noneB/\∀l∈ls,l.name≠noneB) (fun p _=>⟨by decide,fun l hl=>by simp at hl⟩)
   (four' (P:=fun v=>∀c∈rulesC++rulesV v,c.1≠noneB/\∀l∈c.2.2,l.name≠noneB) (by decide+kernel) (by decide+kernel) (by decide+kernel) (by decide+kernel) v hv) d hd
  simp only[ClD.heads,ClD.atoms,List.map_cons,List.map_map,List.mem_cons,List.mem_map]at h;rcases h with h|⟨l,hl,h⟩
  ·exact key.1 h.symm
  ·exact key.2 l hl h
theorem lay_path{q:List Bool}{v:Nat}(hv:v<4){D:List ClD}(hG:GivenD q v D):layG (namesD D) layP pathB=0:=by unfold layG;rw[if_pos (names_known hv hG _ (.inl rfl))];rfl
theorem lay_apart{q:List Bool}{v:Nat}(hv:v<4){D:List ClD}(hG:GivenD q v D):layG (namesD D) layP apartB=1:=by unfold layG;rw[if_pos (names_known hv hG _ (.inr (.inl rfl)))];rfl
theorem lay_lone{q:List Bool}{v:Nat}(hv:v<4){D:List ClD}(hG:GivenD q v D):layG (namesD D) layP loneB=1:=by unfold layG;rw[if_pos (names_known hv hG _ (.inr (.inr rfl)))];rfl
theorem lay_none{q:List Bool}{v:Nat}(hv:v<4){D:List ClD}(hG:GivenD q v D):layG (namesD D) layP noneB= -1:=by unfold layG;rw[if_neg (none_not hv hG)]
end
end Go.Proofs.YtpbfiffgcgnidaaGreat
