import Derived.Test.YtpbfiffgcgnidaaGreatYal
import Derived.Test.YtpbfiffgcgnidaaGreatY37
import Derived.Test.YtpbfiffgcgnidaaGreatY42
namespace Go.Proofs.YtpbfiffgcgnidaaGreat
set_option maxRecDepth 100000
set_option maxHeartbeats 4000000
set_option linter.unusedSectionVars false
set_option linter.unusedSimpArgs false
open Go.Proofs.Tryz
section
theorem Jr{D L:List Ap}(h:D.map Ap.core=L.map Ap.core):D.map Ap.cor=L.map Ap.cor:=by
 have e:∀l:List Ap,l.map Ap.cor=(l.map Ap.core).map fun c=>(c.1,c.2.1,c.2.2.1):=by intro l;rw[List.map_map];rfl
 rw[e,e,h]
def Dc(v:Nat):List Nu:=if v=2 then Bw 2++BH else BH++Bw v
theorem Pa(v:Nat)(hv:v<4):(Ru v).map Ap.cor=Dc v:=four (P:=fun v=>(Ru v).map Ap.cor=Dc v) (by refine⟨?_,?_,?_,?_⟩<;>kernel_rfl) v hv
theorem Ho{v:Nat}(hv:v<4){c:Nu}:c∈Dc v↔c∈BH\/c∈Bw v:=by
 unfold Dc
 split
 ·rename_i h;subst h;rw[List.mem_append,or_comm]
 ·rw[List.mem_append]
def BL(q:List Bool)(v:Nat)(D:List Ap):Prop:=D.map Ap.cor=(BJ q).map (fun p=>(BC p).cor)++Dc v
theorem Lw{q:List Bool}{v:Nat}(hv:v<4){D:List Ap}(h:D.map Ap.core=((BJ q).map BC++Ru v).map Ap.core):BL q v D:=by unfold BL;rw[Jr h,List.map_append,Pa v hv,List.map_map];rfl
theorem BL.graph{q:List Bool}{v:Nat}(hv:v<4){D:List Ap}(h:BL q v D):B1 (BJ q) v D:=by
 refine⟨?_,?_,?_⟩
 ·intro d hd;have:d.cor∈D.map Ap.cor:=List.mem_map.2 ⟨d,hd,rfl⟩;rw[h,List.mem_append]at this;rcases this with h1|h1
  ·obtain⟨p,hp,e⟩:=List.mem_map.1 h1;exact .inl ⟨p,hp,e.symm⟩
  ·exact .inr ((Ho hv).1 h1)
 ·intro p hp;have:(BC p).cor∈D.map Ap.cor:=by rw[h];exact List.mem_append.2 (.inl (List.mem_map.2 ⟨p,hp,rfl⟩))
  obtain⟨d,hd,e⟩:=List.mem_map.1 this;exact⟨d,hd,e⟩
 ·intro c hc;have:c∈D.map Ap.cor:=by rw[h];exact List.mem_append.2 (.inr ((Ho hv).2 hc))
  obtain⟨d,hd,e⟩:=List.mem_map.1 this;exact⟨d,hd,e⟩
theorem Ll(q:List Bool)(i k:Nat)(hi:i<4)(hk:k<4):(i,k)∈BJ q↔Dm q i k=true:=by
 unfold BJ;rw[List.mem_map];constructor
 ·rintro⟨j,hj,e⟩;obtain⟨_,h2⟩:=List.mem_filter.1 hj;simp only[Prod.mk.injEq]at e;have:j=4*i+k:=by omega
  subst this;exact h2
 ·intro h;refine⟨4*i+k,List.mem_filter.2 ⟨List.mem_range.2 (by omega),h⟩,?_⟩;simp only[Prod.mk.injEq];omega
def Lr(n:B8):Nat:=if n=Cv\/n=FO\/n=FP then 1 else 0
def LU(n:B8):Nat:=if n=AH\/n=As\/n=Cv\/n=Ep then 2 else 1
section
variable {ps:List (Nat×Nat)} {v:Nat} {D:List Ap}
theorem B1.each(hD:B1 ps v D){P:B8->List B8->List AG->Prop}(hf:∀p∈ps,P AH [Ad p.1,Ad p.2] [])(hr:∀c∈BH++Bw v,P c.1 c.2.1 c.2.2):∀d∈D,P d.name d.ts d.lits:=by
 intro d hd;rcases hD.of d hd with⟨p,hp,e⟩|e
 ·have e':(d.name,d.ts,d.lits)=(AH,[Ad p.1,Ad p.2],[]):=e;simp only[Prod.mk.injEq]at e';rw[e'.1,e'.2.1,e'.2.2];exact hf p hp
 ·exact hr d.cor (List.mem_append.2 e)
theorem B1.lay(hD:B1 ps v D)(hv:v<4):GZ Lr D:=
 hD.each (P:=fun n _ ls=>∀l∈ls,Lr l.name+(if l.neg=true then 1 else 0)<=Lr n) (fun p _ l hl=>by simp at hl)
  (Du (P:=fun v=>∀c∈BH++Bw v,∀l∈c.2.2,Lr l.name+(if l.neg=true then 1 else 0)<=Lr c.1) (by decide) (by decide) (by decide) (by decide) v hv)
theorem B1.ask(hD:B1 ps v D)(hs:CK ps)(hv:v<4)(hn:D.length<=40)(an:B8)(ats:List B8)(hq:ats.length<=3)(ha:ats.length=LU an):JM D LU an ats:=by
 refine⟨?_,?_,?_,?_,hq,ha,hn⟩
 ·exact hD.each (P:=fun _ ts ls=>ts.length<=3/\∀l∈ls,l.ts.length<=3) (fun p _=>⟨by simp,fun l hl=>by simp at hl⟩)
   (Du (P:=fun v=>∀c∈BH++Bw v,c.2.1.length<=3/\∀l∈c.2.2,l.ts.length<=3) (by decide) (by decide) (by decide) (by decide) v hv)
 ·exact hD.each (P:=fun _ _ ls=>ls.length<=4) (fun p _=>by simp)
   (Du (P:=fun v=>∀c∈BH++Bw v,c.2.2.length<=4) (by decide) (by decide) (by decide) (by decide) v hv)
 ·exact hD.each (P:=fun n ts ls=>ts.length=LU n/\∀l∈ls,l.ts.length=LU l.name) (fun p _=>⟨rfl,fun l hl=>by simp at hl⟩)
   (Du (P:=fun v=>∀c∈BH++Bw v,c.2.1.length=LU c.1/\∀l∈c.2.2,l.ts.length=LU l.name) (by decide) (by decide) (by decide) (by decide) v hv)
 ·refine hD.each (P:=fun _ ts ls=>∀t,AK t=true->(t∈ts\/∃l∈ls,l.neg=true/\t∈l.ts)->∃l∈ls,l.neg=false/\t∈l.ts) ?_ ?_
  ·intro p hp t ht h;rcases h with h|⟨l,hl,_⟩
   ·have hw:∀k,k<4->AK (Ad k)=false:=Du (P:=fun k=>AK (Ad k)=false) (by decide) (by decide) (by decide) (by decide);simp only[List.mem_cons,List.not_mem_nil,or_false]at h;rcases h with rfl|rfl
    ·rw[hw _ (hs p hp).1]at ht;simp at ht
    ·rw[hw _ (hs p hp).2]at ht;simp at ht
   ·simp at hl
  ·have key:∀c∈BH++Bw v,∀t∈c.2.1++c.2.2.flatMap (fun l=>if l.neg=true then l.ts else []),AK t=true->∃l∈c.2.2,l.neg=false/\t∈l.ts:=
    Du (P:=fun v=>∀c∈BH++Bw v,∀t∈c.2.1++c.2.2.flatMap (fun l=>if l.neg=true then l.ts else []),AK t=true->∃l∈c.2.2,l.neg=false/\t∈l.ts) (by decide) (by decide) (by decide) (by decide) v hv
   intro c hc t ht h;refine key c hc t ?_ ht;rcases h with h|⟨l,hl,hn,h⟩
   ·exact List.mem_append.2 (.inl h)
   ·exact List.mem_append.2 (.inr (List.mem_flatMap.2 ⟨l,hl,by rw[if_pos hn];exact h⟩))
end
end
section
theorem Oc{xs:List B8}{k x:B8}:x∈CJ xs k↔x∈xs\/x=k:=by
 unfold CJ Ca
 split
 ·rename_i h;constructor
  ·exact .inl
  ·rintro(h1|rfl)
   ·exact h1
   ·exact List.contains_iff_mem.1 h
 ·simp
theorem Om{l:List B8}:∀{xs:List B8} {x:B8},x∈Dh xs l↔x∈xs\/x∈l:=by
 induction l with
 |nil=>intro xs x;simp[Dh]
 |cons a l ih=>intro xs x;show x∈Dh (CJ xs a) l↔_;rw[ih,Oc,List.mem_cons,or_assoc]
theorem Nn{l:List B8}:∀{xs:List B8},xs.Nodup->(Dh xs l).Nodup:=by
 induction l with
 |nil=>intro xs h;exact h
 |cons a l ih=>intro xs h;exact ih (GV h)
def Ev(c:Nu):List (B8×List B8):=(c.1,c.2.1)::c.2.2.map fun l=>(l.name,l.ts)
def Hc(n:Nat)(c:Nu):Nat:=if CH c.2.2.length c.2.1=true then 0 else n ^ (Dh [] (BG true (Ev c))).length
theorem L9(n:Nat)(D:List Ap):CB n D=((D.map Ap.cor).map (Hc n)).sum:=by unfold CB;rw[List.map_map];rfl
theorem Kw(D:List Ap):Cl D=Dh [] ((D.map Ap.cor).flatMap fun c=>BG false (Ev c)):=by unfold Cl;rw[List.flatMap_map];rfl
theorem LA(n:Nat)(p:Nat×Nat)(hp:p.1<4/\p.2<4):Hc n (BC p).cor=0:=
 Dz (P:=fun i k=>Hc n (BC (i,k)).cor=0) (by refine⟨?_,?_,?_,?_,?_,?_,?_,?_,?_,?_,?_,?_,?_,?_,?_,?_⟩<;>rfl) p.1 p.2 hp.1 hp.2
theorem Kq(n:Nat):∀ps:List (Nat×Nat),CK ps->((ps.map fun p=>(BC p).cor).map (Hc n)).sum=0:=by
 intro ps
 induction ps with
 |nil=>intro _;rfl
 |cons p ps ih=>intro h;rw[List.map_cons,List.map_cons,List.sum_cons,LA n p (h p (by simp)),ih h.tail]
theorem JT(v:Nat)(hv:v<4)(n:Nat)(hn:n<=4):((Dc v).map (Hc n)).sum<=2000:=by
 have key:∀n,n<5->∀v,v<4->((Dc v).map (Hc n)).sum<=2000:=by decide+kernel
 exact key n (by omega) v hv
theorem Iu(p:Nat×Nat)(hp:p.1<4/\p.2<4):∀t∈BG false (Ev (BC p).cor),t∈[Ad 0,Ad 1,Ad 2,Ad 3]:=
 Dz (P:=fun i k=>∀t∈BG false (Ev (BC (i,k)).cor),t∈[Ad 0,Ad 1,Ad 2,Ad 3]) (by refine⟨?_,?_,?_,?_,?_,?_,?_,?_,?_,?_,?_,?_,?_,?_,?_,?_⟩<;>decide) p.1 p.2 hp.1 hp.2
theorem H9(v:Nat)(hv:v<4):∀c∈Dc v,∀t∈BG false (Ev c),t∈[Ad 0,Ad 1,Ad 2,Ad 3]:=
 Du (P:=fun v=>∀c∈Dc v,∀t∈BG false (Ev c),t∈[Ad 0,Ad 1,Ad 2,Ad 3]) (by decide) (by decide) (by decide) (by decide) v hv
theorem BL.consts{q:List Bool}{v:Nat}(hv:v<4){D:List Ap}(h:BL q v D):(Cl D).length<=4:=by
 rw[Kw,h];have hn:(Dh [] (((BJ q).map (fun p=>(BC p).cor)++Dc v).flatMap fun c=>BG false (Ev c))).Nodup:=Nn (by simp);refine hn.length_le_of_subset (l₂:=[Ad 0,Ad 1,Ad 2,Ad 3]) ?_;intro t ht;rw[Om]at ht;rcases ht with ht|ht
 ·simp at ht
 ·obtain⟨c,hc,ht⟩:=List.mem_flatMap.1 ht;rcases List.mem_append.1 hc with hc|hc
  ·obtain⟨p,hp,rfl⟩:=List.mem_map.1 hc;exact Iu p (C0 q p hp) t ht
  ·exact H9 v hv c hc t ht
theorem BL.work{q:List Bool}{v:Nat}(hv:v<4){D:List Ap}(h:BL q v D):CB (max 1 (Cl D).length) D<=2000:=by have hc:=h.consts hv;generalize (Cl D).length=n at hc;rw[L9,h,List.map_append,List.sum_append,Kq _ _ (C0 q),Nat.zero_add];exact JT v hv _ (by omega)
end
section
open Go.RowKit
variable [DecidableEq R3] [DecidableEq A4]
def Jh(D:List Ap):BA->Prop:=HD Lr D
theorem BL.model{q:List Bool}{v:Nat}(hv:v<4){D:List Ap}(h:BL q v D){p:Nat->Nat->Bool}(hp:∀i k,i<4->k<4->(p i k=true↔CL (Dm q) i k)):CV (Dm q) p (BJ q) v D (Jh D):=
 ⟨C0 q,Ll q,hp,hv,h.graph hv,KK ((h.graph hv).lay hv)⟩
abbrev Pd(L:List B8):List Value:=L.map fun z=>.string (bs z)
theorem PK(w:World)(base bb:Nat)(D:List Ap)(hI:CW w base bb D)(hW:∀d∈D,d.WF)(hn:D.length<=40){q:List Bool}{v:Nat}(hv:v<4)(hG:BL q v D)(s:ByteArray)(an:B8)(ats:List B8)(han:an.length<=12)(hts:∀i,(Ab ats i).length<=12)(h3:ats.length<=3)(har:ats.length=LU an)(s0 s1 s2 s3 s4:Int)
 (n:Nat)(hn16:n<=16)(P:Nat->Bool)(F:Nat->BA)(hm:∀b,(Jh D b/\∃s,b=(an,Az s ats))↔ ∃j,j<n/\P j=true/\b=F j)(hF:∀j,j<n->∀t∈(F j).2,t.length<=12)(hs:(List.range n).Pairwise (fun i j=>Bk (F i)<Bk (F j)))
 (L:List B8)(hL:L=((List.range n).filter P).map fun j=>Bk (F j))
 (HR:Hid (∀W:World,Below w.heap.size w W->Calls prog 37 #[.pointer (some ⟨bb,0,none⟩),.string s] W fun e w'=>e=.returned (.tuple #[.agg #[.string (bs an),.int .i64 (ats.length:Nat),.string (bs (Ab ats 0)),.string (bs (Ab ats 1)),.string (bs (Ab ats 2))],.agg #[.int .i64 s0,.int .i64 s1,.int .i64 s2,.int .i64 s3,.int .i64 s4],.int .i64 0,.int .i64 0])/\Below W.heap.size W w')):
 Calls prog 20 #[.pointer (some ⟨bb,0,none⟩),.string s] w fun e w'=>∃vo vc,e=.returned (.tuple #[.slice vo L.length vc,.int .i64 0,.int .i64 0])/\w'.ownsRow w.heap.size 9 1 (.slice vo L.length vc) L.length (Pd L)/\Below w.heap.size w w':=by
 obtain⟨u,hV,hC⟩:=hI;obtain⟨ao,cap,rfl⟩:=hC.form;have hgr:=hG.graph hv;have hlen:∀out:List BA,out.Nodup->(∀b,b∈out↔Jh D b/\∃s,b=(an,Az s ats))->(out.map Bk).mergeSort (fun x y=>decide (x<=y))=L:=by intro out ho hb;rw[hL];exact M9 Bk ho n P F (fun b=>(hb b).trans (hm b)) hs
 have hLn:L.length<=16:=by rw[hL,List.length_map];refine Nat.le_trans (List.length_filter_le _ _) ?_;simpa using hn16
 refine(Nb (fun w base tb ao cap rules q h1 h2 h3=>Pw w base tb ao cap rules q h1 h2 h3) w base bb s ao cap hV hC hW an ats han hts s0 s1 s2 s3 s4 (M:=Jh D) (KK (hgr.lay hv)) (hgr.lay hv) (hgr.ask (C0 q) hv hn an ats h3 har) (hG.work hv) ?_ ?_ HR).mono ?_
 ·intro b hb hs' t ht;obtain⟨j,hj,_,rfl⟩:=(hm b).1 ⟨hb,hs'⟩;exact hF j hj t ht
 ·intro out h1 h2;have:=congrArg List.length (hlen out h1 h2);rw[List.length_mergeSort,List.length_map]at this;omega
 ·rintro e w' ⟨vo,vn,vc,rfl,out,h1,h2,hr,hB⟩;have e1:=hlen out h1 h2;have e2:=congrArg List.length e1;rw[List.length_mergeSort,List.length_map]at e2;rw[e1,e2]at hr;obtain⟨ao,cap,e⟩:=Al hr;simp only[Value.slice.injEq]at e;obtain⟨rfl,rfl,rfl⟩:=e;exact⟨_,_,rfl,hr,hB⟩
end
section
section
variable {M:BA->Prop} {nm:B8} {r:Nat->Nat->Bool} {X Y:B8}
theorem Md(H:∀l,M (nm,l)↔ ∃i k,i<4/\k<4/\r i k=true/\l=[Ad i,Ad k])(hX:AK X=true)(k:Nat)(hk:k<4)(b:BA):(M b/\∃s,b=(nm,Az s [Ad k,X]))↔ ∃j,j<4/\r k j=true/\b=(nm,[Ad k,Ad j]):=by
 constructor
 ·rintro⟨hM,s,rfl⟩;have e:Az s [Ad k,X]=[Ad k,s X]:=by show [CA s (Ad k),CA s X]=_;rw[CP s k hk];unfold CA;rw[if_pos hX]
  rw[e]at hM⊢;obtain⟨i,j,hi,hj,hr,e⟩:=(H _).1 hM;simp only[List.cons.injEq,and_true]at e;have:=Ek hk hi e.1;subst this;exact⟨j,hj,hr,by rw[e.2]⟩
 ·rintro⟨j,hj,hr,rfl⟩;refine⟨(H _).2 ⟨k,j,hk,hj,hr,rfl⟩,fun _=>Ad j,?_⟩;show _=(nm,[CA _ (Ad k),CA _ X]);rw[CP _ k hk];unfold CA;rw[if_pos hX]
theorem Mc(H:∀l,M (nm,l)↔ ∃i k,i<4/\k<4/\r i k=true/\l=[Ad i,Ad k])(hX:AK X=true)(b:BA):(M b/\∃s,b=(nm,Az s [X,X]))↔ ∃j,j<4/\r j j=true/\b=(nm,[Ad j,Ad j]):=by
 constructor
 ·rintro⟨hM,s,rfl⟩;have e:Az s [X,X]=[s X,s X]:=by simp only[Az,List.map_cons,List.map_nil,CA,if_pos hX]
  rw[e]at hM⊢;obtain⟨i,j,hi,hj,hr,e⟩:=(H _).1 hM;simp only[List.cons.injEq,and_true]at e;have:=Ek hi hj (e.1.symm.trans e.2);subst this;exact⟨i,hi,hr,by rw[e.1]⟩
 ·rintro⟨j,hj,hr,rfl⟩;refine⟨(H _).2 ⟨j,j,hj,hj,hr,rfl⟩,fun _=>Ad j,?_⟩;simp only[Az,List.map_cons,List.map_nil,CA,if_pos hX]
theorem KI(H:∀l,M (nm,l)↔ ∃i k,i<4/\k<4/\r i k=true/\l=[Ad i,Ad k])(hX:AK X=true)(hY:AK Y=true)(hXY:Y≠X)(b:BA):(M b/\∃s,b=(nm,Az s [X,Y]))↔ ∃j,j<16/\r (j / 4) (j%4)=true/\b=(nm,[Ad (j / 4),Ad (j%4)]):=by
 constructor
 ·rintro⟨hM,s,rfl⟩;have e:Az s [X,Y]=[s X,s Y]:=by simp only[Az,List.map_cons,List.map_nil,CA,if_pos hX,if_pos hY]
  rw[e]at hM⊢;obtain⟨i,j,hi,hj,hr,e⟩:=(H _).1 hM;simp only[List.cons.injEq,and_true]at e;refine⟨4*i+j,by omega,?_,?_⟩
  ·rw[show(4*i+j) / 4=i by omega,show(4*i+j)%4=j by omega];exact hr
  ·rw[show(4*i+j) / 4=i by omega,show(4*i+j)%4=j by omega,e.1,e.2]
 ·rintro⟨j,hj,hr,rfl⟩;refine⟨(H _).2 ⟨j / 4,j%4,by omega,by omega,hr,rfl⟩,fun t=>if t=X then Ad (j / 4) else Ad (j%4),?_⟩;simp only[Az,List.map_cons,List.map_nil,CA,if_pos hX,if_pos hY,if_true,if_neg hXY]
theorem NK{r:Nat->Bool}(H:∀x,M (nm,[x])↔ ∃i,i<4/\r i=true/\x=Ad i)(hX:AK X=true)(b:BA):(M b/\∃s,b=(nm,Az s [X]))↔ ∃j,j<4/\r j=true/\b=(nm,[Ad j]):=by
 constructor
 ·rintro⟨hM,s,rfl⟩;have e:Az s [X]=[s X]:=by simp only[Az,List.map_cons,List.map_nil,CA,if_pos hX]
  rw[e]at hM⊢;obtain⟨i,hi,hr,e⟩:=(H _).1 hM;exact⟨i,hi,hr,by rw[e]⟩
 ·rintro⟨j,hj,hr,rfl⟩;refine⟨(H _).2 ⟨j,hj,hr,rfl⟩,fun _=>Ad j,?_⟩;simp only[Az,List.map_cons,List.map_nil,CA,if_pos hX]
end
theorem Fw(nm:B8)(i k:Nat):Bk (nm,[Ad i,Ad k])=EO nm i k:=by simp[Bk,EM,EO,Lib.join]
theorem K5(nm:B8)(i:Nat):Bk (nm,[Ad i])=Li nm i:=by simp[Bk,EM,Li,Lib.join]
theorem MZ(nm:B8)(o:List Bool)(i:Nat):EK nm o i false 4=((List.range 4).filter fun j=>Dm o i j).map fun j=>Bk (nm,[Ad i,Ad j]):=by unfold EK;simp only[Fw,Bool.bne_false];rfl
theorem GK(nm:B8)(o:List Bool):B6 nm o 16=((List.range 16).filter fun j=>Dm o (j / 4) (j%4)).map fun j=>Bk (nm,[Ad (j / 4),Ad (j%4)]):=by unfold B6;simp only[Fw];congr 1
end
end Go.Proofs.YtpbfiffgcgnidaaGreat
