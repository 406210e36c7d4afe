import Derived.Test.YtpbfiffgcgnidaaGreatYal
import Derived.Test.YtpbfiffgcgnidaaGreatY43
import Derived.Test.YtpbfiffgcgnidaaGreatY48
namespace Go.Proofs.YtpbfiffgcgnidaaGreat
set_option maxRecDepth 100000
set_option maxHeartbeats 4000000
set_option linter.unusedSectionVars false
set_option linter.unusedSimpArgs false
open Go.Proofs.Tryz
section
theorem cor_of_core{D L:List ClD}(h:D.map ClD.core=L.map ClD.core):D.map ClD.cor=L.map ClD.cor:=by
 have e:∀l:List ClD,l.map ClD.cor=(l.map ClD.core).map fun c=>(c.1,c.2.1,c.2.2.1):=by intro l;rw[List.map_map];rfl
 rw[e,e,h]
def ruCor(v:Nat):List Cor:=if v=2 then rulesV 2++rulesC else rulesC++rulesV v
theorem Ru_cor(v:Nat)(hv:v<4):(Ru v).map ClD.cor=ruCor v:=four (P:=fun v=>(Ru v).map ClD.cor=ruCor v) (by refine⟨?_,?_,?_,?_⟩<;>kernel_rfl) v hv
theorem mem_ruCor{v:Nat}(hv:v<4){c:Cor}:c∈ruCor v↔c∈rulesC\/c∈rulesV v:=by
 unfold ruCor
 split
 ·rename_i h;subst h;rw[List.mem_append,or_comm]
 ·rw[List.mem_append]
def GivenD(q:List Bool)(v:Nat)(D:List ClD):Prop:=(D.map ClD.cor).Perm ((pairsOf q).map (fun p=>(factC p).cor)++ruCor v)
theorem given_cor{q:List Bool}{v:Nat}(hv:v<4){D:List ClD}(h:D.map ClD.core=((pairsOf q).map factC++Ru v).map ClD.core):GivenD q v D:=by refine List.Perm.of_eq ?_;rw[cor_of_core h,List.map_append,Ru_cor v hv,List.map_map];rfl
theorem GivenD.graph{q:List Bool}{v:Nat}(hv:v<4){D:List ClD}(h:GivenD q v D):GraphD (pairsOf q) v D:=by
 refine⟨?_,?_,?_⟩
 ·intro d hd;have:d.cor∈D.map ClD.cor:=List.mem_map.2 ⟨d,hd,rfl⟩;rw[h.mem_iff,List.mem_append]at this;rcases this with h1|h1
  ·obtain⟨p,hp,e⟩:=List.mem_map.1 h1;exact .inl ⟨p,hp,e.symm⟩
  ·exact .inr ((mem_ruCor hv).1 h1)
 ·intro p hp;have:(factC p).cor∈D.map ClD.cor:=by rw[h.mem_iff];exact List.mem_append.2 (.inl (List.mem_map.2 ⟨p,hp,rfl⟩))
  obtain⟨d,hd,e⟩:=List.mem_map.1 this;exact⟨d,hd,e⟩
 ·intro c hc;have:c∈D.map ClD.cor:=by rw[h.mem_iff];exact List.mem_append.2 (.inr ((mem_ruCor hv).2 hc))
  obtain⟨d,hd,e⟩:=List.mem_map.1 this;exact⟨d,hd,e⟩
theorem mem_pairs(q:List Bool)(i k:Nat)(hi:i<4)(hk:k<4):(i,k)∈pairsOf q↔gOf q i k=true:=by
 unfold pairsOf;rw[List.mem_map];constructor
 ·rintro⟨j,hj,e⟩;obtain⟨_,h2⟩:=List.mem_filter.1 hj;simp only[Prod.mk.injEq]at e;have:j=4*i+k:=by omega
  subst this;exact h2
 ·intro h;refine⟨4*i+k,List.mem_filter.2 ⟨List.mem_range.2 (by omega),h⟩,?_⟩;simp only[Prod.mk.injEq];omega
def layP(n:B8):Nat:=if n=apartB\/n=sinkB\/n=loneB then 1 else 0
def arP(n:B8):Nat:=if n=edgeB\/n=pathB\/n=apartB\/n=hopB then 2 else 1
section
variable {ps:List (Nat×Nat)} {v:Nat} {D:List ClD}
theorem GraphD.each(hD:GraphD ps v D){P:B8->List B8->List LitD->Prop}(hf:∀p∈ps,P edgeB [nodeB p.1,nodeB p.2] [])(hr:∀c∈rulesC++rulesV v,P c.1 c.2.1 c.2.2):∀d∈D,P d.name d.ts d.lits:=by
 intro d hd;rcases hD.of d hd with⟨p,hp,e⟩|e
 ·have e':(d.name,d.ts,d.lits)=(edgeB,[nodeB p.1,nodeB p.2],[]):=e;simp only[Prod.mk.injEq]at e';rw[e'.1,e'.2.1,e'.2.2];exact hf p hp
 ·exact hr d.cor (List.mem_append.2 e)
theorem GraphD.lay(hD:GraphD ps v D)(hv:v<4):LayD layP D:=
 hD.each (P:=fun n _ ls=>∀l∈ls,layP l.name+(if l.neg=true then 1 else 0)<=layP n) (fun p _ l hl=>by simp at hl)
  (four' (P:=fun v=>∀c∈rulesC++rulesV v,∀l∈c.2.2,layP l.name+(if l.neg=true then 1 else 0)<=layP c.1) (by decide) (by decide) (by decide) (by decide) v hv)
theorem GraphD.ask(hD:GraphD ps v D)(hs:Small ps)(hv:v<4)(hn:D.length<=40)(an:B8)(ats:List B8)(hq:ats.length<=3)(ha:ats.length=arP an):AskOk D arP an ats:=by
 refine⟨?_,?_,?_,?_,hq,ha,hn⟩
 ·exact hD.each (P:=fun _ ts ls=>ts.length<=3/\∀l∈ls,l.ts.length<=3) (fun p _=>⟨by simp,fun l hl=>by simp at hl⟩)
   (four' (P:=fun v=>∀c∈rulesC++rulesV v,c.2.1.length<=3/\∀l∈c.2.2,l.ts.length<=3) (by decide) (by decide) (by decide) (by decide) v hv)
 ·exact hD.each (P:=fun _ _ ls=>ls.length<=4) (fun p _=>by simp)
   (four' (P:=fun v=>∀c∈rulesC++rulesV v,c.2.2.length<=4) (by decide) (by decide) (by decide) (by decide) v hv)
 ·exact hD.each (P:=fun n ts ls=>ts.length=arP n/\∀l∈ls,l.ts.length=arP l.name) (fun p _=>⟨rfl,fun l hl=>by simp at hl⟩)
   (four' (P:=fun v=>∀c∈rulesC++rulesV v,c.2.1.length=arP c.1/\∀l∈c.2.2,l.ts.length=arP l.name) (by decide) (by decide) (by decide) (by decide) v hv)
 ·refine hD.each (P:=fun _ ts ls=>∀t,isVar t=true->(t∈ts\/∃l∈ls,l.neg=true/\t∈l.ts)->∃l∈ls,l.neg=false/\t∈l.ts) ?_ ?_
  ·intro p hp t ht h;rcases h with h|⟨l,hl,_⟩
   ·have hw:∀k,k<4->isVar (nodeB k)=false:=four' (P:=fun k=>isVar (nodeB k)=false) (by decide) (by decide) (by decide) (by decide);simp only[List.mem_cons,List.not_mem_nil,or_false]at h;rcases h with rfl|rfl
    ·rw[hw _ (hs p hp).1]at ht;simp at ht
    ·rw[hw _ (hs p hp).2]at ht;simp at ht
   ·simp at hl
  ·have key:∀c∈rulesC++rulesV v,∀t∈c.2.1++c.2.2.flatMap (fun l=>if l.neg=true then l.ts else []),isVar t=true->∃l∈c.2.2,l.neg=false/\t∈l.ts:=
    four' (P:=fun v=>∀c∈rulesC++rulesV v,∀t∈c.2.1++c.2.2.flatMap (fun l=>if l.neg=true then l.ts else []),isVar t=true->∃l∈c.2.2,l.neg=false/\t∈l.ts) (by decide) (by decide) (by decide) (by decide) v hv
   intro c hc t ht h;refine key c hc t ?_ ht;rcases h with h|⟨l,hl,hn,h⟩
   ·exact List.mem_append.2 (.inl h)
   ·exact List.mem_append.2 (.inr (List.mem_flatMap.2 ⟨l,hl,by rw[if_pos hn];exact h⟩))
end
end
section
theorem addW_in{xs:List B8}{k x:B8}:x∈addW xs k↔x∈xs\/x=k:=by
 unfold addW hasW
 split
 ·rename_i h;constructor
  ·exact .inl
  ·rintro(h1|rfl)
   ·exact h1
   ·exact List.contains_iff_mem.1 h
 ·simp
theorem addL_in{l:List B8}:∀{xs:List B8} {x:B8},x∈addL xs l↔x∈xs\/x∈l:=by
 induction l with
 |nil=>intro xs x;simp[addL]
 |cons a l ih=>intro xs x;show x∈addL (addW xs a) l↔_;rw[ih,addW_in,List.mem_cons,or_assoc]
theorem addL_two{l:List B8}:∀{xs:List B8},xs.Nodup->(addL xs l).Nodup:=by
 induction l with
 |nil=>intro xs h;exact h
 |cons a l ih=>intro xs h;exact ih (addW_nodup h)
def atomsK(c:Cor):List (B8×List B8):=(c.1,c.2.1)::c.2.2.map fun l=>(l.name,l.ts)
def workK(n:Nat)(c:Cor):Nat:=if isFactB c.2.2.length c.2.1=true then 0 else n ^ (addL [] (termsV true (atomsK c))).length
theorem work_cor(n:Nat)(D:List ClD):workAll n D=((D.map ClD.cor).map (workK n)).sum:=by unfold workAll;rw[List.map_map];rfl
theorem consts_cor(D:List ClD):constsD D=addL [] ((D.map ClD.cor).flatMap fun c=>termsV false (atomsK c)):=by unfold constsD;rw[List.flatMap_map];rfl
theorem fact_work(n:Nat)(p:Nat×Nat)(hp:p.1<4/\p.2<4):workK n (factC p).cor=0:=
 small_cases (P:=fun i k=>workK n (factC (i,k)).cor=0) (by refine⟨?_,?_,?_,?_,?_,?_,?_,?_,?_,?_,?_,?_,?_,?_,?_,?_⟩<;>rfl) p.1 p.2 hp.1 hp.2
theorem facts_work(n:Nat):∀ps:List (Nat×Nat),Small ps->((ps.map fun p=>(factC p).cor).map (workK n)).sum=0:=by
 intro ps
 induction ps with
 |nil=>intro _;rfl
 |cons p ps ih=>intro h;rw[List.map_cons,List.map_cons,List.sum_cons,fact_work n p (h p (by simp)),ih h.tail]
theorem rules_work(v:Nat)(hv:v<4)(n:Nat)(hn:n<=4):((ruCor v).map (workK n)).sum<=2000:=by
 have key:∀n,n<5->∀v,v<4->((ruCor v).map (workK n)).sum<=2000:=by decide+kernel
 exact key n (by omega) v hv
theorem facts_consts(p:Nat×Nat)(hp:p.1<4/\p.2<4):∀t∈termsV false (atomsK (factC p).cor),t∈[nodeB 0,nodeB 1,nodeB 2,nodeB 3]:=
 small_cases (P:=fun i k=>∀t∈termsV false (atomsK (factC (i,k)).cor),t∈[nodeB 0,nodeB 1,nodeB 2,nodeB 3]) (by refine⟨?_,?_,?_,?_,?_,?_,?_,?_,?_,?_,?_,?_,?_,?_,?_,?_⟩<;>decide) p.1 p.2 hp.1 hp.2
theorem rules_consts(v:Nat)(hv:v<4):∀c∈ruCor v,∀t∈termsV false (atomsK c),t∈[nodeB 0,nodeB 1,nodeB 2,nodeB 3]:=
 four' (P:=fun v=>∀c∈ruCor v,∀t∈termsV false (atomsK c),t∈[nodeB 0,nodeB 1,nodeB 2,nodeB 3]) (by decide) (by decide) (by decide) (by decide) v hv
theorem GivenD.consts{q:List Bool}{v:Nat}(hv:v<4){D:List ClD}(h:GivenD q v D):(constsD D).length<=4:=by
 rw[consts_cor];have hn:(addL [] ((D.map ClD.cor).flatMap fun c=>termsV false (atomsK c))).Nodup:=addL_two (by simp);refine hn.length_le_of_subset (l₂:=[nodeB 0,nodeB 1,nodeB 2,nodeB 3]) ?_;intro t ht;rw[addL_in]at ht;rcases ht with ht|ht
 ·simp at ht
 ·obtain⟨c,hc,ht⟩:=List.mem_flatMap.1 ht;rcases List.mem_append.1 (h.mem_iff.1 hc) with hc|hc
  ·obtain⟨p,hp,rfl⟩:=List.mem_map.1 hc;exact facts_consts p (pairs_small q p hp) t ht
  ·exact rules_consts v hv c hc t ht
theorem GivenD.work{q:List Bool}{v:Nat}(hv:v<4){D:List ClD}(h:GivenD q v D):workAll (max 1 (constsD D).length) D<=2000:=by have hc:=h.consts hv;generalize (constsD D).length=n at hc;rw[work_cor,(h.map _).sum_nat,List.map_append,List.sum_append,facts_work _ _ (pairs_small q),Nat.zero_add];exact rules_work v hv _ (by omega)
end
section
open Go.RowKit
variable [DecidableEq R3] [DecidableEq A4]
def holdG(D:List ClD):BA->Prop:=HD layP D
theorem GivenD.model{q:List Bool}{v:Nat}(hv:v<4){D:List ClD}(h:GivenD q v D){p:Nat->Nat->Bool}(hp:∀i k,i<4->k<4->(p i k=true↔Leads (gOf q) i k)):GraphM (gOf q) p (pairsOf q) v D (holdG D):=
 ⟨pairs_small q,mem_pairs q,hp,hv,h.graph hv,stableD ((h.graph hv).lay hv)⟩
abbrev strsL(L:List B8):List Value:=L.map fun z=>.string (bs z)
theorem askG(w:World)(base bb:Nat)(D:List ClD)(hI:BaseIs w base bb D)(hW:∀d∈D,d.WF)(hn:D.length<=40){q:List Bool}{v:Nat}(hv:v<4)(hG:GivenD q v D)(s:ByteArray)(an:B8)(ats:List B8)(han:an.length<=12)(hts:∀i,(padW ats i).length<=12)(h3:ats.length<=3)(har:ats.length=arP an)(s0 s1 s2 s3 s4:Int)
 (n:Nat)(hn16:n<=16)(P:Nat->Bool)(F:Nat->BA)(hm:∀b,(holdG D b/\∃s,b=(an,putsT s ats))↔ ∃j,j<n/\P j=true/\b=F j)(hF:∀j,j<n->∀t∈(F j).2,t.length<=12)(hs:(List.range n).Pairwise (fun i j=>shownA (F i)<shownA (F j)))
 (L:List B8)(hL:L=((List.range n).filter P).map fun j=>shownA (F j))
 (HR:Hid (∀W:World,Below w.heap.size w W->Calls prog 37 #[.pointer (some ⟨bb,0,none⟩),.string s] W fun e w'=>e=.returned (.tuple #[.agg #[.string (bs an),.int .i64 (ats.length:Nat),.string (bs (padW ats 0)),.string (bs (padW ats 1)),.string (bs (padW ats 2))],.agg #[.int .i64 s0,.int .i64 s1,.int .i64 s2,.int .i64 s3,.int .i64 s4],.int .i64 0,.int .i64 0])/\Below W.heap.size W w')):
 Calls prog 20 #[.pointer (some ⟨bb,0,none⟩),.string s] w fun e w'=>∃vo vc,e=.returned (.tuple #[.slice vo L.length vc,.int .i64 0,.int .i64 0])/\w'.ownsRow w.heap.size 9 1 (.slice vo L.length vc) L.length (strsL L)/\Below w.heap.size w w':=by
 obtain⟨u,hV,hC⟩:=hI;obtain⟨ao,cap,rfl⟩:=hC.form;have hgr:=hG.graph hv;have hlen:∀out:List BA,out.Nodup->(∀b,b∈out↔holdG D b/\∃s,b=(an,putsT s ats))->(out.map shownA).mergeSort (fun x y=>decide (x<=y))=L:=by intro out ho hb;rw[hL];exact ask_list shownA ho n P F (fun b=>(hb b).trans (hm b)) hs
 have hLn:L.length<=16:=by rw[hL,List.length_map];refine Nat.le_trans (List.length_filter_le _ _) ?_;simpa using hn16
 refine(askOk_of (fun w base tb ao cap rules q h1 h2 h3=>cut_c w base tb ao cap rules q h1 h2 h3) w base bb s ao cap hV hC hW an ats han hts s0 s1 s2 s3 s4 (M:=holdG D) (stableD (hgr.lay hv)) (hgr.lay hv) (hgr.ask (pairs_small q) hv hn an ats h3 har) (hG.work hv) ?_ ?_ HR).mono ?_
 ·intro b hb hs' t ht;obtain⟨j,hj,_,rfl⟩:=(hm b).1 ⟨hb,hs'⟩;exact hF j hj t ht
 ·intro out h1 h2;have:=congrArg List.length (hlen out h1 h2);rw[List.length_mergeSort,List.length_map]at this;omega
 ·rintro e w' ⟨vo,vn,vc,rfl,out,h1,h2,hr,hB⟩;have e1:=hlen out h1 h2;have e2:=congrArg List.length e1;rw[List.length_mergeSort,List.length_map]at e2;rw[e1,e2]at hr;obtain⟨ao,cap,e⟩:=own_form hr;simp only[Value.slice.injEq]at e;obtain⟨rfl,rfl,rfl⟩:=e;exact⟨_,_,rfl,hr,hB⟩
end
section
section
variable {M:BA->Prop} {nm:B8} {r:Nat->Nat->Bool} {X Y:B8}
theorem two_from(H:∀l,M (nm,l)↔ ∃i k,i<4/\k<4/\r i k=true/\l=[nodeB i,nodeB k])(hX:isVar X=true)(k:Nat)(hk:k<4)(b:BA):(M b/\∃s,b=(nm,putsT s [nodeB k,X]))↔ ∃j,j<4/\r k j=true/\b=(nm,[nodeB k,nodeB j]):=by
 constructor
 ·rintro⟨hM,s,rfl⟩;have e:putsT s [nodeB k,X]=[nodeB k,s X]:=by show [putT s (nodeB k),putT s X]=_;rw[node_word s k hk];unfold putT;rw[if_pos hX]
  rw[e]at hM⊢;obtain⟨i,j,hi,hj,hr,e⟩:=(H _).1 hM;simp only[List.cons.injEq,and_true]at e;have:=node_inj hk hi e.1;subst this;exact⟨j,hj,hr,by rw[e.2]⟩
 ·rintro⟨j,hj,hr,rfl⟩;refine⟨(H _).2 ⟨k,j,hk,hj,hr,rfl⟩,fun _=>nodeB j,?_⟩;show _=(nm,[putT _ (nodeB k),putT _ X]);rw[node_word _ k hk];unfold putT;rw[if_pos hX]
theorem two_all(H:∀l,M (nm,l)↔ ∃i k,i<4/\k<4/\r i k=true/\l=[nodeB i,nodeB k])(hX:isVar X=true)(hY:isVar Y=true)(hXY:Y≠X)(b:BA):(M b/\∃s,b=(nm,putsT s [X,Y]))↔ ∃j,j<16/\r (j / 4) (j%4)=true/\b=(nm,[nodeB (j / 4),nodeB (j%4)]):=by
 constructor
 ·rintro⟨hM,s,rfl⟩;have e:putsT s [X,Y]=[s X,s Y]:=by simp only[putsT,List.map_cons,List.map_nil,putT,if_pos hX,if_pos hY]
  rw[e]at hM⊢;obtain⟨i,j,hi,hj,hr,e⟩:=(H _).1 hM;simp only[List.cons.injEq,and_true]at e;refine⟨4*i+j,by omega,?_,?_⟩
  ·rw[show(4*i+j) / 4=i by omega,show(4*i+j)%4=j by omega];exact hr
  ·rw[show(4*i+j) / 4=i by omega,show(4*i+j)%4=j by omega,e.1,e.2]
 ·rintro⟨j,hj,hr,rfl⟩;refine⟨(H _).2 ⟨j / 4,j%4,by omega,by omega,hr,rfl⟩,fun t=>if t=X then nodeB (j / 4) else nodeB (j%4),?_⟩;simp only[putsT,List.map_cons,List.map_nil,putT,if_pos hX,if_pos hY,if_true,if_neg hXY]
theorem one_all{r:Nat->Bool}(H:∀x,M (nm,[x])↔ ∃i,i<4/\r i=true/\x=nodeB i)(hX:isVar X=true)(b:BA):(M b/\∃s,b=(nm,putsT s [X]))↔ ∃j,j<4/\r j=true/\b=(nm,[nodeB j]):=by
 constructor
 ·rintro⟨hM,s,rfl⟩;have e:putsT s [X]=[s X]:=by simp only[putsT,List.map_cons,List.map_nil,putT,if_pos hX]
  rw[e]at hM⊢;obtain⟨i,hi,hr,e⟩:=(H _).1 hM;exact⟨i,hi,hr,by rw[e]⟩
 ·rintro⟨j,hj,hr,rfl⟩;refine⟨(H _).2 ⟨j,hj,hr,rfl⟩,fun _=>nodeB j,?_⟩;simp only[putsT,List.map_cons,List.map_nil,putT,if_pos hX]
end
theorem shown_two(nm:B8)(i k:Nat):shownA (nm,[nodeB i,nodeB k])=pairB nm i k:=by simp[shownA,showA,pairB,Lib.join]
theorem shown_one(nm:B8)(i:Nat):shownA (nm,[nodeB i])=oneB nm i:=by simp[shownA,showA,oneB,Lib.join]
theorem col_list(nm:B8)(o:List Bool)(i:Nat):colN nm o i false 4=((List.range 4).filter fun j=>gOf o i j).map fun j=>shownA (nm,[nodeB i,nodeB j]):=by unfold colN;simp only[shown_two,Bool.bne_false];rfl
theorem col_not(nm:B8)(o:List Bool)(i:Nat):colN nm o i true 4=((List.range 4).filter fun j=> !gOf o i j).map fun j=>shownA (nm,[nodeB i,nodeB j]):=by unfold colN;simp only[shown_two,Bool.bne_true];rfl
theorem facts_list(nm:B8)(o:List Bool):factsN nm o 16=((List.range 16).filter fun j=>gOf o (j / 4) (j%4)).map fun j=>shownA (nm,[nodeB (j / 4),nodeB (j%4)]):=by unfold factsN;simp only[shown_two];congr 1
end
end Go.Proofs.YtpbfiffgcgnidaaGreat
