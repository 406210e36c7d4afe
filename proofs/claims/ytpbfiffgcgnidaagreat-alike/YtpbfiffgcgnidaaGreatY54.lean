import Derived.Test.YtpbfiffgcgnidaaGreatYal
import Derived.Test.YtpbfiffgcgnidaaGreatY52
namespace Go.Proofs.YtpbfiffgcgnidaaGreat
set_option maxRecDepth 100000
set_option maxHeartbeats 4000000
set_option linter.unusedSectionVars false
set_option linter.unusedSimpArgs false
open Go.Proofs.Tryz
section
set_option maxRecDepth 100000
def cT0:B8:=[110,111,100,101,40,97,41,46]
def cT1:B8:=[110,111,100,101,40,98,41,46]
def cT2:B8:=[110,111,100,101,40,99,41,46]
def cT3:B8:=[110,111,100,101,40,100,41,46]
def cT4:B8:=[97,112,97,114,116,40,88,44,89,41,32,58,45,32,110,111,100,101,40,88,41,44,32,110,111,100,101,40,89,41,44,32,33,112,97,116,104,40,88,44,89,41,46]
def cT5:B8:=[115,105,110,107,40,88,41,32,58,45,32,110,111,100,101,40,88,41,44,32,33,111,117,116,40,88,41,46]
def cT6:B8:=[111,117,116,40,88,41,32,58,45,32,101,100,103,101,40,88,44,89,41,46]
def cT7:B8:=[108,111,110,101,40,88,41,32,58,45,32,97,112,97,114,116,40,88,44,89,41,44,32,33,115,111,109,101,40,88,41,46]
def cT8:B8:=[115,111,109,101,40,88,41,32,58,45,32,112,97,116,104,40,88,44,89,41,46]
def cT9:B8:=[112,97,116,104,40,88,44,89,41,32,58,45,32,101,100,103,101,40,88,44,89,41,46]
def cT10:B8:=[112,97,116,104,40,88,44,90,41,32,58,45,32,112,97,116,104,40,88,44,89,41,44,32,101,100,103,101,40,89,44,90,41,46]
def cT11:B8:=[112,97,116,104,40,88,44,90,41,32,58,45,32,101,100,103,101,40,88,44,89,41,44,32,112,97,116,104,40,89,44,90,41,46]
def cT12:B8:=[112,97,116,104,40,65,44,67,41,32,58,45,32,112,97,116,104,40,65,44,66,41,44,32,112,97,116,104,40,66,44,67,41,46]
def cT13:B8:=[112,97,116,104,40,65,44,66,41,32,58,45,32,101,100,103,101,40,65,44,66,41,46]
def cT14:B8:=[112,97,116,104,40,88,44,89,41,32,58,45,32,104,111,112,40,88,44,89,41,46]
def cT15:B8:=[104,111,112,40,88,44,89,41,32,58,45,32,101,100,103,101,40,88,44,89,41,46]
def cT16:B8:=[104,111,112,40,88,44,90,41,32,58,45,32,104,111,112,40,88,44,89,41,44,32,112,97,116,104,40,89,44,90,41,46]
def partsR:Nat->List B8
 |0=>[cT0,cT1,cT2,cT3,cT4,cT5,cT6,cT7,cT8,cT9,cT10]
 |1=>[cT0,cT1,cT2,cT3,cT4,cT5,cT6,cT7,cT8,cT11,cT9]
 |2=>[cT12,cT13,cT0,cT1,cT2,cT3,cT4,cT5,cT6,cT7,cT8]
 |_=>[cT0,cT1,cT2,cT3,cT4,cT5,cT6,cT7,cT8,cT14,cT15,cT16]
def OneC(t:B8):Prop:=∀rest:B8,(clauseR s0 (t++rest)).core=(true,(clauseR s0 t).d.core,rest)/\skipL (t++rest)=t++rest/\(t++rest).isEmpty=false
theorem one0:OneC cT0:=fun rest=>⟨by kernel_rfl,rfl,rfl⟩
theorem one1:OneC cT1:=fun rest=>⟨by kernel_rfl,rfl,rfl⟩
theorem one2:OneC cT2:=fun rest=>⟨by kernel_rfl,rfl,rfl⟩
theorem one3:OneC cT3:=fun rest=>⟨by kernel_rfl,rfl,rfl⟩
theorem one4:OneC cT4:=fun rest=>⟨by kernel_rfl,rfl,rfl⟩
theorem one5:OneC cT5:=fun rest=>⟨by kernel_rfl,rfl,rfl⟩
theorem one6:OneC cT6:=fun rest=>⟨by kernel_rfl,rfl,rfl⟩
theorem one7:OneC cT7:=fun rest=>⟨by kernel_rfl,rfl,rfl⟩
theorem one8:OneC cT8:=fun rest=>⟨by kernel_rfl,rfl,rfl⟩
theorem one9:OneC cT9:=fun rest=>⟨by kernel_rfl,rfl,rfl⟩
theorem one10:OneC cT10:=fun rest=>⟨by kernel_rfl,rfl,rfl⟩
theorem one11:OneC cT11:=fun rest=>⟨by kernel_rfl,rfl,rfl⟩
theorem one12:OneC cT12:=fun rest=>⟨by kernel_rfl,rfl,rfl⟩
theorem one13:OneC cT13:=fun rest=>⟨by kernel_rfl,rfl,rfl⟩
theorem one14:OneC cT14:=fun rest=>⟨by kernel_rfl,rfl,rfl⟩
theorem one15:OneC cT15:=fun rest=>⟨by kernel_rfl,rfl,rfl⟩
theorem one16:OneC cT16:=fun rest=>⟨by kernel_rfl,rfl,rfl⟩
def joinB(ts:List B8):B8:=ts.flatMap fun t=>t++[32]
theorem prog_parts:∀(ts:List B8),(∀t∈ts,OneC t)->∀(f:Nat) (ds:List ClD) (l:B8),∃ds',ds'.map ClD.core=ds.map ClD.core++ts.map (fun t=>(clauseR s0 t).d.core)/\progR s0 (f+ts.length) ds (joinB ts++l)=progR s0 f ds' l:=by
 intro ts
 induction ts with
 |nil=>intro _ f ds l;exact⟨ds,by simp,rfl⟩
 |cons t ts ih=>
  intro h f ds l;obtain⟨hc,hk,he⟩:=h t (by simp) (32::(joinB ts++l));have e1:joinB (t::ts)++l=t++32::(joinB ts++l):=by simp[joinB]
  simp only[ClR.core,Prod.mk.injEq]at hc;obtain⟨c1,c2,c3⟩:=hc;obtain⟨ds',h1,h2⟩:=ih (fun x hx=>h x (by simp[hx])) f (ds++[(clauseR s0 (t++32::(joinB ts++l))).d]) l;refine⟨ds',?_,?_⟩
  ·rw[h1];simp[c2]
  ·rw[e1,List.length_cons,show f+(ts.length+1)=(f+ts.length)+1 by omega];rw[progR,hk,if_neg (by rw[he];simp),c1,if_neg (by simp),c3,prog_blank _ _ _ _ _ (by decide),h2]
end
section
theorem prog_one(t:B8)(h:OneC t)(f:Nat)(ds:List ClD)(l:B8):∃d:ClD,d.core=(clauseR s0 t).d.core/\progR s0 (f+1) ds (t++l)=progR s0 f (ds++[d]) l:=by obtain⟨hc,hk,he⟩:=h l;simp only[ClR.core,Prod.mk.injEq]at hc;obtain⟨c1,c2,c3⟩:=hc;refine⟨(clauseR s0 (t++l)).d,c2,?_⟩;rw[progR,hk,if_neg (by rw[he];simp),c1,if_neg (by simp),c3]
theorem prog_end(s:ByteArray)(f:Nat)(ds:List ClD):(progR s f ds []).ok=true/\(progR s f ds []).cls=ds:=by cases f<;>simp[progR,skipL]
def allT:List B8:=[cT0,cT1,cT2,cT3,cT4,cT5,cT6,cT7,cT8,cT9,cT10,cT11,cT12,cT13,cT14,cT15,cT16]
theorem all_one:∀t∈allT,OneC t:=by
 unfold allT;simp only[List.mem_cons,List.not_mem_nil,or_false];rintro t (rfl|rfl|rfl|rfl|rfl|rfl|rfl|rfl|rfl|rfl|rfl|rfl|rfl|rfl|rfl|rfl|rfl)
 ·exact one0
 ·exact one1
 ·exact one2
 ·exact one3
 ·exact one4
 ·exact one5
 ·exact one6
 ·exact one7
 ·exact one8
 ·exact one9
 ·exact one10
 ·exact one11
 ·exact one12
 ·exact one13
 ·exact one14
 ·exact one15
 ·exact one16
def initR(v:Nat):List B8:=(partsR v).dropLast
def lastR(v:Nat):B8:=(partsR v).getLastD []
def tailR(v:Nat):B8:=if v=2 then [32] else []
theorem rules_parts(v:Nat)(hv:v<4):rulesT v=joinB (initR v)++(lastR v++tailR v):=four (P:=fun v=>rulesT v=joinB (initR v)++(lastR v++tailR v)) (by decide+kernel) v hv
theorem parts_in:∀v,v<4->(∀t∈initR v,t∈allT)/\lastR v∈allT/\(initR v).length<=11:=by decide+kernel
theorem parts_core(v:Nat)(hv:v<4):(initR v++[lastR v]).map (fun t=>(clauseR s0 t).d.core)=(Ru v).map ClD.core:=four (P:=fun v=>(initR v++[lastR v]).map (fun t=>(clauseR s0 t).d.core)=(Ru v).map ClD.core) (by refine⟨?_,?_,?_,?_⟩<;>kernel_rfl) v hv
theorem prog_tail(v f:Nat)(ds:List ClD)(l:B8):progR s0 f ds (tailR v++l)=progR s0 f ds l:=by
 unfold tailR
 split
 ·exact prog_blank _ _ _ _ _ (by decide)
 ·rfl
theorem arityN_ar(ar:B8->Nat):∀(l:List (B8×Nat)) (xs:List B8),(∀a∈l,a.2=ar a.1)->arityN xs (xs.map ar) l=true:=by
 intro l
 induction l with
 |nil=>intro xs _;rfl
 |cons a l ih=>
  intro xs h;obtain⟨k,n⟩:=a;have ha:n=ar k:=h (k,n) (by simp);have hl:=fun b hb=>h b (List.mem_cons_of_mem _ hb);rw[arityN]
  split
  ·rename_i hx;have hk:k∈xs:=List.contains_iff_mem.1 hx;rw[if_pos,ih xs hl];unfold posIn;have hi:=List.idxOf_lt_length_of_mem hk;rw[if_pos hk,List.getD_eq_getElem?_getD,List.getElem?_map,List.getElem?_eq_getElem hi,List.getElem_idxOf];exact ha.symm
  ·have:=ih (xs++[k]) hl
   rwa [List.map_append,List.map_singleton,<-ha]at this
theorem needs_facts(ps:List (Nat×Nat))(R:List ClD):needsR (R++ps.map factC)=needsR R:=by
 have h1:needStep (R++ps.map factC)=needStep R:=by
  funext nm xs
  unfold needStep;rw[List.foldl_append];generalize List.foldl _ xs R=ys
  induction ps generalizing ys with
  |nil=>rfl
  |cons p ps ih=>rw[List.map_cons,List.foldl_cons,show(if(factC p).name=nm then addNames ys (factC p).lits else ys)=ys by split<;>rfl];exact ih ys
 have h2:allNames (R++ps.map factC)=allNames R:=by
  funext nm
  have e:∀ps:List (Nat×Nat),(ps.map factC).flatMap (fun d=>d.lits.map fun l=>l.name)=[]:=by
   intro ps
   induction ps with
   |nil=>rfl
   |cons p ps ih=>rw[List.map_cons,List.flatMap_cons,ih];rfl
  unfold allNames;rw[List.flatMap_append,e,List.append_nil]
 have hg:∀f i xs,needGo (R++ps.map factC) f i xs=needGo R f i xs:=by
  intro f
  induction f with
  |zero=>intro i xs;rfl
  |succ f ih=>intro i xs;unfold needGo;rw[h1];split<;>simp[ih]
 funext nm
 unfold needsR;rw[h2];exact hg _ _ _
theorem Ru_arity(v:Nat)(hv:v<4):∀a∈((Ru v).map ClD.core).flatMap coreItems,a.2=arP a.1:=four (P:=fun v=>∀a∈((Ru v).map ClD.core).flatMap coreItems,a.2=arP a.1) (by decide+kernel) v hv
theorem other_sound(ps:List (Nat×Nat))(hp:Small ps)(v:Nat)(hv:v<4):sound (Ru v++ps.map factC)=true:=by
 have h:=Ru_sound v hv;unfold ruSound at h;simp only[Bool.and_eq_true]at h;obtain⟨⟨-,-⟩,h3,h4⟩:=h;unfold sound;rw[needs_facts,List.map_append,List.flatMap_append,List.all_append,List.all_append,facts_items,facts_safe ps hp,facts_lay,h3,h4];simp only[Bool.and_true];refine arityN_ar arP _ [] ?_;intro a ha;rcases List.mem_append.1 ha with ha|ha
 ·exact Ru_arity v hv a ha
 ·rw[(List.mem_replicate.1 ha).2];rfl
def otherT(q:List Bool)(v:Nat):B8:=rulesT v++textR (factsTo q 16)
theorem other_core(q:List Bool)(v:Nat)(hv:v<4):
 loadE (bs (otherT q v))=(0,0)/\(programR (bs (otherT q v))).cls.map ClD.core=(Ru v++(pairsOf q).map factC).map ClD.core:=by
 have hp:=pairs_small q;have hn:=pairs_len q;have hl:=Rt_len v hv;obtain⟨ha1,ha2,ha3⟩:=parts_in v hv;have hpc:=parts_core v hv;have hrp:=rules_parts v hv;unfold otherT;rw[text_pairs];generalize pairsOf q=ps at*;generalize rulesT v=rt at*;generalize hm:(initR v).length=m at*;obtain⟨d1,h1,e1⟩:=prog_parts (initR v) (fun t ht=>all_one t (ha1 t ht)) (40-m) [] (lastR v++(tailR v++factsW 32 ps));obtain⟨d,h2,e2⟩:=prog_one (lastR v) (all_one _ ha2) (39-m) d1 (tailR v++factsW 32 ps);obtain⟨ds',h3,e3⟩:=prog_facts 32 (by decide) ps hp (39-m-ps.length) (d1++[d]) [];rw[hm,show 40-m+m=40 by omega]at e1;rw[show 39-m+1=40-m by omega]at e2;rw[show 39-m-ps.length+ps.length=39-m by omega,List.append_nil]at e3;rw[e2,prog_tail,e3]at e1;have hT:joinB (initR v)++(lastR v++(tailR v++factsW 32 ps))=rt++factsW 32 ps:=by rw[hrp];simp
 rw[hT]at e1;obtain⟨z1,z2⟩:=prog_end s0 (39-m-ps.length) ds';obtain⟨k1,k2,k3⟩:=progR_core (bs (rt++factsW 32 ps)) s0 40 [] [] (rt++factsW 32 ps) rfl;rw[e1,z1]at k1;rw[e1,z2]at k3;have hb:(bs (rt++factsW 32 ps)).data.toList=rt++factsW 32 ps:=bs_data _;have hsz:(bs (rt++factsW 32 ps)).size=(rt++factsW 32 ps).length:=bs_size' _;have hcore:(programR (bs (rt++factsW 32 ps))).cls.map ClD.core=(Ru v++ps.map factC).map ClD.core:=by unfold programR;rw[hb,k3,h3,List.map_append,List.map_append,<-hpc,List.map_append,h1,List.map_singleton,List.map_singleton,<-h2];rfl
 have hok':(programR (bs (rt++factsW 32 ps))).ok=true:=by unfold programR;rw[hb,k1]
 refine⟨?_,hcore⟩;unfold loadE;rw[if_neg (by rw[hsz,List.length_append,factsW_len];omega),hok',if_neg (by simp)];apply faultR_sound;rw[sound_core _ _ hcore];exact other_sound ps hp v hv
theorem other_len(q:List Bool)(v:Nat)(hv:v<4):(otherT q v).length<=2000:=by unfold otherT;have h1:=Rt_len v hv;have h2:=pairs_len q;rw[text_pairs,List.length_append,factsW_len];omega
theorem other_cor{q:List Bool}{v:Nat}(hv:v<4){D:List ClD}(h:D.map ClD.core=(Ru v++(pairsOf q).map factC).map ClD.core):GivenD q v D:=by
 have e:D.map ClD.cor=ruCor v++(pairsOf q).map (fun p=>(factC p).cor):=by rw[cor_of_core h,List.map_append,Ru_cor v hv,List.map_map];rfl
 unfold GivenD;rw[e];exact List.perm_append_comm
end
section
open Go.RowKit
variable [DecidableEq R3] [DecidableEq A4]
def Asks(base bb:Nat)(D:List ClD)(s:B8)(L:List B8):Prop:=
 ∀U:World,BaseIs U base bb D->
  Calls prog 20 #[.pointer (some ⟨bb,0,none⟩),.string (bs s)] U fun e w'=>∃vo vc,e=.returned (.tuple #[.slice vo L.length vc,.int .i64 0,.int .i64 0])/\w'.ownsRow U.heap.size 9 1 (.slice vo L.length vc) L.length (strs L)/\Below U.heap.size U w'
theorem asks_of{base bb:Nat}{D:List ClD}(hW:∀d∈D,d.WF)(hn:D.length<=40){q:List Bool}{v:Nat}(hv:v<4)(hG:GivenD q v D)(s an:B8)(ats:List B8)(hs:s.length<=2000)(hr:readsQ s an ats=true)(hk:an=edgeB\/an=pathB\/an=apartB\/an=outB\/an=sinkB\/an=loneB)(har:ats.length=arP an)(hts:∀i,(padW ats i).length<=12)
 (n:Nat)(hn16:n<=16)(P:Nat->Bool)(F:Nat->BA)(hm:∀b,(holdG D b/\∃s,b=(an,putsT s ats))↔ ∃j,j<n/\P j=true/\b=F j)(hF:∀j,j<n->∀t∈(F j).2,t.length<=12)(hso:(List.range n).Pairwise (fun i j=>shownA (F i)<shownA (F j)))
 (L:List B8)(hL:L=((List.range n).filter P).map fun j=>shownA (F j)):Asks base bb D s L:=by
 intro W hI';obtain⟨s0,s1,s2,s3,s4,HR⟩:=readG W base bb D hI' hW hn hv hG s an ats hs hr hk har;refine askG W base bb D hI' hW hn hv hG (bs s) an ats ?_ hts ?_ har s0 s1 s2 s3 s4 n hn16 P F hm hF hso L hL HR
 ·rcases hk with rfl|rfl|rfl|rfl|rfl|rfl<;>decide
 ·rw[har];unfold arP
  split<;>omega
def notN(nm:B8)(o:List Bool):List B8:=((List.range 16).filter fun j=> !gOf o (j / 4) (j%4)).map fun j=>shownA (nm,[nodeB (j / 4),nodeB (j%4)])
theorem filter_both{A:Type}(p:A->Bool)(l:List A):(l.filter p).length+(l.filter fun x=> !p x).length=l.length:=by
 induction l with
 |nil=>rfl
 |cons a l ih=>cases h:p a<;>simp[h]<;>omega
theorem both_16(o:List Bool):(factsN pathB o 16).length+(notN apartB o).length=16:=by rw[facts_list,notN,List.length_map,List.length_map,filter_both,List.length_range]
section
variable {base bb:Nat} {D:List ClD} {q o:List Bool} {v:Nat}
theorem asks_path(hW:∀d∈D,d.WF)(hn:D.length<=40)(hv:v<4)(hG:GivenD q v D)(ho:∀i k,i<4->k<4->(gOf o i k=true↔Leads (gOf q) i k))(s x y:B8)(hs:s.length<=2000)(hr:readsQ s pathB [x,y]=true)(hx:isVar x=true)(hy:isVar y=true)(hxy:x≠y)(h1:x.length<=12)(h2:y.length<=12):Asks base bb D s (factsN pathB o 16):=by
 have hM:=hG.model hv ho;refine asks_of hW hn hv hG s pathB [x,y] hs hr (.inr (.inl rfl)) rfl (pad_short _ (by intro t ht;simp only[List.mem_cons,List.not_mem_nil,or_false]at ht;rcases ht with rfl|rfl<;>assumption)) 16 (by omega) (fun j=>gOf o (j / 4) (j%4)) (fun j=>(pathB,[nodeB (j / 4),nodeB (j%4)])) (two_all hM.path hx hy (Ne.symm hxy)) ?_ (by decide+kernel) _ (facts_list pathB o);intro j _ t ht;simp only[List.mem_cons,List.not_mem_nil,or_false]at ht;rcases ht with rfl|rfl<;>exact node_short _
theorem asks_apart(hW:∀d∈D,d.WF)(hn:D.length<=40)(hv:v<4)(hG:GivenD q v D)(ho:∀i k,i<4->k<4->(gOf o i k=true↔Leads (gOf q) i k))(s x y:B8)(hs:s.length<=2000)(hr:readsQ s apartB [x,y]=true)(hx:isVar x=true)(hy:isVar y=true)(hxy:x≠y)(h1:x.length<=12)(h2:y.length<=12):Asks base bb D s (notN apartB o):=by
 have hM:=hG.model hv ho;have hA:∀l,holdG D (apartB,l)↔ ∃i k,i<4/\k<4/\(!gOf o i k)=true/\l=[nodeB i,nodeB k]:=by intro l;rw[hM.apart];simp only[Bool.not_eq_true']
 refine asks_of hW hn hv hG s apartB [x,y] hs hr (.inr (.inr (.inl rfl))) rfl (pad_short _ (by intro t ht;simp only[List.mem_cons,List.not_mem_nil,or_false]at ht;rcases ht with rfl|rfl<;>assumption)) 16 (by omega) (fun j=> !gOf o (j / 4) (j%4)) (fun j=>(apartB,[nodeB (j / 4),nodeB (j%4)])) (two_all (r:=fun i k=> !gOf o i k) hA hx hy (Ne.symm hxy)) ?_ (by decide+kernel) _ rfl;intro j _ t ht;simp only[List.mem_cons,List.not_mem_nil,or_false]at ht;rcases ht with rfl|rfl<;>exact node_short _
end
theorem leads_is(q:List Bool):∃o:List Bool,∀i k,i<4->k<4->(gOf o i k=true↔Leads (gOf q) i k):=by refine⟨(List.range 16).map fun j=>@decide (Leads (gOf q) (j / 4) (j%4)) (Classical.propDecidable _),?_⟩;intro i k hi hk;unfold gOf;rw[List.getD_eq_getElem?_getD,List.getElem?_map,List.getElem?_range (by omega)];simp only[Option.map_some,Option.getD_some,decide_eq_true_eq];rw[show(4*i+k) / 4=i by omega,show(4*i+k)%4=k by omega]
def qAll2:B8:=[32,112,97,116,104,32,40,32,70,111,111,32,44,32,66,52,114,32,41,32]
def qAp:B8:=apartB++[40,88,44,89,41]
def qAp2:B8:=apartB++[40,89,44,88,41]
theorem r_all:readsQ qAll pathB [vX,vY]=true:=by decide+kernel
theorem r_all2:readsQ qAll2 pathB [[70,111,111],[66,52,114]]=true:=by decide+kernel
theorem r_ap:readsQ qAp apartB [vX,vY]=true:=by decide+kernel
theorem r_ap2:readsQ qAp2 apartB [vY,vX]=true:=by decide+kernel
end
end Go.Proofs.YtpbfiffgcgnidaaGreat
