import Derived.Test.YtpbfiffgcgnidaaGreatYal
import Derived.Test.YtpbfiffgcgnidaaGreatY50
namespace Go.Proofs.YtpbfiffgcgnidaaGreat
set_option maxRecDepth 100000
set_option maxHeartbeats 4000000
set_option linter.unusedSectionVars false
set_option linter.unusedSimpArgs false
section
open Go.RowKit
variable [DecidableEq R3] [DecidableEq A4]
def qApart(k:Nat):B8:=apartB++([40]++nodeB k++[44,89,41])
def qSink:B8:=sinkB++[40,88,41]
def qLone:B8:=loneB++[40,88,41]
def noneN(nm:B8)(q:List Bool)(m:Nat):List B8:=((List.range m).filter fun j=> !anyG q j 4).map fun j=>oneB nm j
theorem noneN_succ(nm:B8)(q:List Bool)(m:Nat):noneN nm q (m+1)=if anyG q m 4=true then noneN nm q m else noneN nm q m++[oneB nm m]:=by unfold noneN;rw[List.range_succ,List.filter_append,List.map_append];cases h:anyG q m 4<;>simp[h]
theorem noneN_len(nm:B8)(q:List Bool)(m:Nat):(noneN nm q m).length<=m:=by unfold noneN;rw[List.length_map];exact Nat.le_trans (List.length_filter_le _ _) (by simp)
theorem noG_iff(q:List Bool)(i:Nat):(!anyG q i 4)=true↔ ∀k,k<4->gOf q i k=false:=by
 rw[Bool.not_eq_true',Bool.eq_false_iff,ne_eq,anyG_iff];constructor
 ·intro h k hk;cases hg:gOf q i k
  ·rfl
  ·exact absurd ⟨k,hk,hg⟩ h
 ·rintro h ⟨k,hk,hg⟩;rw[h k hk]at hg;simp at hg
section
variable {base bb:Nat} {D:List ClD} {q o:List Bool} {v:Nat}
theorem says_apart(hW:∀d∈D,d.WF)(hn:D.length<=40)(hv:v<4)(hG:GivenD q v D)(ho:∀i k,i<4->k<4->(gOf o i k=true↔Leads (gOf q) i k))(k:Nat)(hk:k<4):Says base bb D (qApart k) (colN apartB o k true 4):=by
 have hM:=hG.model hv ho;have hA:∀l,holdG D (apartB,l)↔ ∃i k,i<4/\k<4/\(!gOf o i k)=true/\l=[nodeB i,nodeB k]:=by intro l;rw[hM.apart];simp only[Bool.not_eq_true']
 refine says_of hW hn hv hG (qApart k) apartB [nodeB k,vY] (by simp[qApart,apartB,nodeB]) ?_ (.inr (.inr (.inl rfl))) rfl (pad_short _ (by intro t ht;simp only[List.mem_cons,List.not_mem_nil,or_false]at ht;rcases ht with rfl|rfl<;>simp[nodeB,vY])) 4 (by omega) (fun j=> !gOf o k j) (fun j=>(apartB,[nodeB k,nodeB j])) (two_from (r:=fun i k=> !gOf o i k) hA rfl k hk) ?_ ?_ _ (col_not apartB o k)
 ·exact four' (P:=fun k=>readsQ (qApart k) apartB [nodeB k,vY]=true) (by decide+kernel) (by decide+kernel) (by decide+kernel) (by decide+kernel) k hk
 ·intro j _ t ht;simp only[List.mem_cons,List.not_mem_nil,or_false]at ht;rcases ht with rfl|rfl<;>exact node_short _
 ·exact four' (P:=fun k=>(List.range 4).Pairwise (fun i j=>shownA (apartB,[nodeB k,nodeB i])<shownA (apartB,[nodeB k,nodeB j]))) (by decide+kernel) (by decide+kernel) (by decide+kernel) (by decide+kernel) k hk
theorem says_sink(hW:∀d∈D,d.WF)(hn:D.length<=40)(hv:v<4)(hG:GivenD q v D)(ho:∀i k,i<4->k<4->(gOf o i k=true↔Leads (gOf q) i k)):Says base bb D qSink (noneN sinkB q 4):=by
 have hM:=hG.model hv ho
 have hA:∀x,holdG D (sinkB,[x])↔ ∃i,i<4/\(!anyG q i 4)=true/\x=nodeB i:=by
  intro x;rw[hM.sink];constructor
  ·rintro⟨i,hi,h,e⟩;simp only[List.cons.injEq,and_true]at e;exact⟨i,hi,(noG_iff q i).2 h,e⟩
  ·rintro⟨i,hi,h,rfl⟩;exact⟨i,hi,(noG_iff q i).1 h,rfl⟩
 refine says_of hW hn hv hG qSink sinkB [vX] (by decide) (by decide+kernel) (.inr (.inr (.inr (.inr (.inl rfl))))) rfl (pad_short _ (by decide)) 4 (by omega) (fun j=> !anyG q j 4) (fun j=>(sinkB,[nodeB j])) (one_all hA rfl) ?_ (by decide+kernel) _ ?_
 ·intro j _ t ht;simp only[List.mem_cons,List.not_mem_nil,or_false]at ht;subst ht;exact node_short _
 ·unfold noneN;simp only[shown_one]
theorem says_lone(hW:∀d∈D,d.WF)(hn:D.length<=40)(hv:v<4)(hG:GivenD q v D)(ho:∀i k,i<4->k<4->(gOf o i k=true↔Leads (gOf q) i k)):Says base bb D qLone (noneN loneB q 4):=by
 have hM:=hG.model hv ho
 have hA:∀x,holdG D (loneB,[x])↔ ∃i,i<4/\(!anyG q i 4)=true/\x=nodeB i:=by
  intro x;rw[hM.lone];constructor
  ·rintro⟨i,hi,h,e⟩;simp only[List.cons.injEq,and_true]at e;exact⟨i,hi,(noG_iff q i).2 h,e⟩
  ·rintro⟨i,hi,h,rfl⟩;exact⟨i,hi,(noG_iff q i).1 h,rfl⟩
 refine says_of hW hn hv hG qLone loneB [vX] (by decide) (by decide+kernel) (.inr (.inr (.inr (.inr (.inr rfl))))) rfl (pad_short _ (by decide)) 4 (by omega) (fun j=> !anyG q j 4) (fun j=>(loneB,[nodeB j])) (one_all hA rfl) ?_ (by decide+kernel) _ ?_
 ·intro j _ t ht;simp only[List.mem_cons,List.not_mem_nil,or_false]at ht;subst ht;exact node_short _
 ·unfold noneN;simp only[shown_one]
end
end
end Go.Proofs.YtpbfiffgcgnidaaGreat
