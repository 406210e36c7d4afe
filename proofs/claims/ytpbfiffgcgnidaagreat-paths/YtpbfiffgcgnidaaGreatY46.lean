import Derived.Test.YtpbfiffgcgnidaaGreatYal
import Derived.Test.YtpbfiffgcgnidaaGreatY42
namespace Go.Proofs.YtpbfiffgcgnidaaGreat
set_option maxRecDepth 100000
set_option maxHeartbeats 4000000
set_option linter.unusedSimpArgs false
section
open Go.RowKit
structure JN(wr:World)(base:Nat)(v1:Value)(L1:List B8)(v2:Value)(L2:List B8):Prop where
 r1:wr.ownsRow base 9 1 v1 L1.length (CM L1)
 r2:wr.ownsRow base 9 1 v2 L2.length (CM L2)
 off:∀k,v1.ownBlock=some k->v2.ownBlock≠some k
section
variable {wr:World} {base:Nat} {v1 v2:Value} {L1 L2:List B8}
theorem JN.symm(h:JN wr base v1 L1 v2 L2):JN wr base v2 L2 v1 L1:=⟨h.r2,h.r1,fun k h1 h2=>h.off k h2 h1⟩
theorem JN.alloc(h:JN wr base v1 L1 v2 L2)(o:Obj):JN (wr.alloc o) base v1 L1 v2 L2:=⟨h.r1.alloc o,h.r2.alloc o,h.off⟩
theorem JN.below(h:JN wr base v1 L1 v2 L2){w1:World}(hB:Below wr.heap.size wr w1):JN w1 base v1 L1 v2 L2:=⟨Aq h.r1 hB,Aq h.r2 hB,h.off⟩
theorem JN.drew(h:JN wr base v1 L1 v2 L2):JN wr.drew base v1 L1 v2 L2:=⟨h.r1,h.r2,h.off⟩
theorem JN.push(h:JN wr base v1 L1 v2 L2){x:B8}{g cap:Nat}{w1:World}(ho:w1.ownsRow base 9 1 (.slice (some ⟨g,0,none⟩) (L1.length+1) cap) (L1.length+1) (CM L1++[.string (bs x)]))(hg:wr.grownBy w1 v1.ownBlock)(hp:some g=v1.ownBlock\/g=wr.heap.size):JN w1 base (.slice (some ⟨g,0,none⟩) (L1.length+1) cap) (L1++[x]) v2 L2:=by
 refine⟨?_,?_,?_⟩
 ·have e:CM (L1++[x])=CM L1++[.string (bs x)]:=by simp[CM]
  rw[e,List.length_append];exact ho
 ·refine h.r2.kept hg ?_
  cases hw:v2.ownBlock with
  |none=>exact .inl rfl
  |some k=>exact .inr (fun e=>h.off k e.symm hw)
 ·intro k hk hk';simp only[Value.ownBlock,Option.some.injEq]at hk;rcases hp with e|e
  ·exact h.off k (by rw[<-e,hk]) hk'
  ·have:=(h.r2.lt k hk').2;omega
end
def Dp(o:List Bool)(m:Nat):List B8:=((List.range m).filter fun j=>Dm o j j).map fun j=>EO As j j
def F3(q:List Bool)(j m:Nat):Bool:=(List.range m).any fun k=>Dm q j k
def Ej(q:List Bool)(m:Nat):List B8:=((List.range m).filter fun j=>F3 q j 4).map fun j=>Li DT j
theorem IZ(o:List Bool)(m:Nat):Dp o (m+1)=if Dm o m m=true then Dp o m++[EO As m m] else Dp o m:=by unfold Dp;rw[List.range_succ,List.filter_append,List.map_append];cases h:Dm o m m<;>simp[h]
theorem J4(q:List Bool)(m:Nat):Ej q (m+1)=if F3 q m 4=true then Ej q m++[Li DT m] else Ej q m:=by unfold Ej;rw[List.range_succ,List.filter_append,List.map_append];cases h:F3 q m 4<;>simp[h]
theorem LW(q:List Bool)(j m:Nat):F3 q j (m+1)=(F3 q j m||Dm q j m):=by unfold F3;rw[List.range_succ,List.any_append];simp
theorem JW(o:List Bool)(m:Nat):(Dp o m).length<=m:=by unfold Dp;rw[List.length_map];exact Nat.le_trans (List.length_filter_le _ _) (by simp)
theorem Lh(q:List Bool)(m:Nat):(Ej q m).length<=m:=by unfold Ej;rw[List.length_map];exact Nat.le_trans (List.length_filter_le _ _) (by simp)
def OW(nm:B8)(i:Nat):ByteArray:=(bs nm++⟨#[40]⟩)++bs (Ad i)++⟨#[41]⟩
theorem NL(nm:B8)(i:Nat):OW nm i=bs (Li nm i):=by show(bs nm++bs [40])++bs (Ad i)++bs [41]=_;simp only[Cy];unfold Li;simp only[List.append_assoc]
def PU(q:List Bool):List Value:=[.bool (BP q 0),.bool (BP q 1),.bool (BP q 2),.bool (BP q 3),.bool (BP q 4),.bool (BP q 5),.bool (BP q 6),.bool (BP q 7),.bool (BP q 8),.bool (BP q 9),.bool (BP q 10),.bool (BP q 11),.bool (BP q 12),.bool (BP q 13),.bool (BP q 14),.bool (BP q 15)]
theorem Hw(q:List Bool)(hq:q.length=16):Am q=PU q:=by
 match q,hq with
 |[q0,q1,q2,q3,q4,q5,q6,q7,q8,q9,q10,q11,q12,q13,q14,q15],_=>rfl
end
end Go.Proofs.YtpbfiffgcgnidaaGreat
