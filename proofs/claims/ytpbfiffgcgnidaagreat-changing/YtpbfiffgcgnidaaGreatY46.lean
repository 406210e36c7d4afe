import Derived.Test.YtpbfiffgcgnidaaGreatYal
import Derived.Test.YtpbfiffgcgnidaaGreatY43
namespace Go.Proofs.YtpbfiffgcgnidaaGreat
set_option maxRecDepth 100000
set_option maxHeartbeats 4000000
set_option linter.unusedSimpArgs false
section
open Go.RowKit
structure Two(wr:World)(base:Nat)(v1:Value)(L1:List B8)(v2:Value)(L2:List B8):Prop where
 r1:wr.ownsRow base 9 1 v1 L1.length (strs L1)
 r2:wr.ownsRow base 9 1 v2 L2.length (strs L2)
 off:∀k,v1.ownBlock=some k->v2.ownBlock≠some k
section
variable {wr:World} {base:Nat} {v1 v2:Value} {L1 L2:List B8}
theorem Two.symm(h:Two wr base v1 L1 v2 L2):Two wr base v2 L2 v1 L1:=⟨h.r2,h.r1,fun k h1 h2=>h.off k h2 h1⟩
theorem Two.alloc(h:Two wr base v1 L1 v2 L2)(o:Obj):Two (wr.alloc o) base v1 L1 v2 L2:=⟨h.r1.alloc o,h.r2.alloc o,h.off⟩
theorem Two.below(h:Two wr base v1 L1 v2 L2){w1:World}(hB:Below wr.heap.size wr w1):Two w1 base v1 L1 v2 L2:=⟨own_below h.r1 hB,own_below h.r2 hB,h.off⟩
theorem Two.drew(h:Two wr base v1 L1 v2 L2):Two wr.drew base v1 L1 v2 L2:=⟨h.r1,h.r2,h.off⟩
theorem Two.push(h:Two wr base v1 L1 v2 L2){x:B8}{g cap:Nat}{w1:World}(ho:w1.ownsRow base 9 1 (.slice (some ⟨g,0,none⟩) (L1.length+1) cap) (L1.length+1) (strs L1++[.string (bs x)]))(hg:wr.grownBy w1 v1.ownBlock)(hp:some g=v1.ownBlock\/g=wr.heap.size):Two w1 base (.slice (some ⟨g,0,none⟩) (L1.length+1) cap) (L1++[x]) v2 L2:=by
 refine⟨?_,?_,?_⟩
 ·have e:strs (L1++[x])=strs L1++[.string (bs x)]:=by simp[strs]
  rw[e,List.length_append];exact ho
 ·refine h.r2.kept hg ?_
  cases hw:v2.ownBlock with
  |none=>exact .inl rfl
  |some k=>exact .inr (fun e=>h.off k e.symm hw)
 ·intro k hk hk';simp only[Value.ownBlock,Option.some.injEq]at hk;rcases hp with e|e
  ·exact h.off k (by rw[<-e,hk]) hk'
  ·have:=(h.r2.lt k hk').2;omega
end
def anyG(q:List Bool)(j m:Nat):Bool:=(List.range m).any fun k=>gOf q j k
def oneX(nm:B8)(i:Nat):ByteArray:=(bs nm++⟨#[40]⟩)++bs (nodeB i)++⟨#[41]⟩
theorem oneX_eq(nm:B8)(i:Nat):oneX nm i=bs (oneB nm i):=by show(bs nm++bs [40])++bs (nodeB i)++bs [41]=_;simp only[bs_append];unfold oneB;simp only[List.append_assoc]
def g16(q:List Bool):List Value:=[.bool (qAt q 0),.bool (qAt q 1),.bool (qAt q 2),.bool (qAt q 3),.bool (qAt q 4),.bool (qAt q 5),.bool (qAt q 6),.bool (qAt q 7),.bool (qAt q 8),.bool (qAt q 9),.bool (qAt q 10),.bool (qAt q 11),.bool (qAt q 12),.bool (qAt q 13),.bool (qAt q 14),.bool (qAt q 15)]
theorem gCells_16(q:List Bool)(hq:q.length=16):gCells q=g16 q:=by
 match q,hq with
 |[q0,q1,q2,q3,q4,q5,q6,q7,q8,q9,q10,q11,q12,q13,q14,q15],_=>rfl
end
end Go.Proofs.YtpbfiffgcgnidaaGreat
