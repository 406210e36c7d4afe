import Derived.Test.YtpbfiffgcgnidaaGreatDoorYal
import Derived.Test.YtpbfiffgcgnidaaGreatDoorY7
namespace Go.Proofs.YtpbfiffgcgnidaaGreatDoor
set_option maxRecDepth 100000
set_option maxHeartbeats 4000000
set_option linter.unusedSimpArgs false
section
open Go.RowKit
def Y5(v v':Value):Prop:=∀k,v.ownBlock=some k->v'.ownBlock≠some k
theorem Y5.symm{v v':Value}(h:Y5 v v'):Y5 v' v:=fun k h1 h2=>h k h2 h1
def MI(t:TypeId):Prop:=59≠t/\86≠t/\76≠t/\71≠t/\29≠t/\44≠t
def DF(w w':World):Prop:=∀t,MI t->∀ob cs,Aw w ob cs t->Aw w' ob cs t
theorem DF.op{w w':World}(h:DF w w'):∀ob cs,Aw w ob cs 33->Aw w' ob cs 33:=fun ob cs=>h _ (by unfold MI;decide) ob cs
theorem DF.ab{w w':World}(hb:Below w.heap.size w w'):DF w w':=fun _ _ _ _ h=>h.below hb
theorem DF.trans{w w1 w2:World}(h:DF w w1)(q:DF w1 w2):DF w w2:=fun t hq ob cs hb=>q t hq ob cs (h t hq ob cs hb)
end
end Go.Proofs.YtpbfiffgcgnidaaGreatDoor
