import Derived.Test.YtpbfiffgcgnidaaGreatYal
import Derived.Test.YtpbfiffgcgnidaaGreatY30
import Derived.Test.YtpbfiffgcgnidaaGreatY34
namespace Go.Proofs.YtpbfiffgcgnidaaGreat
set_option maxRecDepth 100000
set_option maxHeartbeats 4000000
set_option linter.unusedSimpArgs false
section
open Go.RowKit
theorem Ng{nm cl:List B8}{n:Int}{x:R3}{an:B8}{ts:List B8}(h:JL nm cl n x (an,ts)):IF (bs an) (ts.length:Nat) cl x=Co (an,ts):=by
 have h0:cl.getD x.a.toNat []=Ab ts 0:=by rw[List.getD_eq_getElem?_getD,h.t0];rfl
 have h1:cl.getD x.b.toNat []=Ab ts 1:=by rw[List.getD_eq_getElem?_getD,h.t1];rfl
 have h2:cl.getD x.c.toNat []=Ab ts 2:=by rw[List.getD_eq_getElem?_getD,h.t2];rfl
 unfold IF;rw[h0,h1,h2];rfl
theorem Gm{nm cl:List B8}{n:Int}{an:B8}{k:Nat}(hk:k<=3):∀(rows:List R3),(∀x∈rows,∃ts,ts.length=k/\JL nm cl n x (an,ts))->rows.flatMap (IF (bs an) (k:Nat) cl)=(rows.map (Iw cl an k)).flatMap Co
 |[],_=>rfl
 |x::r,h=>by obtain⟨ts,hl,hd⟩:=h x (by simp);have h1:=Ng hd;have h2:=hd.decB (by simp only;omega);simp only at h2;rw[List.flatMap_cons,List.map_cons,List.flatMap_cons,Gm hk r (fun y hy=>h y (by simp[hy])),<-hl,h1,h2]
end
end Go.Proofs.YtpbfiffgcgnidaaGreat
