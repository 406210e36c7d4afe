import Derived.Test.YtpbfiffgcgnidaaGreatYal
import Derived.Test.YtpbfiffgcgnidaaGreatY40
import Derived.Test.YtpbfiffgcgnidaaGreatY41
namespace Go.Proofs.YtpbfiffgcgnidaaGreat
set_option maxRecDepth 100000
set_option maxHeartbeats 4000000
set_option linter.unusedSimpArgs false
section
open Go.RowKit
theorem ansC_dec{nm cl:List B8}{n:Int}{x:R3}{an:B8}{ts:List B8}(h:Dec nm cl n x (an,ts)):ansC (bs an) (ts.length:Nat) cl x=atomC (an,ts):=by
 have h0:cl.getD x.a.toNat []=padW ts 0:=by rw[List.getD_eq_getElem?_getD,h.t0];rfl
 have h1:cl.getD x.b.toNat []=padW ts 1:=by rw[List.getD_eq_getElem?_getD,h.t1];rfl
 have h2:cl.getD x.c.toNat []=padW ts 2:=by rw[List.getD_eq_getElem?_getD,h.t2];rfl
 unfold ansC;rw[h0,h1,h2];rfl
theorem rows_atoms{nm cl:List B8}{n:Int}{an:B8}{k:Nat}(hk:k<=3):∀(rows:List R3),(∀x∈rows,∃ts,ts.length=k/\Dec nm cl n x (an,ts))->rows.flatMap (ansC (bs an) (k:Nat) cl)=(rows.map (decB cl an k)).flatMap atomC
 |[],_=>rfl
 |x::r,h=>by obtain⟨ts,hl,hd⟩:=h x (by simp);have h1:=ansC_dec hd;have h2:=hd.decB (by simp only;omega);simp only at h2;rw[List.flatMap_cons,List.map_cons,List.flatMap_cons,rows_atoms hk r (fun y hy=>h y (by simp[hy])),<-hl,h1,h2]
end
end Go.Proofs.YtpbfiffgcgnidaaGreat
