import Derived.Test.YtpbfiffgcgnidaaGreatDoorYal
import Derived.Test.YtpbfiffgcgnidaaGreatDoorY19
namespace Go.Proofs.YtpbfiffgcgnidaaGreatDoor
set_option maxRecDepth 100000
set_option maxHeartbeats 4000000
set_option linter.unusedSimpArgs false
open Go.Proofs.Tryz
section
open Go.RowKit
def D0(b q:Nat):Nat->Nat
 |0=>1
 |n+1=>if q<D0 b q n then D0 b q n else D0 b q n*b
theorem P8(b q:Nat)(hb:1<=b):∀n,D0 b q n=b ^ n\/(q<D0 b q n/\q<b ^ n)
 |0=>.inl (by simp[D0])
 |n+1=>by
  have hg:b ^ n<=b ^ (n+1):=by rw[Nat.pow_succ];exact nK _ hb
  unfold D0;rcases P8 b q hb n with h|⟨h,h'⟩
  ·by_cases j:q<D0 b q n
   ·rw[Ai j];exact .inr ⟨j,by omega⟩
   ·rw[Af j,h];exact .inl rfl
  ·rw[Ai h];exact .inr ⟨h,by omega⟩
theorem Rh(b q:Nat)(j:1<=q)(hb:1<=b):∀n,D0 b q n<=q*b
 |0=>Nat.mul_pos j hb
 |n+1=>by
  unfold D0
  split
  ·exact Rh b q j hb n
  ·rename_i h;exact E3 _ (by omega)
theorem P7(b q n m:Nat)(h:q<D0 b q n)(hm:n<=m):D0 b q m=D0 b q n:=by
 induction m with
 |zero=>rw[show n=0 by omega]
 |succ m j=>
  by_cases e:n=m+1
  ·rw[e]
  ·have:=j (by omega);rw[D0,Ai (by omega)];exact this
theorem eP(w:World)(b e q:Nat)(v:b<=100000)(q2:q<=100000)(he:e<=1000000):
 Calls prog 143 #[.int .i64 (b:Nat),.int .i64 (e:Nat),.int .i64 (q:Nat)] w fun r w'=>r=.returned (.int .i64 (D0 b q e:Nat))/\w'=w:=by
 go_enter func143,ntmps143;go_wp2_with fail
 go_loopw [7,9] (fun c g wr=>∃(k:Nat),k<=e/\g=.int .i64 (k:Nat)/\c=.int .i64 (D0 b q k:Nat)/\wr=w) (fun _ g _=>e-(intOf g).toNat)
 case atStart=>exact⟨0,Cq _,rfl,rfl,rfl⟩
 case round=>
  obtain⟨k,hk,rfl,rfl,rfl⟩:=hrel;obtain⟨p,z⟩:∃p:Nat,D0 b q k=p:=⟨_,rfl⟩;have HP:=Ao z;rw[z];by_cases q0:k<e
  ·have hd:decide ((k:Int)<(e:Int))=true:=by simp;omega
   by_cases u:q<p
   ·have t:(q:Int)<(p:Int):=by omega
    have j:D0 b q e=p:=by rw[<-z];exact P7 b q k e (by omega) (by omega)
    clear z;go_wp2_with fail
    go_ret
    rw[j];exact⟨rfl,rfl⟩
   ·have t:¬(q:Int)<(p:Int):=by omega
    have q1:p*b<=100000*100000:=IS (by omega) v;have y:D0 b q (k+1)=p*b:=by rw[D0,z,Af u]
    obtain⟨m,d⟩:∃m:Nat,p*b=m:=⟨_,rfl⟩;have q3:(p:Int)*(b:Int)=(m:Int):=by rw[<-d];simp
    clear z;go_wp2_with fail;refine⟨⟨k+1,by omega,by simp,by rw[y,d],trivial⟩,?_⟩;simp[intOf];omega
  ·have hd:decide ((k:Int)<(e:Int))=false:=by simp;omega
   have j:D0 b q e=p:=by rw[<-z,show k=e by omega]
   clear z;go_wp2_with fail
   go_ret
   rw[j];exact⟨rfl,rfl⟩
end
end Go.Proofs.YtpbfiffgcgnidaaGreatDoor
