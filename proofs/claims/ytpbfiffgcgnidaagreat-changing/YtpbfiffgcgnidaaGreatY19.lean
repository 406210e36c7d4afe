import Derived.Test.YtpbfiffgcgnidaaGreatYal
import Derived.Test.YtpbfiffgcgnidaaGreatY12
namespace Go.Proofs.YtpbfiffgcgnidaaGreat
set_option maxRecDepth 100000
set_option maxHeartbeats 4000000
set_option linter.unusedSimpArgs false
open Go.Proofs.Tryz
section
open Go.RowKit
def powS(b lim:Nat):Nat->Nat
 |0=>1
 |n+1=>if lim<powS b lim n then powS b lim n else powS b lim n*b
theorem powS_spec(b lim:Nat)(hb:1<=b):∀n,powS b lim n=b ^ n\/(lim<powS b lim n/\lim<b ^ n)
 |0=>.inl (by simp[powS])
 |n+1=>by
  have hg:b ^ n<=b ^ (n+1):=by rw[Nat.pow_succ];exact Nat.le_mul_of_pos_right _ hb
  unfold powS;rcases powS_spec b lim hb n with h|⟨h,h'⟩
  ·by_cases hl:lim<powS b lim n
   ·rw[if_pos hl];exact .inr ⟨hl,by omega⟩
   ·rw[if_neg hl,h];exact .inl rfl
  ·rw[if_pos h];exact .inr ⟨h,by omega⟩
theorem powS_le(b lim:Nat)(hl:1<=lim)(hb:1<=b):∀n,powS b lim n<=lim*b
 |0=>Nat.mul_pos hl hb
 |n+1=>by
  unfold powS
  split
  ·exact powS_le b lim hl hb n
  ·rename_i h;exact Nat.mul_le_mul_right _ (by omega)
theorem powS_stop(b lim n m:Nat)(h:lim<powS b lim n)(hm:n<=m):powS b lim m=powS b lim n:=by
 induction m with
 |zero=>rw[show n=0 by omega]
 |succ m ih=>
  by_cases e:n=m+1
  ·rw[e]
  ·have:=ih (by omega);rw[powS,if_pos (by omega)];exact this
theorem power_c(w:World)(b e lim:Nat)(hbl:b<=100000)(hll:lim<=100000)(he:e<=1000000):
 Calls prog 60 #[.int .i64 (b:Nat),.int .i64 (e:Nat),.int .i64 (lim:Nat)] w fun r w'=>r=.returned (.int .i64 (powS b lim e:Nat))/\w'=w:=by
 go_enter func60,ntmps60;go_wp2_with fail
 go_loopw [7,9] (fun pv iv wr=>∃(k:Nat),k<=e/\iv=.int .i64 (k:Nat)/\pv=.int .i64 (powS b lim k:Nat)/\wr=w) (fun _ iv _=>e-(intOf iv).toNat)
 case atStart=>exact⟨0,Nat.zero_le _,rfl,rfl,rfl⟩
 case round=>
  obtain⟨k,hk,rfl,rfl,rfl⟩:=hrel;obtain⟨p,hp⟩:∃p:Nat,powS b lim k=p:=⟨_,rfl⟩;have HP:=hid hp;rw[hp];by_cases hke:k<e
  ·have hd:decide ((k:Int)<(e:Int))=true:=by simp;omega
   by_cases hpl:lim<p
   ·have hg:(lim:Int)<(p:Int):=by omega
    have hfin:powS b lim e=p:=by rw[<-hp];exact powS_stop b lim k e (by omega) (by omega)
    clear hp;go_wp2_with fail
    go_ret
    rw[hfin];exact⟨rfl,rfl⟩
   ·have hg:¬(lim:Int)<(p:Int):=by omega
    have hle:p*b<=100000*100000:=Nat.mul_le_mul (by omega) hbl;have hstep:powS b lim (k+1)=p*b:=by rw[powS,hp,if_neg hpl]
    obtain⟨m,hm⟩:∃m:Nat,p*b=m:=⟨_,rfl⟩;have hmi:(p:Int)*(b:Int)=(m:Int):=by rw[<-hm];simp
    clear hp;go_wp2_with fail;refine⟨⟨k+1,by omega,by simp,by rw[hstep,hm],trivial⟩,?_⟩;simp[intOf];omega
  ·have hd:decide ((k:Int)<(e:Int))=false:=by simp;omega
   have hfin:powS b lim e=p:=by rw[<-hp,show k=e by omega]
   clear hp;go_wp2_with fail
   go_ret
   rw[hfin];exact⟨rfl,rfl⟩
end
end Go.Proofs.YtpbfiffgcgnidaaGreat
