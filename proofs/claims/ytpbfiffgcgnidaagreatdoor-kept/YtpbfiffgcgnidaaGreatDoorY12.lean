import Derived.Test.YtpbfiffgcgnidaaGreatDoorYal
import Derived.Test.YtpbfiffgcgnidaaGreatDoorY10
import Derived.Test.YtpbfiffgcgnidaaGreatDoorY11
namespace Go.Proofs.YtpbfiffgcgnidaaGreatDoor
set_option maxRecDepth 100000
set_option maxHeartbeats 4000000
set_option linter.unusedSimpArgs false
open Go.Proofs.Tryz
section
theorem Xd(ps:List Pc):∀(n:Nat) (acc:List RT) (q:Nat),ps.length-q<=n->∀ts r,BU acc (ps.drop q)=some (ts,r)->∃k,k<=ps.length/\r=ps.drop k:=by
 intro n
 induction n with
 |zero=>intro acc q hn ts r h;rw[AA (by omega)]at h;exact absurd h (by simp[BU])
 |succ n z=>
  intro acc q hn ts r h;by_cases hq:q<ps.length
  ·rw[Aa hq]at h;by_cases j:q+1<ps.length
   ·rw[Aa j]at h;unfold BU at h
    split at h
    ·split at h
     ·rename_i hc;simp at hc;omega
     ·rename_i p r' hc;simp only[Pk]at hc;obtain⟨h1,h2⟩:=hc
      split at h
      ·rw[<-h2]at h;exact z _ (q+2) (by omega) ts r h
      ·simp only[Al,CW]at h;refine⟨q+1,by omega,?_⟩;rw[<-h.2,Aa j,h1,h2]
    ·exact absurd h (by simp)
   ·rw[AA (by omega:ps.length<=q+1)]at h;unfold BU at h
    split at h
    ·simp only[Al,CW]at h;exact⟨ps.length,Ab _,by rw[<-h.2,AR]⟩
    ·exact absurd h (by simp)
  ·rw[AA (by omega)]at h;exact absurd h (by simp[BU])
theorem TT(ps:List Pc)(neg:Bool)(bang q:Nat)(a:RA)(r:List Pc)(h:C7 neg bang (ps.drop q)=some (a,r)):∃k,k<=ps.length/\r=ps.drop k:=by
 by_cases hq:q<ps.length
 ·rw[Aa hq]at h;cases h110:(ps[q].mark==110)
  ·rw[OH _ _ _ _ h110]at h;exact absurd h (by simp)
  ·by_cases j:q+1<ps.length
   ·rw[Aa j]at h;cases h40:(ps[q+1].mark==40)
    ·rw[K6 _ _ _ _ _ h110 h40]at h;simp only[Al,CW]at h;exact⟨q+1,by omega,by rw[<-h.2,Aa j]⟩
    ·rw[K5 _ _ _ _ _ h110 h40]at h
     cases ht:BU [] (ps.drop (q+1+1)) with
     |none=>rw[ht]at h;exact absurd h (by simp)
     |some x=>
      obtain⟨ts,r'⟩:=x;obtain⟨k,hk,rfl⟩:=Xd ps _ [] _ (Ab _) ts r' ht;rw[ht,Option.bind_some]at h;unfold Dj at h;by_cases z:k<ps.length
      ·rw[Aa z]at h;simp only[]at h
       split at h
       ·simp only[Al,CW]at h;exact⟨k+1,by omega,h.2.symm⟩
       ·exact absurd h (by simp)
      ·rw[AA (by omega)]at h;exact absurd h (by simp)
   ·rw[AA (by omega:ps.length<=q+1),Mx _ _ _ h110]at h;simp only[Al,CW]at h;exact⟨ps.length,Ab _,by rw[<-h.2,AR]⟩
 ·rw[AA (by omega)]at h;exact absurd h (by simp[C7])
theorem cF(ps:List Pc)(q:Nat)(a:RA)(r:List Pc)(h:BF (ps.drop q)=some (a,r)):∃k,k<=ps.length/\r=ps.drop k:=by
 by_cases hq:q<ps.length
 ·cases hb:(ps[q].mark==33)
  ·rw[Aa hq,Ke _ _ hb,<-Aa hq]at h;exact TT ps _ _ q a r h
  ·rw[Aa hq,BF,Ai hb]at h;exact TT ps _ _ (q+1) a r h
 ·rw[AA (by omega)]at h;exact absurd h (by simp[BF])
theorem MC(w:World)(base:Nat)(ao:Option Addr)(cap:Nat)(ps:List Pc)(y:Fj w base ao cap ps)(hn:ps.length<=3000)(i:Nat)(v:i<=ps.length):
 Calls prog 100 #[.slice ao ps.length cap,.int .i64 (i:Nat)] w fun e w'=>GZ w ps i e w':=by
 by_cases z:i<ps.length
 ·obtain⟨g,rfl,-⟩:=DN y i z;cases hb:(ps[i].mark==33)
  ·by_cases h:∃h1:i+1<ps.length,(ps[i].mark==110)=true/\(ps[i+1].mark==40)=true
   ·obtain⟨h1,h2,h3⟩:=h;exact YC w base g cap ps y hn i h1 h2 h3
   ·refine OR w base _ cap ps y hn i v ?_ ?_
    ·intro p r hd;rw[Aa z]at hd;rw[<-(MM hd).1];exact hb
    ·intro p q r hd k;rw[Aa z]at hd;obtain⟨rfl,j⟩:=MM hd;by_cases h1:i+1<ps.length
     ·rw[Aa h1]at j;obtain⟨rfl,-⟩:=MM j;cases h40:(ps[i+1].mark==40)
      ·rfl
      ·exact absurd ⟨h1,k,h40⟩ h
     ·rw[AA (by omega)]at j;exact absurd j (by simp)
  ·by_cases h:∃h1:i+2<ps.length,(ps[i+1].mark==110)=true/\(ps[i+2].mark==40)=true
   ·obtain⟨h1,h2,h3⟩:=h;exact VV w base g cap ps y hn i h1 hb h2 h3
   ·refine Ub w base g cap ps y hn i z hb ?_;intro p q r hd k;by_cases u:i+1<ps.length
    ·rw[Aa u]at hd;obtain⟨rfl,j⟩:=MM hd;by_cases h1:i+2<ps.length
     ·rw[Aa h1]at j;obtain⟨rfl,-⟩:=MM j;cases h40:(ps[i+2].mark==40)
      ·rfl
      ·exact absurd ⟨h1,k,h40⟩ h
     ·rw[AA (by omega)]at j;exact absurd j (by simp)
    ·rw[AA (by omega)]at hd;exact absurd hd (by simp)
 ·refine OR w base ao cap ps y hn i v ?_ ?_
  ·intro p r hd;rw[AA (by omega)]at hd;exact absurd hd (by simp)
  ·intro p q r hd;rw[AA (by omega)]at hd;exact absurd hd (by simp)
end
end Go.Proofs.YtpbfiffgcgnidaaGreatDoor
