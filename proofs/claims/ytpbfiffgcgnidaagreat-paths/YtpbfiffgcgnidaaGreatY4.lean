import Derived.Test.YtpbfiffgcgnidaaGreatYal
import Derived.Test.YtpbfiffgcgnidaaGreatY0
import Derived.Test.YtpbfiffgcgnidaaGreatY3
namespace Go.Proofs.YtpbfiffgcgnidaaGreat
set_option maxRecDepth 100000
set_option maxHeartbeats 4000000
open Go.Proofs.Tryz
section
open Go.RowKit
def hd:B8->Int
 |[]=>0
 |c::_=>(c.toNat:Int)
def Ao:B8->B8
 |[]=>[]
 |c::l=>if DH (c.toNat:Int)=true then Ao l else c::l
def Bc(l:B8)(m:Int):Bool:=hd (Ao l)==m
def Av(l:B8)(m:Int):B8:=if Bc l m=true then(Ao l).tail else Ao l
def bs(l:B8):ByteArray:=⟨l.toArray⟩
def Rd(w:World)(b:Nat)(s:ByteArray)(l:B8):Prop:=∃i,i<=s.size/\s.data.toList.drop i=l/\D0 w b s i
theorem Cx(s:ByteArray)(i:Nat)(h:i<s.size):s.data.toList.drop i=s[i]::s.data.toList.drop (i+1):=by rw[List.drop_eq_getElem_cons (by simpa using h)];rfl
theorem Fk(s:ByteArray)(i:Nat)(h:¬i<s.size):s.data.toList.drop i=[]:=by apply List.drop_eq_nil_of_le;simp;simp at h;exact h
theorem Hl(s:ByteArray)(i:Nat):pk s i=hd (s.data.toList.drop i):=by
 by_cases h:i<s.size
 ·rw[Cx s i h];simp[pk,hd,h]
 ·rw[Fk s i h];simp[pk,hd,h]
theorem Dk(s:ByteArray)(n i:Nat)(hn:s.size-i=n):s.data.toList.drop (skip s i)=Ao (s.data.toList.drop i):=by
 induction n generalizing i with
 |zero=>
  have h:¬i<s.size:=by omega
  rw[H8 s i (FH s i h),Fk s i h];rfl
 |succ n ih=>
  have h:i<s.size:=by omega
  cases hb:DH (pk s i)
  ·rw[H8 s i hb];rw[Hl,Cx s i h]at hb;rw[Cx s i h];simp[Ao,hd]at hb⊢;simp[hb]
  ·rw[Gi s i h hb,ih (i+1) (by omega)];rw[Hl,Cx s i h]at hb;rw[Cx s i h];simp[hd]at hb;simp[Ao,hb]
theorem He(s:ByteArray)(i:Nat)(m:Int):G6 s i m=Bc (s.data.toList.drop i) m:=by unfold G6 Bc;rw[Hl,Dk s _ i rfl]
theorem IP(s:ByteArray)(i:Nat)(m:Int)(hm:0<m):s.data.toList.drop (D1 s i m)=Av (s.data.toList.drop i) m:=by
 unfold D1 Av;rw[<-He];cases h:G6 s i m
 ·simp[Dk s _ i rfl]
 ·have:=Fx s (skip s i) m h hm;rw[<-Dk s _ i rfl,Cx s _ this];simp
theorem Ei(w:World)(b:Nat)(s:ByteArray)(l:B8)(hR:Rd w b s l)(hs:s.size<=maxLen):
 Calls prog 91 #[.pointer (some ⟨b,0,none⟩)] w fun e w'=>e=.returned (.int .u8 (hd l))/\∃n,w'=w.drewN n:=by
 obtain⟨i,hi,rfl,hr⟩:=hR;rw[<-Hl];exact DK w b s i hr hi hs
theorem Ci(w:World)(b:Nat)(s:ByteArray)(l:B8)(hR:Rd w b s l)(hs:s.size<=maxLen):
 Calls prog 71 #[.pointer (some ⟨b,0,none⟩)] w fun e w'=>e=.returned (.tuple #[])/\Rd w' b s (Ao l)/\An b w w':=by
 obtain⟨i,hi,rfl,hr⟩:=hR;refine(De w b s i hr hi hs).mono ?_;rintro e w' ⟨he,h1,h2⟩;exact⟨he,⟨skip s i,(Ey s i hi).2,Dk s _ i rfl,h1⟩,h2⟩
theorem Cm(w:World)(b:Nat)(s:ByteArray)(l:B8)(m:Int)(hR:Rd w b s l)(hs:s.size<=maxLen)(hm:0<m):
 Calls prog 73 #[.pointer (some ⟨b,0,none⟩),.int .u8 m] w fun e w'=>e=.returned (.bool (Bc l m))/\Rd w' b s (Av l m)/\An b w w':=by
 obtain⟨i,hi,rfl,hr⟩:=hR;refine(ON w b s i m hr hi hs hm).mono ?_;rintro e w' ⟨he,h1,h2⟩;rw[He]at he;exact⟨he,⟨D1 s i m,(K1 s i m hm hi).2,IP s i m hm,h1⟩,h2⟩
theorem Fm(w:World)(b:Nat)(s:ByteArray)(l:B8)(hR:Rd w b s l)(hs:s.size<=maxLen):
 Calls prog 46 #[.pointer (some ⟨b,0,none⟩)] w fun e w'=>e=.returned (.bool (Ao l).isEmpty)/\Rd w' b s (Ao l)/\An b w w':=by
 obtain⟨i,hi,rfl,hr⟩:=hR;refine(Ob w b s i hr hi hs).mono ?_;rintro e w' ⟨he,h1,h2⟩;refine⟨?_,⟨skip s i,(Ey s i hi).2,Dk s _ i rfl,h1⟩,h2⟩;rw[he,<-Dk s _ i rfl];have hle:=(Ey s i hi).2;by_cases h:skip s i<s.size
 ·rw[Cx s _ h];have:(skip s i==s.size)=false:=by rw[beq_eq_false_iff_ne];omega
  simp[this]
 ·rw[Fk s _ h];have:(skip s i==s.size)=true:=by rw[beq_iff_eq];omega
  simp[this]
def Bn(fits:Int->Bool):Nat->B8->Nat
 |0,_=>0
 |_+1,[]=>0
 |n+1,c::l=>if fits (c.toNat:Int)=true then Bn fits n l+1 else 0
theorem H4(fits:Int->Bool)(n:Nat)(l:B8):Bn fits n l<=l.length/\Bn fits n l<=n:=by
 induction n generalizing l with
 |zero=>simp[Bn]
 |succ n ih=>
  cases l with
  |nil=>simp[Bn]
  |cons c l=>
   have:=ih l;unfold Bn
   split<;>simp<;>omega
theorem IM(fits:Int->Bool)(h0:fits 0=false)(n k:Nat)(l:B8)(hk:Bn fits n l=k+Bn fits (n-k) (l.drop k))(hn:k<n)(hf:fits (hd (l.drop k))=true):
 k<l.length/\Bn fits n l=(k+1)+Bn fits (n-(k+1)) (l.drop (k+1)):=by
 have hlt:k<l.length:=by apply Classical.byContradiction;intro h;rw[List.drop_eq_nil_of_le (by omega)]at hf;simp[hd,h0]at hf
 refine⟨hlt,?_⟩;rw[List.drop_eq_getElem_cons hlt]at hk hf;rw[hk,show n-k=(n-(k+1))+1 by omega,Bn];simp[hd]at hf;simp[hf];omega
theorem F5(fits:Int->Bool)(n k:Nat)(l:B8)(hk:Bn fits n l=k+Bn fits (n-k) (l.drop k))(hn:¬k<n\/fits (hd (l.drop k))=false):Bn fits n l=k:=by
 rw[hk];rcases hn with hn|hf
 ·rw[show n-k=0 by omega];simp[Bn]
 ·cases hm:n-k with
  |zero=>simp[Bn]
  |succ m=>
   cases hl:l.drop k with
   |nil=>simp[Bn]
   |cons c r=>rw[hl]at hf;simp[hd]at hf;simp[Bn,hf]
theorem D5(s:ByteArray)(i k:Nat):s.extract i (i+k)=bs ((s.data.toList.drop i).take k):=by rw[Lib.extract_eq,show i+k-i=k by omega];rfl
theorem F9(s:ByteArray)(w:World)(hlim:s.size<=281474976710656):
 Calls prog 125 #[.string s] w fun e w'=>e=.returned (.string s)/\Below w.heap.size w w':=by
 go_enter func125,ntmps125;go_wp2_with (go_at_call 149;refine(Tryz.stringslite_Clone s _ hlim).mono ?_;rintro e w' ⟨rfl,hb⟩)
 go_ret
 exact⟨rfl,hb⟩
theorem Ny(w:World)(b:Nat)(s:ByteArray)(i:Nat)(hR:D0 w b s i)(hi:i<=s.size)(hs:s.size<=281474976710656):
 Calls prog 93 #[.pointer (some ⟨b,0,none⟩),.func (.func 94) #[] #[]] w fun e w'=>e=.returned (.string (bs ((s.data.toList.drop i).take (Bn AF 12 (s.data.toList.drop i)))))/\D0 w' b s (i+Bn AF 12 (s.data.toList.drop i))/\An b w w':=by
 have hsm:s.size<=maxLen:=by unfold maxLen;omega
 have hlen:(s.data.toList.drop i).length=s.size-i:=by simp
 obtain⟨L,HL⟩:∃L,Hid (L=s.data.toList.drop i):=⟨_,rfl⟩;rw[<-HL.out]at hlen⊢;have c1:=hR.c1;go_enter func93,ntmps93;go_wp2
 go_loopw [] (fun wr=>∃k:Nat,i+k<=s.size/\k<=12/\D0 wr b s (i+k)/\Bn AF 12 L=k+Bn AF (12-k) (L.drop k)/\An b w wr) (fun wr=>s.size-Mp wr b)
 case atStart=>exact⟨0,by omega,by omega,hR,by simp,An.refl _ _⟩
 case round=>
  clear c1;obtain⟨k,hk,hk12,hRk,hwk,hK⟩:=hrel;have HW:=hwk;have HWH:Hid (Bn AF 12 L=k+Bn AF (12-k) (L.drop k)):=hwk;clear hwk HW;have c0:=hRk.c0;have c1:=hRk.c1;have f1:=hRk.f1;have hpk:pk s (i+k)=hd (L.drop k):=by rw[Hl,HL.out,List.drop_drop]
  have HP:Hid (pk s (i+k)=hd (L.drop k)):=hpk;clear hpk;by_cases h12:k<12
  ·cases hf:AF (pk s (i+k))
   ·have HE:Hid (Bn AF 12 L=k):=F5 AF 12 k L HWH.out (.inr (by rw[<-HP.out];exact hf));go_wp2_with (first|(go_at_call 91;refine(DK _ b s (i+k) (by exact hRk) hk hsm).mono ?_;rintro e w' ⟨rfl,n,rfl⟩)|(go_at_call 94;refine(CQ _ _).mono ?_;rintro e w' ⟨rfl,rfl⟩))
    go_region_with (go_at_call 125;refine(F9 _ _ (by simp;omega)).mono ?_;rintro e w' ⟨rfl,hb⟩)
    all_goals go_wp2
    all_goals go_ret
    all_goals
     rw[HE.out];exact⟨by rw[D5,<-HL.out];rfl,Ag.below (D0.drewN hRk _) hb,(hK.draws _).trans (An.of_below hb)⟩
   ·obtain⟨hlt,hw1⟩:=IM AF (by decide) 12 k L HWH.out h12 (by rw[<-HP.out];exact hf);have HW1:Hid (Bn AF 12 L=(k+1)+Bn AF (12-(k+1)) (L.drop (k+1))):=hw1;clear hw1;go_wp2_with (first|(go_at_call 91;refine(DK _ b s (i+k) (by exact hRk) hk hsm).mono ?_;rintro e w' ⟨rfl,n,rfl⟩)|(go_at_call 94;refine(CQ _ _).mono ?_;rintro e w' ⟨rfl,rfl⟩));have hR1:D0 ((wr.drewN n).setCell ⟨b,1,none⟩ (.int .i64 ((i:Int)+(k:Int)+1))) b s (i+(k+1)):=(hRk.drewN n).to (by omega);exact⟨⟨k+1,by omega,by omega,hR1,HW1.out,(hK.draws _).set _ _⟩,by rw[hR1.pos,hRk.pos];omega⟩
  ·have HE:Hid (Bn AF 12 L=k):=F5 AF 12 k L HWH.out (.inl h12);have h12':¬((i:Int)+(k:Int)-(i:Int)<12):=by omega
   go_wp2
   go_region_with (go_at_call 125;refine(F9 _ _ (by simp;omega)).mono ?_;rintro e w' ⟨rfl,hb⟩)
   all_goals go_wp2
   all_goals go_ret
   all_goals
    rw[HE.out];exact⟨by rw[D5,<-HL.out];rfl,Ag.below (D0.drewN hRk _) hb,(hK.draws _).trans (An.of_below hb)⟩
end
end Go.Proofs.YtpbfiffgcgnidaaGreat
