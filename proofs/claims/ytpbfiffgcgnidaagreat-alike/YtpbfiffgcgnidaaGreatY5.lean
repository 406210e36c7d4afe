import Derived.Test.YtpbfiffgcgnidaaGreatYal
import Derived.Test.YtpbfiffgcgnidaaGreatY0
import Derived.Test.YtpbfiffgcgnidaaGreatY3
namespace Go.Proofs.YtpbfiffgcgnidaaGreat
set_option maxRecDepth 100000
set_option maxHeartbeats 4000000
open Go.Proofs.Tryz
section
open Go.RowKit
def hd:B8->Int
 |[]=>0
 |c::_=>(c.toNat:Int)
def skipL:B8->B8
 |[]=>[]
 |c::l=>if blank (c.toNat:Int)=true then skipL l else c::l
def tookB(l:B8)(m:Int):Bool:=hd (skipL l)==m
def tookL(l:B8)(m:Int):B8:=if tookB l m=true then(skipL l).tail else skipL l
def bs(l:B8):ByteArray:=⟨l.toArray⟩
def Rd(w:World)(b:Nat)(s:ByteArray)(l:B8):Prop:=∃i,i<=s.size/\s.data.toList.drop i=l/\Rdr w b s i
theorem drop_cons(s:ByteArray)(i:Nat)(h:i<s.size):s.data.toList.drop i=s[i]::s.data.toList.drop (i+1):=by rw[List.drop_eq_getElem_cons (by simpa using h)];rfl
theorem drop_end(s:ByteArray)(i:Nat)(h:¬i<s.size):s.data.toList.drop i=[]:=by apply List.drop_eq_nil_of_le;simp;simp at h;exact h
theorem pk_hd(s:ByteArray)(i:Nat):pk s i=hd (s.data.toList.drop i):=by
 by_cases h:i<s.size
 ·rw[drop_cons s i h];simp[pk,hd,h]
 ·rw[drop_end s i h];simp[pk,hd,h]
theorem skip_drop(s:ByteArray)(n i:Nat)(hn:s.size-i=n):s.data.toList.drop (skip s i)=skipL (s.data.toList.drop i):=by
 induction n generalizing i with
 |zero=>
  have h:¬i<s.size:=by omega
  rw[skip_no s i (blank_end s i h),drop_end s i h];rfl
 |succ n ih=>
  have h:i<s.size:=by omega
  cases hb:blank (pk s i)
  ·rw[skip_no s i hb];rw[pk_hd,drop_cons s i h]at hb;rw[drop_cons s i h];simp[skipL,hd]at hb⊢;simp[hb]
  ·rw[skip_yes s i h hb,ih (i+1) (by omega)];rw[pk_hd,drop_cons s i h]at hb;rw[drop_cons s i h];simp[hd]at hb;simp[skipL,hb]
theorem took_drop(s:ByteArray)(i:Nat)(m:Int):took s i m=tookB (s.data.toList.drop i) m:=by unfold took tookB;rw[pk_hd,skip_drop s _ i rfl]
theorem tookAt_drop(s:ByteArray)(i:Nat)(m:Int)(hm:0<m):s.data.toList.drop (tookAt s i m)=tookL (s.data.toList.drop i) m:=by
 unfold tookAt tookL;rw[<-took_drop];cases h:took s i m
 ·simp[skip_drop s _ i rfl]
 ·have:=pk_pos_lt s (skip s i) m h hm;rw[<-skip_drop s _ i rfl,drop_cons s _ this];simp
theorem peek_l(w:World)(b:Nat)(s:ByteArray)(l:B8)(hR:Rd w b s l)(hs:s.size<=maxLen):
 Calls prog 91 #[.pointer (some ⟨b,0,none⟩)] w fun e w'=>e=.returned (.int .u8 (hd l))/\∃n,w'=w.drewN n:=by
 obtain⟨i,hi,rfl,hr⟩:=hR;rw[<-pk_hd];exact peek_c w b s i hr hi hs
theorem skipBlanks_l(w:World)(b:Nat)(s:ByteArray)(l:B8)(hR:Rd w b s l)(hs:s.size<=maxLen):
 Calls prog 71 #[.pointer (some ⟨b,0,none⟩)] w fun e w'=>e=.returned (.tuple #[])/\Rd w' b s (skipL l)/\Kept b w w':=by
 obtain⟨i,hi,rfl,hr⟩:=hR;refine(skipBlanks_c w b s i hr hi hs).mono ?_;rintro e w' ⟨he,h1,h2⟩;exact⟨he,⟨skip s i,(skip_le s i hi).2,skip_drop s _ i rfl,h1⟩,h2⟩
theorem take_l(w:World)(b:Nat)(s:ByteArray)(l:B8)(m:Int)(hR:Rd w b s l)(hs:s.size<=maxLen)(hm:0<m):
 Calls prog 73 #[.pointer (some ⟨b,0,none⟩),.int .u8 m] w fun e w'=>e=.returned (.bool (tookB l m))/\Rd w' b s (tookL l m)/\Kept b w w':=by
 obtain⟨i,hi,rfl,hr⟩:=hR;refine(take_c w b s i m hr hi hs hm).mono ?_;rintro e w' ⟨he,h1,h2⟩;rw[took_drop]at he;exact⟨he,⟨tookAt s i m,(tookAt_le s i m hm hi).2,tookAt_drop s i m hm,h1⟩,h2⟩
theorem atEnd_l(w:World)(b:Nat)(s:ByteArray)(l:B8)(hR:Rd w b s l)(hs:s.size<=maxLen):
 Calls prog 46 #[.pointer (some ⟨b,0,none⟩)] w fun e w'=>e=.returned (.bool (skipL l).isEmpty)/\Rd w' b s (skipL l)/\Kept b w w':=by
 obtain⟨i,hi,rfl,hr⟩:=hR;refine(atEnd_c w b s i hr hi hs).mono ?_;rintro e w' ⟨he,h1,h2⟩;refine⟨?_,⟨skip s i,(skip_le s i hi).2,skip_drop s _ i rfl,h1⟩,h2⟩;rw[he,<-skip_drop s _ i rfl];have hle:=(skip_le s i hi).2;by_cases h:skip s i<s.size
 ·rw[drop_cons s _ h];have:(skip s i==s.size)=false:=by rw[beq_eq_false_iff_ne];omega
  simp[this]
 ·rw[drop_end s _ h];have:(skip s i==s.size)=true:=by rw[beq_iff_eq];omega
  simp[this]
def wlen(fits:Int->Bool):Nat->B8->Nat
 |0,_=>0
 |_+1,[]=>0
 |n+1,c::l=>if fits (c.toNat:Int)=true then wlen fits n l+1 else 0
theorem wlen_le(fits:Int->Bool)(n:Nat)(l:B8):wlen fits n l<=l.length/\wlen fits n l<=n:=by
 induction n generalizing l with
 |zero=>simp[wlen]
 |succ n ih=>
  cases l with
  |nil=>simp[wlen]
  |cons c l=>
   have:=ih l;unfold wlen
   split<;>simp<;>omega
theorem wlen_yes(fits:Int->Bool)(h0:fits 0=false)(n k:Nat)(l:B8)(hk:wlen fits n l=k+wlen fits (n-k) (l.drop k))(hn:k<n)(hf:fits (hd (l.drop k))=true):
 k<l.length/\wlen fits n l=(k+1)+wlen fits (n-(k+1)) (l.drop (k+1)):=by
 have hlt:k<l.length:=by apply Classical.byContradiction;intro h;rw[List.drop_eq_nil_of_le (by omega)]at hf;simp[hd,h0]at hf
 refine⟨hlt,?_⟩;rw[List.drop_eq_getElem_cons hlt]at hk hf;rw[hk,show n-k=(n-(k+1))+1 by omega,wlen];simp[hd]at hf;simp[hf];omega
theorem wlen_no(fits:Int->Bool)(n k:Nat)(l:B8)(hk:wlen fits n l=k+wlen fits (n-k) (l.drop k))(hn:¬k<n\/fits (hd (l.drop k))=false):wlen fits n l=k:=by
 rw[hk];rcases hn with hn|hf
 ·rw[show n-k=0 by omega];simp[wlen]
 ·cases hm:n-k with
  |zero=>simp[wlen]
  |succ m=>
   cases hl:l.drop k with
   |nil=>simp[wlen]
   |cons c r=>rw[hl]at hf;simp[hd]at hf;simp[wlen,hf]
theorem extract_bs(s:ByteArray)(i k:Nat):s.extract i (i+k)=bs ((s.data.toList.drop i).take k):=by rw[Lib.extract_eq,show i+k-i=k by omega];rfl
theorem clone_c(s:ByteArray)(w:World)(hlim:s.size<=281474976710656):
 Calls prog 125 #[.string s] w fun e w'=>e=.returned (.string s)/\Below w.heap.size w w':=by
 go_enter func125,ntmps125;go_wp2_with (go_at_call 149;refine(Tryz.stringslite_Clone s _ hlim).mono ?_;rintro e w' ⟨rfl,hb⟩)
 go_ret
 exact⟨rfl,hb⟩
theorem word1_c(w:World)(b:Nat)(s:ByteArray)(i:Nat)(hR:Rdr w b s i)(hi:i<=s.size)(hs:s.size<=281474976710656):
 Calls prog 93 #[.pointer (some ⟨b,0,none⟩),.func (.func 94) #[] #[]] w fun e w'=>e=.returned (.string (bs ((s.data.toList.drop i).take (wlen smallDig 12 (s.data.toList.drop i)))))/\Rdr w' b s (i+wlen smallDig 12 (s.data.toList.drop i))/\Kept b w w':=by
 have hsm:s.size<=maxLen:=by unfold maxLen;omega
 have hlen:(s.data.toList.drop i).length=s.size-i:=by simp
 obtain⟨L,HL⟩:∃L,Hid (L=s.data.toList.drop i):=⟨_,rfl⟩;rw[<-HL.out]at hlen⊢;have c1:=hR.c1;go_enter func93,ntmps93;go_wp2
 go_loopw [] (fun wr=>∃k:Nat,i+k<=s.size/\k<=12/\Rdr wr b s (i+k)/\wlen smallDig 12 L=k+wlen smallDig (12-k) (L.drop k)/\Kept b w wr) (fun wr=>s.size-rpos wr b)
 case atStart=>exact⟨0,by omega,by omega,hR,by simp,Kept.refl _ _⟩
 case round=>
  clear c1;obtain⟨k,hk,hk12,hRk,hwk,hK⟩:=hrel;have HW:=hwk;have HWH:Hid (wlen smallDig 12 L=k+wlen smallDig (12-k) (L.drop k)):=hwk;clear hwk HW;have c0:=hRk.c0;have c1:=hRk.c1;have f1:=hRk.f1;have hpk:pk s (i+k)=hd (L.drop k):=by rw[pk_hd,HL.out,List.drop_drop]
  have HP:Hid (pk s (i+k)=hd (L.drop k)):=hpk;clear hpk;by_cases h12:k<12
  ·cases hf:smallDig (pk s (i+k))
   ·have HE:Hid (wlen smallDig 12 L=k):=wlen_no smallDig 12 k L HWH.out (.inr (by rw[<-HP.out];exact hf));go_wp2_with (first|(go_at_call 91;refine(peek_c _ b s (i+k) (by exact hRk) hk hsm).mono ?_;rintro e w' ⟨rfl,n,rfl⟩)|(go_at_call 94;refine(isSmallOrDigit_c _ _).mono ?_;rintro e w' ⟨rfl,rfl⟩))
    go_region_with (go_at_call 125;refine(clone_c _ _ (by simp;omega)).mono ?_;rintro e w' ⟨rfl,hb⟩)
    all_goals go_wp2
    all_goals go_ret
    all_goals
     rw[HE.out];exact⟨by rw[extract_bs,<-HL.out];rfl,Blk.below (Rdr.drewN hRk _) hb,(hK.draws _).trans (Kept.of_below hb)⟩
   ·obtain⟨hlt,hw1⟩:=wlen_yes smallDig (by decide) 12 k L HWH.out h12 (by rw[<-HP.out];exact hf);have HW1:Hid (wlen smallDig 12 L=(k+1)+wlen smallDig (12-(k+1)) (L.drop (k+1))):=hw1;clear hw1;go_wp2_with (first|(go_at_call 91;refine(peek_c _ b s (i+k) (by exact hRk) hk hsm).mono ?_;rintro e w' ⟨rfl,n,rfl⟩)|(go_at_call 94;refine(isSmallOrDigit_c _ _).mono ?_;rintro e w' ⟨rfl,rfl⟩));have hR1:Rdr ((wr.drewN n).setCell ⟨b,1,none⟩ (.int .i64 ((i:Int)+(k:Int)+1))) b s (i+(k+1)):=(hRk.drewN n).to (by omega);exact⟨⟨k+1,by omega,by omega,hR1,HW1.out,(hK.draws _).set _ _⟩,by rw[hR1.pos,hRk.pos];omega⟩
  ·have HE:Hid (wlen smallDig 12 L=k):=wlen_no smallDig 12 k L HWH.out (.inl h12);have h12':¬((i:Int)+(k:Int)-(i:Int)<12):=by omega
   go_wp2
   go_region_with (go_at_call 125;refine(clone_c _ _ (by simp;omega)).mono ?_;rintro e w' ⟨rfl,hb⟩)
   all_goals go_wp2
   all_goals go_ret
   all_goals
    rw[HE.out];exact⟨by rw[extract_bs,<-HL.out];rfl,Blk.below (Rdr.drewN hRk _) hb,(hK.draws _).trans (Kept.of_below hb)⟩
end
end Go.Proofs.YtpbfiffgcgnidaaGreat
