import Derived.Test.YtpbfiffgcgnidaaGreatYal
import Derived.Test.YtpbfiffgcgnidaaGreatY5
namespace Go.Proofs.YtpbfiffgcgnidaaGreat
set_option maxRecDepth 100000
set_option maxHeartbeats 4000000
set_option linter.unusedSimpArgs false
open Go.Proofs.Tryz
section
open Go.RowKit
theorem word2_c(w:World)(b:Nat)(s:ByteArray)(i:Nat)(hR:Rdr w b s i)(hi:i<=s.size)(hs:s.size<=281474976710656):
 Calls prog 93 #[.pointer (some ⟨b,0,none⟩),.func (.func 126) #[] #[]] w fun e w'=>e=.returned (.string (bs ((s.data.toList.drop i).take (wlen letterDig 12 (s.data.toList.drop i)))))/\Rdr w' b s (i+wlen letterDig 12 (s.data.toList.drop i))/\Kept b w w':=by
 have hsm:s.size<=maxLen:=by unfold maxLen;omega
 have hlen:(s.data.toList.drop i).length=s.size-i:=by simp
 obtain⟨L,HL⟩:∃L,Hid (L=s.data.toList.drop i):=⟨_,rfl⟩;rw[<-HL.out]at hlen⊢;have c1:=hR.c1;go_enter func93,ntmps93;go_wp2
 go_loopw [] (fun wr=>∃k:Nat,i+k<=s.size/\k<=12/\Rdr wr b s (i+k)/\wlen letterDig 12 L=k+wlen letterDig (12-k) (L.drop k)/\Kept b w wr) (fun wr=>s.size-rpos wr b)
 case atStart=>exact⟨0,by omega,by omega,hR,by simp,Kept.refl _ _⟩
 case round=>
  clear c1;obtain⟨k,hk,hk12,hRk,hwk,hK⟩:=hrel;have HW:=hwk;have HWH:Hid (wlen letterDig 12 L=k+wlen letterDig (12-k) (L.drop k)):=hwk;clear hwk HW;have c0:=hRk.c0;have c1:=hRk.c1;have f1:=hRk.f1;have hpk:pk s (i+k)=hd (L.drop k):=by rw[pk_hd,HL.out,List.drop_drop]
  have HP:Hid (pk s (i+k)=hd (L.drop k)):=hpk;clear hpk;by_cases h12:k<12
  ·cases hf:letterDig (pk s (i+k))
   ·have HE:Hid (wlen letterDig 12 L=k):=wlen_no letterDig 12 k L HWH.out (.inr (by rw[<-HP.out];exact hf));go_wp2_with (first|(go_at_call 91;refine(peek_c _ b s (i+k) (by exact hRk) hk hsm).mono ?_;rintro e w' ⟨rfl,n,rfl⟩)|(go_at_call 126;refine(isLetterOrDigit_c _ _).mono ?_;rintro e w' ⟨rfl,rfl⟩))
    go_region_with (go_at_call 125;refine(clone_c _ _ (by simp;omega)).mono ?_;rintro e w' ⟨rfl,hb⟩)
    all_goals go_wp2
    all_goals go_ret
    all_goals
     rw[HE.out];exact⟨by rw[extract_bs,<-HL.out];rfl,Blk.below (Rdr.drewN hRk _) hb,(hK.draws _).trans (Kept.of_below hb)⟩
   ·obtain⟨hlt,hw1⟩:=wlen_yes letterDig (by decide) 12 k L HWH.out h12 (by rw[<-HP.out];exact hf);have HW1:Hid (wlen letterDig 12 L=(k+1)+wlen letterDig (12-(k+1)) (L.drop (k+1))):=hw1;clear hw1;go_wp2_with (first|(go_at_call 91;refine(peek_c _ b s (i+k) (by exact hRk) hk hsm).mono ?_;rintro e w' ⟨rfl,n,rfl⟩)|(go_at_call 126;refine(isLetterOrDigit_c _ _).mono ?_;rintro e w' ⟨rfl,rfl⟩));have hR1:Rdr ((wr.drewN n).setCell ⟨b,1,none⟩ (.int .i64 ((i:Int)+(k:Int)+1))) b s (i+(k+1)):=(hRk.drewN n).to (by omega);exact⟨⟨k+1,by omega,by omega,hR1,HW1.out,(hK.draws _).set _ _⟩,by rw[hR1.pos,hRk.pos];omega⟩
  ·have HE:Hid (wlen letterDig 12 L=k):=wlen_no letterDig 12 k L HWH.out (.inl h12);have h12':¬((i:Int)+(k:Int)-(i:Int)<12):=by omega
   go_wp2
   go_region_with (go_at_call 125;refine(clone_c _ _ (by simp;omega)).mono ?_;rintro e w' ⟨rfl,hb⟩)
   all_goals go_wp2
   all_goals go_ret
   all_goals
    rw[HE.out];exact⟨by rw[extract_bs,<-HL.out];rfl,Blk.below (Rdr.drewN hRk _) hb,(hK.draws _).trans (Kept.of_below hb)⟩
def posOf(s:ByteArray)(l:B8):Nat:=s.size-l.length
theorem Rd.at{w:World}{b:Nat}{s:ByteArray}{l:B8}(h:Rd w b s l):Rdr w b s (posOf s l)/\posOf s l<=s.size/\s.data.toList.drop (posOf s l)=l:=by
 obtain⟨i,hi,rfl,hr⟩:=h;have e:posOf s (s.data.toList.drop i)=i:=by unfold posOf;simp;omega
 rw[e];exact⟨hr,hi,rfl⟩
theorem Rd.c0{w:World}{b:Nat}{s:ByteArray}{l:B8}(h:Rd w b s l):w.cell? ⟨b,0,none⟩=some (.string s):=h.at.1.c0
theorem Rd.c1{w:World}{b:Nat}{s:ByteArray}{l:B8}(h:Rd w b s l):w.cell? ⟨b,1,none⟩=some (.int .i64 (posOf s l)):=h.at.1.c1
theorem Rd.f1{w:World}{b:Nat}{s:ByteArray}{l:B8}(h:Rd w b s l):w.frozen? ⟨b,1,none⟩=false:=h.at.1.f1
theorem Rd.lt{w:World}{b:Nat}{s:ByteArray}{l:B8}(h:Rd w b s l):b<w.heap.size:=Blk.lt h.at.1
theorem Rd.drewN{w:World}{b:Nat}{s:ByteArray}{l:B8}(h:Rd w b s l)(n:Nat):Rd (w.drewN n) b s l:=h
theorem Rd.drew{w:World}{b:Nat}{s:ByteArray}{l:B8}(h:Rd w b s l):Rd w.drew b s l:=h
theorem Rd.alloc{w:World}{b:Nat}{s:ByteArray}{l:B8}(h:Rd w b s l)(o:Obj):Rd (w.alloc o) b s l:=by obtain⟨i,hi,hl,hr⟩:=h;exact⟨i,hi,hl,Blk.alloc hr o⟩
theorem Rd.setOther{w:World}{b:Nat}{s:ByteArray}{l:B8}(h:Rd w b s l)(p:Addr)(v:Value)(hn:b≠p.block):Rd (w.setCell p v) b s l:=by obtain⟨i,hi,hl,hr⟩:=h;exact⟨i,hi,hl,Blk.setOther hr p v hn⟩
theorem word1_l(w:World)(b:Nat)(s:ByteArray)(l:B8)(hR:Rd w b s l)(hs:s.size<=281474976710656):
 Calls prog 93 #[.pointer (some ⟨b,0,none⟩),.func (.func 94) #[] #[]] w fun e w'=>e=.returned (.string (bs (l.take (wlen smallDig 12 l))))/\Rd w' b s (l.drop (wlen smallDig 12 l))/\Kept b w w':=by
 obtain⟨i,hi,rfl,hr⟩:=hR;refine(word1_c w b s i hr hi hs).mono ?_;rintro e w' ⟨he,h1,h2⟩;refine⟨he,⟨_,?_,?_,h1⟩,h2⟩
 ·have:=(wlen_le smallDig 12 (s.data.toList.drop i)).1;simp at this;omega
 ·rw[List.drop_drop]
theorem word2_l(w:World)(b:Nat)(s:ByteArray)(l:B8)(hR:Rd w b s l)(hs:s.size<=281474976710656):
 Calls prog 93 #[.pointer (some ⟨b,0,none⟩),.func (.func 126) #[] #[]] w fun e w'=>e=.returned (.string (bs (l.take (wlen letterDig 12 l))))/\Rd w' b s (l.drop (wlen letterDig 12 l))/\Kept b w w':=by
 obtain⟨i,hi,rfl,hr⟩:=hR;refine(word2_c w b s i hr hi hs).mono ?_;rintro e w' ⟨he,h1,h2⟩;refine⟨he,⟨_,?_,?_,h1⟩,h2⟩
 ·have:=(wlen_le letterDig 12 (s.data.toList.drop i)).1;simp at this;omega
 ·rw[List.drop_drop]
def termB(l:B8):Bool:=small (hd (skipL l))||great (hd (skipL l))
def termN(l:B8):Nat:=if small (hd (skipL l))=true then wlen smallDig 12 (skipL l) else if great (hd (skipL l))=true then wlen letterDig 12 (skipL l) else 0
def termW(l:B8):B8:=(skipL l).take (termN l)
def termL(l:B8):B8:=(skipL l).drop (termN l)
def termV(s:ByteArray)(l:B8):Value:=if termB l=true then .tuple #[.int .i64 (posOf s (skipL l)),.string (bs (termW l)),.bool true] else .tuple #[.int .i64 0,.string ⟨#[]⟩,.bool false]
theorem term_l(w:World)(b:Nat)(s:ByteArray)(l:B8)(hR:Rd w b s l)(hs:s.size<=281474976710656):
 Calls prog 95 #[.pointer (some ⟨b,0,none⟩)] w fun e w'=>e=.returned (termV s l)/\Rd w' b s (termL l)/\Kept b w w':=by
 have hsm:s.size<=maxLen:=by unfold maxLen;omega
 obtain⟨m,HM⟩:∃m,Hid (m=skipL l):=⟨_,rfl⟩;cases h1:small (hd m)
 ·cases h2:great (hd m)
  ·go_enter func95,ntmps95;go_wp2_with (first|(go_at_call 71;refine(skipBlanks_l _ b s l (by exact hR) hsm).mono ?_;rintro e w1 ⟨rfl,hR1,hK1⟩;rw[<-HM.out]at hR1;have c1:=hR1.c1)|(go_at_call 91;refine(peek_l _ b s m (by exact hR1) hsm).mono ?_;rintro e w' ⟨rfl,n,rfl⟩)|(go_at_call 92;refine(isSmall_c _ _).mono ?_;rintro e w' ⟨rfl,rfl⟩)|(go_at_call 78;refine(isGreat_c _ _).mono ?_;rintro e w' ⟨rfl,rfl⟩))
   go_ret3
   rw[HM.out]at h1 h2 hR1;exact⟨by simp[termV,termB,h1,h2],by simpa[termL,termN,h1,h2]using hR1.drewN _,hK1.draws _⟩
  ·go_enter func95,ntmps95;go_wp2_with (first|(go_at_call 71;refine(skipBlanks_l _ b s l (by exact hR) hsm).mono ?_;rintro e w1 ⟨rfl,hR1,hK1⟩;rw[<-HM.out]at hR1;have c1:=hR1.c1)|(go_at_call 91;refine(peek_l _ b s m (by exact hR1) hsm).mono ?_;rintro e w' ⟨rfl,n,rfl⟩)|(go_at_call 92;refine(isSmall_c _ _).mono ?_;rintro e w' ⟨rfl,rfl⟩)|(go_at_call 78;refine(isGreat_c _ _).mono ?_;rintro e w' ⟨rfl,rfl⟩)|(go_at_call 93;refine(word2_l _ b s m (by exact hR1) hs).mono ?_;rintro e w2 ⟨rfl,hR2,hK2⟩))
   go_ret3
   rw[HM.out]at h1 h2 hR2;exact⟨by simp[termV,termB,termW,termN,h1,h2,HM.out],by simpa[termL,termN,h1,h2]using hR2,(hK1.draws _).trans hK2⟩
 ·go_enter func95,ntmps95;go_wp2_with (first|(go_at_call 71;refine(skipBlanks_l _ b s l (by exact hR) hsm).mono ?_;rintro e w1 ⟨rfl,hR1,hK1⟩;rw[<-HM.out]at hR1;have c1:=hR1.c1)|(go_at_call 91;refine(peek_l _ b s m (by exact hR1) hsm).mono ?_;rintro e w' ⟨rfl,n,rfl⟩)|(go_at_call 92;refine(isSmall_c _ _).mono ?_;rintro e w' ⟨rfl,rfl⟩)|(go_at_call 93;refine(word1_l _ b s m (by exact hR1) hs).mono ?_;rintro e w2 ⟨rfl,hR2,hK2⟩))
  go_ret3
  rw[HM.out]at h1 hR2;exact⟨by simp[termV,termB,termW,termN,h1,HM.out],by simpa[termL,termN,h1]using hR2,(hK1.draws _).trans hK2⟩
theorem term_yes(w:World)(b:Nat)(s:ByteArray)(l:B8)(hR:Rd w b s l)(hs:s.size<=281474976710656)(h:termB l=true):
 Calls prog 95 #[.pointer (some ⟨b,0,none⟩)] w fun e w'=>e=.returned (.tuple #[.int .i64 (posOf s (skipL l)),.string (bs (termW l)),.bool true])/\Rd w' b s (termL l)/\Kept b w w':=by
 have:=term_l w b s l hR hs;rw[show termV s l=.tuple #[.int .i64 (posOf s (skipL l)),.string (bs (termW l)),.bool true] by simp[termV,h]]at this;exact this
theorem term_not(w:World)(b:Nat)(s:ByteArray)(l:B8)(hR:Rd w b s l)(hs:s.size<=281474976710656)(h:termB l=false):
 Calls prog 95 #[.pointer (some ⟨b,0,none⟩)] w fun e w'=>e=.returned (.tuple #[.int .i64 0,.string ⟨#[]⟩,.bool false])/\Rd w' b s (termL l)/\Kept b w w':=by
 have:=term_l w b s l hR hs;rw[show termV s l=.tuple #[.int .i64 0,.string ⟨#[]⟩,.bool false] by simp[termV,h]]at this;exact this
end
end Go.Proofs.YtpbfiffgcgnidaaGreat
