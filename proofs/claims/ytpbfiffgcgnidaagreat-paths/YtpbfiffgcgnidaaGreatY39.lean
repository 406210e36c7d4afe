import Derived.Test.YtpbfiffgcgnidaaGreatYal
import Derived.Test.YtpbfiffgcgnidaaGreatY12
import Derived.Test.YtpbfiffgcgnidaaGreatY38
namespace Go.Proofs.YtpbfiffgcgnidaaGreat
set_option maxRecDepth 100000
set_option maxHeartbeats 4000000
set_option linter.unusedSimpArgs false
open Go.Proofs.Tryz
section
attribute [local go_sem] Ai Ae
open Go.RowKit Go.WideMaps Go.Maps
theorem ME:C4 ⟨#[112,58,45,33,112,46]⟩=(5,3):=by decide+kernel
theorem MC(w:World)(s:ByteArray)(hs:s.size<=maxLen)(h:C4 s=(0,0)):
 Calls prog 22 #[.string s] w fun e w'=>∃bb,e=.returned (.tuple #[.pointer (some ⟨bb,0,none⟩),.int .i64 0,.int .i64 0])/\CW w' w.heap.size bb (Aw s).cls/\Below w.heap.size w w':=by
 refine(MD w s hs).mono ?_;intro e w' hp;unfold Ce at hp;rw[h,if_pos rfl]at hp;obtain⟨⟨bb,he,-,hI⟩,hB⟩:=hp;exact⟨bb,he,hI,hB⟩
theorem NP(w:World)(s:ByteArray)(hs:s.size<=maxLen)(h:C4 s=(5,3)):
 Calls prog 22 #[.string s] w fun e w'=>e=.returned (.tuple #[.pointer none,.int .i64 5,.int .i64 3])/\Below w.heap.size w w':=by
 refine(MD w s hs).mono ?_;intro e w' hp;unfold Ce at hp;rw[h,if_neg (by simp)]at hp;exact hp
theorem O0(w:World):Calls prog 22 #[.string ⟨#[112,58,45,33,112,46]⟩] w fun e w'=>e=.returned (.tuple #[.pointer none,.int .i64 5,.int .i64 3])/\Below w.heap.size w w':=NP w _ (by decide) ME
theorem MB(w:World)(s:ByteArray)(hs:s.size<=maxLen)(h:C4 s=(0,0)):
 Calls prog 9 #[.string s] w fun e w'=>∃bb,e=.returned (.pointer (some ⟨bb,0,none⟩))/\CW w' w.heap.size bb (Aw s).cls/\Below w.heap.size w w':=by
 have HL:=AJ (fun W=>MC W s hs h);clear h;go_enter func9,ntmps9;go_wp2_with fail;refine(HL.out _).mono ?_;rintro e w1 ⟨bb,rfl,hI,hB1⟩;clear HL;go_wp2_with fail;refine(O0 _).mono ?_;rintro e w2 ⟨rfl,hB2⟩;go_wp2_with fail
 go_ret
 exact⟨bb,rfl,hI.below hB2,hB1.trans (hB2.mono hB1.size)⟩
end
end Go.Proofs.YtpbfiffgcgnidaaGreat
