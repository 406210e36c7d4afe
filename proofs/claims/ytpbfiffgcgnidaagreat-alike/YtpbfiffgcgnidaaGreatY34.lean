import Derived.Test.YtpbfiffgcgnidaaGreatYal
import Derived.Test.YtpbfiffgcgnidaaGreatY20
import Derived.Test.YtpbfiffgcgnidaaGreatY22
namespace Go.Proofs.YtpbfiffgcgnidaaGreat
set_option maxRecDepth 100000
set_option maxHeartbeats 4000000
set_option linter.unusedSimpArgs false
open Go.Proofs.Tryz
section
attribute [local go_sem] drewN_alloc drewN_setCell
open Go.RowKit Go.WideMaps Go.Maps
theorem load_bad:loadE ⟨#[112,58,45,33,112,46]⟩=(5,3):=by decide+kernel
theorem load_yes(w:World)(s:ByteArray)(hs:s.size<=maxLen)(h:loadE s=(0,0)):
 Calls prog 22 #[.string s] w fun e w'=>∃bb,e=.returned (.tuple #[.pointer (some ⟨bb,0,none⟩),.int .i64 0,.int .i64 0])/\BaseIs w' w.heap.size bb (programR s).cls/\Below w.heap.size w w':=by
 refine(load_c w s hs).mono ?_;intro e w' hp;unfold LoadPost at hp;rw[h,if_pos rfl]at hp;obtain⟨⟨bb,he,-,hI⟩,hB⟩:=hp;exact⟨bb,he,hI,hB⟩
theorem load_no(w:World)(s:ByteArray)(hs:s.size<=maxLen)(h:loadE s=(5,3)):
 Calls prog 22 #[.string s] w fun e w'=>e=.returned (.tuple #[.pointer none,.int .i64 5,.int .i64 3])/\Below w.heap.size w w':=by
 refine(load_c w s hs).mono ?_;intro e w' hp;unfold LoadPost at hp;rw[h,if_neg (by simp)]at hp;exact hp
theorem load_p(w:World):Calls prog 22 #[.string ⟨#[112,58,45,33,112,46]⟩] w fun e w'=>e=.returned (.tuple #[.pointer none,.int .i64 5,.int .i64 3])/\Below w.heap.size w w':=load_no w _ (by decide) load_bad
theorem loaded_c(w:World)(s:ByteArray)(hs:s.size<=maxLen)(h:loadE s=(0,0)):
 Calls prog 9 #[.string s] w fun e w'=>∃bb,e=.returned (.pointer (some ⟨bb,0,none⟩))/\BaseIs w' w.heap.size bb (programR s).cls/\Below w.heap.size w w':=by
 have HL:=hid (fun W=>load_yes W s hs h);clear h;go_enter func9,ntmps9;go_wp2_with fail;refine(HL.out _).mono ?_;rintro e w1 ⟨bb,rfl,hI,hB1⟩;clear HL;go_wp2_with fail;refine(load_p _).mono ?_;rintro e w2 ⟨rfl,hB2⟩;go_wp2_with fail
 go_ret
 exact⟨bb,rfl,hI.below hB2,hB1.trans (hB2.mono hB1.size)⟩
end
end Go.Proofs.YtpbfiffgcgnidaaGreat
