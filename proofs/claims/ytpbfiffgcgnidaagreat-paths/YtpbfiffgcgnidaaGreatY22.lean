import Derived.Test.YtpbfiffgcgnidaaGreatYal
import Derived.Test.YtpbfiffgcgnidaaGreatY9
import Derived.Test.YtpbfiffgcgnidaaGreatY20
namespace Go.Proofs.YtpbfiffgcgnidaaGreat
set_option maxRecDepth 100000
set_option maxHeartbeats 4000000
set_option linter.unusedSimpArgs false
open Go.Proofs.Tryz
section
attribute [local go_sem] Ai Ae
open Go.RowKit Go.WideMaps Go.Maps
theorem NH{α:Type}[DecidableEq α](xs:List α)(k:α):AR xs k<=xs.length:=by
 unfold AR
 split
 ·exact List.idxOf_le_length
 ·exact Nat.zero_le _
theorem Np{α:Type}[DecidableEq α](xs:List α)(k:α):(A7 xs k).length<=xs.length+1:=by
 unfold A7
 split<;>simp
theorem LD(w:World)(base vb ov:Nat)(cs:List Value)(t:TypeId)(mv lv:Value)(xs:List B8)(k:B8)(hB:Ag w vb cs t)(h0:cs[ov]? =some mv)(h1:cs[ov+1]? =some lv)(hS:AY w base mv lv xs)(hk:k.length<=maxLen)(hn:xs.length<=1000000000000)(ht:t≠9)(hbw:base<=w.heap.size)(hv:AK k=true)(tb ow:Nat):
 Calls prog 89 #[.pointer (some ⟨tb,ow,none⟩),.string (bs k),.pointer (some ⟨vb,ov,none⟩)] w fun e w'=>e=.returned (.int .i64 (-4-(AR (A7 xs k) k:Nat)))/\
  ∃mv' lv',Ag w' vb ((cs.set ov mv').set (ov+1) lv') t/\AY w' base mv' lv' (A7 xs k)/\AV w w' vb mv lv mv' lv':=by
 have HA:=AJ (II w base vb ov cs t mv lv xs k hB h0 h1 hS hk hn ht hbw);have hpl:AR (A7 xs k) k<=1000000000001:=Nat.le_trans (NH _ _) (Nat.le_trans (Np _ _) (by omega));generalize AR (A7 xs k) k=p at*;have HV:=AJ hv;clear hv;go_enter func89,ntmps89;go_wp2_with (first|(go_at_call 58;refine(By k _).mono ?_;rintro e w9 ⟨he,hw9⟩;subst w9;rw[HV.out]at he;subst he)|(go_at_call 52;refine(HA.out).mono ?_;rintro e w1 ⟨rfl,mv',lv',hB1,hS1,hF1⟩))
 go_ret
 exact⟨by first|rfl|(congr 2;omega),mv',lv',hB1,hS1,hF1⟩
theorem Jt(w:World)(base tb ow:Nat)(cs:List Value)(t:TypeId)(mv lv:Value)(xs:List B8)(k:B8)(hB:Ag w tb cs t)(h0:cs[ow+2]? =some mv)(h1:cs[ow+2+1]? =some lv)(hS:AY w base mv lv xs)(hk:k.length<=maxLen)(hn:xs.length<=1000000000000)(ht:t≠9)(hbw:base<=w.heap.size)(hv:AK k=false)(va:Value):
 Calls prog 89 #[.pointer (some ⟨tb,ow,none⟩),.string (bs k),va] w fun e w'=>e=.returned (.int .i64 (AR (A7 xs k) k:Nat))/\
  ∃mv' lv',Ag w' tb ((cs.set (ow+2) mv').set (ow+2+1) lv') t/\AY w' base mv' lv' (A7 xs k)/\AV w w' tb mv lv mv' lv':=by
 have HA:=AJ (II w base tb (ow+2) cs t mv lv xs k hB h0 h1 hS hk hn ht hbw);generalize AR (A7 xs k) k=p at*;have HV:=AJ hv;clear hv;go_enter func89,ntmps89;go_wp2_with (first|(go_at_call 58;refine(By k _).mono ?_;rintro e w9 ⟨he,hw9⟩;subst w9;rw[HV.out]at he;subst he)|(go_at_call 52;refine(HA.out).mono ?_;rintro e w1 ⟨rfl,mv',lv',hB1,hS1,hF1⟩))
 go_ret
 exact⟨rfl,mv',lv',hB1,hS1,hF1⟩
end
end Go.Proofs.YtpbfiffgcgnidaaGreat
