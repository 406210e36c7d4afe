import Derived.Test.YtpbfiffgcgnidaaGreatYal
import Derived.Test.YtpbfiffgcgnidaaGreatY11
import Derived.Test.YtpbfiffgcgnidaaGreatY18
namespace Go.Proofs.YtpbfiffgcgnidaaGreat
set_option maxRecDepth 100000
set_option maxHeartbeats 4000000
set_option linter.unusedSimpArgs false
open Go.Proofs.Tryz
section
attribute [local go_sem] drewN_alloc drewN_setCell
open Go.RowKit Go.WideMaps Go.Maps
theorem posG_le{α:Type}[DecidableEq α](xs:List α)(k:α):posG xs k<=xs.length:=by
 unfold posG
 split
 ·exact List.idxOf_le_length
 ·exact Nat.zero_le _
theorem addG_len{α:Type}[DecidableEq α](xs:List α)(k:α):(addG xs k).length<=xs.length+1:=by
 unfold addG
 split<;>simp
theorem codeVar_c(w:World)(base vb ov:Nat)(cs:List Value)(t:TypeId)(mv lv:Value)(xs:List B8)(k:B8)(hB:Blk w vb cs t)(h0:cs[ov]? =some mv)(h1:cs[ov+1]? =some lv)(hS:SetIsS w base mv lv xs)(hk:k.length<=maxLen)(hn:xs.length<=1000000000000)(ht:t≠9)(hbw:base<=w.heap.size)(hv:isVar k=true)(tb ow:Nat):
 Calls prog 89 #[.pointer (some ⟨tb,ow,none⟩),.string (bs k),.pointer (some ⟨vb,ov,none⟩)] w fun e w'=>e=.returned (.int .i64 (-4-(posG (addG xs k) k:Nat)))/\
  ∃mv' lv',Blk w' vb ((cs.set ov mv').set (ov+1) lv') t/\SetIsS w' base mv' lv' (addG xs k)/\AddFrame w w' vb mv lv mv' lv':=by
 have HA:=hid (addAnyS w base vb ov cs t mv lv xs k hB h0 h1 hS hk hn ht hbw);have hpl:posG (addG xs k) k<=1000000000001:=Nat.le_trans (posG_le _ _) (Nat.le_trans (addG_len _ _) (by omega));generalize posG (addG xs k) k=p at*;have HV:=hid hv;clear hv;go_enter func89,ntmps89;go_wp2_with (first|(go_at_call 58;refine(isVariable_c k _).mono ?_;rintro e w9 ⟨he,hw9⟩;subst w9;rw[HV.out]at he;subst he)|(go_at_call 52;refine(HA.out).mono ?_;rintro e w1 ⟨rfl,mv',lv',hB1,hS1,hF1⟩))
 go_ret
 exact⟨by first|rfl|(congr 2;omega),mv',lv',hB1,hS1,hF1⟩
theorem codeConst_c(w:World)(base tb ow:Nat)(cs:List Value)(t:TypeId)(mv lv:Value)(xs:List B8)(k:B8)(hB:Blk w tb cs t)(h0:cs[ow+2]? =some mv)(h1:cs[ow+2+1]? =some lv)(hS:SetIsS w base mv lv xs)(hk:k.length<=maxLen)(hn:xs.length<=1000000000000)(ht:t≠9)(hbw:base<=w.heap.size)(hv:isVar k=false)(va:Value):
 Calls prog 89 #[.pointer (some ⟨tb,ow,none⟩),.string (bs k),va] w fun e w'=>e=.returned (.int .i64 (posG (addG xs k) k:Nat))/\
  ∃mv' lv',Blk w' tb ((cs.set (ow+2) mv').set (ow+2+1) lv') t/\SetIsS w' base mv' lv' (addG xs k)/\AddFrame w w' tb mv lv mv' lv':=by
 have HA:=hid (addAnyS w base tb (ow+2) cs t mv lv xs k hB h0 h1 hS hk hn ht hbw);generalize posG (addG xs k) k=p at*;have HV:=hid hv;clear hv;go_enter func89,ntmps89;go_wp2_with (first|(go_at_call 58;refine(isVariable_c k _).mono ?_;rintro e w9 ⟨he,hw9⟩;subst w9;rw[HV.out]at he;subst he)|(go_at_call 52;refine(HA.out).mono ?_;rintro e w1 ⟨rfl,mv',lv',hB1,hS1,hF1⟩))
 go_ret
 exact⟨rfl,mv',lv',hB1,hS1,hF1⟩
end
end Go.Proofs.YtpbfiffgcgnidaaGreat
