import Derived.Test.YtpbfiffgcgnidaaGreatYal
import Derived.Test.YtpbfiffgcgnidaaGreatY12
namespace Go.Proofs.YtpbfiffgcgnidaaGreat
set_option maxRecDepth 100000
set_option maxHeartbeats 4000000
set_option linter.unusedSimpArgs false
open Go.Proofs.Tryz
section
attribute [local go_sem] drewN_alloc drewN_setCell
open Go.RowKit
theorem sameK_c(w:World)(b1 b2:Nat)(a1 a2:Option Addr)(c1 c2:Nat)(L:List B8)(h1:w.ownsRow b1 9 1 (.slice a1 L.length c1) L.length (L.map fun z=>.string (bs z)))(h2:w.ownsRow b2 9 1 (.slice a2 L.length c2) L.length (L.map fun z=>.string (bs z)))(hn:L.length<=1000000000000):
 Calls prog 21 #[.slice a1 L.length c1,.slice a2 L.length c2] w fun e w'=>e=.returned (.bool true)/\Below w.heap.size w w':=by
 have hln:(((L.length:Nat):Int) != ((L.length:Nat):Int))=false:=by simp
 go_enter func21,ntmps21;go_wp2_with fail
 go_loopw [5] (fun kv wr=>∃(k:Nat),k<=L.length/\kv=.int .i64 k/\Below w.heap.size w wr) (fun kv _=>L.length-(intOf kv).toNat)
 case atStart=>exact⟨0,by omega,rfl,Below.refl _ _⟩
 case round=>
  obtain⟨k,hk,rfl,hB⟩:=hrel;have h1':=own_below h1 hB;have h2':=own_below h2 hB;by_cases hlt:k<L.length
  ·obtain⟨g,rfl,hg⟩:=own_cell h1' k hlt;obtain⟨g2,rfl,hg2⟩:=own_cell h2' k hlt;have d1:wr.cell? ⟨g,k,none⟩=some (.string (bs L[k])):=by rw[hg];simp[hlt]
   have d2:wr.cell? ⟨g2,k,none⟩=some (.string (bs L[k])):=by rw[hg2];simp[hlt]
   have hgl:=(h1'.lt g rfl).2;have hgl2:=(h2'.lt g2 rfl).2;have hq:((bs L[k]).toList != (bs L[k]).toList)=false:=by simp
   clear hg hg2;generalize bs L[k]=z at*;go_wp2_with fail;go_region
   all_goals go_wp2_with fail
   all_goals exact⟨⟨k+1,hlt,by go_num,hB.drew⟩,by simp[intOf];omega⟩
  ·go_wp2_with fail
   go_ret
   exact⟨rfl,hB⟩
theorem says_c(w:World)(bb base:Nat)(s:ByteArray)(a2:Option Addr)(c2:Nat)(L:List B8)(h2:w.ownsRow base 9 1 (.slice a2 L.length c2) L.length (L.map fun z=>.string (bs z)))(hn:L.length<=1000)
 (HA:Hid (∀W:World,Below w.heap.size w W->Calls prog 20 #[.pointer (some ⟨bb,0,none⟩),.string s] W fun e w'=>∃vo vc,e=.returned (.tuple #[.slice vo L.length vc,.int .i64 0,.int .i64 0])/\w'.ownsRow W.heap.size 9 1 (.slice vo L.length vc) L.length (L.map fun z=>.string (bs z))/\Below W.heap.size W w')):
 Calls prog 15 #[.pointer (some ⟨bb,0,none⟩),.string s,.slice a2 L.length c2] w fun e w'=>e=.returned (.bool true)/\Below w.heap.size w w':=by
 go_enter func15,ntmps15;go_wp2_with (first|(go_at_call 20;refine(HA.out _ (Below.refl _ _)).mono ?_;rintro e w1 ⟨vo,vc,rfl,ho1,hB1⟩)|(go_at_call 21;refine(sameK_c _ _ _ vo a2 vc c2 L ho1 (own_below h2 hB1) (by omega)).mono ?_;rintro e w2 ⟨rfl,hB2⟩))
 go_ret
 exact⟨rfl,hB1.trans (hB2.mono hB1.size)⟩
end
end Go.Proofs.YtpbfiffgcgnidaaGreat
