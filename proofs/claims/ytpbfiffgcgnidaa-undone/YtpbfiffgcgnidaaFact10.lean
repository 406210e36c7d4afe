/-
  OUR OWN. Assert: a fact more.
-/
import Derived.Test.YtpbfiffgcgnidaaFact8
namespace Go.Proofs.Ytpbfiffgcgnidaa
open Go.RowKit Go.WideMaps Go.Maps
attribute [local go_sem] drewN_alloc drewN_setCell

set_option maxHeartbeats 1000000 in
set_option maxRecDepth 100000 in
theorem assert_more (w : World) (base bb : Nat) (ds : List ClD) (hI : BaseIs w base bb ds) (s : ByteArray) (x y0 y1 y2 : ByteArray) (n : Int) (hl : ds.length < 40) (hbb : base ≤ bb) (d : ClD) (hd : d.lits = []) (hdc : atomCells d.name d.ts = [.string x, .int .i64 n, .string y0, .string y1, .string y2]) (hA : Asked base bb ds s false x y0 y1 y2 n) :
    Calls Try.prog 13 #[.pointer (some ⟨bb, 0, none⟩), .string s] w fun e w' => e = .returned (.tuple #[.int .i64 0, .int .i64 0]) ∧ BaseIs w' base bb (ds ++ [d]) ∧ Below base w w' := by
  have hw0 : bb < w.heap.size := by
    obtain ⟨v, h, _⟩ := hI
    exact h.lt
  have HR := hid (hA.reads w hI)
  have HF := hid hA.factOf
  have HH := hid hA.has
  have HI := hid hI
  clear hA hI
  go_enter Try.func13, Try.ntmps13
  go_wp2_with fail
  refine (HR.out).mono ?_
  rintro e w1 ⟨rfl, hB1⟩
  have HIx := hid ((HI.out.below hB1).below (below_alloc w1 (.cells #[.string x, .int .i64 n, .string y0, .string y1, .string y2] 48)))
  have HBx := hid (hB1.trans ((below_alloc w1 (.cells #[.string x, .int .i64 n, .string y0, .string y1, .string y2] 48)).mono hB1.size))
  have hzz := HBx.out.size
  obtain ⟨v, h1, h2⟩ := HIx.out
  obtain ⟨ao, cap, rfl⟩ := h2.form
  have hlt := (HI.out.below hB1)
  obtain ⟨v', k1, k2⟩ := hlt
  have hlt := k1.lt
  have hne : bb ≠ w1.heap.size := by omega
  have c0 := h1.cell 0
  have H1 := hid h1
  have H2 := hid (h2.below (Below.refl _ _).drew)
  clear h1 h2 HI HR HIx k1 k2
  have hsize : (w1.alloc (.cells #[.string x, .int .i64 n, .string y0, .string y1, .string y2] 48)).heap.size = w1.heap.size + 1 := by simp
  obtain ⟨q0, q1, q2, q3, q4⟩ := (Blk.new w1 [.string x, .int .i64 n, .string y0, .string y1, .string y2] 48).c5
  have HQ := hid (Blk.new w1 [.string x, .int .i64 n, .string y0, .string y1, .string y2] 48)
  obtain ⟨i1, hi1, hy0, hy1, hy2⟩ := info_parts infoClause
  go_wp2_with fail
  generalize hw : (w1.alloc (.cells #[.string x, .int .i64 n, .string y0, .string y1, .string y2] 48)) = u at *
  generalize w1.heap.size = B1 at *
  clear hw hB1
  go_region_with (first
    | (go_at_call 19; refine (HF.out _).mono ?_; rintro e w2 ⟨rfl, hA2, hB2⟩; have c02 := (H1.out.drew.below hB2).cell 0)
    | (go_at_call 18; refine (HH.out w2 ao cap (B1 + 1) (H2.out.below hB2) (by rw [← hsize]; exact hA2)).mono ?_; rintro e w3 ⟨rfl, hB3⟩))
  all_goals
    have hB23 := hB2.trans (hB3.mono hB2.size)
    have hB := HBx.out.drew.trans (hB23.mono (by simp; omega))
    have hC := H1.out.drew.below hB23
    have c03 := hC.cell 0
    have fC := hC.frozen
    have hP := H2.out.below hB23
    have hq := (HQ.out.drew.below hB23)
    obtain ⟨p0, p1, p2, p3, p4⟩ := hq.c5
    have hbw : bb < w3.heap.size := hC.lt
    have hbq : B1 < w3.heap.size := hq.lt
    obtain ⟨rows, ho, hrl, hr⟩ := hP
    clear H1 H2 HQ HF HH HBx q0 q1 q2 q3 q4 c0 c02 hA2 hB2 hB3 hB23 hq
    go_wp2_with fail
    have hown : ∀ o2, ((w3.alloc o2).drew).ownsRow base 54 6 (.slice ao ds.length cap) ds.length rows.flatten := fun o2 => ho.alloc o2
    have hnews : ∀ j u, [Value.string x, .int .i64 n, .string y0, .string y1, .string y2, .slice none 0 0][j]? = some u → ((w3.alloc (.cells #[Value.string x, .int .i64 n, .string y0, .string y1, .string y2, .slice none 0 0] 54)).drew).cell? ((⟨w3.heap.size, 0, none⟩ : Addr).add j) = some u := fun j u h => new_cells w3 [Value.string x, .int .i64 n, .string y0, .string y1, .string y2, .slice none 0 0] 54 j u h
    have hone : ∀ u ∈ [Value.string x, .int .i64 n, .string y0, .string y1, .string y2, .slice none 0 0], u.oneCell' = true := by
      intro u hu; simp at hu; rcases hu with rfl | rfl | rfl | rfl | rfl | rfl <;> rfl
    have hlm : ds.length + 1 ≤ maxLen := by unfold maxLen; omega
    have hlb : (ds.length + 1) * 96 ≤ 140737488355328 := by omega
    have hBB : ∀ o2, base ≤ ((w3.alloc o2).drew).heap.size := by intro o2; simp; omega
    have hne1 := own_ne ho hC (by decide)
    have hbs := own_base ho
    go_region_law (refine step_append_own rfl (.tmp 37) (.tmp 40) 43 rfl base 54 i1 _ 6 96 Try.underlying43 hi1 hy0 hy1 hy2 rfl (by decide) (.slice ao ds.length cap) ds.length rows.flatten (by simp [Act.eval]) (hown _) ⟨w3.heap.size, 0, none⟩ 1 1 [Value.string x, .int .i64 n, .string y0, .string y1, .string y2, .slice none 0 0] (by simp [Act.eval]) (by decide) rfl hnews hone hlm hlb (hBB _) ?_; intro g2 cap2 w4 ho4 hg4; have hC4 := (hC.alloc _).drew.grown hg4 hne1; have d0 := hC4.cell 0; have fC4 := hC4.frozen; simp at d0)
    all_goals
      go_wp2_with fail
      go_ret2
      have hKd : KeptIs w3 base d [Value.string x, .int .i64 n, .string y0, .string y1, .string y2, .slice none 0 0] := ⟨.slice none 0 0, by rw [hdc]; rfl, by rw [hd]; exact World.ownsRow_nil _ _ _ _⟩
      have h2 := fun o2 => (below_alloc w3 o2).drew
      have hmore := ClausesIs.more (w := (w3.alloc _).drew) (w' := w4) (base := base) (ds := ds) (fun i d cs h1 h3 => (hr i d cs h1 h3).below (h2 _)) hrl (hown _) (hKd.below (h2 _)) ho4 hg4
      have hB4 : Below base w w4 := ((hB.mono (by omega)).trans ((h2 _).mono (by omega))).grown hg4 (hBB _) hbs
      refine ⟨rfl, ⟨_, hC4.setCell 0 _, hmore.set hC4 (by decide) (by decide) 0 _⟩, hB4.setCell (p := ⟨bb, 0, none⟩) hbb _⟩

end Go.Proofs.Ytpbfiffgcgnidaa
