/-
  OUR OWN. A script is played: by what is kept from call to call.
-/
import Derived.Test.YtpbfiffgcgnidaaGreatDoorXW3
import Derived.Deep.CutRange
import Derived.Deep.Slices
import Derived.ChangeArms
namespace Go.Proofs.YtpbfiffgcgnidaaGreatDoor
open Go.RowKit Go.WideMaps Go.Maps
attribute [local go_sem] drewN_alloc drewN_setCell

/-- The calls of a script, as they lie. -/
def ScriptIs (w : World) (a : Addr) (n : Nat) (kd m : Nat → Int) (S : Nat → ByteArray) (la : Nat → Option Addr) (ll lc : Nat → Nat) : Prop :=
  ∀ k, k < n → w.cell? (a.add (k * 4)) = some (.int .i64 (kd k)) ∧ w.cell? ⟨(a.add (k * 4)).block, (a.add (k * 4)).off + 1, none⟩ = some (.int .i64 (m k)) ∧ w.cell? ⟨(a.add (k * 4)).block, (a.add (k * 4)).off + 2, none⟩ = some (.string (S k)) ∧ w.cell? ⟨(a.add (k * 4)).block, (a.add (k * 4)).off + 3, none⟩ = some (.slice (la k) (ll k) (lc k))
def firstB : ByteArray := ⟨#[0x70, 0x28, 0x61, 0x29, 0x2e, 0x20, 0x70, 0x28, 0x58, 0x29, 0x20, 0x3a, 0x2d, 0x20, 0x71, 0x28, 0x58, 0x2c, 0x59, 0x29, 0x2c, 0x20, 0x21, 0x72, 0x28, 0x59, 0x29, 0x2e, 0x20, 0x71, 0x28, 0x61, 0x2c, 0x62, 0x29, 0x2e, 0x20, 0x71, 0x28, 0x62, 0x2c, 0x63, 0x29, 0x2e, 0x20, 0x72, 0x28, 0x63, 0x29, 0x2e]⟩

set_option maxHeartbeats 2000000 in
set_option maxRecDepth 100000 in
theorem plays_c (w : World) (Inv : World → Nat → Prop) (ao : Option Addr) (a : Addr) (n cap : Nat) (kd m : Nat → Int) (S : Nat → ByteArray) (la : Nat → Option Addr) (ll lc : Nat → Nat) (lo hi most : Int) (hn : n ≤ 5000000000000) (hao : 0 < n → ao = some a)
    (hsc : ∀ W, Below w.heap.size w W → ScriptIs W a n kd m S la ll lc)
    (hbel : ∀ W W' k, Inv W k → Below W.heap.size W W' → Inv W' k)
    (hinv : ∀ W k, Inv W k → Below w.heap.size w W ∧ ∃ ao c, Blk W w.heap.size [.slice ao k c, .slice none 0 0] 29)
    (hfirst : Calls Tryz.prog 9 #[.pointer (some ⟨w.heap.size, 0, none⟩), .string firstB] (w.alloc (.cells #[.slice none 0 0, .slice none 0 0] 29)) fun e w' => e = .returned (.bool true) ∧ Inv w' 1)
    (hstep : ∀ W k j, Inv W k → j < n → k ≤ j + 1 → kd j ≤ most → Calls Tryz.prog 10 #[.pointer (some ⟨w.heap.size, 0, none⟩), .agg #[.int .i64 (kd j), .int .i64 (m j), .string (S j), .slice (la j) (ll j) (lc j)]] W fun e w' => e = .returned (.bool true) ∧ (∃ k', Inv w' k' ∧ k' ≤ k + 1) ∧ ∀ ob cs, Blk W ob cs 33 → Blk w' ob cs 33) :
    Calls Tryz.prog 8 #[.slice ao n cap, .int .i64 lo, .int .i64 hi, .int .i64 most] w fun e w' => e = .returned (.bool true) ∧ Below w.heap.size w w' := by
  go_enter Tryz.func8, Tryz.ntmps8
  go_wp2_with (go_at_call 9; refine hfirst.mono ?_; rintro e w1 ⟨rfl, hI1⟩; obtain ⟨hB1, ao1, cp1, hW1⟩ := hinv _ _ hI1; have p1 : w1.cell? ⟨w.heap.size, 0, none⟩ = some (.slice ao1 1 cp1) := hW1.cell 0; have l1 := hW1.lt)
  go_loopw [10, 11] (fun okv iv wr => ∃ (k j : Nat), j ≤ n ∧ k ≤ j + 1 ∧ okv = .bool true ∧ iv = .int .i64 j ∧ Inv wr k) (fun _ iv _ => n - (intOf iv).toNat)
  case atStart => exact ⟨1, 0, Nat.zero_le _, by omega, rfl, rfl, hI1⟩
  case round =>
    obtain ⟨k, j, hj, hkj, rfl, rfl, hI⟩ := hrel
    obtain ⟨hB, ar, cp, hW⟩ := hinv _ _ hI
    have hlr := hW.lt
    have hjn : ((j : Int) < (n : Int)) ↔ j < n := by omega
    by_cases hlt : j < n
    · obtain ⟨c0, c1, c2, c3⟩ := hsc _ hB j hlt
      obtain rfl := hao (by omega)
      have hbo := stp_one wr (.cells #[.int .i64 (kd j), .int .i64 (m j), .string (S j), .slice (la j) (ll j) (lc j)] 33)
      have hIo := hbel _ _ _ hI hbo
      by_cases hk : kd j ≤ most
      · have hk' : ¬ most < kd j := by omega
        have hO := Blk.new wr [.int .i64 (kd j), .int .i64 (m j), .string (S j), .slice (la j) (ll j) (lc j)] 33
        go_upto_region 11 with (go_at_call 10; refine (hstep _ k j hIo hlt hkj hk).mono ?_; rintro e w2 ⟨rfl, ⟨k', hI2, hk2⟩, hop⟩; have o0 : w2.cell? ⟨wr.heap.size, 0, none⟩ = some (.int .i64 (kd j)) := (hop _ _ hO).cell 0; obtain ⟨hB2, ao2, cp2, hW2⟩ := hinv _ _ hI2)
        go_cut [13] from 33 to 72 (fun v wx => (∃ b, v = .bool b) ∧ wx = w2)
        case first =>
          go_wp2_with fail
          all_goals go_meet
          all_goals exact ⟨⟨_, rfl⟩, rfl⟩
        case rest =>
          obtain ⟨⟨b, hbv⟩, hwc⟩ := hcut
          subst hbv
          subst hwc
          go_wp2_with (go_at_call 11; refine (looks_c _ w.heap.size _ hW2).mono ?_; rintro e w3 ⟨rfl, hB3⟩)
          exact ⟨⟨k', j + 1, hlt, by omega, rfl, by go_num, hbel _ _ _ hI2 hB3⟩, by simp [intOf]; omega⟩
      · have hk' : most < kd j := by omega
        go_wp2_with fail
        exact ⟨⟨k, j + 1, hlt, by omega, rfl, by go_num, hIo⟩, by simp [intOf]; omega⟩
    · go_wp2_with fail
      go_ret
      exact ⟨rfl, hB⟩

end Go.Proofs.YtpbfiffgcgnidaaGreatDoor

namespace Go.Proofs.YtpbfiffgcgnidaaGreatDoor
open Go.ChangeShapes Go.WideShapes Go.RowKit Go.Deep

theorem cellsOp : Tryz.prog.cellsOf 33 = 4 := by kernel_rfl
theorem cellsI : Tryz.prog.cellsOf 3 = 1 := by kernel_rfl
theorem cellsS : Tryz.prog.cellsOf 9 = 1 := by kernel_rfl
theorem cellsL : Tryz.prog.cellsOf 31 = 1 := by kernel_rfl
theorem bytesOp : Tryz.prog.bytesOf 33 = 56 := by kernel_rfl

/-- One call, as it lies. -/
structure OpD where
  kd : Int
  m : Int
  S : ByteArray
  la : Option Addr
  ll : Nat
  lc : Nat
def opZ : OpD := ⟨0, 0, ⟨#[]⟩, none, 0, 0⟩
set_option maxRecDepth 100000 in
theorem op_open {H : Type} {enc : TypeId × Value → H} {W : World} {n : Nat} {cs : List Value} {x : DataW H × List MemPlace} (h : DataW.trod enc Tryz.prog W 0 (fun _ => true) true n 33 cs = some x) :
    ∃ o : OpD, cs = [.int .i64 o.kd, .int .i64 o.m, .string o.S, .slice o.la o.ll o.lc] ∧ o.S.size ≤ maxLen := by
  obtain ⟨xs, k, hk, hxy, hlen, hxl, hf⟩ := DataW.trod_struct Tryz.underlying33 h
  rw [cellsOp] at hlen
  match xs, hxl, cs, hlen with
  | [y0, y1, y2, y3], _, [v0, v1, v2, v3], _ =>
    have g0 := hf 0 _ rfl
    have g1 := hf 1 _ rfl
    have g2 := hf 2 _ rfl
    have g3 := hf 3 _ rfl
    simp [cellsI, cellsS, cellsL] at g0 g1 g2 g3
    obtain ⟨n0, e0, _, _⟩ := DataW.trod_int Tryz.underlying3 g0
    obtain ⟨n1, e1, _, _⟩ := DataW.trod_int Tryz.underlying3 g1
    obtain ⟨s2, e2, _, hs⟩ := DataW.trod_string Tryz.underlying9 g2
    have e3 : ∃ a l c, v3 = .slice a l c := by
      rcases DataW.trod_slice Tryz.underlying31 g3 with ⟨e, _⟩ | ⟨a, len, cap, _, _, _, _, e, _⟩
      · simp at e; exact ⟨_, _, _, e⟩
      · simp at e; exact ⟨_, _, _, e⟩
    obtain ⟨a, l, c, rfl⟩ := e3
    simp at e0 e1 e2
    subst e0; subst e1; subst e2
    exact ⟨⟨n0, n1, s2, a, l, c⟩, rfl, hs⟩
set_option maxRecDepth 100000 in
/-- The whole script. -/
theorem script_open {H : Type} {enc : TypeId × Value → H} {W : World} {fuel : Nat} {v : Value} {d : DataW H} {ps : List MemPlace} (h : DataW.trod enc Tryz.prog W 0 (fun _ => true) true fuel 22 [v] = some (d, ps)) (hw : (d.weights Tryz.prog 22).all (· ≤ reachBytes) = true) :
    ∃ (ao : Option Addr) (a : Addr) (n cap : Nat) (O : Nat → OpD), v = .slice ao n cap ∧ (0 < n → ao = some a) ∧ n ≤ 4000000000000 ∧ ScriptIs W a n (fun k => (O k).kd) (fun k => (O k).m) (fun k => (O k).S) (fun k => (O k).la) (fun k => (O k).ll) (fun k => (O k).lc) ∧ ∀ k, k < n → (O k).S.size ≤ maxLen := by
  rcases open_slice Tryz.underlying22 h with ⟨hc, hx⟩ | ⟨a, len, cap, m, n, D, Pl, hc, _, hl, hm, hmm, hx, hel⟩
  · simp at hc
    subst hc
    exact ⟨none, ⟨0, 0, none⟩, 0, 0, fun _ => opZ, rfl, by omega, by omega, fun k hk => by omega, fun k hk => by omega⟩
  · simp at hc
    subst hc
    simp only [Prod.mk.injEq] at hx
    obtain ⟨rfl, rfl⟩ := hx
    simp only [if_true] at hmm
    subst hmm
    have hlen : len ≤ 4000000000000 := by
      simp only [DataW.weights, Tryz.underlying22, List.all_cons, Bool.and_eq_true, decide_eq_true_eq] at hw
      have h1 := hw.1
      rw [bytesOp] at h1
      simp [reachBytes] at h1
      omega
    have hinh : Inhabited OpD := ⟨opZ⟩
    obtain ⟨O, hO⟩ := choose_lt (α := OpD) (p := fun i o => W.cells? 0 (a.add (i * 4)) 4 = some [.int .i64 o.kd, .int .i64 o.m, .string o.S, .slice o.la o.ll o.lc] ∧ o.S.size ≤ maxLen) (fun i (hi : i < m) => by
      obtain ⟨cs', h1, h2⟩ := hel i hi
      rw [cellsOp] at h1
      obtain ⟨o, rfl, ho⟩ := op_open h2
      exact ⟨o, h1, ho⟩)
    refine ⟨some a, a, len, m, O, rfl, fun _ => rfl, hlen, ?_, fun k hk => (hO k (by omega)).2⟩
    intro k hk
    obtain ⟨_, _, hcell⟩ := World.cells?_some (hO k (by omega)).1
    have q0 := hcell 0 (by omega)
    have q1 := hcell 1 (by omega)
    have q2 := hcell 2 (by omega)
    have q3 := hcell 3 (by omega)
    exact ⟨q0, q1, q2, q3⟩

end Go.Proofs.YtpbfiffgcgnidaaGreatDoor

namespace Go.Proofs.YtpbfiffgcgnidaaGreatDoor
open Go.RowKit Go.WideMaps Go.Maps

theorem cell_in {w : World} {p : Addr} {v : Value} (h : w.cell? p = some v) : p.block < w.heap.size := by
  apply Classical.byContradiction
  intro hn
  have h0 : w.heap[p.block]? = none := Array.getElem?_eq_none (by omega)
  simp [World.cell?, h0] at h
theorem ScriptIs.below {w w' : World} {a : Addr} {n : Nat} {kd m : Nat → Int} {S : Nat → ByteArray} {la : Nat → Option Addr} {ll lc : Nat → Nat} (h : ScriptIs w a n kd m S la ll lc) (hb : Below w.heap.size w w') : ScriptIs w' a n kd m S la ll lc := by
  intro k hk
  obtain ⟨c0, c1, c2, c3⟩ := h k hk
  exact ⟨by rw [hb.cell (cell_in c0)]; exact c0, by rw [hb.cell (cell_in c1)]; exact c1, by rw [hb.cell (cell_in c2)]; exact c2, by rw [hb.cell (cell_in c3)]; exact c3⟩
theorem load_first : (loadE firstB).1 = 0 := by decide +kernel
/-- What is kept from call to call. -/
def Inv (w : World) (W : World) (k : Nat) : Prop := ∃ ps, WorldIs W w.heap.size w.heap.size (.slice none 0 0) ps ∧ ps.length = k ∧ 0 < k ∧ Below w.heap.size w W
theorem world_new (w : World) (hE : EndsIs w) (h0 : 0 < w.heap.size) : WorldIs (w.alloc (.cells #[.slice none 0 0, .slice none 0 0] 29)) w.heap.size w.heap.size (.slice none 0 0) [] := by
  have hB := below_alloc w (.cells #[.slice none 0 0, .slice none 0 0] 29)
  exact ⟨hE.below hB h0, h0, hB.size, Nat.le_refl _, ⟨.slice none 0 0, Blk.new w [.slice none 0 0, .slice none 0 0] 29, World.ownsRow_nil _ _ _ _⟩, ⟨by simp, by simp, by simp⟩, by simp⟩
/-- Any script of kinds that are served. -/
theorem played (w : World) (hE : EndsIs w) (h0 : 0 < w.heap.size) (ao : Option Addr) (a : Addr) (n cap : Nat) (kd m : Nat → Int) (S : Nat → ByteArray) (la : Nat → Option Addr) (ll lc : Nat → Nat) (lo hi most : Int) (hn : n ≤ 4000000000000) (hao : 0 < n → ao = some a)
    (hsc : ScriptIs w a n kd m S la ll lc)
    (hstep : ∀ (W : World) (ps : List PR) (j : Nat), WorldIs W w.heap.size w.heap.size (.slice none 0 0) ps → 0 < ps.length → ps.length ≤ 5000000000000 → j < n → kd j ≤ most → Calls Tryz.prog 10 #[.pointer (some ⟨w.heap.size, 0, none⟩), .agg #[.int .i64 (kd j), .int .i64 (m j), .string (S j), .slice (la j) (ll j) (lc j)]] W fun e w' => StepPost W w.heap.size w.heap.size (.slice none 0 0) ps e w') :
    Calls Tryz.prog 8 #[.slice ao n cap, .int .i64 lo, .int .i64 hi, .int .i64 most] w fun e w' => e = .returned (.bool true) ∧ Below w.heap.size w w' := by
  refine plays_c w (Inv w) ao a n cap kd m S la ll lc lo hi most (by omega) hao (fun W hB => hsc.below hB) ?_ ?_ ?_ ?_
  · rintro W W' k ⟨ps, hI, hl, hk, hB⟩ hB'
    exact ⟨ps, hI.below hB', hl, hk, hB.trans (hB'.mono hB.size)⟩
  · rintro W k ⟨ps, hI, hl, hk, hB⟩
    obtain ⟨pv, hW, hP⟩ := hI.row
    obtain ⟨po, pc, rfl⟩ := own_form hP
    rw [hl] at hW
    exact ⟨hB, po, pc, hW⟩
  · refine (wloads_c _ _ _ _ [] (world_new w hE h0) (by simp) firstB (by unfold maxLen; decide)).mono ?_
    rintro e w' ⟨rfl, ⟨ps', hI', hl⟩, hB', _⟩
    rw [if_pos load_first] at hl
    exact ⟨rfl, ps', hI', hl, by omega, (below_alloc w _).trans hB'⟩
  · rintro W k j ⟨ps, hI, hl, hk, hB⟩ hj hkj hm
    refine (hstep W ps j hI (by omega) (by omega) hj hm).mono ?_
    rintro e w' ⟨rfl, ⟨ps', hI', h1, h2⟩, hB', hop⟩
    exact ⟨rfl, ⟨ps'.length, ⟨ps', hI', rfl, by omega, hB.trans hB'⟩, by omega⟩, hop⟩

theorem keptLaw_c (w : World) (hE : EndsIs w) (h0 : 0 < w.heap.size) (ao : Option Addr) (a : Addr) (n cap : Nat) (kd m : Nat → Int) (S : Nat → ByteArray) (la : Nat → Option Addr) (ll lc : Nat → Nat) (hn : n ≤ 4000000000000) (hao : 0 < n → ao = some a)
    (hsc : ScriptIs w a n kd m S la ll lc) (hS : ∀ k, k < n → (S k).size ≤ maxLen) :
    Calls Tryz.prog 3 #[.slice ao n cap] w fun e w' => e = .returned (.bool true) ∧ Below w.heap.size w w' := by
  go_enter Tryz.func3, Tryz.ntmps3
  go_wp2_with (go_at_call 8; refine (played w hE h0 ao a n cap kd m S la ll lc 2 4 4 hn hao hsc (fun W ps j hI hps hl hj hk => step_kept W _ _ _ ps hI hps hl (kd j) (m j) (S j) (hS j hj) _ hk)).mono ?_; rintro e w1 ⟨rfl, hB1⟩)
  go_ret
  exact ⟨rfl, hB1⟩

end Go.Proofs.YtpbfiffgcgnidaaGreatDoor
