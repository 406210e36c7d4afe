/-
  OUR OWN. What Undone asks of its base.
-/
import Derived.Test.YtpbfiffgcgnidaaPlain3
import Derived.Test.YtpbfiffgcgnidaaKeep5
import Derived.Test.YtpbfiffgcgnidaaFact10
import Derived.Test.YtpbfiffgcgnidaaFact12
namespace Go.Proofs.Ytpbfiffgcgnidaa
open Go.RowKit Go.WideMaps Go.Maps
attribute [local go_sem] drewN_alloc drewN_setCell

theorem load_yes2 (w : World) (s : ByteArray) (hs : s.size ≤ maxLen) (h : loadE s = (0, 0)) :
    Calls Try.prog 15 #[.string s] w fun e w' => ∃ bb, e = .returned (.tuple #[.pointer (some ⟨bb, 0, none⟩), .int .i64 0, .int .i64 0]) ∧ w.heap.size ≤ bb ∧ BaseIs w' w.heap.size bb (programR s).cls ∧ Below w.heap.size w w' := by
  refine (load_c w s hs).mono ?_
  intro e w' hp
  unfold LoadPost at hp
  rw [h, if_pos rfl] at hp
  obtain ⟨⟨bb, he, hb, hI⟩, hB⟩ := hp
  exact ⟨bb, he, hb, hI, hB⟩
set_option maxHeartbeats 400000 in
set_option maxRecDepth 100000 in
theorem loaded_b (w : World) (s : ByteArray) (hs : s.size ≤ maxLen) (h : loadE s = (0, 0)) :
    Calls Try.prog 7 #[.string s] w fun e w' => ∃ bb, e = .returned (.pointer (some ⟨bb, 0, none⟩)) ∧ w.heap.size ≤ bb ∧ BaseIs w' w.heap.size bb (programR s).cls ∧ Below w.heap.size w w' := by
  have HL := hid (fun W => load_yes2 W s hs h)
  clear h
  go_enter Try.func7, Try.ntmps7
  go_wp2_with fail
  refine (HL.out _).mono ?_
  rintro e w1 ⟨bb, rfl, hb, hI, hB1⟩
  clear HL
  go_wp2_with fail
  refine (load_p _).mono ?_
  rintro e w2 ⟨rfl, hB2⟩
  go_wp2_with fail
  go_ret
  exact ⟨bb, rfl, hb, hI.below hB2, hB1.trans (hB2.mono hB1.size)⟩

/-- A base that knows edges, and a fact's text. -/
theorem reads_fact (base bb : Nat) (D : List ClD) (hW : ∀ d ∈ D, d.WF) (hn : D.length ≤ 40) (hk : knows D edgeB 2 = true) (b : Bool) (i k : Nat) (hi : i < 4) (hk4 : k < 4) : Reads base bb D (bs (padB b (factB i k))) edgeB [nodeB i, nodeB k] := by
  obtain ⟨q1, q2, q3, q4⟩ := q_fact b i k hi hk4
  unfold knows at hk
  simp only [Bool.and_eq_true, decide_eq_true_eq] at hk
  intro W hI
  have hlen : (padB b (factB i k)).length ≤ 20 := by
    cases b <;> simp [padB, factB, nodeB]
  have h := readFact_ok W base bb D hI hW hn (bs (padB b (factB i k))) (by rw [bs_size']; omega) q1 q2 (by rw [q3]; exact hk.1) (by rw [q3, q4]; exact hk.2) (by rw [q3]; decide) (by rw [q4]; exact fv_nodes i k hi hk4) (by rw [q4]; simp)
  rw [q3, q4] at h
  exact h

/-- What Undone asks. -/
structure UFit (fs : List (List UInt8)) (R P f : List UInt8) (D D' : List ClD) (found : Bool) : Prop where
  load1 : ∀ W : World, Calls Try.prog 7 #[.string (bs (textR fs) ++ bs R)] W fun e w' => ∃ bb, e = .returned (.pointer (some ⟨bb, 0, none⟩)) ∧ W.heap.size ≤ bb ∧ BaseIs w' W.heap.size bb D ∧ Below W.heap.size W w'
  print1 : ∀ (W : World) (base bb : Nat), BaseIs W base bb D → Calls Try.prog 10 #[.pointer (some ⟨bb, 0, none⟩)] W fun e w' => e = .returned (.string (bs P)) ∧ Below W.heap.size W w'
  twice1 : found = true → ∀ (W : World) (base bb : Nat), BaseIs W base bb D → Calls Try.prog 13 #[.pointer (some ⟨bb, 0, none⟩), .string (bs (padB true f))] W fun e w' => e = .returned (.tuple #[.int .i64 7, .int .i64 0]) ∧ Below W.heap.size W w'
  more1 : found = false → ∀ (W : World) (base bb : Nat), base ≤ bb → BaseIs W base bb D → Calls Try.prog 13 #[.pointer (some ⟨bb, 0, none⟩), .string (bs (padB true f))] W fun e w' => e = .returned (.tuple #[.int .i64 0, .int .i64 0]) ∧ BaseIs w' base bb D' ∧ Below base W w'
  print2 : ∀ (W : World) (base bb : Nat), BaseIs W base bb D' → Calls Try.prog 10 #[.pointer (some ⟨bb, 0, none⟩)] W fun e w' => e = .returned (.string (bs (P ++ (f ++ [46, 10])))) ∧ Below W.heap.size W w'
  twice2 : ∀ (W : World) (base bb : Nat), BaseIs W base bb D' → Calls Try.prog 13 #[.pointer (some ⟨bb, 0, none⟩), .string (bs f)] W fun e w' => e = .returned (.tuple #[.int .i64 7, .int .i64 0]) ∧ Below W.heap.size W w'
  gone : found = false → ∀ (W : World) (base bb : Nat), base ≤ bb → BaseIs W base bb D' → Calls Try.prog 14 #[.pointer (some ⟨bb, 0, none⟩), .string (bs f)] W fun e w' => e = .returned (.tuple #[.int .i64 0, .int .i64 0]) ∧ BaseIs w' base bb D ∧ Below base W w'
  none : found = false → ∀ (W : World) (base bb : Nat), BaseIs W base bb D → Calls Try.prog 14 #[.pointer (some ⟨bb, 0, none⟩), .string (bs f)] W fun e w' => e = .returned (.tuple #[.int .i64 8, .int .i64 0]) ∧ Below W.heap.size W w'
  len : P.length ≤ 2000
  text : (textR fs).length ≤ 400
  rules : R.length ≤ 400
  words : ∀ f ∈ fs, f.length ≤ 20
  facts : fs.length ≤ 16

theorem ufit (q : List Bool) (v k : Nat) (hv : v < 4) (hk : k < 16) : UFit (factsTo q 16) (rulesT v) (printedP q v) (factB (k / 4) (k % 4)) (programR (bs (givenT q v))).cls ((programR (bs (givenT q v))).cls ++ [factC (k / 4, k % 4)]) (qAt q k) := by
  have hU := undo q v k hv hk
  have hF := fit q v hv
  have hfound := hU.found
  generalize hD : (programR (bs (givenT q v))).cls = D at *
  have hi : k / 4 < 4 := by omega
  have hj : k % 4 < 4 := by omega
  generalize k / 4 = i at *
  generalize k % 4 = j at *
  have hfew := hU.few
  have hW' : ∀ d ∈ D ++ [factC (i, j)], d.WF := by
    intro d hd
    rw [List.mem_append, List.mem_singleton] at hd
    rcases hd with h | rfl
    · exact hU.wf d h
    · exact factC_wf _
  have hlen' : (D ++ [factC (i, j)]).length = D.length + 1 := by simp
  have hknows' : knows (D ++ [factC (i, j)]) edgeB 2 = true := knows_more D (factC (i, j)) edgeB 2 rfl hU.knows
  have hm : matchB edgeB [nodeB i, nodeB j] (factC (i, j)) = true := by
    have := factC_match (i, j) (i, j) ⟨hi, hj⟩ ⟨hi, hj⟩
    simpa using this
  have hany' : (D ++ [factC (i, j)]).any (matchB edgeB [nodeB i, nodeB j]) = true := by rw [List.any_append, List.any_cons, hm]; simp
  have hR : ∀ base bb b, Reads base bb D (bs (padB b (factB i j))) edgeB [nodeB i, nodeB j] := fun base bb b => reads_fact base bb D hU.wf (by omega) hU.knows b i j hi hj
  have hR' : ∀ base bb b, Reads base bb (D ++ [factC (i, j)]) (bs (padB b (factB i j))) edgeB [nodeB i, nodeB j] := fun base bb b => reads_fact base bb (D ++ [factC (i, j)]) hW' (by omega) hknows' b i j hi hj
  have hA : ∀ base bb b, Asked base bb D (bs (padB b (factB i j))) (qAt q k) (bs edgeB) (bs (nodeB i)) (bs (nodeB j)) (bs []) (2 : Nat) := by
    intro base bb b
    have h := asked base bb D hU.wf (by omega) _ edgeB [nodeB i, nodeB j] (hR base bb b)
    rw [idx_any, hfound] at h
    exact h
  have hA' : ∀ base bb b, Asked base bb (D ++ [factC (i, j)]) (bs (padB b (factB i j))) true (bs edgeB) (bs (nodeB i)) (bs (nodeB j)) (bs []) (2 : Nat) := by
    intro base bb b
    have h := asked base bb (D ++ [factC (i, j)]) hW' (by omega) _ edgeB [nodeB i, nodeB j] (hR' base bb b)
    rw [idx_any, hany'] at h
    exact h
  have hld := fun W => loaded_b W (bs (givenT q v)) (by rw [bs_size']; have := given_len q v hv; unfold maxLen; omega) (given_ok q v hv).1
  rw [hD] at hld
  refine ⟨?_, hF.print1, ?_, ?_, ?_, ?_, ?_, ?_, hF.len, hF.text, hF.rules, hF.words, hF.facts⟩
  · intro W
    rw [bs_append]
    exact hld W
  · intro hf W base bb hI
    have h := hA base bb true
    rw [hf] at h
    exact assert_twice W base bb D hI _ _ _ _ _ _ h
  · intro hf W base bb hb hI
    have h := hA base bb true
    rw [hf] at h
    exact assert_more W base bb D hI _ _ _ _ _ _ (by omega) hb (factC (i, j)) rfl rfl h
  · intro W base bb hI
    have h := print_c W base bb _ hI hW' (by omega)
    rw [shown_more, hU.shown] at h
    exact h
  · intro W base bb hI
    exact assert_twice W base bb _ hI _ _ _ _ _ _ (hA' base bb false)
  · intro hf W base bb hb hI
    refine retract_some W base bb _ D hI _ _ _ _ _ _ hb (hA' base bb false) ?_
    intro W ao cap B hC hB
    have hC2 := hC
    rw [hlen'] at hC2 ⊢
    have hao : ∃ g, ao = some ⟨g, 0, Option.none⟩ := by
      obtain ⟨rows, ho, _, _⟩ := hC2
      rcases ho.2 with ⟨h1, h2⟩ | ⟨g, _, _, h1, _⟩
      · omega
      · injection h1 with h1
        exact ⟨g, h1⟩
    obtain ⟨g, rfl⟩ := hao
    exact delete_last W base g cap D (factC (i, j)) hC2 hW' (by omega) B edgeB [nodeB i, nodeB j] hB (idx_last _ _ _ _ (by rw [hfound]; exact hf) hm)
  · intro hf W base bb hI
    have h := hA base bb false
    rw [hf] at h
    exact retract_none W base bb D hI _ _ _ _ _ _ h

end Go.Proofs.Ytpbfiffgcgnidaa
