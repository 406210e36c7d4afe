/-
  OUR OWN. The reader's clause.
-/
import Derived.Test.YtpbfiffgcgnidaaGreatDoorXB1
namespace Go.Proofs.YtpbfiffgcgnidaaGreatDoor
open Go.RowKit
attribute [local go_sem] drewN_alloc drewN_setCell

structure ClR where
  ok : Bool
  name : List UInt8
  ts : List (List UInt8)
  lits : List LitD
  spots : List SpotD
  rest : List UInt8
def headSpot (s : ByteArray) (l : List UInt8) : SpotD := ⟨0, (atomR s l).np, (atomR s l).ps⟩
def clauseR (s : ByteArray) (l : List UInt8) : ClR :=
  if (atomR s l).ok = false then ⟨false, [], [], [], [], (atomR s l).rest⟩
  else if tookB (atomR s l).rest 58 = false then ⟨tookB (tookL (atomR s l).rest 58) 46, (atomR s l).name, (atomR s l).ts, [], [headSpot s l], tookL (tookL (atomR s l).rest 58) 46⟩
  else if (bodyR s [headSpot s l] (tookL (atomR s l).rest 58)).ok = false then ⟨false, [], [], [], [], (bodyR s [headSpot s l] (tookL (atomR s l).rest 58)).rest⟩
  else ⟨tookB (bodyR s [headSpot s l] (tookL (atomR s l).rest 58)).rest 46, (atomR s l).name, (atomR s l).ts, (bodyR s [headSpot s l] (tookL (atomR s l).rest 58)).lits, (bodyR s [headSpot s l] (tookL (atomR s l).rest 58)).spots, tookL (bodyR s [headSpot s l] (tookL (atomR s l).rest 58)).rest 46⟩

/-- What the call gives: a clause in seven cells, its rows its own. -/
def ClauseIs (w w' : World) (r : ClR) (v : Value) : Prop :=
  ∃ (n0 t0 t1 t2 : ByteArray) (c : Int) (ao po : Option Addr) (n m cap pcap : Nat), v = .tuple #[.agg #[.string n0, .int .i64 c, .string t0, .string t1, .string t2, .slice ao n cap, .slice po m pcap], .bool r.ok] ∧
    (r.ok = true → [Value.string n0, .int .i64 c, .string t0, .string t1, .string t2] = atomCells r.name r.ts ∧ n = r.lits.length ∧ m = r.spots.length ∧
      w'.ownsRow w.heap.size 186 6 (.slice ao n cap) n (r.lits.flatMap LitD.cells) ∧ w'.ownsRow w.heap.size 141 5 (.slice po m pcap) m (r.spots.flatMap SpotD.cells))

theorem own_mono {w : World} {base base' : Nat} {e : TypeId} {size : Nat} {v : Value} {n : Nat} {xs : List Value} (h : w.ownsRow base e size v n xs) (hb : base' ≤ base) : w.ownsRow base' e size v n xs := by
  refine ⟨h.1, ?_⟩
  rcases h.2 with h2 | ⟨g, cap, cur, hv, hg, r⟩
  · exact .inl h2
  · exact .inr ⟨g, cap, cur, hv, by omega, r⟩
theorem Rd.set7 {w : World} {b : Nat} {s : ByteArray} {l : List UInt8} (h : Rd w b s l) (A : Nat) (hA : b ≠ A) (x0 x1 x2 x3 x4 x5 x6 : Value) :
    Rd (((((((w.setCell ⟨A, 0, none⟩ x0).setCell ⟨A, 1, none⟩ x1).setCell ⟨A, 2, none⟩ x2).setCell ⟨A, 3, none⟩ x3).setCell ⟨A, 4, none⟩ x4).setCell ⟨A, 5, none⟩ x5).setCell ⟨A, 6, none⟩ x6) b s l :=
  (h.set6 A hA x0 x1 x2 x3 x4 x5).setOther ⟨A, 6, none⟩ x6 hA
theorem Kept.set7 {b : Nat} {u w : World} (h : Kept b u w) (A : Nat) (hA : u.heap.size ≤ A) (x0 x1 x2 x3 x4 x5 x6 : Value) :
    Kept b u (((((((w.setCell ⟨A, 0, none⟩ x0).setCell ⟨A, 1, none⟩ x1).setCell ⟨A, 2, none⟩ x2).setCell ⟨A, 3, none⟩ x3).setCell ⟨A, 4, none⟩ x4).setCell ⟨A, 5, none⟩ x5).setCell ⟨A, 6, none⟩ x6) :=
  (h.set6 A hA x0 x1 x2 x3 x4 x5).setNew (p := ⟨A, 6, none⟩) hA x6
theorem own_set7 {w : World} {base : Nat} {e : TypeId} {size : Nat} {v : Value} {n : Nat} {xs : List Value} (h : w.ownsRow base e size v n xs) (A : Nat) (hne : v.ownBlock ≠ some A) (x0 x1 x2 x3 x4 x5 x6 : Value) :
    (((((((w.setCell ⟨A, 0, none⟩ x0).setCell ⟨A, 1, none⟩ x1).setCell ⟨A, 2, none⟩ x2).setCell ⟨A, 3, none⟩ x3).setCell ⟨A, 4, none⟩ x4).setCell ⟨A, 5, none⟩ x5).setCell ⟨A, 6, none⟩ x6).ownsRow base e size v n xs :=
  own_set (own_set (own_set (own_set (own_set (own_set (own_set h ⟨A, 0, none⟩ x0 hne) ⟨A, 1, none⟩ x1 hne) ⟨A, 2, none⟩ x2 hne) ⟨A, 3, none⟩ x3 hne) ⟨A, 4, none⟩ x4 hne) ⟨A, 5, none⟩ x5 hne) ⟨A, 6, none⟩ x6 hne
theorem Blk.keptTo {w w' : World} {k B c : Nat} {cs : List Value} {t : TypeId} (h : Blk w k cs t) (hk : KeptTo B c w w') (hB : k < B) (hn : k ≠ c) : Blk w' k cs t := by
  unfold Blk at *
  rw [hk.block k hB hn, h]
theorem KeptTo.kept_of {B b : Nat} {u v w : World} (h : Kept b u v) (k : KeptTo B b v w) (hB : u.heap.size ≤ B) : Kept b u w :=
  ⟨k.os.trans h.os, k.tape.trans h.tape, k.output.trans h.output, Nat.le_trans h.size k.size, fun i hi hn => (k.block i (by omega) hn).trans (h.block i hi hn)⟩
def zP : List Value := [.string ⟨#[]⟩, .int .i64 0, .string ⟨#[]⟩, .string ⟨#[]⟩, .string ⟨#[]⟩, .slice none 0 0, .slice none 0 0]

set_option maxHeartbeats 1000000 in
set_option maxRecDepth 100000 in
theorem clause_no (w : World) (b : Nat) (s : ByteArray) (l : List UInt8) (hR : Rd w b s l) (hs : s.size ≤ 281474976710656) (hok : (atomR s l).ok = false) :
    Calls Tryz.prog 57 #[.pointer (some ⟨b, 0, none⟩)] w fun e w' => ∃ v, e = .returned v ∧ ClauseIs w w' (clauseR s l) v ∧ Rd w' b s (clauseR s l).rest ∧ Kept b w w' := by
  have hlt := hR.lt
  have HE : Hid (clauseR s l = ⟨false, [], [], [], [], (atomR s l).rest⟩) := by show clauseR s l = _; simp [clauseR, hok]
  obtain ⟨A, HA⟩ : ∃ A, Hid (A = atomR s l) := ⟨_, rfl⟩
  rw [← HA.out] at hok
  go_enter Tryz.func57, Tryz.ntmps57
  go_wp2_with (go_at_call 88; refine (atom_l _ b s l (by exact hR.alloc _) hs).mono ?_; rintro e w1 ⟨he, hR1, hK1⟩; rw [← HA.out] at he hR1; rw [AtR.val_eq, hok] at he; subst he; have hP1 := (Blk.new w zP 117).kept hK1 (by omega); obtain ⟨a0, a1, a2, a3, a4, a5, a6⟩ := hP1.c7; have fP := hP1.frozen; have hz1 : w.heap.size < w1.heap.size := hP1.lt; have hz2 : w.heap.size < w1.heap.size + 1 := (by omega))
  rw [HE.out, ← HA.out]
  have hv : ClauseIs w w1 ⟨false, [], [], [], [], A.rest⟩ (.tuple #[.agg #[.string ⟨#[]⟩, .int .i64 0, .string ⟨#[]⟩, .string ⟨#[]⟩, .string ⟨#[]⟩, .slice none 0 0, .slice none 0 0], .bool false]) :=
    ⟨_, _, _, _, _, _, _, _, _, _, _, rfl, by simp⟩
  exact bodyPost_ret (v := .tuple #[.agg #[.string ⟨#[]⟩, .int .i64 0, .string ⟨#[]⟩, .string ⟨#[]⟩, .string ⟨#[]⟩, .slice none 0 0, .slice none 0 0], .bool false]) (by simp [results, Tryz.results57, go_sem, a0, a1, a2, a3, a4, a5, a6, hz1, hz2]) rfl ⟨_, rfl, ⟨_, _, _, _, _, _, _, _, _, _, _, rfl, by simp⟩, ((hR1.set7 _ (by omega) _ _ _ _ _ _ _).alloc _).alloc _, ((((((Kept.refl b w).allocs _).trans hK1).set7 _ (by omega) _ _ _ _ _ _ _).allocs _).allocs _)⟩

theorem new_four (w : World) (o1 o2 o3 : Obj) (cs : List Value) (t : TypeId) : Blk ((((w.alloc o1).alloc o2).alloc o3).alloc (.cells cs.toArray t)) (w.heap.size + 1 + 1 + 1) cs t := by
  have h := Blk.new (((w.alloc o1).alloc o2).alloc o3) cs t
  have e : (((w.alloc o1).alloc o2).alloc o3).heap.size = w.heap.size + 1 + 1 + 1 := by simp
  rwa [e] at h
theorem new_three (w : World) (o1 o2 : Obj) (cs : List Value) (t : TypeId) (o4 : Obj) : Blk ((((w.alloc o1).alloc o2).alloc (.cells cs.toArray t)).alloc o4) (w.heap.size + 1 + 1) cs t := by
  have h := Blk.new ((w.alloc o1).alloc o2) cs t
  have e : ((w.alloc o1).alloc o2).heap.size = w.heap.size + 1 + 1 := by simp
  rw [e] at h
  exact h.alloc o4
/-- A row of one element. -/
theorem own_one {w : World} {g : Nat} {cs : List Value} {e : TypeId} {size base : Nat} (h : Blk w g cs e) (hl : cs.length = size) (hb : base ≤ g) : w.ownsRow base e size (.slice (some ⟨g, 0, none⟩) 1 1) 1 cs := by
  refine ⟨by omega, .inr ⟨g, 1, cs.toArray, rfl, hb, h, Nat.le_refl _, by unfold maxLen; omega, by simp; omega, ?_⟩⟩
  simp only [Nat.one_mul]
  exact List.take_of_length_le (by omega)

set_option maxHeartbeats 2000000 in
set_option maxRecDepth 100000 in
theorem clause_fact (w : World) (b : Nat) (s : ByteArray) (l : List UInt8) (hR : Rd w b s l) (hs : s.size ≤ 281474976710656) (hok : (atomR s l).ok = true) (h58 : tookB (atomR s l).rest 58 = false) :
    Calls Tryz.prog 57 #[.pointer (some ⟨b, 0, none⟩)] w fun e w' => ∃ v, e = .returned v ∧ ClauseIs w w' (clauseR s l) v ∧ Rd w' b s (clauseR s l).rest ∧ Kept b w w' := by
  have hsm : s.size ≤ maxLen := by unfold maxLen; omega
  have hlt := hR.lt
  have HE : Hid (clauseR s l = ⟨tookB (tookL (atomR s l).rest 58) 46, (atomR s l).name, (atomR s l).ts, [], [headSpot s l], tookL (tookL (atomR s l).rest 58) 46⟩) := by show clauseR s l = _; simp [clauseR, hok, h58]
  obtain ⟨A, HA⟩ : ∃ A, Hid (A = atomR s l) := ⟨_, rfl⟩
  have HHS : Hid ((headSpot s l).cells = [.int .i64 0, .int .i64 A.np', .int .i64 (A.p 0), .int .i64 (A.p 1), .int .i64 (A.p 2)]) := by rw [HA.out]; rfl
  rw [← HA.out] at hok h58
  obtain ⟨q, HQ⟩ : ∃ q, Hid (q = tookL A.rest 58) := ⟨_, rfl⟩
  go_enter Tryz.func57, Tryz.ntmps57
  go_wp2_with (first
    | (go_at_call 88; refine (atom_l _ b s l (by exact hR.alloc _) hs).mono ?_; rintro e w1 ⟨he, hR1, hK1⟩; rw [← HA.out] at he hR1; rw [AtR.val_eq, hok] at he; subst he; have hP1 := (Blk.new w zP 117).kept hK1 (by omega); have hz1 : w.heap.size < w1.heap.size := hP1.lt)
    | (go_at_call 89; refine (take_l _ b s A.rest 58 (by exact (((hR1.alloc _).alloc _).alloc _).alloc _) hsm (by omega)).mono ?_; rintro e w2 ⟨rfl, hR2, hK2⟩; rw [← HQ.out] at hR2; have hP2 := ((((hP1.alloc _).alloc _).alloc _).alloc _).kept hK2 (by omega); have hC2 := (new_four w1 _ _ _ [.string A.nm, .int .i64 A.cn, .string (A.t 0), .string (A.t 1), .string (A.t 2), .slice none 0 0, .slice (some ⟨w1.heap.size + 1 + 1, 0, none⟩) 1 1] 117).kept hK2 (by omega); have hW2 := (new_three w1 _ _ [.int .i64 0, .int .i64 A.np', .int .i64 (A.p 0), .int .i64 (A.p 1), .int .i64 (A.p 2)] 141 _).kept hK2 (by omega); have hz2 : w1.heap.size + 1 + 1 + 1 < w2.heap.size := hC2.lt; obtain ⟨c0, c1, c2, c3, c4, c5, c6⟩ := hC2.c7; have HK2 : Hid (Kept b w w2) := (((((((Kept.refl b w).allocs _).trans hK1).allocs _).allocs _).allocs _).allocs _).trans hK2; clear hK1 hK2 hP1))
  go_region_with (go_at_call 89; refine (take_l _ b s q 46 (by exact hR2.drew) hsm (by omega)).mono ?_; rintro e w3 ⟨rfl, hR3, hK3⟩; have hP3 := hP2.drew.kept hK3 (by omega); have hC3 := hC2.drew.kept hK3 (by omega); have hW3 := hW2.drew.kept hK3 (by omega); obtain ⟨d0, d1, d2, d3, d4, d5, d6⟩ := hC3.c7; obtain ⟨a0, a1, a2, a3, a4, a5, a6⟩ := hP3.c7; have fP := hP3.frozen; have HK3 : Hid (Kept b w w3) := HK2.out.drewn.trans hK3)
  all_goals go_wp2
  all_goals rw [HE.out, ← HA.out, ← HQ.out]
  all_goals exact bodyPost_ret (v := .tuple #[.agg #[.string A.nm, .int .i64 A.cn, .string (A.t 0), .string (A.t 1), .string (A.t 2), .slice none 0 0, .slice (some ⟨w1.heap.size + 1 + 1, 0, none⟩) 1 1], .bool (tookB q 46)]) (by simp [results, Tryz.results57, go_sem, a0, a1, a2, a3, a4, a5, a6]) rfl ⟨_, rfl, ⟨A.nm, A.t 0, A.t 1, A.t 2, A.cn, none, some ⟨w1.heap.size + 1 + 1, 0, none⟩, 0, 1, 0, 1, rfl, fun _ => ⟨rfl, rfl, rfl, World.ownsRow_nil _ _ _ _, by rw [List.flatMap_singleton, HHS.out]; exact own_set7 (own_one hW3 rfl (by omega)) _ (by simp only [Value.ownBlock, ne_eq, Option.some.injEq]; omega) _ _ _ _ _ _ _⟩⟩, hR3.set7 _ (by omega) _ _ _ _ _ _ _, HK3.out.set7 _ (by omega) _ _ _ _ _ _ _⟩

set_option maxHeartbeats 2000000 in
set_option maxRecDepth 100000 in
theorem clause_bad (w : World) (b : Nat) (s : ByteArray) (l : List UInt8) (hR : Rd w b s l) (hs : s.size ≤ 281474976710656) (hok : (atomR s l).ok = true) (h58 : tookB (atomR s l).rest 58 = true)
    (hbo : (bodyR s [headSpot s l] (tookL (atomR s l).rest 58)).ok = false) :
    Calls Tryz.prog 57 #[.pointer (some ⟨b, 0, none⟩)] w fun e w' => ∃ v, e = .returned v ∧ ClauseIs w w' (clauseR s l) v ∧ Rd w' b s (clauseR s l).rest ∧ Kept b w w' := by
  have hsm : s.size ≤ maxLen := by unfold maxLen; omega
  have hlt := hR.lt
  have HE : Hid (clauseR s l = ⟨false, [], [], [], [], (bodyR s [headSpot s l] (tookL (atomR s l).rest 58)).rest⟩) := by show clauseR s l = _; simp [clauseR, hok, h58, hbo]
  obtain ⟨A, HA⟩ : ∃ A, Hid (A = atomR s l) := ⟨_, rfl⟩
  have HHS : Hid ((headSpot s l).cells = [.int .i64 0, .int .i64 A.np', .int .i64 (A.p 0), .int .i64 (A.p 1), .int .i64 (A.p 2)]) := by rw [HA.out]; rfl
  rw [← HA.out] at hok h58 hbo
  obtain ⟨q, HQ⟩ : ∃ q, Hid (q = tookL A.rest 58) := ⟨_, rfl⟩
  rw [← HQ.out] at hbo
  obtain ⟨D, HD⟩ : ∃ D, Hid (D = bodyR s [headSpot s l] q) := ⟨_, rfl⟩
  rw [← HD.out] at hbo
  go_enter Tryz.func57, Tryz.ntmps57
  go_wp2_with (first
    | (go_at_call 88; refine (atom_l _ b s l (by exact hR.alloc _) hs).mono ?_; rintro e w1 ⟨he, hR1, hK1⟩; rw [← HA.out] at he hR1; rw [AtR.val_eq, hok] at he; subst he; have hP1 := (Blk.new w zP 117).kept hK1 (by omega); have hz1 : w.heap.size < w1.heap.size := hP1.lt)
    | (go_at_call 89; refine (take_l _ b s A.rest 58 (by exact (((hR1.alloc _).alloc _).alloc _).alloc _) hsm (by omega)).mono ?_; rintro e w2 ⟨rfl, hR2, hK2⟩; rw [← HQ.out] at hR2; have hP2 := ((((hP1.alloc _).alloc _).alloc _).alloc _).kept hK2 (by omega); have hC2 := (new_four w1 _ _ _ [.string A.nm, .int .i64 A.cn, .string (A.t 0), .string (A.t 1), .string (A.t 2), .slice none 0 0, .slice (some ⟨w1.heap.size + 1 + 1, 0, none⟩) 1 1] 117).kept hK2 (by omega); have hW2 := (new_three w1 _ _ [.int .i64 0, .int .i64 A.np', .int .i64 (A.p 0), .int .i64 (A.p 1), .int .i64 (A.p 2)] 141 _).kept hK2 (by omega); have hz2 : w1.heap.size + 1 + 1 + 1 < w2.heap.size := hC2.lt; have HK2 : Hid (Kept b w w2) := (((((((Kept.refl b w).allocs _).trans hK1).allocs _).allocs _).allocs _).allocs _).trans hK2; clear hK1 hK2 hP1)
    | (go_at_call 90; refine (body_l _ b s q (w1.heap.size + 1 + 1 + 1) (w1.heap.size + 1 + 1) _ _ _ _ _ (.slice (some ⟨w1.heap.size + 1 + 1, 0, none⟩) 1 1) [headSpot s l] (by exact hR2) hs hC2 (by rw [List.flatMap_singleton, HHS.out]; exact own_one hW2 rfl (Nat.le_refl _)) rfl (by omega) (by omega) (by omega)).mono ?_; rintro e w3 ⟨he, bv, sv, hC3, hL3, hS3, hR3, hKT3⟩; rw [← HD.out] at he hR3 hL3 hS3; rw [hbo] at he; subst he; have hP3 := hP2.keptTo hKT3 (by omega) (by omega); obtain ⟨a0, a1, a2, a3, a4, a5, a6⟩ := hP3.c7; have fP := hP3.frozen; have HK3 : Hid (Kept b w w3) := KeptTo.kept_of HK2.out hKT3 (by omega)))
  rw [HE.out, ← HA.out, ← HQ.out, ← HD.out]
  exact bodyPost_ret (v := .tuple #[.agg #[.string ⟨#[]⟩, .int .i64 0, .string ⟨#[]⟩, .string ⟨#[]⟩, .string ⟨#[]⟩, .slice none 0 0, .slice none 0 0], .bool false]) (by simp [results, Tryz.results57, go_sem, a0, a1, a2, a3, a4, a5, a6]) rfl ⟨_, rfl, ⟨_, _, _, _, _, _, _, _, _, _, _, rfl, by simp⟩, hR3.set7 _ (by omega) _ _ _ _ _ _ _, HK3.out.set7 _ (by omega) _ _ _ _ _ _ _⟩

set_option maxHeartbeats 2000000 in
set_option maxRecDepth 100000 in
theorem clause_rule (w : World) (b : Nat) (s : ByteArray) (l : List UInt8) (hR : Rd w b s l) (hs : s.size ≤ 281474976710656) (hok : (atomR s l).ok = true) (h58 : tookB (atomR s l).rest 58 = true)
    (hbo : (bodyR s [headSpot s l] (tookL (atomR s l).rest 58)).ok = true) :
    Calls Tryz.prog 57 #[.pointer (some ⟨b, 0, none⟩)] w fun e w' => ∃ v, e = .returned v ∧ ClauseIs w w' (clauseR s l) v ∧ Rd w' b s (clauseR s l).rest ∧ Kept b w w' := by
  have hsm : s.size ≤ maxLen := by unfold maxLen; omega
  have hlt := hR.lt
  have HE : Hid (clauseR s l = ⟨tookB (bodyR s [headSpot s l] (tookL (atomR s l).rest 58)).rest 46, (atomR s l).name, (atomR s l).ts, (bodyR s [headSpot s l] (tookL (atomR s l).rest 58)).lits, (bodyR s [headSpot s l] (tookL (atomR s l).rest 58)).spots, tookL (bodyR s [headSpot s l] (tookL (atomR s l).rest 58)).rest 46⟩) := by show clauseR s l = _; simp [clauseR, hok, h58, hbo]
  obtain ⟨A, HA⟩ : ∃ A, Hid (A = atomR s l) := ⟨_, rfl⟩
  have HHS : Hid ((headSpot s l).cells = [.int .i64 0, .int .i64 A.np', .int .i64 (A.p 0), .int .i64 (A.p 1), .int .i64 (A.p 2)]) := by rw [HA.out]; rfl
  rw [← HA.out] at hok h58 hbo
  obtain ⟨q, HQ⟩ : ∃ q, Hid (q = tookL A.rest 58) := ⟨_, rfl⟩
  rw [← HQ.out] at hbo
  obtain ⟨D, HD⟩ : ∃ D, Hid (D = bodyR s [headSpot s l] q) := ⟨_, rfl⟩
  rw [← HD.out] at hbo
  go_enter Tryz.func57, Tryz.ntmps57
  go_wp2_with (first
    | (go_at_call 88; refine (atom_l _ b s l (by exact hR.alloc _) hs).mono ?_; rintro e w1 ⟨he, hR1, hK1⟩; rw [← HA.out] at he hR1; rw [AtR.val_eq, hok] at he; subst he; have hP1 := (Blk.new w zP 117).kept hK1 (by omega); have hz1 : w.heap.size < w1.heap.size := hP1.lt)
    | (go_at_call 89; refine (take_l _ b s A.rest 58 (by exact (((hR1.alloc _).alloc _).alloc _).alloc _) hsm (by omega)).mono ?_; rintro e w2 ⟨rfl, hR2, hK2⟩; rw [← HQ.out] at hR2; have hP2 := ((((hP1.alloc _).alloc _).alloc _).alloc _).kept hK2 (by omega); have hC2 := (new_four w1 _ _ _ [.string A.nm, .int .i64 A.cn, .string (A.t 0), .string (A.t 1), .string (A.t 2), .slice none 0 0, .slice (some ⟨w1.heap.size + 1 + 1, 0, none⟩) 1 1] 117).kept hK2 (by omega); have hW2 := (new_three w1 _ _ [.int .i64 0, .int .i64 A.np', .int .i64 (A.p 0), .int .i64 (A.p 1), .int .i64 (A.p 2)] 141 _).kept hK2 (by omega); have hz2 : w1.heap.size + 1 + 1 + 1 < w2.heap.size := hC2.lt; have HK2 : Hid (Kept b w w2) := (((((((Kept.refl b w).allocs _).trans hK1).allocs _).allocs _).allocs _).allocs _).trans hK2; clear hK1 hK2 hP1)
    | (go_at_call 90; refine (body_l _ b s q (w1.heap.size + 1 + 1 + 1) (w1.heap.size + 1 + 1) _ _ _ _ _ (.slice (some ⟨w1.heap.size + 1 + 1, 0, none⟩) 1 1) [headSpot s l] (by exact hR2) hs hC2 (by rw [List.flatMap_singleton, HHS.out]; exact own_one hW2 rfl (Nat.le_refl _)) rfl (by omega) (by omega) (by omega)).mono ?_; rintro e w3 ⟨he, bv, sv, hC3, hL3, hS3, hR3, hKT3⟩; rw [← HD.out] at he hR3 hL3 hS3; rw [hbo] at he; subst he; have hP3 := hP2.keptTo hKT3 (by omega) (by omega); have HK3 : Hid (Kept b w w3) := KeptTo.kept_of HK2.out hKT3 (by omega); have HLC : Hid (∃ ao cap, bv = .slice ao D.lits.length cap) := own_form hL3; have HSC : Hid (∃ po pcap, sv = .slice po D.spots.length pcap) := own_form hS3; clear hC2 hP2 hW2 hR2 hKT3 hR1))
  obtain ⟨ao, cap, rfl⟩ := HLC.out
  obtain ⟨po, pcap, rfl⟩ := HSC.out
  obtain ⟨c0, c1, c2, c3, c4, c5, c6⟩ := hC3.c7
  go_region_with (go_at_call 89; refine (take_l _ b s D.rest 46 (by exact hR3.drew) hsm (by omega)).mono ?_; rintro e w4 ⟨rfl, hR4, hK4⟩; have hP4 := hP3.drew.kept hK4 (by omega); have hC4 := hC3.drew.kept hK4 (by omega); have hL4 := own_kept hL3.drew hK4 (own_ne hL3 hR3.at.1 (by decide)); have hS4 := own_kept hS3.drew hK4 (own_ne hS3 hR3.at.1 (by decide)); obtain ⟨d0, d1, d2, d3, d4, d5, d6⟩ := hC4.c7; obtain ⟨a0, a1, a2, a3, a4, a5, a6⟩ := hP4.c7; have fP := hP4.frozen; have HK4 : Hid (Kept b w w4) := HK3.out.drewn.trans hK4)
  all_goals go_wp2
  all_goals rw [HE.out, ← HA.out, ← HQ.out, ← HD.out]
  all_goals exact bodyPost_ret (v := .tuple #[.agg #[.string A.nm, .int .i64 A.cn, .string (A.t 0), .string (A.t 1), .string (A.t 2), .slice ao D.lits.length cap, .slice po D.spots.length pcap], .bool (tookB D.rest 46)]) (by simp [results, Tryz.results57, go_sem, a0, a1, a2, a3, a4, a5, a6]) rfl ⟨_, rfl, ⟨A.nm, A.t 0, A.t 1, A.t 2, A.cn, ao, po, D.lits.length, D.spots.length, cap, pcap, rfl, fun _ => ⟨rfl, rfl, rfl, own_set7 (own_mono hL4 (by omega)) _ (own_ne hL4 hP4 (by decide)) _ _ _ _ _ _ _, own_set7 (own_mono hS4 (by omega)) _ (own_ne hS4 hP4 (by decide)) _ _ _ _ _ _ _⟩⟩, hR4.set7 _ (by omega) _ _ _ _ _ _ _, HK4.out.set7 _ (by omega) _ _ _ _ _ _ _⟩

theorem clause_l (w : World) (b : Nat) (s : ByteArray) (l : List UInt8) (hR : Rd w b s l) (hs : s.size ≤ 281474976710656) :
    Calls Tryz.prog 57 #[.pointer (some ⟨b, 0, none⟩)] w fun e w' => ∃ v, e = .returned v ∧ ClauseIs w w' (clauseR s l) v ∧ Rd w' b s (clauseR s l).rest ∧ Kept b w w' := by
  cases h1 : (atomR s l).ok
  · exact clause_no w b s l hR hs h1
  · cases h2 : tookB (atomR s l).rest 58
    · exact clause_fact w b s l hR hs h1 h2
    · cases h3 : (bodyR s [headSpot s l] (tookL (atomR s l).rest 58)).ok
      · exact clause_bad w b s l hR hs h1 h2 h3
      · exact clause_rule w b s l hR hs h1 h2 h3

end Go.Proofs.YtpbfiffgcgnidaaGreatDoor

namespace Go.Proofs.YtpbfiffgcgnidaaGreatDoor
open Go.RowKit
attribute [local go_sem] drewN_alloc drewN_setCell

structure ClD where
  name : List UInt8
  ts : List (List UInt8)
  lits : List LitD
  spots : List SpotD
structure PrR where
  ok : Bool
  cls : List ClD
  rest : List UInt8
def ClR.d (r : ClR) : ClD := ⟨r.name, r.ts, r.lits, r.spots⟩
/-- The clauses: at most f more. -/
def progR (s : ByteArray) : Nat → List ClD → List UInt8 → PrR
  | 0, ds, l => if (skipL l).isEmpty = true then ⟨true, ds, skipL l⟩ else ⟨false, ds, skipL l⟩
  | f + 1, ds, l =>
    if (skipL l).isEmpty = true then ⟨true, ds, skipL l⟩
    else if (clauseR s (skipL l)).ok = false then ⟨false, ds, (clauseR s (skipL l)).rest⟩
    else progR s f (ds ++ [(clauseR s (skipL l)).d]) (clauseR s (skipL l)).rest
def programR (s : ByteArray) : PrR := progR s 40 [] s.data.toList

/-- A clause in its seven cells. -/
def PlacedIs (w : World) (base : Nat) (d : ClD) (cs : List Value) : Prop :=
  ∃ bv sv, cs = atomCells d.name d.ts ++ [bv, sv] ∧ w.ownsRow base 186 6 bv d.lits.length (d.lits.flatMap LitD.cells) ∧ w.ownsRow base 141 5 sv d.spots.length (d.spots.flatMap SpotD.cells)
/-- A program in its row. -/
def ProgIs (w : World) (base : Nat) (v : Value) (ds : List ClD) : Prop :=
  ∃ rows : List (List Value), w.ownsRow base 117 7 v ds.length rows.flatten ∧ rows.length = ds.length ∧ ∀ (i : Nat) (d : ClD) (cs : List Value), ds[i]? = some d → rows[i]? = some cs → PlacedIs w base d cs

theorem PlacedIs.kept {w w' : World} {base b : Nat} {d : ClD} {cs : List Value} (h : PlacedIs w base d cs) (hk : Kept b w w') {bs : List Value} {t : TypeId} (hb : Blk w b bs t) (h1 : t ≠ 186) (h2 : t ≠ 141) : PlacedIs w' base d cs := by
  obtain ⟨bv, sv, hc, hl, hs⟩ := h
  exact ⟨bv, sv, hc, own_kept hl hk (own_ne hl hb h1), own_kept hs hk (own_ne hs hb h2)⟩
theorem ProgIs.kept {w w' : World} {base b : Nat} {v : Value} {ds : List ClD} (h : ProgIs w base v ds) (hk : Kept b w w') {bs : List Value} {t : TypeId} (hb : Blk w b bs t) (h0 : t ≠ 117) (h1 : t ≠ 186) (h2 : t ≠ 141) : ProgIs w' base v ds := by
  obtain ⟨rows, ho, hl, hr⟩ := h
  exact ⟨rows, own_kept ho hk (own_ne ho hb h0), hl, fun i d cs hd hc => (hr i d cs hd hc).kept hk hb h1 h2⟩
theorem PlacedIs.alloc {w : World} {base : Nat} {d : ClD} {cs : List Value} (h : PlacedIs w base d cs) (o : Obj) : PlacedIs (w.alloc o) base d cs := by
  obtain ⟨bv, sv, hc, hl, hs⟩ := h
  exact ⟨bv, sv, hc, hl.alloc o, hs.alloc o⟩
theorem ProgIs.alloc {w : World} {base : Nat} {v : Value} {ds : List ClD} (h : ProgIs w base v ds) (o : Obj) : ProgIs (w.alloc o) base v ds := by
  obtain ⟨rows, ho, hl, hr⟩ := h
  exact ⟨rows, ho.alloc o, hl, fun i d cs hd hc => (hr i d cs hd hc).alloc o⟩
theorem ProgIs.nil (w : World) (base : Nat) : ProgIs w base (.slice none 0 0) [] := ⟨[], World.ownsRow_nil _ _ _ _, rfl, by simp⟩
theorem ProgIs.form {w : World} {base : Nat} {v : Value} {ds : List ClD} (h : ProgIs w base v ds) : ∃ ao cap, v = .slice ao ds.length cap := by
  obtain ⟨rows, ho, hl, hr⟩ := h
  exact own_form ho

theorem infoPlaced : (Tryz.prog.info? 117).map (fun i => (i.zero, i.size, i.bytes)) = some (some (.agg #[.string ⟨#[]⟩, .int .i64 0, .string ⟨#[]⟩, .string ⟨#[]⟩, .string ⟨#[]⟩, .slice none 0 0, .slice none 0 0]), 7, 120) := by kernel_rfl

theorem wpList_append_ownS {P : Program} (w : World) {ops : Array Oper} {rest : List Oper} {o : Oper} {a : Act} {Q : Exit → Act → World → Prop} (hgd : o.guard = none) (s x : Operand) (t : TypeId)
    (ho : o.op = .call { callee := .builtin .append, args := #[s, x], argTypes := #[t, t] })
    (base : Nat) (e : TypeId) (i : TypeInfo) (z : Value) (size bytes : Nat) (ht : P.underlying t = some (.slice e)) (hi : P.info? e = some i) (hz : i.zero = some z)
    (hsize : i.size = size) (hby : i.bytes = bytes) (hzs : z.cells.size = size) (hsz : 0 < size)
    (v : Value) (n : Nat) (xs : List Value) (hs : a.eval s = v) (hown : w.ownsRow base e size v n xs)
    (ad : Addr) (c : Nat) (news : List Value) (hx : a.eval x = .slice (some ad) 1 c) (hl : news.length = size) (hnews : ∀ j u, news[j]? = some u → w.cell? (ad.add j) = some u) (h1 : ∀ u ∈ news, u.oneCell' = true)
    (h63 : n + 1 ≤ maxLen) (hbytes : (n + 1) * bytes ≤ 140737488355328) (hbase : base ≤ w.heap.size)
    (h : ∀ g cap w', w'.ownsRow base e size (.slice (some ⟨g, 0, none⟩) (n + 1) cap) (n + 1) (xs ++ news) → w.grownBy w' v.ownBlock → wpList P ops Q rest (a.put o.dst (.slice (some ⟨g, 0, none⟩) (n + 1) cap)) w') : wpList P ops Q (o :: rest) a w := by
  refine wpList_append_own w hgd s x t ho base e i z size bytes ht hi hz hsize hby hzs hsz v n xs hs hown ad 1 c news hx (by omega) hnews h1 h63 hbytes hbase ?_
  intro v' w' h2 h3 _
  rcases h2.2 with ⟨hv, hn⟩ | ⟨g, cap, cur, hv, _⟩
  · omega
  · subst hv
    exact h g cap w' h2 h3

def B2 (w w1 w2 : World) : Prop := w.heap.size ≤ w1.heap.size ∧ w.heap.size ≤ w2.heap.size
/-- One clause more. -/
theorem ProgIs.more {w w' : World} {base : Nat} {v v' : Value} {ds : List ClD} {d : ClD} {cs : List Value} {rows : List (List Value)} (hr : ∀ (i : Nat) (d : ClD) (cs : List Value), ds[i]? = some d → rows[i]? = some cs → PlacedIs w base d cs) (hl : rows.length = ds.length)
    (ho : w.ownsRow base 117 7 v ds.length rows.flatten) (hd : PlacedIs w base d cs)
    (ho' : w'.ownsRow base 117 7 v' (ds.length + 1) (rows.flatten ++ cs)) (hg : w.grownBy w' v.ownBlock) : ProgIs w' base v' (ds ++ [d]) := by
  have step : ∀ d cs, PlacedIs w base d cs → PlacedIs w' base d cs := by
    rintro d cs ⟨bv, sv, hc, hlb, hsb⟩
    exact ⟨bv, sv, hc, hlb.kept hg (own_ne2 hlb ho (by decide)), hsb.kept hg (own_ne2 hsb ho (by decide))⟩
  refine ⟨rows ++ [cs], by simpa using ho', by simp [hl], ?_⟩
  intro i d' cs' h1 h2
  by_cases hi : i < ds.length
  · rw [List.getElem?_append_left hi] at h1
    rw [List.getElem?_append_left (by omega)] at h2
    exact step _ _ (hr i d' cs' h1 h2)
  · rw [List.getElem?_append_right (by omega)] at h1
    rw [List.getElem?_append_right (by omega), hl] at h2
    cases hk : i - ds.length with
    | zero => rw [hk] at h1 h2; simp at h1 h2; subst h1; subst h2; exact step _ _ hd
    | succ k => rw [hk] at h1; simp at h1

theorem new_cells2 (w : World) (o : Obj) (cs : List Value) (t : TypeId) : ∀ j u, cs[j]? = some u → ((w.alloc o).alloc (.cells cs.toArray t)).cell? ((⟨w.heap.size + 1, 0, none⟩ : Addr).add j) = some u := by
  intro j u h
  have h' := new_cells (w.alloc o) cs t j u h
  have e : (w.alloc o).heap.size = w.heap.size + 1 := by simp
  rwa [e] at h'
def slen : Value → Nat | .slice _ n _ => n | _ => 0
def progV (r : PrR) (s : ByteArray) (v : Value) : Value := if r.ok = true then .tuple #[v, .int .i64 0, .bool true] else .tuple #[.slice none 0 0, .int .i64 (posOf s r.rest), .bool false]

set_option maxHeartbeats 2000000 in
set_option maxRecDepth 100000 in
theorem readProgram_l (w : World) (s : ByteArray) (hs : s.size ≤ 281474976710656) :
    Calls Tryz.prog 25 #[.string s] w fun e w' => ∃ v, e = .returned (progV (programR s) s v) ∧ ((programR s).ok = true → ProgIs w' w.heap.size v (programR s).cls) ∧ Below w.heap.size w w' := by
  have hsm : s.size ≤ maxLen := by unfold maxLen; omega
  have hR0 : Rd (w.alloc (.cells #[.string s, .int .i64 0] 114)) w.heap.size s s.data.toList := ⟨0, by omega, by simp, Blk.new w [.string s, .int .i64 0] 114⟩
  obtain ⟨i1, hi1, hy0, hy1, hy2⟩ := info_parts infoPlaced
  go_enter Tryz.func25, Tryz.ntmps25
  go_wp2
  go_loopw [6] (fun v wr => ∃ (ds : List ClD) (r : List UInt8), ds.length ≤ 40 ∧ Hid (progR s (40 - ds.length) ds r = programR s) ∧ Rd wr w.heap.size s r ∧ ProgIs wr w.heap.size v ds ∧ Below w.heap.size w wr) (fun v _ => 40 - slen v)
  case atStart => exact ⟨[], s.data.toList, by simp, rfl, hR0, ProgIs.nil _ _, (Below.refl _ _).alloc (Nat.le_refl _) _⟩
  case round =>
    obtain ⟨ds, r, hd4, HX, hRr, hPr, hB⟩ := hrel
    obtain ⟨ao, cap, rfl⟩ := hPr.form
    have hbw : w.heap.size < wr.heap.size := hRr.lt
    cases hem : (skipL r).isEmpty
    · by_cases h40 : ds.length = 40
      · have hq : ((ds.length : Int) == 40) = true := by rw [beq_iff_eq]; omega
        have HE : Hid (programR s = ⟨false, ds, skipL r⟩) := by
          show programR s = _
          rw [← HX.out, h40]; simp [progR, hem]
        clear h40
        go_wp2_with (go_at_call 56; refine (atEnd_l _ w.heap.size s r (by exact hRr) hsm).mono ?_; rintro e w1 ⟨rfl, hR1, hK1⟩; have c1 := hR1.c1)
        go_quiet (fail)
        go_wp2
        go_ret3
        rw [HE.out]
        exact ⟨.slice none 0 0, by simp [progV], by simp, hB.trans (below_drewN (hK1.below (Nat.le_refl _) (by omega)) _)⟩
      · have hq : ((ds.length : Int) == 40) = false := by rw [beq_eq_false_iff_ne]; omega
        have hd39 : ds.length + 1 ≤ 40 := by omega
        have HN : Hid (40 - ds.length = (39 - ds.length) + 1) := by show 40 - ds.length = _; omega
        clear h40
        obtain ⟨m, HM⟩ : ∃ m, Hid (m = skipL r) := ⟨_, rfl⟩
        obtain ⟨C, HC⟩ : ∃ C, Hid (C = clauseR s m) := ⟨_, rfl⟩
        cases hok : C.ok
        · have HE : Hid (programR s = ⟨false, ds, C.rest⟩) := by
            show programR s = _
            rw [HC.out, HM.out] at hok
            rw [← HX.out, HN.out]; simp [progR, hem, hok, HC.out, HM.out]
          go_wp2_with (first
            | (go_at_call 56; refine (atEnd_l _ w.heap.size s r (by exact hRr) hsm).mono ?_; rintro e w1 ⟨rfl, hR1, hK1⟩; rw [← HM.out] at hR1)
            | (go_at_call 57; refine (clause_l _ w.heap.size s m (by exact hR1) hs).mono ?_; rintro e w2 ⟨v, rfl, hv, hR2, hK2⟩; rw [← HC.out] at hv hR2; obtain ⟨n0, t0, t1, t2, c, ao2, po2, n2, m2, cap2, pcap2, hve, -⟩ := hv; rw [hok] at hve; subst hve; have c1 := hR2.c1; have hz2 : w.heap.size < w2.heap.size := hR2.lt))
          go_quiet (fail)
          go_wp2
          go_ret3
          rw [HE.out]
          exact ⟨.slice none 0 0, by simp [progV], by simp, hB.trans (below_drewN (((hK1.trans hK2).allocs _).below (Nat.le_refl _) (by omega)) _)⟩
        · have HE : Hid (progR s (40 - (ds ++ [C.d]).length) (ds ++ [C.d]) C.rest = programR s) := by
            show progR s (40 - (ds ++ [C.d]).length) (ds ++ [C.d]) C.rest = programR s
            rw [HC.out, HM.out] at hok
            rw [← HX.out, HN.out, List.length_append, List.length_singleton, show 40 - (ds.length + 1) = 39 - ds.length by omega]; simp [progR, hem, hok, HC.out, HM.out]
          go_wp2_with (first
            | (go_at_call 56; refine (atEnd_l _ w.heap.size s r (by exact hRr) hsm).mono ?_; rintro e w1 ⟨rfl, hR1, hK1⟩; rw [← HM.out] at hR1)
            | (go_at_call 57; refine (clause_l _ w.heap.size s m (by exact hR1) hs).mono ?_; rintro e w2 ⟨v, rfl, hv, hR2, hK2⟩; rw [← HC.out] at hv hR2; obtain ⟨n0, t0, t1, t2, c, ao2, po2, n2, m2, cap2, pcap2, hve, hvc⟩ := hv; have HVC := hid (hvc hok); clear hvc; rw [hok] at hve; subst hve; have hz2 : w.heap.size < w2.heap.size := hR2.lt; have HP2 := hid ((hPr.kept hK1 hRr.at.1 (by decide) (by decide) (by decide)).kept hK2 hR1.at.1 (by decide) (by decide) (by decide)); obtain ⟨rows, ho, hl, hr⟩ := HP2.out; have HL := hid hl; clear hl; have hb2 : B2 w w1 w2 := ⟨by have := hK1.size; omega, by omega⟩)
            | (at_builtin; refine wpList_append_ownS _ rfl _ _ 52 rfl w.heap.size 117 i1 _ 7 120 Tryz.underlying52 hi1 hy0 hy1 hy2 rfl (by decide) _ ds.length rows.flatten rfl ((ho.alloc _).alloc _) ⟨w2.heap.size + 1, 0, none⟩ 1 [Value.string n0, .int .i64 c, .string t0, .string t1, .string t2, .slice ao2 n2 cap2, .slice po2 m2 pcap2] rfl rfl (new_cells2 _ _ _ _) (by intro u hu; simp at hu; rcases hu with rfl | rfl | rfl | rfl | rfl | rfl | rfl <;> rfl) (by unfold maxLen; omega) (by omega) (by simp; omega) ?_; intro g cap3 w3 ho3 hg3))
          obtain ⟨hv1, hv2, hv3, hv4, hv5⟩ := HVC.out
          have hpl : PlacedIs w2 w.heap.size C.d [Value.string n0, .int .i64 c, .string t0, .string t1, .string t2, .slice ao2 n2 cap2, .slice po2 m2 pcap2] := by
            refine ⟨.slice ao2 n2 cap2, .slice po2 m2 pcap2, ?_, ?_, ?_⟩
            · show [Value.string n0, .int .i64 c, .string t0, .string t1, .string t2] ++ [Value.slice ao2 n2 cap2, .slice po2 m2 pcap2] = _
              rw [hv1]; rfl
            · rw [hv2] at hv4 ⊢; exact own_mono hv4 hb2.1
            · rw [hv3] at hv5 ⊢; exact own_mono hv5 hb2.1
          have hmore := ProgIs.more (fun i d cs h1 h2 => ((hr i d cs h1 h2).alloc _).alloc _) HL.out ((ho.alloc _).alloc _) ((hpl.alloc _).alloc _) ho3 hg3
          have hR3 := ((hR2.alloc _).alloc _).grown hg3 (own_ne ho hR2.at.1 (by decide))
          have hB3 := ((hB.trans ((hK1.trans hK2).below (Nat.le_refl _) (by omega))).alloc (by omega) _ |>.alloc (by simp; omega) _).grown hg3 (by simp; omega) (own_base ho)
          exact ⟨⟨ds ++ [C.d], C.rest, by simpa using hd39, HE, hR3, hmore, hB3⟩, by simp [slen]; omega⟩
    · have HE : Hid (programR s = ⟨true, ds, skipL r⟩) := by
        show programR s = _
        rw [← HX.out]
        cases 40 - ds.length <;> simp [progR, hem]
      go_wp2_with (go_at_call 56; refine (atEnd_l _ w.heap.size s r (by exact hRr) hsm).mono ?_; rintro e w1 ⟨rfl, hR1, hK1⟩)
      go_ret3
      rw [HE.out]
      exact ⟨_, by simp [progV], fun _ => hPr.kept hK1 hRr.at.1 (by decide) (by decide) (by decide), hB.trans (hK1.below (Nat.le_refl _) (by omega))⟩

end Go.Proofs.YtpbfiffgcgnidaaGreatDoor
