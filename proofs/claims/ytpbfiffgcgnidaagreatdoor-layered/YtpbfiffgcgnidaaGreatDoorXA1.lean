/-
  OUR OWN. The numbers of terms of a whole program.
-/
import Derived.Test.YtpbfiffgcgnidaaGreatDoorXF1
namespace Go.Proofs.YtpbfiffgcgnidaaGreatDoor
open Go.RowKit Go.WideMaps Go.Maps
attribute [local go_sem] drewN_alloc drewN_setCell

/-- What holds of every clause that was read. -/
structure ClD.WF (d : ClD) : Prop where
  spots : d.spots.length = d.lits.length + 1
  lits : d.lits.length ≤ 4
  words : ∀ a ∈ d.atoms, a.1.length ≤ 12 ∧ a.2.length ≤ 3 ∧ ∀ t ∈ a.2, t.length ≤ 12
  places : ∀ p ∈ d.spots, p.ps.length ≤ 3

def ClD.nm (d : ClD) : ByteArray := bs d.name
def ClD.cn (d : ClD) : Int := d.ts.length
def ClD.t (d : ClD) (i : Nat) : ByteArray := bs (d.ts.getD i [])

theorem placed_at {w : World} {base : Nat} {ao : Option Addr} {cap : Nat} {ds : List ClD} (h : ProgIs w base (.slice ao ds.length cap) ds) (i : Nat) (hi : i < ds.length) :
    ∃ g bo bcap so scap, ao = some ⟨g, 0, none⟩ ∧ g < w.heap.size ∧ w.cell? ⟨g, i * 7, none⟩ = some (.string ds[i].nm) ∧ w.cell? ⟨g, i * 7 + 1, none⟩ = some (.int .i64 ds[i].cn) ∧ w.cell? ⟨g, i * 7 + 2, none⟩ = some (.string (ds[i].t 0)) ∧
      w.cell? ⟨g, i * 7 + 3, none⟩ = some (.string (ds[i].t 1)) ∧ w.cell? ⟨g, i * 7 + 4, none⟩ = some (.string (ds[i].t 2)) ∧ w.cell? ⟨g, i * 7 + 5, none⟩ = some (.slice bo ds[i].lits.length bcap) ∧ w.cell? ⟨g, i * 7 + 6, none⟩ = some (.slice so ds[i].spots.length scap) ∧
      w.ownsRow base 186 6 (.slice bo ds[i].lits.length bcap) ds[i].lits.length (ds[i].lits.flatMap LitD.cells) ∧ w.ownsRow base 141 5 (.slice so ds[i].spots.length scap) ds[i].spots.length (ds[i].spots.flatMap SpotD.cells) := by
  obtain ⟨rows, ho, hl, hr⟩ := h
  have hall : ∀ r ∈ rows, r.length = 7 := by
    intro r hr'
    obtain ⟨j, hj, rfl⟩ := List.getElem_of_mem hr'
    obtain ⟨bv, sv, hc, _⟩ := hr j ds[j] rows[j] (by simp) (by simp)
    rw [hc]; rfl
  obtain ⟨g, rfl, hb, hc⟩ := own_at ho hall hl i hi
  obtain ⟨bv, sv, hcs, hbv, hsv⟩ := hr i ds[i] rows[i] (by simp) (by simp)
  have e : rows.getD i [] = rows[i] := by simp [show i < rows.length by omega]
  rw [e, hcs] at hc
  obtain ⟨bo, bcap, rfl⟩ := own_form hbv
  obtain ⟨so, scap, rfl⟩ := own_form hsv
  exact ⟨g, bo, bcap, so, scap, rfl, (ho.lt g rfl).2, hc 0 (by decide), hc 1 (by decide), hc 2 (by decide), hc 3 (by decide), hc 4 (by decide), hc 5 (by decide), hc 6 (by decide), hbv, hsv⟩

def atN (a : List UInt8 × List (List UInt8)) : ByteArray := bs a.1
def atC (a : List UInt8 × List (List UInt8)) : Int := a.2.length
def atT (a : List UInt8 × List (List UInt8)) (i : Nat) : ByteArray := bs (a.2.getD i [])
theorem atom_at {w : World} {base : Nat} {g n cap : Nat} {ats : List (List UInt8 × List (List UInt8))} (h : w.ownsRow base 80 5 (.slice (some ⟨g, 0, none⟩) n cap) n (ats.flatMap atomC)) (hn : ats.length = n) (i : Nat) (hi : i < ats.length) :
    w.cell? ⟨g, i * 5, none⟩ = some (.string (atN ats[i])) ∧ w.cell? ⟨g, i * 5 + 1, none⟩ = some (.int .i64 (atC ats[i])) ∧ w.cell? ⟨g, i * 5 + 2, none⟩ = some (.string (atT ats[i] 0)) ∧ w.cell? ⟨g, i * 5 + 3, none⟩ = some (.string (atT ats[i] 1)) ∧ w.cell? ⟨g, i * 5 + 4, none⟩ = some (.string (atT ats[i] 2)) := by
  rw [flat_map] at h
  obtain ⟨g', hg, hb, hc⟩ := own_at h (by intro r hr; simp at hr; obtain ⟨a, b, _, rfl⟩ := hr; rfl) (by simp [hn]) i (by omega)
  simp at hg
  subst hg
  have e : (ats.map atomC).getD i [] = atomC ats[i] := by simp [hi]
  rw [e] at hc
  exact ⟨hc 0 (by decide), hc 1 (by decide), hc 2 (by decide), hc 3 (by decide), hc 4 (by decide)⟩
theorem spot_at {w : World} {base : Nat} {so : Option Addr} {cap : Nat} {sp : List SpotD} (h : w.ownsRow base 141 5 (.slice so sp.length cap) sp.length (sp.flatMap SpotD.cells)) (i : Nat) (hi : i < sp.length) :
    ∃ g, so = some ⟨g, 0, none⟩ ∧ g < w.heap.size ∧ w.cell? ⟨g, i * 5, none⟩ = some (.int .i64 (sp[i].mark : Nat)) ∧ w.cell? ⟨g, i * 5 + 1, none⟩ = some (.int .i64 (sp[i].np : Nat)) ∧ w.cell? ⟨g, i * 5 + 2, none⟩ = some (.int .i64 (sp[i].ps.getD 0 0 : Nat)) ∧
      w.cell? ⟨g, i * 5 + 3, none⟩ = some (.int .i64 (sp[i].ps.getD 1 0 : Nat)) ∧ w.cell? ⟨g, i * 5 + 4, none⟩ = some (.int .i64 (sp[i].ps.getD 2 0 : Nat)) := by
  rw [flat_map] at h
  obtain ⟨g, rfl, hb, hc⟩ := own_at h (by intro r hr; simp at hr; obtain ⟨a, _, rfl⟩ := hr; rfl) (by simp) i hi
  have e : (sp.map SpotD.cells).getD i [] = sp[i].cells := by simp [hi]
  rw [e] at hc
  exact ⟨g, rfl, (h.lt g rfl).2, hc 0 (by decide), hc 1 (by decide), hc 2 (by decide), hc 3 (by decide), hc 4 (by decide)⟩

/-- A clause's atoms for the count: a name, how many terms, its place. -/
def ClD.items (d : ClD) : List (List UInt8 × Nat × Nat) := (d.atoms.zip d.spots).map fun x => (x.1.1, x.1.2.length, x.2.np)
def arityGo : List (List UInt8) → List Nat → List (List UInt8 × Nat × Nat) → Option Nat
  | _, _, [] => none
  | xs, ns, (k, n, p) :: r => if hasW xs k = true then (if ns.getD (posIn xs k) 0 = n then arityGo xs ns r else some p) else arityGo (xs ++ [k]) (ns ++ [n]) r
def arityR (ds : List ClD) : Option Nat := arityGo [] [] (ds.flatMap ClD.items)
def foundV : Option Nat → Value
  | some p => .tuple #[.int .i64 (p : Nat), .bool true]
  | none => .tuple #[.int .i64 0, .bool false]

theorem items_len (d : ClD) (h : d.WF) : d.items.length = d.lits.length + 1 := by simp [ClD.items, ClD.atoms, h.spots]
theorem items_at (d : ClD) (h : d.WF) (j : Nat) (hj : j < d.lits.length + 1) : d.items[j]'(by rw [items_len d h]; exact hj) = ((d.atoms[j]'(by simp [ClD.atoms]; exact hj)).1, (d.atoms[j]'(by simp [ClD.atoms]; exact hj)).2.length, (d.spots[j]'(by rw [h.spots]; exact hj)).np) := by simp [ClD.items]

theorem own_below {w w' : World} {base : Nat} {e : TypeId} {size : Nat} {v : Value} {n : Nat} {xs : List Value} (h : w.ownsRow base e size v n xs) (hb : Below w.heap.size w w') : w'.ownsRow base e size v n xs :=
  h.kept (row := none) ⟨hb.os, hb.tape, hb.output, hb.size, fun k hk _ => hb.block k hk⟩ (by cases v.ownBlock <;> simp)
theorem map_below {w w' : World} {P : Program} {k : TypeId} {R : Value → Option (DataW Unit × List MemPlace)} {r n : Nat} {D : DataW Unit} (h : w.ownsMap P k R r n D) (hb : Below w.heap.size w w') : w'.ownsMap P k R r n D :=
  h.kept (row := none) ⟨hb.os, hb.tape, hb.output, hb.size, fun i hi _ => hb.block i hi⟩ (by simp)
theorem SetIs.below {base : Nat} {w w' : World} {mv lv : Value} {xs : List (List UInt8)} (h : SetIs w base mv lv xs) (hb : Below w.heap.size w w') : SetIs w' base mv lv xs := by
  refine ⟨own_below h.1 hb, ?_⟩
  rcases h.2 with h2 | ⟨r, D, hm, hr, ho, hD⟩
  · exact .inl h2
  · exact .inr ⟨r, D, hm, hr, map_below ho hb, hD⟩
theorem CountsIs.below {base : Nat} {w w' : World} {mv lv cv : Value} {xs : List (List UInt8)} {ns : List Nat} (h : CountsIs w base mv lv cv xs ns) (hb : Below w.heap.size w w') : CountsIs w' base mv lv cv xs ns := ⟨h.1.below hb, h.2.1, own_below h.2.2 hb⟩
theorem below_alloc (w : World) (o : Obj) : Below w.heap.size w (w.alloc o) := (Below.refl _ w).alloc (Nat.le_refl _) o
theorem KeptX.toBelow {base sb : Nat} {T : List TypeId} {w w' : World} (h : KeptX base sb T w w') (hs : base ≤ sb) : Below base w w' := ⟨h.os, h.tape, h.output, h.size, fun k hk => h.low k hk (by omega)⟩
def zC : List Value := [.map none, .slice none 0 0, .slice none 0 0]
theorem drop_items (L : List (List UInt8 × Nat × Nat)) (j : Nat) (h : j < L.length) : L.drop j = L[j] :: L.drop (j + 1) := List.drop_eq_getElem_cons h

set_option maxHeartbeats 4000000 in
set_option maxRecDepth 100000 in
theorem arity_c (w : World) (base : Nat) (ao : Option Addr) (cap : Nat) (ds : List ClD) (hP : ProgIs w base (.slice ao ds.length cap) ds) (hW : ∀ d ∈ ds, d.WF) (hn : ds.length ≤ 40) :
    Calls Tryz.prog 58 #[.slice ao ds.length cap] w fun e w' => e = .returned (foundV (arityR ds)) ∧ Below w.heap.size w w' := by
  go_enter Tryz.func58, Tryz.ntmps58
  go_wp2
  go_loopw [11] (fun i wr => ∃ (k : Nat) (xs : List (List UInt8)) (ns : List Nat) (mv lv cv : Value), k ≤ ds.length ∧ i = .int .i64 k ∧ xs.length ≤ 5 * k ∧ Hid (arityGo xs ns ((ds.drop k).flatMap ClD.items) = arityR ds) ∧
    Blk wr w.heap.size [mv, lv, cv] 180 ∧ CountsIs wr w.heap.size mv lv cv xs ns ∧ Below w.heap.size w wr) (fun i _ => ds.length - (intOf i).toNat)
  case atStart =>
    exact ⟨0, [], [], .map none, .slice none 0 0, .slice none 0 0, by omega, rfl, by simp, rfl, Blk.new w zC 180, ⟨⟨World.ownsRow_nil _ _ _ _, .inl ⟨rfl, rfl⟩⟩, rfl, World.ownsRow_nil _ _ _ _⟩, (Below.refl _ _).alloc (Nat.le_refl _) _⟩
  case round =>
    obtain ⟨k, xs, ns, mv, lv, cv, hk, rfl, hxl, HX, hC, hCI, hB⟩ := hrel
    by_cases hlt : k < ds.length
    · obtain ⟨g, bo, bcap, so, scap, rfl, hg, e0, e1, e2, e3, e4, e5, e6, hLb, hSp⟩ := placed_at hP k hlt
      have hwf := hW ds[k] (List.getElem_mem hlt)
      have HD : Hid ((ds.drop k).flatMap ClD.items = ds[k].items ++ (ds.drop (k + 1)).flatMap ClD.items) := by
        show (ds.drop k).flatMap ClD.items = _
        rw [List.drop_eq_getElem_cons hlt]; rfl
      generalize hdk : ds[k] = d at *
      have HDK := hid hdk
      clear hdk
      have hbw : w.heap.size < wr.heap.size := hC.lt
      have hl4 := hwf.lits
      have HSL := hid hwf.spots
      rw [← hB.cell (p := ⟨g, k * 7, none⟩) hg] at e0
      rw [← hB.cell (p := ⟨g, k * 7 + 1, none⟩) hg] at e1
      rw [← hB.cell (p := ⟨g, k * 7 + 2, none⟩) hg] at e2
      rw [← hB.cell (p := ⟨g, k * 7 + 3, none⟩) hg] at e3
      rw [← hB.cell (p := ⟨g, k * 7 + 4, none⟩) hg] at e4
      rw [← hB.cell (p := ⟨g, k * 7 + 5, none⟩) hg] at e5
      rw [← hB.cell (p := ⟨g, k * 7 + 6, none⟩) hg] at e6
      have hBr : Below wr.heap.size wr (wr.alloc (.cells #[Value.string d.nm, .int .i64 d.cn, .string (d.t 0), .string (d.t 1), .string (d.t 2), .slice bo d.lits.length bcap, .slice so d.spots.length scap] 117)) := below_alloc _ _
      have hbx0 := Blk.new wr [Value.string d.nm, .int .i64 d.cn, .string (d.t 0), .string (d.t 1), .string (d.t 2), .slice bo d.lits.length bcap, .slice so d.spots.length scap] 117
      go_wp2_with (go_at_call 91; refine (atoms_c _ base d.nm (d.t 0) (d.t 1) (d.t 2) d.cn bo bcap d.name d.ts d.lits rfl (by exact (own_below hLb hB).alloc _) (by omega)).mono ?_; rintro e w1 ⟨ga, capa, rfl, hA1, hB1⟩)
      clear e0 e1 e2 e3 e4 e5 e6
      have hC1 := (hC.alloc _).below hB1
      have hCI1 := (hCI.below hBr).below hB1
      have hbx1 := hbx0.below hB1
      have hBw1 : Below w.heap.size w w1 := (hB.alloc (by omega) _).trans (hB1.mono (by simp; omega))
      clear hBr hbx0 hC hCI hB hB1
      simp only [World.size_alloc] at hA1
      generalize wr.heap.size = R at *
      go_loopw [19] (fun jv wr => ∃ (j : Nat) (xs : List (List UInt8)) (ns : List Nat) (mv lv cv : Value), j ≤ d.lits.length + 1 ∧ jv = .int .i64 j ∧ xs.length ≤ 5 * k + j ∧ Hid (arityGo xs ns (d.items.drop j ++ (ds.drop (k + 1)).flatMap ClD.items) = arityR ds) ∧
        Blk wr w.heap.size [mv, lv, cv] 180 ∧ CountsIs wr w.heap.size mv lv cv xs ns ∧ Blk wr R [.string d.nm, .int .i64 d.cn, .string (d.t 0), .string (d.t 1), .string (d.t 2), .slice bo d.lits.length bcap, .slice so d.spots.length scap] 117 ∧
        wr.ownsRow (R + 1) 80 5 (.slice (some ⟨ga, 0, none⟩) (d.lits.length + 1) capa) (d.lits.length + 1) (d.atoms.flatMap atomC) ∧ Below w.heap.size w wr) (fun jv _ => d.lits.length + 1 - (intOf jv).toNat)
      case atStart =>
        refine ⟨0, xs, ns, mv, lv, cv, by omega, rfl, by omega, ?_, hC1, hCI1, hbx1, ?_, hBw1⟩
        · show arityGo xs ns (d.items.drop 0 ++ _) = arityR ds
          rw [← HX.out, HD.out]; rfl
        · exact hA1
      case round =>
        clear hC1 hCI1 hbx1 hBw1 hA1 HX hxl
        obtain ⟨j, xs, ns, mv, lv, cv, hj, rfl, hxl, HX, hC, hCI, hbx, hA, hB⟩ := hrel
        have hbw1 : w.heap.size < wr.heap.size := hC.lt
        have hbw2 : R < wr.heap.size := hbx.lt
        have hal : d.atoms.length = d.lits.length + 1 := by simp [ClD.atoms]
        by_cases hjl : j < d.lits.length + 1
        · obtain ⟨a0, a1, a2, a3, a4⟩ := atom_at hA hal j (by omega)
          have hitem := items_at d hwf j hjl
          have hdrop := List.drop_eq_getElem_cons (show j < d.items.length by rw [items_len d hwf]; exact hjl)
          rw [hitem] at hdrop
          have hkl := (hwf.words _ (List.getElem_mem (show j < d.atoms.length by omega))).1
          obtain ⟨a, ha⟩ : ∃ a, d.atoms[j] = a := ⟨_, rfl⟩
          obtain ⟨q, hq⟩ : ∃ q : Nat, (d.spots[j]'(by rw [hwf.spots]; exact hjl)).np = q := ⟨_, rfl⟩
          simp only [ha] at a0 a1 a2 a3 a4 hdrop hkl
          rw [hq] at hdrop
          have HQ := hid hq
          have HDR := hid hdrop
          clear ha hq hdrop hitem
          obtain ⟨nm, ts⟩ := a
          have a0' : wr.cell? ⟨ga, j * 5, none⟩ = some (.string (bs nm)) := a0
          have a1' : wr.cell? ⟨ga, j * 5 + 1, none⟩ = some (.int .i64 (ts.length : Nat)) := a1
          clear a0 a1
          have hkm : nm.length ≤ maxLen := by unfold maxLen; simp only [] at hkl; omega
          have hbe : Below wr.heap.size wr (wr.alloc (.cells #[Value.string (bs nm), .int .i64 (ts.length : Nat), .string (atT (nm, ts) 0), .string (atT (nm, ts) 1), .string (atT (nm, ts) 2)] 80)) := below_alloc _ _
          cases hx : hasW xs nm
          · have HN : Hid (arityGo (xs ++ [nm]) (ns ++ [ts.length]) (d.items.drop (j + 1) ++ (ds.drop (k + 1)).flatMap ClD.items) = arityR ds) := by
              show _ = _
              rw [← HX.out, HDR.out]; simp [arityGo, hx]
            go_wp2_with (go_at_call 92; refine (fits_new _ w.heap.size w.heap.size mv lv cv xs ns nm ts.length _ _ _ (by exact hC.alloc _) (by exact hCI.below hbe) hkm hx (by omega) (by simp; omega)).mono ?_; rintro e w2 ⟨rfl, mv', lv', cv', hC2, hCI2, hX2⟩)
            have hB2 : Below w.heap.size w w2 := (hB.trans (hbe.mono (by omega))).trans (hX2.toBelow (Nat.le_refl _))
            exact ⟨⟨j + 1, xs ++ [nm], ns ++ [ts.length], mv', lv', cv', hjl, by go_num, by simp; omega, HN, hC2, hCI2, hX2.ty _ _ _ (by omega) (by decide) (hbx.alloc _), hX2.own (hA.alloc _) (own_ne hA hC (by decide)) (by decide), hB2⟩, by simp [intOf]; omega⟩
          · by_cases hnn : ns.getD (posIn xs nm) 0 = ts.length
            · have hf : (nAt ns (posIn xs nm) == (ts.length : Int)) = true := by rw [beq_iff_eq]; unfold nAt; rw [hnn]
              have HN : Hid (arityGo xs ns (d.items.drop (j + 1) ++ (ds.drop (k + 1)).flatMap ClD.items) = arityR ds) := by
                show _ = _
                rw [← HX.out, HDR.out]; simp only [List.cons_append, arityGo, hx, if_true]; rw [if_pos hnn]
              clear hnn
              go_wp2_with (go_at_call 92; refine (fits_old _ w.heap.size w.heap.size mv lv cv xs ns nm _ _ _ _ (by exact hC.alloc _) (by exact hCI.below hbe) hkm hx).mono ?_; rintro e w2 ⟨rfl, hB2⟩)
              have hBB := hbe.trans (hB2.mono (by simp))
              exact ⟨⟨j + 1, xs, ns, mv, lv, cv, hjl, by go_num, by omega, HN, hC.below hBB, hCI.below hBB, hbx.below hBB, own_below hA hBB, hB.trans (hBB.mono (by omega))⟩, by simp [intOf]; omega⟩
            · have hf : (nAt ns (posIn xs nm) == (ts.length : Int)) = false := by rw [beq_eq_false_iff_ne]; unfold nAt; omega
              have HE : Hid (arityR ds = some q) := by
                show arityR ds = some q
                rw [← HX.out, HDR.out]; simp only [List.cons_append, arityGo, hx, if_true]; rw [if_neg hnn]
              clear hnn
              obtain ⟨gs, rfl, hgs, s0, s1, s2, s3, s4⟩ := spot_at hSp j (by rw [HSL.out]; exact hjl)
              have hjs : j < d.spots.length := by rw [HSL.out]; exact hjl
              rw [HQ.out] at s1
              go_wp2_with (go_at_call 92; refine (fits_old _ w.heap.size w.heap.size mv lv cv xs ns nm _ _ _ _ (by exact hC.alloc _) (by exact hCI.below hbe) hkm hx).mono ?_; rintro e w2 ⟨rfl, hB2⟩; have hBB := hbe.trans (hB2.mono (by simp)); have b6 := (hbx.below hBB).cell 6; simp at b6; have hBw := hB.trans (hBB.mono (by omega)); rw [← hBw.cell (p := ⟨gs, j * 5 + 1, none⟩) hgs] at s1)
              go_ret2
              rw [HE.out]
              exact ⟨rfl, hBw⟩
        · have hje : j = d.lits.length + 1 := by omega
          have HN : Hid (arityGo xs ns ((ds.drop (k + 1)).flatMap ClD.items) = arityR ds) := by
            show _ = _
            rw [← HX.out, show d.items.drop j = [] from List.drop_of_length_le (by rw [items_len d hwf]; omega)]; rfl
          have hj5 : j ≤ 5 := by omega
          clear hje
          go_wp2
          exact ⟨⟨k + 1, xs, ns, mv, lv, cv, hlt, by go_num, by omega, HN, hC, hCI, hB⟩, by simp [intOf]; omega⟩
    · have hke : k = ds.length := by omega
      have HE : Hid (arityR ds = none) := by
        show arityR ds = none
        rw [← HX.out, hke, List.drop_length]; rfl
      clear hke
      go_wp2
      go_ret2
      rw [HE.out]
      exact ⟨rfl, hB⟩

end Go.Proofs.YtpbfiffgcgnidaaGreatDoor

namespace Go.Proofs.YtpbfiffgcgnidaaGreatDoor
open Go.RowKit Go.WideMaps Go.Maps
attribute [local go_sem] drewN_alloc drewN_setCell

theorem bs_size' (k : List UInt8) : (bs k).size = k.length := by simp [bs, ByteArray.size]
def isVar (l : List UInt8) : Bool := great (hd l)

set_option maxHeartbeats 400000 in
theorem isVariable_c (l : List UInt8) (w : World) : Calls Tryz.prog 94 #[.string (bs l)] w fun e w' => e = .returned (.bool (isVar l)) ∧ w' = w := by
  cases l with
  | nil =>
    have h1 : (bs []).toList.isEmpty = true := by rw [Lib.toList_data]; rfl
    go_enter Tryz.func94, Tryz.ntmps94
    go_wp2
    go_ret
    exact ⟨rfl, rfl⟩
  | cons c r =>
    have h1 : (bs (c :: r)).toList.isEmpty = false := by rw [Lib.toList_data]; rfl
    have h2 : 0 < (bs (c :: r)).size := by rw [bs_size']; simp
    have h3 : (bs (c :: r))[0].toNat = c.toNat := rfl
    go_enter Tryz.func94, Tryz.ntmps94
    go_wp2_with (go_at_call 137; refine (isGreat_c _ _).mono ?_; rintro e w' ⟨rfl, rfl⟩)
    go_ret
    exact ⟨rfl, rfl⟩

theorem slice0 (B o : Nat) (w : World) : (Instr.sliceAt 78 (.pointer (some ⟨B, o, none⟩)) none (some (.int .i64 0)) none).run Tryz.prog w = .ok (.slice (some ⟨B, o, none⟩) 0 3) w := by kernel_rfl
theorem slice1 (B o : Nat) (w : World) : (Instr.sliceAt 78 (.pointer (some ⟨B, o, none⟩)) none (some (.int .i64 1)) none).run Tryz.prog w = .ok (.slice (some ⟨B, o, none⟩) 1 3) w := by kernel_rfl
theorem slice2 (B o : Nat) (w : World) : (Instr.sliceAt 78 (.pointer (some ⟨B, o, none⟩)) none (some (.int .i64 2)) none).run Tryz.prog w = .ok (.slice (some ⟨B, o, none⟩) 2 3) w := by kernel_rfl
theorem slice3 (B o : Nat) (w : World) : (Instr.sliceAt 78 (.pointer (some ⟨B, o, none⟩)) none (some (.int .i64 3)) none).run Tryz.prog w = .ok (.slice (some ⟨B, o, none⟩) 3 3) w := by kernel_rfl
/-- The first n of an array's three words. -/
theorem sliceN (n : Nat) (hn : n ≤ 3) (B o : Nat) (w : World) : (Instr.sliceAt 78 (.pointer (some ⟨B, o, none⟩)) none (some (.int .i64 n)) none).run Tryz.prog w = .ok (.slice (some ⟨B, o, none⟩) n 3) w := by
  have h : n = 0 ∨ n = 1 ∨ n = 2 ∨ n = 3 := by omega
  rcases h with rfl | rfl | rfl | rfl
  · exact slice0 B o w
  · exact slice1 B o w
  · exact slice2 B o w
  · exact slice3 B o w
def addW (xs : List (List UInt8)) (k : List UInt8) : List (List UInt8) := if hasW xs k = true then xs else xs ++ [k]
def posStep (xs : List (List UInt8)) (l : LitD) : List (List UInt8) := if l.neg = true then xs else l.ts.foldl addW xs
def posT (ls : List LitD) : List (List UInt8) := ls.foldl posStep []
theorem addW_len (xs : List (List UInt8)) (k : List UInt8) : (addW xs k).length ≤ xs.length + 1 := by unfold addW; split <;> simp

/-- Add, either way. -/
theorem add_any (w : World) (base sb : Nat) (mv lv : Value) (t : TypeId) (xs : List (List UInt8)) (k : List UInt8) (hB : Blk w sb [mv, lv] t) (hS : SetIs w base mv lv xs) (hk : k.length ≤ maxLen) (hn : xs.length ≤ 100000) (ht : t ≠ 9) (hbw : base ≤ w.heap.size) :
    Calls Tryz.prog 107 #[.pointer (some ⟨sb, 0, none⟩), .string (bs k)] w fun e w' => ∃ (p : Nat) (q : Bool) (mv' lv' : Value), e = .returned (.tuple #[.int .i64 p, .bool q]) ∧
      Blk w' sb [mv', lv'] t ∧ SetIs w' base mv' lv' (addW xs k) ∧ KeptX base sb [9] w w' := by
  cases hx : hasW xs k
  · refine (add_new w base sb mv lv [] t xs k hB hS hk hx hn ht hbw).mono ?_
    rintro e w' ⟨rfl, mv', lv', h1, h2, h3⟩
    exact ⟨_, _, mv', lv', rfl, h1, by simpa [addW, hx] using h2, h3⟩
  · refine (add_old w base sb mv lv [] t xs k hB hS hk hx).mono ?_
    rintro e w' ⟨rfl, rfl⟩
    exact ⟨_, _, mv, lv, rfl, hB, by simpa [addW, hx] using hS, KeptX.refl _ _ _ _⟩

set_option maxHeartbeats 2000000 in
set_option maxRecDepth 100000 in
theorem positiveTerms_c (w : World) (base : Nat) (n0 t0 t1 t2 : ByteArray) (c : Int) (ao : Option Addr) (cap : Nat) (lits : List LitD)
    (hL : w.ownsRow base 186 6 (.slice ao lits.length cap) lits.length (lits.flatMap LitD.cells)) (hn : lits.length ≤ 4) (hw : ∀ l ∈ lits, l.ts.length ≤ 3 ∧ ∀ t ∈ l.ts, t.length ≤ 12) :
    Calls Tryz.prog 93 #[.agg #[.string n0, .int .i64 c, .string t0, .string t1, .string t2, .slice ao lits.length cap]] w fun e w' => ∃ tb mv lv, e = .returned (.pointer (some ⟨tb, 0, none⟩)) ∧ w.heap.size ≤ tb ∧
      Blk w' tb [mv, lv] 178 ∧ SetIs w' w.heap.size mv lv (posT lits) ∧ Below w.heap.size w w' := by
  go_enter Tryz.func93, Tryz.ntmps93
  go_wp2
  go_loopw [13] (fun i wr => ∃ (k : Nat) (mv lv : Value), k ≤ lits.length ∧ i = .int .i64 k ∧ ((lits.take k).foldl posStep []).length ≤ 3 * k ∧ Blk wr (w.heap.size + 1) [mv, lv] 178 ∧ SetIs wr w.heap.size mv lv ((lits.take k).foldl posStep []) ∧ Below w.heap.size w wr) (fun i _ => lits.length - (intOf i).toNat)
  case atStart =>
    exact ⟨0, .map none, .slice none 0 0, by omega, rfl, by simp, new_two w _ [.map none, .slice none 0 0] 178, ⟨World.ownsRow_nil _ _ _ _, .inl ⟨rfl, rfl⟩⟩, ((Below.refl _ _).alloc (Nat.le_refl _) _).alloc (by simp) _⟩
  case round =>
    obtain ⟨k, mv, lv, hk, rfl, hxl, hC, hS, hB⟩ := hrel
    by_cases hlt : k < lits.length
    · obtain ⟨g0, rfl, hg0, e0, e1, e2, e3, e4, e5⟩ := lits_at hL k hlt
      have hwl := hw lits[k] (List.getElem_mem hlt)
      have HT : Hid ((lits.take (k + 1)).foldl posStep [] = posStep ((lits.take k).foldl posStep []) lits[k]) := by
        show _ = _
        rw [List.take_succ_eq_append_getElem hlt, List.foldl_append]; rfl
      generalize hlk : lits[k] = L at *
      clear hlk
      generalize hxs : (lits.take k).foldl posStep [] = xs at *
      have HXS := hid hxs
      clear hxs
      rw [← hB.cell (p := ⟨g0, k * 6, none⟩) hg0] at e0
      rw [← hB.cell (p := ⟨g0, k * 6 + 1, none⟩) hg0] at e1
      rw [← hB.cell (p := ⟨g0, k * 6 + 2, none⟩) hg0] at e2
      rw [← hB.cell (p := ⟨g0, k * 6 + 3, none⟩) hg0] at e3
      rw [← hB.cell (p := ⟨g0, k * 6 + 4, none⟩) hg0] at e4
      rw [← hB.cell (p := ⟨g0, k * 6 + 5, none⟩) hg0] at e5
      have hbw : w.heap.size + 1 < wr.heap.size := hC.lt
      cases hng : L.neg
      · have hcn : L.cn = (L.ts.length : Nat) := rfl
        have h3 : L.ts.length ≤ 3 := hwl.1
        rw [hcn] at e1
        rw [hng] at e5
        have hsl := fun W : World => sliceN L.ts.length h3 wr.heap.size 2 W
        have hC0 := hC.alloc (.cells #[Value.string L.nm, .int .i64 (L.ts.length : Nat), .string (L.t 0), .string (L.t 1), .string (L.t 2), .bool false] 186)
        have hS0 := hS.alloc (.cells #[Value.string L.nm, .int .i64 (L.ts.length : Nat), .string (L.t 0), .string (L.t 1), .string (L.t 2), .bool false] 186)
        have hbx0 := Blk.new wr [Value.string L.nm, .int .i64 (L.ts.length : Nat), .string (L.t 0), .string (L.t 1), .string (L.t 2), .bool false] 186
        have hB0 := hB.alloc (by omega) (.cells #[Value.string L.nm, .int .i64 (L.ts.length : Nat), .string (L.t 0), .string (L.t 1), .string (L.t 2), .bool false] 186)
        go_wp2_with fail
        clear e0 e1 e2 e3 e4 e5 hC hS hB hsl hcn
        generalize wr.heap.size = R at *
        go_loopw [26] (fun jv wq => ∃ (j : Nat) (mv lv : Value), j ≤ L.ts.length ∧ jv = .int .i64 j ∧ ((L.ts.take j).foldl addW xs).length ≤ 3 * k + j ∧ Blk wq (w.heap.size + 1) [mv, lv] 178 ∧ SetIs wq w.heap.size mv lv ((L.ts.take j).foldl addW xs) ∧
          Blk wq R [.string L.nm, .int .i64 (L.ts.length : Nat), .string (L.t 0), .string (L.t 1), .string (L.t 2), .bool false] 186 ∧ Below w.heap.size w wq) (fun jv _ => L.ts.length - (intOf jv).toNat)
        case atStart => exact ⟨0, mv, lv, by omega, rfl, by simpa using hxl, hC0, hS0, hbx0, hB0⟩
        case round =>
          clear hC0 hS0 hbx0 hB0
          obtain ⟨j, mv, lv, hj, rfl, hxj, hC, hS, hbx, hB⟩ := hrel
          have hbw1 : w.heap.size + 1 < wr.heap.size := hC.lt
          by_cases hjl : j < L.ts.length
          · have hw12 := hwl.2 L.ts[j] (List.getElem_mem hjl)
            have HA : Hid ((L.ts.take (j + 1)).foldl addW xs = addW ((L.ts.take j).foldl addW xs) L.ts[j]) := by
              show _ = _
              rw [List.take_succ_eq_append_getElem hjl, List.foldl_append]; rfl
            have a0 : wr.cell? ⟨R, 2 + j, none⟩ = some (.string (bs L.ts[j])) := by
              rw [hbx.cell]
              have h : j = 0 ∨ j = 1 ∨ j = 2 := by omega
              rcases h with rfl | rfl | rfl <;> simp [LitD.t, hjl]
            obtain ⟨tm, htm⟩ : ∃ tm, L.ts[j] = tm := ⟨_, rfl⟩
            rw [htm] at a0 hw12 HA
            clear htm
            obtain ⟨ys, hys⟩ : ∃ ys, (L.ts.take j).foldl addW xs = ys := ⟨_, rfl⟩
            rw [hys] at hS hxj HA
            clear hys
            have hal := addW_len ys tm
            go_wp2_with (go_at_call 107; refine (add_any _ w.heap.size (w.heap.size + 1) mv lv 178 ys tm (by exact hC) (by exact hS) (by unfold maxLen; omega) (by omega) (by decide) (by omega)).mono ?_; rintro e w2 ⟨pp, qq, mv', lv', rfl, hC2, hS2, hX2⟩)
            exact ⟨⟨j + 1, mv', lv', hjl, by go_num, by rw [HA.out]; omega, hC2, by rw [HA.out]; exact hS2, hX2.ty _ _ _ (by omega) (by decide) hbx, hB.trans (hX2.toBelow (by omega))⟩, by simp [intOf]; omega⟩
          · have hje : j = L.ts.length := by omega
            have HP : Hid (posStep xs L = (L.ts.take j).foldl addW xs) := by
              show _ = _
              rw [hje, List.take_length]; simp [posStep, hng]
            clear hje
            go_wp2
            exact ⟨⟨k + 1, mv, lv, hlt, by go_num, by rw [HT.out, HP.out]; omega, hC, by rw [HT.out, HP.out]; exact hS, hB⟩, by simp [intOf]; omega⟩
      · rw [hng] at e5
        go_wp2
        have hp : posStep xs L = xs := by simp [posStep, hng]
        exact ⟨⟨k + 1, mv, lv, hlt, by go_num, by rw [HT.out, hp]; omega, hC.alloc _, by rw [HT.out, hp]; exact hS.alloc _, hB.alloc (by omega) _⟩, by simp [intOf]; omega⟩
    · have hke : k = lits.length := by omega
      go_wp2
      go_ret
      subst hke
      rw [List.take_length] at hS
      exact ⟨_, mv, lv, rfl, by omega, hC, hS, hB⟩

end Go.Proofs.YtpbfiffgcgnidaaGreatDoor
