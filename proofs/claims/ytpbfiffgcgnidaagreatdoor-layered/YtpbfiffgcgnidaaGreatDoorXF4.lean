/-
  OUR OWN. Facts: is a clause this fact?
-/
import Derived.Test.YtpbfiffgcgnidaaGreatDoorXR13
import Derived.ChangeKeysEq
import Derived.Test.YtpbfiffgcgnidaaGreatDoorXP2
namespace Go.Proofs.YtpbfiffgcgnidaaGreatDoor
open Go.RowKit Go.WideMaps Go.Maps
attribute [local go_sem] drewN_alloc drewN_setCell

def isFactB (n : Nat) (ts : List (List UInt8)) : Bool := decide (n = 0) && decide (fv ts < 0)

set_option maxHeartbeats 1000000 in
set_option maxRecDepth 100000 in
theorem isFact_c (w : World) (nm : ByteArray) (ts : List (List UInt8)) (bo : Option Addr) (n bcap : Nat) (h3 : ts.length ≤ 3) (hn : n ≤ 4) :
    Calls Tryz.prog 72 #[.agg #[.string nm, .int .i64 (ts.length : Nat), .string (bs (ts.getD 0 [])), .string (bs (ts.getD 1 [])), .string (bs (ts.getD 2 [])), .slice bo n bcap]] w fun e w' => e = .returned (.bool (isFactB n ts)) ∧ Below w.heap.size w w' := by
  have hfv := fun W : World => firstVariable_c W nm ts h3
  obtain ⟨y0, Y0⟩ : ∃ y0, Hid (y0 = bs (ts.getD 0 [])) := ⟨_, rfl⟩
  obtain ⟨y1, Y1⟩ : ∃ y1, Hid (y1 = bs (ts.getD 1 [])) := ⟨_, rfl⟩
  obtain ⟨y2, Y2⟩ : ∃ y2, Hid (y2 = bs (ts.getD 2 [])) := ⟨_, rfl⟩
  rw [← Y0.out, ← Y1.out, ← Y2.out]
  rw [← Y0.out, ← Y1.out, ← Y2.out] at hfv
  have HV := hid hfv
  clear hfv
  by_cases h0 : n = 0
  · subst h0
    have HE := hid (show isFactB 0 ts = decide (fv ts < 0) by simp [isFactB])
    generalize fv ts = f at *
    go_enter Tryz.func72, Tryz.ntmps72
    go_wp2_with fail
    refine (HV.out _).mono ?_
    rintro e w1 ⟨rfl, hB1⟩
    go_wp2_with fail
    go_ret
    rw [HE.out]
    exact ⟨rfl, (below_alloc _ _).trans (hB1.mono (by simp))⟩
  · have hq : ((n : Int) == 0) = false := by rw [beq_eq_false_iff_ne]; omega
    have HE := hid (show isFactB n ts = false by simp [isFactB, h0])
    clear h0
    go_enter Tryz.func72, Tryz.ntmps72
    go_wp2_with fail
    go_ret
    rw [HE.out]
    exact ⟨rfl, below_alloc _ _⟩

theorem cellsStr : Tryz.prog.cellsOf 9 = 1 := by kernel_rfl
theorem arr_eq (x0 x1 x2 y0 y1 y2 : ByteArray) (W : World) : (Op.equalIn 9999 78 (.agg #[.string x0, .string x1, .string x2]) (.agg #[.string y0, .string y1, .string y2])).run Tryz.prog W = .ok ((x0.toList == y0.toList) && ((x1.toList == y1.toList) && (x2.toList == y2.toList))) W := by
  obtain ⟨i1, hi1, hy0, hy1, hy2⟩ := info_parts infoStr
  rw [show (9999 : Nat) = 9998 + 1 from rfl, run_equalIn_array W 9998 _ _ Tryz.underlying78 hi1, cellsStr]
  rw [show List.range 3 = [0, 1, 2] by decide]
  simp [Op.eqItems, go_sem, Tryz.underlying9]
  by_cases h0 : x0.toList = y0.toList <;> by_cases h1 : x1.toList = y1.toList <;> by_cases h2 : x2.toList = y2.toList <;> simp [h0, h1, h2]

def arrB (x0 x1 x2 y0 y1 y2 : ByteArray) : Bool := (x0.toList == y0.toList) && ((x1.toList == y1.toList) && (x2.toList == y2.toList))

set_option maxHeartbeats 1000000 in
set_option maxRecDepth 100000 in
theorem isFactOf1_core (w : World) (nm : ByteArray) (ts : List (List UInt8)) (bo : Option Addr) (n bcap : Nat) (h3 : ts.length ≤ 3) (hn : n ≤ 4) (B : Nat) (an a0 a1 a2 : ByteArray) (ac : Int) (hA : Blk w B [.string an, .int .i64 ac, .string a0, .string a1, .string a2] 80) (same : Bool)
    (s1 : ¬ nm.toList = an.toList → same = false) (s2 : ¬ ((ts.length : Nat) : Int) = ac → same = false) (s3 : nm.toList = an.toList → ((ts.length : Nat) : Int) = ac → same = arrB (bs (ts.getD 0 [])) (bs (ts.getD 1 [])) (bs (ts.getD 2 [])) a0 a1 a2) :
    Calls Tryz.prog 71 #[.agg #[.string nm, .int .i64 (ts.length : Nat), .string (bs (ts.getD 0 [])), .string (bs (ts.getD 1 [])), .string (bs (ts.getD 2 [])), .slice bo n bcap], .pointer (some ⟨B, 0, none⟩)] w fun e w' => e = .returned (.bool (isFactB n ts && same)) ∧ Below w.heap.size w w' := by
  have hfv := fun W : World => isFact_c W nm ts bo n bcap h3 hn
  obtain ⟨y0, Y0⟩ : ∃ y0, Hid (y0 = bs (ts.getD 0 [])) := ⟨_, rfl⟩
  obtain ⟨y1, Y1⟩ : ∃ y1, Hid (y1 = bs (ts.getD 1 [])) := ⟨_, rfl⟩
  obtain ⟨y2, Y2⟩ : ∃ y2, Hid (y2 = bs (ts.getD 2 [])) := ⟨_, rfl⟩
  rw [← Y0.out, ← Y1.out, ← Y2.out]
  rw [← Y0.out, ← Y1.out, ← Y2.out] at hfv s3
  have HV := hid hfv
  have S1 := hid s1
  have S2 := hid s2
  have S3 := hid s3
  clear hfv s1 s2 s3
  have harr := arr_eq y0 y1 y2 a0 a1 a2
  obtain ⟨r, HR⟩ : ∃ r, Hid (r = arrB y0 y1 y2 a0 a1 a2) := ⟨_, rfl⟩
  have harr' : ∀ W : World, (Op.equalIn 9999 78 (.agg #[.string y0, .string y1, .string y2]) (.agg #[.string a0, .string a1, .string a2])).run Tryz.prog W = .ok r W := by
    intro W
    rw [HR.out]
    exact harr W
  clear harr
  rw [← HR.out] at S3
  cases hf : isFactB n ts
  · rw [hf] at HV
    go_enter Tryz.func71, Tryz.ntmps71
    go_wp2_with fail
    refine (HV.out _).mono ?_
    rintro e w1 ⟨rfl, hB1⟩
    go_wp2_with fail
    go_ret
    exact ⟨rfl, (below_alloc _ _).trans (hB1.mono (by simp))⟩
  · rw [hf] at HV
    go_enter Tryz.func71, Tryz.ntmps71
    go_wp2_with fail
    refine (HV.out _).mono ?_
    rintro e w1 ⟨rfl, hB1⟩
    obtain ⟨c0, c1, c2, c3, c4⟩ := ((hA.alloc _).below hB1).c5
    obtain ⟨d0, d1, d2, d3, d4, d5⟩ := ((Blk.new w [.string nm, .int .i64 (ts.length : Nat), .string y0, .string y1, .string y2, .slice bo n bcap] 86).below hB1).c6
    have hBw := (below_alloc w (.cells #[.string nm, .int .i64 (ts.length : Nat), .string y0, .string y1, .string y2, .slice bo n bcap] 86)).trans (hB1.mono (by simp))
    have HBW := hid hBw
    clear hB1 hBw hA
    by_cases g1 : nm.toList = an.toList
    · by_cases g2 : ((ts.length : Nat) : Int) = ac
      · have HS := hid (S3.out g1 g2)
        have g1b : (nm.toList == an.toList) = true := by rw [g1]; simp
        have g2b : (((ts.length : Nat) : Int) == ac) = true := by rw [g2]; simp
        clear g1 g2
        cases r
        · go_wp2_with fail
          go_ret
          rw [HS.out]
          exact ⟨rfl, HBW.out⟩
        · go_wp2_with fail
          go_ret
          rw [HS.out]
          exact ⟨rfl, HBW.out⟩
      · have HS := hid (S2.out g2)
        have g1b : (nm.toList == an.toList) = true := by rw [g1]; simp
        have g2b : (((ts.length : Nat) : Int) == ac) = false := by rw [beq_eq_false_iff_ne]; exact g2
        clear g1 g2
        go_wp2_with fail
        go_ret
        rw [HS.out]
        exact ⟨rfl, HBW.out⟩
    · have HS := hid (S1.out g1)
      have g1b : (nm.toList == an.toList) = false := by rw [beq_eq_false_iff_ne]; exact g1
      clear g1
      go_wp2_with fail
      go_ret
      rw [HS.out]
      exact ⟨rfl, HBW.out⟩

end Go.Proofs.YtpbfiffgcgnidaaGreatDoor

namespace Go.Proofs.YtpbfiffgcgnidaaGreatDoor
open Go.RowKit Go.WideMaps Go.Maps
attribute [local go_sem] drewN_alloc drewN_setCell

def sameB (name an : List UInt8) (ts ats : List (List UInt8)) : Bool := decide (name = an) && decide (ts = ats)
theorem bs_list (l : List UInt8) : (bs l).toList = l := by rw [Lib.toList_data, bs_data]
theorem three_eq (ts ats : List (List UInt8)) (h : ts.length ≤ 3) (hl : ts.length = ats.length) : decide (ts = ats) = arrB (bs (ts.getD 0 [])) (bs (ts.getD 1 [])) (bs (ts.getD 2 [])) (bs (ats.getD 0 [])) (bs (ats.getD 1 [])) (bs (ats.getD 2 [])) := by
  unfold arrB
  simp only [bs_list]
  match ts, ats, hl with
  | [], [], _ => simp
  | [a], [b], _ => by_cases h : a = b <;> simp [h]
  | [a, c], [b, d], _ => by_cases h : a = b <;> by_cases h2 : c = d <;> simp [h, h2]
  | [a, c, e], [b, d, f], _ => by_cases h : a = b <;> by_cases h2 : c = d <;> by_cases h3 : e = f <;> simp [h, h2, h3]
  | _ :: _ :: _ :: _ :: _, _, _ => simp at h

theorem isFactOf1_c (w : World) (name : List UInt8) (ts : List (List UInt8)) (bo : Option Addr) (n bcap : Nat) (h3 : ts.length ≤ 3) (hn : n ≤ 4) (B : Nat) (an : List UInt8) (ats : List (List UInt8)) (hA : Blk w B (atomCells an ats) 80) :
    Calls Tryz.prog 71 #[.agg #[.string (bs name), .int .i64 (ts.length : Nat), .string (bs (ts.getD 0 [])), .string (bs (ts.getD 1 [])), .string (bs (ts.getD 2 [])), .slice bo n bcap], .pointer (some ⟨B, 0, none⟩)] w fun e w' => e = .returned (.bool (isFactB n ts && sameB name an ts ats)) ∧ Below w.heap.size w w' := by
  refine isFactOf1_core w (bs name) ts bo n bcap h3 hn B (bs an) (bs (ats.getD 0 [])) (bs (ats.getD 1 [])) (bs (ats.getD 2 [])) (ats.length : Nat) hA (sameB name an ts ats) ?_ ?_ ?_
  · intro h
    rw [bs_list, bs_list] at h
    simp [sameB, h]
  · intro h
    have : ¬ ts = ats := fun e => h (by rw [e])
    simp [sameB, this]
  · intro h1 h2
    rw [bs_list, bs_list] at h1
    rw [← three_eq ts ats h3 (by omega)]
    simp [sameB, h1]

def matchB (an : List UInt8) (ats : List (List UInt8)) (d : ClD) : Bool := isFactB d.lits.length d.ts && sameB d.name an d.ts ats
def idxGo (an : List UInt8) (ats : List (List UInt8)) : Nat → List ClD → Int
  | _, [] => -1
  | k, d :: r => if matchB an ats d = true then (k : Int) else idxGo an ats (k + 1) r
def idx (an : List UInt8) (ats : List (List UInt8)) (ds : List ClD) : Int := idxGo an ats 0 ds
theorem idxGo_drop (an : List UInt8) (ats : List (List UInt8)) (ds : List ClD) (k : Nat) (h : k < ds.length) : idxGo an ats k (ds.drop k) = if matchB an ats ds[k] = true then (k : Int) else idxGo an ats (k + 1) (ds.drop (k + 1)) := by
  rw [List.drop_eq_getElem_cons h, idxGo]

def factOfV (B : Nat) : Value := .func (.func 71) #[] #[.pointer (some ⟨B, 0, none⟩)]

set_option maxHeartbeats 1000000 in
set_option maxRecDepth 100000 in
theorem isFactOf_c (w : World) (an : List UInt8) (ats : List (List UInt8)) :
    Calls Tryz.prog 39 #[.agg (atomCells an ats).toArray] w fun e w' => e = .returned (factOfV w.heap.size) ∧ w' = w.alloc (.cells (atomCells an ats).toArray 80) := by
  unfold atomCells factOfV
  generalize bs an = x at *
  generalize bs (ats.getD 0 []) = y0 at *
  generalize bs (ats.getD 1 []) = y1 at *
  generalize bs (ats.getD 2 []) = y2 at *
  go_enter Tryz.func39, Tryz.ntmps39
  go_wp2
  go_ret
  exact ⟨rfl, rfl⟩

set_option maxHeartbeats 1000000 in
set_option maxRecDepth 100000 in
theorem indexCl_c (w : World) (base : Nat) (ao : Option Addr) (cap : Nat) (ds : List ClD) (hP : ClausesIs w base (.slice ao ds.length cap) ds) (hW : ∀ d ∈ ds, d.WF) (hn : ds.length ≤ 40) (B : Nat) (an : List UInt8) (ats : List (List UInt8)) (hA : Blk w B (atomCells an ats) 80) :
    Calls Tryz.prog 70 #[.slice ao ds.length cap, .func (.func 71) #[] #[.pointer (some ⟨B, 0, none⟩)]] w fun e w' => e = .returned (.int .i64 (idx an ats ds)) ∧ Below w.heap.size w w' := by
  go_enter Tryz.func70, Tryz.ntmps70
  go_wp2
  go_loopw [8] (fun iv wr => ∃ (i : Nat), i ≤ ds.length ∧ iv = .int .i64 i ∧ Hid (idxGo an ats i (ds.drop i) = idx an ats ds) ∧ Below w.heap.size w wr) (fun iv _ => ds.length - (intOf iv).toNat)
  case atStart => exact ⟨0, by omega, rfl, rfl, Below.refl _ _⟩
  case round =>
    obtain ⟨i, hi, rfl, HX, hB⟩ := hrel
    by_cases hlt : i < ds.length
    · obtain ⟨g, bo, bcap, hao, hg, e0, e1, e2, e3, e4, e5, hLb⟩ := clause_at hP i hlt
      subst hao
      have hwf := hW ds[i] (List.getElem_mem hlt)
      have HD := hid (idxGo_drop an ats ds i hlt)
      generalize ds[i] = d at *
      have h3 := (hwf.words (d.name, d.ts) (by simp [ClD.atoms])).2.1
      rw [← hB.cell (p := ⟨g, i * 6, none⟩) hg] at e0
      rw [← hB.cell (p := ⟨g, i * 6 + 1, none⟩) hg] at e1
      rw [← hB.cell (p := ⟨g, i * 6 + 2, none⟩) hg] at e2
      rw [← hB.cell (p := ⟨g, i * 6 + 3, none⟩) hg] at e3
      rw [← hB.cell (p := ⟨g, i * 6 + 4, none⟩) hg] at e4
      rw [← hB.cell (p := ⟨g, i * 6 + 5, none⟩) hg] at e5
      have HC := hid (fun (W : World) (hb : Blk W B (atomCells an ats) 80) => isFactOf1_c W d.name d.ts bo d.lits.length bcap h3 hwf.lits B an ats hb)
      have HA := hid hA
      clear hA
      cases hm : matchB an ats d
      · go_wp2_with (go_at_call 71; refine (HC.out _ (by exact (HA.out).below hB)).mono ?_; rintro e w1 ⟨he, hB1⟩; rw [show (isFactB d.lits.length d.ts && sameB d.name an d.ts ats) = false from hm] at he; subst he)
        exact ⟨⟨i + 1, hlt, by go_num, by show _ = _; rw [← HX.out, HD.out, hm]; rfl, hB.trans (hB1.mono hB.size)⟩, by simp [intOf]; omega⟩
      · have HE := hid (show idx an ats ds = (i : Int) by rw [← HX.out, HD.out, hm]; rfl)
        go_wp2_with (go_at_call 71; refine (HC.out _ (by exact (HA.out).below hB)).mono ?_; rintro e w1 ⟨he, hB1⟩; rw [show (isFactB d.lits.length d.ts && sameB d.name an d.ts ats) = true from hm] at he; subst he)
        go_ret
        rw [HE.out]
        exact ⟨rfl, hB.trans (hB1.mono hB.size)⟩
    · have hie : i = ds.length := by omega
      have HE := hid (show idx an ats ds = -1 by rw [← HX.out, hie, List.drop_length]; rfl)
      clear hie
      go_wp2
      go_ret
      rw [HE.out]
      exact ⟨rfl, hB⟩

end Go.Proofs.YtpbfiffgcgnidaaGreatDoor

namespace Go.Proofs.YtpbfiffgcgnidaaGreatDoor
open Go.RowKit Go.WideMaps Go.Maps
attribute [local go_sem] drewN_alloc drewN_setCell

set_option maxHeartbeats 1000000 in
set_option maxRecDepth 100000 in
theorem containsCl_c (w : World) (base : Nat) (ao : Option Addr) (cap : Nat) (ds : List ClD) (hP : ClausesIs w base (.slice ao ds.length cap) ds) (hW : ∀ d ∈ ds, d.WF) (hn : ds.length ≤ 40) (B : Nat) (an : List UInt8) (ats : List (List UInt8)) (hA : Blk w B (atomCells an ats) 80) :
    Calls Tryz.prog 38 #[.slice ao ds.length cap, .func (.func 71) #[] #[.pointer (some ⟨B, 0, none⟩)]] w fun e w' => e = .returned (.bool (decide (0 ≤ idx an ats ds))) ∧ Below w.heap.size w w' := by
  have HI := hid (indexCl_c w base ao cap ds hP hW hn B an ats hA)
  generalize idx an ats ds = k at *
  go_enter Tryz.func38, Tryz.ntmps38
  go_wp2_with fail
  refine (HI.out).mono ?_
  rintro e w1 ⟨rfl, hB1⟩
  go_wp2_with fail
  go_ret
  exact ⟨rfl, hB1⟩

def qAtom (s : ByteArray) : AtR := atomR s s.data.toList

set_option maxHeartbeats 400000 in
set_option maxRecDepth 100000 in
theorem readQuestion_ok (w : World) (s : ByteArray) (hs : s.size ≤ 2000) (hok : (qAtom s).ok = true) (hend : (skipL (qAtom s).rest).isEmpty = true) :
    Calls Tryz.prog 104 #[.string s] w fun e w' => e = .returned (.tuple #[.agg (atomCells (qAtom s).name (qAtom s).ts).toArray, .agg (spotCells 0 (qAtom s).np (qAtom s).ps).toArray, .int .i64 0, .bool true]) ∧ Below w.heap.size w w' := by
  have hsm : s.size ≤ maxLen := by unfold maxLen; omega
  have hRb := Blk.new ((w.alloc (.cells zA.toArray 80)).alloc (.cells zS.toArray 141)) [.string s, .int .i64 0] 114
  have hsz : ((w.alloc (.cells zA.toArray 80)).alloc (.cells zS.toArray 141)).heap.size = w.heap.size + 1 + 1 := by simp
  rw [hsz] at hRb
  have hR0 : Rd (((w.alloc (.cells zA.toArray 80)).alloc (.cells zS.toArray 141)).alloc (.cells #[.string s, .int .i64 0] 114)) (w.heap.size + 1 + 1) s s.data.toList := ⟨0, by omega, by simp, hRb⟩
  have hP0 := ((Blk.new w zA 80).alloc (.cells zS.toArray 141)).alloc (.cells #[.string s, .int .i64 0] 114)
  have hQ0 := (new_two w (.cells zA.toArray 80) zS 141).alloc (.cells #[.string s, .int .i64 0] 114)
  have hB0 : Below w.heap.size w (((w.alloc (.cells zA.toArray 80)).alloc (.cells zS.toArray 141)).alloc (.cells #[.string s, .int .i64 0] 114)) := (((Below.refl _ w).alloc (Nat.le_refl _) _).alloc (by simp) _).alloc (by simp; omega) _
  clear hRb hsz
  have HAL := hid (atom_l _ (w.heap.size + 1 + 1) s s.data.toList hR0 (by omega))
  obtain ⟨A, HA⟩ : ∃ A, Hid (A = qAtom s) := ⟨_, rfl⟩
  rw [← HA.out] at hok hend ⊢
  have HAE : Hid (atomR s s.data.toList = A) := HA.out.symm
  have HQ0 := hid hQ0
  have HP0 := hid hP0
  have HB0 := hid hB0
  clear hR0 hQ0 hP0 hB0
  go_enter Tryz.func104, Tryz.ntmps104
  go_wp2_with fail
  refine (HAL.out).mono ?_
  rintro e w1 ⟨he, hR1, hK1⟩
  rw [HAE.out] at he hR1
  rw [AtR.val_eq, hok] at he
  subst he
  have hb1 : w.heap.size + 1 + 1 < w1.heap.size := hR1.lt
  have hP1 := HP0.out.kept hK1 (by omega)
  have hQ1 := HQ0.out.kept hK1 (by omega)
  have hBw1 : Below w.heap.size w w1 := HB0.out.trans (hK1.below (by omega) (by simp; omega))
  clear HAL HB0 HP0 HQ0
  have hC1 := new_one w1 [.string A.nm, .int .i64 A.cn, .string (A.t 0), .string (A.t 1), .string (A.t 2)] 80 [.int .i64 0, .int .i64 A.np', .int .i64 (A.p 0), .int .i64 (A.p 1), .int .i64 (A.p 2)] 141
  have hS1 := new_two w1 (.cells #[.string A.nm, .int .i64 A.cn, .string (A.t 0), .string (A.t 1), .string (A.t 2)] 80) [.int .i64 0, .int .i64 A.np', .int .i64 (A.p 0), .int .i64 (A.p 1), .int .i64 (A.p 2)] 141
  have HE1 := hid (atEnd_l _ (w.heap.size + 1 + 1) s A.rest ((hR1.alloc (.cells #[.string A.nm, .int .i64 A.cn, .string (A.t 0), .string (A.t 1), .string (A.t 2)] 80)).alloc (.cells #[.int .i64 0, .int .i64 A.np', .int .i64 (A.p 0), .int .i64 (A.p 1), .int .i64 (A.p 2)] 141)) hsm)
  rw [hend] at HE1
  have HC1 := hid hC1
  have HS1 := hid hS1
  have HP1 := hid ((hP1.alloc (.cells #[.string A.nm, .int .i64 A.cn, .string (A.t 0), .string (A.t 1), .string (A.t 2)] 80)).alloc (.cells #[.int .i64 0, .int .i64 A.np', .int .i64 (A.p 0), .int .i64 (A.p 1), .int .i64 (A.p 2)] 141))
  have HQ1 := hid ((hQ1.alloc (.cells #[.string A.nm, .int .i64 A.cn, .string (A.t 0), .string (A.t 1), .string (A.t 2)] 80)).alloc (.cells #[.int .i64 0, .int .i64 A.np', .int .i64 (A.p 0), .int .i64 (A.p 1), .int .i64 (A.p 2)] 141))
  have HB1 := hid ((hBw1.alloc (by omega) (.cells #[.string A.nm, .int .i64 A.cn, .string (A.t 0), .string (A.t 1), .string (A.t 2)] 80)).alloc (by simp; omega) (.cells #[.int .i64 0, .int .i64 A.np', .int .i64 (A.p 0), .int .i64 (A.p 1), .int .i64 (A.p 2)] 141))
  clear hC1 hS1 hP1 hQ1 hBw1 hend hok hK1 hR1 HA HAE
  go_wp2_with fail
  refine (HE1.out).mono ?_
  rintro e w2 ⟨rfl, hR2, hK2⟩
  have hb2 : w1.heap.size + 1 < w2.heap.size := (HS1.out.kept hK2 (by omega)).lt
  obtain ⟨c0, c1, c2, c3, c4⟩ := (HC1.out.kept hK2 (by omega)).c5
  obtain ⟨d0, d1, d2, d3, d4⟩ := (HS1.out.kept hK2 (by omega)).c5
  have hP2 := HP1.out.kept hK2 (by omega)
  have hQ2 := HQ1.out.kept hK2 (by omega)
  have fP := hP2.frozen
  have fQ := hQ2.frozen
  have HB2 := hid (HB1.out.trans (hK2.below (by omega) (by simp; omega)))
  clear HE1 HC1 HS1 HP1 HQ1 HB1 hK2 hR2
  obtain ⟨a0, a1, a2, a3, a4⟩ := hP2.c5
  obtain ⟨s0, s1, s2, s3, s4⟩ := hQ2.c5
  clear hP2 hQ2
  have hz1 : w.heap.size < w1.heap.size := by omega
  have hz2 : w.heap.size + 1 < w1.heap.size := by omega
  have hz3 : w.heap.size < w1.heap.size + 1 := by omega
  have hz4 : w.heap.size + 1 < w1.heap.size + 1 := by omega
  go_wp2_with fail
  go_region
  go_wp2
  refine bodyPost_ret (v := .tuple #[.agg #[.string A.nm, .int .i64 A.cn, .string (A.t 0), .string (A.t 1), .string (A.t 2)], .agg #[.int .i64 0, .int .i64 A.np', .int .i64 (A.p 0), .int .i64 (A.p 1), .int .i64 (A.p 2)], .int .i64 0, .bool true]) (by simp [results, Tryz.results104, go_sem, a0, a1, a2, a3, a4, s0, s1, s2, s3, s4]) rfl ⟨rfl, ?_⟩
  refine Below.drew ?_
  repeat (refine Below.setCell ?_ (by simp only []; omega) _)
  exact HB2.out

end Go.Proofs.YtpbfiffgcgnidaaGreatDoor
