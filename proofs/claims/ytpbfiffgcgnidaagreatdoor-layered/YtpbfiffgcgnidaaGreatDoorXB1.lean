/-
  OUR OWN. append onto a row of the call's own, of one element or more, as a step of a region that draws its order; and rows, worlds.
-/
import Derived.Test.YtpbfiffgcgnidaaGreatDoorXT1
import Derived.Deep.RegionLaw
import Derived.Test.YtpbfiffgcgnidaaGreatDoorXL1
import Derived.Deep.CutRange
namespace Go.Proofs.YtpbfiffgcgnidaaGreatDoor
open Go.RowKit

theorem step_append_own {P : Program} {ops : Array Oper} {o : Oper} {a : Act} {w : World} {K : Act → World → Prop} {Q : Exit → Act → World → Prop} {E : Prop}
    (hgd : o.guard = none) (s x : Operand) (t : TypeId) (hop : o.op = Op.call { callee := Callee.builtin Builtin.append, args := #[s, x], argTypes := #[t, t] })
    (base : Nat) (e : TypeId) (i : TypeInfo) (z : Value) (size bytes : Nat) (ht : P.underlying t = some (.slice e)) (hi : P.info? e = some i) (hz : i.zero = some z)
    (hsize : i.size = size) (hby : i.bytes = bytes) (hzs : z.cells.size = size) (hsz : 0 < size)
    (v : Value) (n : Nat) (xs : List Value) (hs : a.eval s = v) (hown : w.ownsRow base e size v n xs)
    (ad : Addr) (m c : Nat) (news : List Value) (hx : a.eval x = .slice (some ad) m c) (hm : 0 < m) (hl : news.length = m * size) (hnews : ∀ j u, news[j]? = some u → w.cell? (ad.add j) = some u) (h1 : ∀ u ∈ news, u.oneCell' = true)
    (h63 : n + m ≤ maxLen) (hbytes : (n + m) * bytes ≤ 140737488355328) (hbase : base ≤ w.heap.size)
    (hK : ∀ g cap w', w'.ownsRow base e size (.slice (some ⟨g, 0, none⟩) (n + m) cap) (n + m) (xs ++ news) → w.grownBy w' v.ownBlock → K (a.put o.dst (.slice (some ⟨g, 0, none⟩) (n + m) cap)) w') :
    if Region.wanted o (yielded ops a.tmps) = true then Oper.wp P o a w K Q else E := by
  have hw : Region.wanted o (yielded ops a.tmps) = true := by simp [Region.wanted, hgd]
  rw [if_pos hw]
  refine wp_append_own w s x t hop base e i z size bytes ht hi hz hsize hby hzs hsz v n xs hs hown ad m c news hx hl hnews h1 h63 hbytes hbase ?_
  intro v' w' h2 h3 _
  rcases h2.2 with ⟨hv, hn⟩ | ⟨g, cap, cur, hv, _⟩
  · omega
  · subst hv
    exact hK g cap w' h2 h3

/-- Below block B all but block b is as it was. -/
structure KeptTo (B b : Nat) (w w' : World) : Prop where
  os : w'.os = w.os
  tape : w'.tape = w.tape
  output : w'.output = w.output
  size : w.heap.size ≤ w'.heap.size
  block : ∀ k, k < B → k ≠ b → w'.heap[k]? = w.heap[k]?
theorem KeptTo.refl (B b : Nat) (w : World) : KeptTo B b w w := ⟨rfl, rfl, rfl, Nat.le_refl _, fun _ _ _ => rfl⟩
theorem KeptTo.trans {B b : Nat} {u v w : World} (h : KeptTo B b u v) (k : KeptTo B b v w) : KeptTo B b u w :=
  ⟨k.os.trans h.os, k.tape.trans h.tape, k.output.trans h.output, Nat.le_trans h.size k.size, fun i hi hn => (k.block i hi hn).trans (h.block i hi hn)⟩
theorem KeptTo.kept {B b : Nat} {u v w : World} (h : KeptTo B b u v) (k : Kept b v w) (hB : B ≤ v.heap.size) : KeptTo B b u w :=
  h.trans ⟨k.os, k.tape, k.output, k.size, fun i hi hn => k.block i (by omega) hn⟩
theorem KeptTo.alloc {B b : Nat} {u w : World} (h : KeptTo B b u w) (o : Obj) (hB : B ≤ w.heap.size) : KeptTo B b u (w.alloc o) := h.kept (Kept.alloc b w o) hB
theorem KeptTo.drew {B b : Nat} {u w : World} (h : KeptTo B b u w) : KeptTo B b u w.drew := h.trans ⟨rfl, rfl, rfl, Nat.le_refl _, fun _ _ _ => rfl⟩
theorem KeptTo.set {B b : Nat} {u w : World} (h : KeptTo B b u w) (p : Addr) (x : Value) (hp : B ≤ p.block ∨ p.block = b) : KeptTo B b u (w.setCell p x) :=
  h.trans ⟨rfl, rfl, rfl, by simp [World.setCell], fun k hk hn => Below.heap_setCell _ _ _ _ (by rcases hp with hp | hp <;> omega)⟩
theorem KeptTo.grown {B b : Nat} {u w w' : World} {row : Option Nat} (h : KeptTo B b u w) (hg : w.grownBy w' row) (hB : B ≤ w.heap.size) (hr : ∀ k, row = some k → B ≤ k) : KeptTo B b u w' :=
  h.trans ⟨hg.os, hg.tape, hg.output, hg.size, fun k hk _ => hg.block k (by omega) (fun e => by have := hr k e.symm; omega)⟩
theorem Kept.to {B b : Nat} {w w' : World} (h : Kept b w w') (hB : B ≤ w.heap.size) : KeptTo B b w w' := (KeptTo.refl B b w).kept h hB
theorem KeptTo.all {b : Nat} {w w' : World} (h : KeptTo w.heap.size b w w') : Kept b w w' := ⟨h.os, h.tape, h.output, h.size, h.block⟩

/-- A row of another type is another block. -/
theorem own_ne {w : World} {base : Nat} {e : TypeId} {size : Nat} {v : Value} {n : Nat} {xs : List Value} (h : w.ownsRow base e size v n xs) {b : Nat} {cs : List Value} {t : TypeId} (hb : Blk w b cs t) (hne : t ≠ e) : v.ownBlock ≠ some b := by
  rcases h.2 with ⟨rfl, _⟩ | ⟨g, cap, cur, rfl, _, hg, _⟩
  · simp [Value.ownBlock]
  · intro he
    simp only [Value.ownBlock, Option.some.injEq] at he
    subst he
    unfold Blk at hb
    rw [hb] at hg
    simp at hg
    exact hne hg.2
theorem own_ne2 {w : World} {base base' : Nat} {e e' : TypeId} {size size' : Nat} {v v' : Value} {n n' : Nat} {xs xs' : List Value} (h : w.ownsRow base e size v n xs) (h' : w.ownsRow base' e' size' v' n' xs') (hne : e ≠ e') : v.ownBlock = none ∨ v.ownBlock ≠ v'.ownBlock := by
  rcases h.2 with ⟨rfl, _⟩ | ⟨g, cap, cur, rfl, _, hg, _⟩
  · exact .inl rfl
  · rcases h'.2 with ⟨rfl, _⟩ | ⟨g', cap', cur', rfl, _, hg', _⟩
    · exact .inr (by simp [Value.ownBlock])
    · refine .inr ?_
      intro he
      simp only [Value.ownBlock, Option.some.injEq] at he
      subst he
      rw [hg'] at hg
      simp at hg
      exact hne hg.2.symm
theorem own_kept {w w' : World} {b base : Nat} {e : TypeId} {size : Nat} {v : Value} {n : Nat} {xs : List Value} (h : w.ownsRow base e size v n xs) (hk : Kept b w w') (hne : v.ownBlock ≠ some b) : w'.ownsRow base e size v n xs := by
  refine h.kept (row := some b) ⟨hk.os, hk.tape, hk.output, hk.size, fun k hk' hn => hk.block k hk' (fun e => hn (by rw [e]))⟩ (.inr hne)
theorem own_set {w : World} {base : Nat} {e : TypeId} {size : Nat} {v : Value} {n : Nat} {xs : List Value} (h : w.ownsRow base e size v n xs) (p : Addr) (x : Value) (hne : v.ownBlock ≠ some p.block) : (w.setCell p x).ownsRow base e size v n xs :=
  own_kept h (Kept.setCell (b := p.block) w rfl x) hne
theorem Blk.grown {w w' : World} {b : Nat} {cs : List Value} {t : TypeId} {row : Option Nat} (h : Blk w b cs t) (hg : w.grownBy w' row) (hne : row ≠ some b) : Blk w' b cs t := by
  have hlt := h.lt
  unfold Blk at *
  rw [hg.block b hlt (fun e => hne e.symm), h]

end Go.Proofs.YtpbfiffgcgnidaaGreatDoor

namespace Go.Proofs.YtpbfiffgcgnidaaGreatDoor
open Go.RowKit
attribute [local go_sem] drewN_alloc drewN_setCell

structure LitD where
  name : List UInt8
  ts : List (List UInt8)
  neg : Bool
structure SpotD where
  mark : Nat
  np : Nat
  ps : List Nat
def LitD.cells (d : LitD) : List Value := litCells d.name d.ts d.neg
def SpotD.cells (d : SpotD) : List Value := spotCells d.mark d.np d.ps
def litD (s : ByteArray) (l : List UInt8) : LitD := ⟨(litAt s l).name, (litAt s l).ts, litNeg l⟩
def spotD (s : ByteArray) (l : List UInt8) : SpotD := ⟨litMark s l, (litAt s l).np, (litAt s l).ps⟩
structure BoR where
  ok : Bool
  lits : List LitD
  spots : List SpotD
  rest : List UInt8
/-- The literals: at most f more. -/
def litsR (s : ByteArray) : Nat → List LitD → List SpotD → List UInt8 → BoR
  | 0, ls, ps, l => ⟨true, ls, ps, l⟩
  | f + 1, ls, ps, l =>
    if (litAt s l).ok = false then ⟨false, ls, ps, (litAt s l).rest⟩
    else if f = 0 then ⟨true, ls ++ [litD s l], ps ++ [spotD s l], (litAt s l).rest⟩
    else if tookB (litAt s l).rest 44 = false then ⟨true, ls ++ [litD s l], ps ++ [spotD s l], tookL (litAt s l).rest 44⟩
    else litsR s f (ls ++ [litD s l]) (ps ++ [spotD s l]) (tookL (litAt s l).rest 44)
def bodyR (s : ByteArray) (ps : List SpotD) (l : List UInt8) : BoR := if (hd l == 45) = false then ⟨false, [], ps, l⟩ else litsR s 4 [] ps l.tail

theorem infoLit : (Tryz.prog.info? 186).map (fun i => (i.zero, i.size, i.bytes)) = some (some (.agg #[.string ⟨#[]⟩, .int .i64 0, .string ⟨#[]⟩, .string ⟨#[]⟩, .string ⟨#[]⟩, .bool false]), 6, 80) := by kernel_rfl
theorem infoSpot : (Tryz.prog.info? 141).map (fun i => (i.zero, i.size, i.bytes)) = some (some (.agg #[.int .i64 0, .int .i64 0, .int .i64 0, .int .i64 0, .int .i64 0]), 5, 40) := by kernel_rfl
theorem new_cells (w : World) (cs : List Value) (t : TypeId) : ∀ j u, cs[j]? = some u → (w.alloc (.cells cs.toArray t)).cell? ((⟨w.heap.size, 0, none⟩ : Addr).add j) = some u := by
  intro j u h
  rw [Addr.add_lit, Nat.zero_add]
  rw [(Blk.new w cs t).cell j]
  exact h

theorem own_form {w : World} {base : Nat} {e : TypeId} {size : Nat} {v : Value} {n : Nat} {xs : List Value} (h : w.ownsRow base e size v n xs) : ∃ ao cap, v = .slice ao n cap := by
  rcases h.2 with ⟨rfl, rfl⟩ | ⟨g, cap, cur, rfl, _⟩
  · exact ⟨none, 0, rfl⟩
  · exact ⟨_, _, rfl⟩
theorem Rd.next {w : World} {b : Nat} {s : ByteArray} {l : List UInt8} (h : Rd w b s l) (h0 : l ≠ []) : Rd (w.setCell ⟨b, 1, none⟩ (.int .i64 ((posOf s l : Int) + 1))) b s l.tail := by
  obtain ⟨hr, hle, hd⟩ := h.at
  have hlt : posOf s l < s.size := by
    apply Classical.byContradiction
    intro hn
    rw [drop_end s _ hn] at hd
    exact h0 hd.symm
  refine ⟨posOf s l + 1, hlt, ?_, hr.to (by omega)⟩
  have e := drop_cons s _ hlt
  rw [hd] at e
  exact (congrArg List.tail e).symm

def litM (s : ByteArray) (l : List UInt8) : Int := litMark s l
theorem litVal_eq (s : ByteArray) (l : List UInt8) : litVal s l = .tuple #[.agg #[.string (litAt s l).nm, .int .i64 (litAt s l).cn, .string ((litAt s l).t 0), .string ((litAt s l).t 1), .string ((litAt s l).t 2), .bool (litNeg l)], .agg #[.int .i64 (litM s l), .int .i64 (litAt s l).np', .int .i64 ((litAt s l).p 0), .int .i64 ((litAt s l).p 1), .int .i64 ((litAt s l).p 2)], .bool (litAt s l).ok] := rfl
theorem litD_cells (s : ByteArray) (l : List UInt8) : (litD s l).cells = [.string (litAt s l).nm, .int .i64 (litAt s l).cn, .string ((litAt s l).t 0), .string ((litAt s l).t 1), .string ((litAt s l).t 2), .bool (litNeg l)] := rfl
theorem spotD_cells (s : ByteArray) (l : List UInt8) : (spotD s l).cells = [.int .i64 (litM s l), .int .i64 (litAt s l).np', .int .i64 ((litAt s l).p 0), .int .i64 ((litAt s l).p 1), .int .i64 ((litAt s l).p 2)] := rfl

theorem Rd.grown {w w' : World} {b : Nat} {s : ByteArray} {l : List UInt8} {row : Option Nat} (h : Rd w b s l) (hg : w.grownBy w' row) (hne : row ≠ some b) : Rd w' b s l := by
  obtain ⟨i, hi, hl, hr⟩ := h
  exact ⟨i, hi, hl, Blk.grown hr hg hne⟩
theorem own_lt_ne {w : World} {base : Nat} {e : TypeId} {size : Nat} {v : Value} {n : Nat} {xs : List Value} (h : w.ownsRow base e size v n xs) {k : Nat} (hk : w.heap.size ≤ k) : v.ownBlock ≠ some k := by
  intro he
  have := (h.lt k he).2
  omega
theorem own_base {w : World} {base : Nat} {e : TypeId} {size : Nat} {v : Value} {n : Nat} {xs : List Value} (h : w.ownsRow base e size v n xs) : ∀ k, v.ownBlock = some k → base ≤ k := fun k hk => (h.lt k hk).1

/-- How long the slice in a clause's cell 5 is. -/
def blen (w : World) (b : Nat) : Nat := match w.cell? ⟨b, 5, none⟩ with | some (.slice _ n _) => n | _ => 0

theorem blen_eq {w : World} {cb : Nat} {x0 x1 x2 x3 x4 x6 : Value} {ao : Option Addr} {n cap : Nat} {t : TypeId} (h : Blk w cb [x0, x1, x2, x3, x4, .slice ao n cap, x6] t) : blen w cb = n := by
  unfold blen
  rw [h.cell 5]
  rfl

set_option maxHeartbeats 2000000 in
set_option maxRecDepth 100000 in
theorem body_l (w : World) (b : Nat) (s : ByteArray) (l : List UInt8) (cb B : Nat) (n0 t0 t1 t2 : ByteArray) (c : Int) (sv : Value) (ps0 : List SpotD) (hR : Rd w b s l) (hs : s.size ≤ 281474976710656)
    (hC : Blk w cb [.string n0, .int .i64 c, .string t0, .string t1, .string t2, .slice none 0 0, sv] 117)
    (hS : w.ownsRow B 141 5 sv ps0.length (ps0.flatMap SpotD.cells)) (h1 : ps0.length = 1) (hb : b < B) (hB : B ≤ cb) (hBw : B ≤ w.heap.size) :
    Calls Tryz.prog 90 #[.pointer (some ⟨b, 0, none⟩), .pointer (some ⟨cb, 0, none⟩)] w fun e w' => e = .returned (.bool (bodyR s ps0 l).ok) ∧
      ∃ bv sv', Blk w' cb [.string n0, .int .i64 c, .string t0, .string t1, .string t2, bv, sv'] 117 ∧
        w'.ownsRow B 186 6 bv (bodyR s ps0 l).lits.length ((bodyR s ps0 l).lits.flatMap LitD.cells) ∧
        w'.ownsRow B 141 5 sv' (bodyR s ps0 l).spots.length ((bodyR s ps0 l).spots.flatMap SpotD.cells) ∧
        Rd w' b s (bodyR s ps0 l).rest ∧ KeptTo B b w w' := by
  have hsm : s.size ≤ maxLen := by unfold maxLen; omega
  cases h45 : (hd l == 45)
  · have HE : Hid (bodyR s ps0 l = ⟨false, [], ps0, l⟩) := by show bodyR s ps0 l = _; simp [bodyR, h45]
    have hne : (hd l != 45) = true := by simp [bne, h45]
    go_enter Tryz.func90, Tryz.ntmps90
    go_wp2_with (go_at_call 131; refine (peek_l _ b s l (by exact hR) hsm).mono ?_; rintro e w' ⟨rfl, n, rfl⟩)
    go_ret
    rw [HE.out]
    exact ⟨rfl, .slice none 0 0, sv, hC, World.ownsRow_nil _ _ _ _, hS, hR, ((Kept.refl b w).draws _).to hBw⟩
  · have hne : (hd l != 45) = false := by simp [bne, h45]
    have hl0 : l ≠ [] := by intro e; rw [e] at h45; simp [hd] at h45
    obtain ⟨l', HL⟩ : ∃ l', Hid (l' = l.tail) := ⟨_, rfl⟩
    have HE : Hid (bodyR s ps0 l = litsR s 4 [] ps0 l') := by show bodyR s ps0 l = _; simp [bodyR, h45, HL.out]
    have hR1 := hR.next hl0
    rw [← HL.out] at hR1
    have hcb : cb ≠ b := by omega
    have c1 := hR.c1
    have f1 := hR.f1
    have hpl : posOf s l ≤ 281474976710656 := by unfold posOf; omega
    go_enter Tryz.func90, Tryz.ntmps90
    go_wp2_with (go_at_call 131; refine (peek_l _ b s l (by exact hR) hsm).mono ?_; rintro e w' ⟨rfl, n, rfl⟩)
    clear c1 f1
    go_loopw [] (fun wr => ∃ (ls : List LitD) (ps : List SpotD) (r : List UInt8) (bv sv : Value), ls.length < 4 ∧ ps.length = ls.length + 1 ∧ Hid (litsR s (4 - ls.length) ls ps r = litsR s 4 [] ps0 l') ∧ Rd wr b s r ∧
      Blk wr cb [.string n0, .int .i64 c, .string t0, .string t1, .string t2, bv, sv] 117 ∧ wr.ownsRow B 186 6 bv ls.length (ls.flatMap LitD.cells) ∧ wr.ownsRow B 141 5 sv ps.length (ps.flatMap SpotD.cells) ∧ KeptTo B b w wr) (fun wr => 4 - blen wr cb)
    case atStart =>
      refine ⟨[], ps0, l', .slice none 0 0, sv, by decide, by simp [h1], rfl, hR1, ?_, World.ownsRow_nil _ _ _ _, ?_, ?_⟩
      · exact Blk.setOther (Blk.drewN hC _) ⟨b, 1, none⟩ _ (by simpa using hcb)
      · exact own_set hS ⟨b, 1, none⟩ _ (own_ne hS hR.at.1 (by decide))
      · exact (((Kept.refl b w).set 1 _).draws _).to hBw
    case round =>
      obtain ⟨ls, ps, r, bv, sv1, hl4, hps, HX, hRr, hCr, hLr, hSr, hKr⟩ := hrel
      have HPS : Hid (ps.length = ls.length + 1) := hps
      have hp4 : ps.length ≤ 4 := by omega
      clear hps
      obtain ⟨ao, cap, rfl⟩ := own_form hLr
      obtain ⟨po, pcap, rfl⟩ := own_form hSr
      have HBL : Hid (blen wr cb = ls.length) := blen_eq hCr
      obtain ⟨i1, hi1, hy0, hy1, hy2⟩ := info_parts infoLit
      obtain ⟨i2, hi2, hz0, hz1, hz2⟩ := info_parts infoSpot
      cases hok : (litAt s r).ok
      · have HF : Hid (bodyR s ps0 l = ⟨false, ls, ps, (litAt s r).rest⟩) := by
          show bodyR s ps0 l = _
          rw [HE.out, ← HX.out, show 4 - ls.length = (3 - ls.length) + 1 by omega]; simp [litsR, hok]
        go_wp2_with (go_at_call 136; refine (literal_l _ b s r (by exact hRr) hs).mono ?_; rintro e w1 ⟨he, hR1, hK1⟩; rw [litVal_eq, hok] at he; subst he)
        go_ret
        rw [HF.out]
        have hKK1 := hKr.kept hK1 (by have := hKr.size; omega)
        exact ⟨rfl, _, _, ((hCr.kept hK1 hcb).alloc _).alloc _, ((own_kept hLr hK1 (own_ne hLr hRr.at.1 (by decide))).alloc _).alloc _, ((own_kept hSr hK1 (own_ne hSr hRr.at.1 (by decide))).alloc _).alloc _, (hR1.alloc _).alloc _, (hKK1.alloc _ (by have := hKK1.size; omega)).alloc _ (by have := hKK1.size; simp; omega)⟩
      · obtain ⟨A, HA⟩ : ∃ A, Hid (A = litAt s r) := ⟨_, rfl⟩
        go_wp2_with (go_at_call 136; refine (literal_l _ b s r (by exact hRr) hs).mono ?_; rintro e w1 ⟨he, hR1, hK1⟩; rw [litVal_eq, hok, ← HA.out] at he; subst he; rw [← HA.out] at hR1; have hC1 := hCr.kept hK1 hcb; have hL1 := own_kept hLr hK1 (own_ne hLr hRr.at.1 (by decide)); have hS1 := own_kept hSr hK1 (own_ne hSr hRr.at.1 (by decide)); have hKK1 := hKr.kept hK1 (by have := hKr.size; omega); have hcw : cb < w1.heap.size := hC1.lt; have hbw : b < w1.heap.size := hR1.lt; obtain ⟨c0, c1, c2, c3, c4, c5, c6⟩ := hC1.c7; have fC := hC1.frozen)
        obtain ⟨cs, HC⟩ : ∃ cs, Hid (cs = [Value.string A.nm, .int .i64 A.cn, .string (A.t 0), .string (A.t 1), .string (A.t 2), .bool (litNeg r)]) := ⟨_, rfl⟩
        have hone : ∀ u ∈ cs, u.oneCell' = true := by
          rw [HC.out]; intro u hu; simp at hu; rcases hu with rfl | rfl | rfl | rfl | rfl | rfl <;> rfl
        have hlen : cs.length = 1 * 6 := by rw [HC.out]; rfl
        have hown : ∀ o1 o2 o3, ((((w1.alloc o1).alloc o2).alloc o3).drew).ownsRow B 186 6 (.slice ao ls.length cap) ls.length (ls.flatMap LitD.cells) := fun o1 o2 o3 => ((hL1.alloc o1).alloc o2).alloc o3
        have hnews : ∀ o1 o2, ∀ j u, cs[j]? = some u → ((((w1.alloc o1).alloc o2).alloc (.cells #[Value.string A.nm, .int .i64 A.cn, .string (A.t 0), .string (A.t 1), .string (A.t 2), .bool (litNeg r)] 186)).drew).cell? ((⟨w1.heap.size + 1 + 1, 0, none⟩ : Addr).add j) = some u := by
          intro o1 o2 j u h
          rw [HC.out] at h
          have h' := new_cells ((w1.alloc o1).alloc o2) _ 186 j u h
          have e : ((w1.alloc o1).alloc o2).heap.size = w1.heap.size + 1 + 1 := by simp
          rw [e] at h'
          exact h'
        have hcw1 : cb < w1.heap.size + 1 := by omega
        have hcw2 : cb < w1.heap.size + 1 + 1 := by omega
        have hlm : ls.length + 1 ≤ maxLen := by unfold maxLen; omega
        have hlb : (ls.length + 1) * 80 ≤ 140737488355328 := by omega
        have hBB : ∀ o1 o2 o3, B ≤ ((((w1.alloc o1).alloc o2).alloc o3).drew).heap.size := by intro o1 o2 o3; have := hKK1.size; simp; omega
        have HLX : Hid (ls.flatMap LitD.cells ++ cs = (ls ++ [litD s r]).flatMap LitD.cells) := by
          show ls.flatMap LitD.cells ++ cs = (ls ++ [litD s r]).flatMap LitD.cells
          rw [List.flatMap_append, HC.out]; simp [litD_cells, ← HA.out]
        have hne1 := own_ne hL1 hC1 (by decide)
        have hne2 := own_ne hL1 hR1.at.1 (by decide)
        have hne3 := own_lt_ne hL1 (k := w1.heap.size + 1) (by omega)
        have hne4 := own_ne2 hS1 hL1 (by decide)
        have hbs := own_base hL1
        have hB1 : B ≤ w1.heap.size := by have := hKK1.size; omega
        go_cut [] from 18 to 59 (fun wx => ∃ g cap', Blk wx cb [.string n0, .int .i64 c, .string t0, .string t1, .string t2, .slice (some ⟨g, 0, none⟩) (ls.length + 1) cap', .slice po ps.length pcap] 117 ∧ wx.ownsRow B 186 6 (.slice (some ⟨g, 0, none⟩) (ls.length + 1) cap') (ls.length + 1) (ls.flatMap LitD.cells ++ cs) ∧
          wx.ownsRow B 141 5 (.slice po ps.length pcap) ps.length (ps.flatMap SpotD.cells) ∧ Blk wx (w1.heap.size + 1) [.int .i64 (litM s r), .int .i64 A.np', .int .i64 (A.p 0), .int .i64 (A.p 1), .int .i64 (A.p 2)] 141 ∧ Rd wx b s A.rest ∧ KeptTo B b w wx)
        case first =>
         go_region_law (refine step_append_own rfl (.tmp 31) (.tmp 33) 84 rfl B 186 i1 _ 6 80 Tryz.underlying84 hi1 hy0 hy1 hy2 rfl (by decide) (.slice ao ls.length cap) ls.length (ls.flatMap LitD.cells) (by simp [Act.eval]) (hown _ _ _) ⟨w1.heap.size + 1 + 1, 0, none⟩ 1 1 cs (by simp [Act.eval]) (by decide) hlen (hnews _ _) hone hlm hlb (hBB _ _ _) ?_; intro g cap' w2 hL2 hg2; have hC2 := (((hC1.alloc _).alloc _).alloc _).drew.grown hg2 hne1; obtain ⟨d0, d1, d2, d3, d4, d5, d6⟩ := hC2.c7; have fC2 := hC2.frozen; have hR2 := (((hR1.alloc _).alloc _).alloc _).drew.grown hg2 hne2; have hP2 := ((new_two w1 _ [.int .i64 (litM s r), .int .i64 A.np', .int .i64 (A.p 0), .int .i64 (A.p 1), .int .i64 (A.p 2)] 141).alloc _).drew.grown hg2 hne3; have hS2 := (((hS1.alloc _).alloc _).alloc _).drew.kept hg2 hne4; have hKK2 := ((((hKK1.alloc _ hB1).alloc _ (by simp; omega)).alloc _ (by simp; omega)).drew).grown hg2 (by simp; omega) hbs)
         all_goals go_wp2_with fail
         all_goals go_meet
         all_goals
           refine ⟨g, cap', hC2.setCell 5 _, own_set hL2 ⟨cb, 5, none⟩ _ (own_ne hL2 hC2 (by decide)), own_set hS2 ⟨cb, 5, none⟩ _ (own_ne hS2 hC2 (by decide)), hP2.setOther ⟨cb, 5, none⟩ _ (by simp only [ne_eq]; omega), hR2.setOther ⟨cb, 5, none⟩ _ (by simp only [ne_eq]; omega), hKK2.set ⟨cb, 5, none⟩ _ (.inl hB)⟩
        case rest =>
          clear c0 c1 c2 c3 c4 c5 c6 fC hown hnews hBB hC1 hL1 hS1 hKK1 hR1 hne1 hne2 hne3 hne4 hbs hone hlen hCr hLr hSr hKr hRr hK1
          obtain ⟨g, cap', hC2, hL2, hS2, hP2, hR2, hKK2⟩ := hcut
          obtain ⟨c0, c1, c2, c3, c4, c5, c6⟩ := hC2.c7
          have fC := hC2.frozen
          obtain ⟨p0, p1, p2, p3, p4⟩ := hP2.c5
          have hcw : cb < wc.heap.size := hC2.lt
          have hpw : w1.heap.size + 1 < wc.heap.size := hP2.lt
          obtain ⟨qs, HQ⟩ : ∃ qs, Hid (qs = [Value.int .i64 (litM s r), .int .i64 A.np', .int .i64 (A.p 0), .int .i64 (A.p 1), .int .i64 (A.p 2)]) := ⟨_, rfl⟩
          have hone : ∀ u ∈ qs, u.oneCell' = true := by
            rw [HQ.out]; intro u hu; simp at hu; rcases hu with rfl | rfl | rfl | rfl | rfl <;> rfl
          have hlen : qs.length = 1 * 5 := by rw [HQ.out]; rfl
          have hown : ∀ o3, ((wc.alloc o3).drew).ownsRow B 141 5 (.slice po ps.length pcap) ps.length (ps.flatMap SpotD.cells) := fun o3 => hS2.alloc o3
          have hnews : ∀ j u, qs[j]? = some u → ((wc.alloc (.cells #[Value.int .i64 (litM s r), .int .i64 A.np', .int .i64 (A.p 0), .int .i64 (A.p 1), .int .i64 (A.p 2)] 141)).drew).cell? ((⟨wc.heap.size, 0, none⟩ : Addr).add j) = some u := by
            intro j u h
            rw [HQ.out] at h
            exact new_cells wc _ 141 j u h
          have hpm : ps.length + 1 ≤ maxLen := by unfold maxLen; omega
          have hpb : (ps.length + 1) * 40 ≤ 140737488355328 := by omega
          have hB2 : B ≤ wc.heap.size := by have := hKK2.size; omega
          have hBB : ∀ o3, B ≤ ((wc.alloc o3).drew).heap.size := by intro o3; simp; omega
          have HSX : Hid (ps.flatMap SpotD.cells ++ qs = (ps ++ [spotD s r]).flatMap SpotD.cells) := by
            show ps.flatMap SpotD.cells ++ qs = (ps ++ [spotD s r]).flatMap SpotD.cells
            rw [List.flatMap_append, HQ.out]; simp [spotD_cells, ← HA.out]
          have hne1 := own_ne hS2 hC2 (by decide)
          have hne2 := own_ne hS2 hR2.at.1 (by decide)
          have hne4 := own_ne2 hL2 hS2 (by decide)
          have hbs := own_base hS2
          go_wp2_with fail
          go_cut [] from 18 to 59 (fun wx => ∃ g2 cap2, Blk wx cb [.string n0, .int .i64 c, .string t0, .string t1, .string t2, .slice (some ⟨g, 0, none⟩) (ls.length + 1) cap', .slice (some ⟨g2, 0, none⟩) (ps.length + 1) cap2] 117 ∧ wx.ownsRow B 186 6 (.slice (some ⟨g, 0, none⟩) (ls.length + 1) cap') (ls.length + 1) (ls.flatMap LitD.cells ++ cs) ∧
            wx.ownsRow B 141 5 (.slice (some ⟨g2, 0, none⟩) (ps.length + 1) cap2) (ps.length + 1) (ps.flatMap SpotD.cells ++ qs) ∧ Rd wx b s A.rest ∧ KeptTo B b w wx)
          case first =>
            go_region_law (refine step_append_own rfl (.tmp 42) (.tmp 44) 115 rfl B 141 i2 _ 5 40 Tryz.underlying115 hi2 hz0 hz1 hz2 rfl (by decide) (.slice po ps.length pcap) ps.length (ps.flatMap SpotD.cells) (by simp [Act.eval]) (hown _) ⟨wc.heap.size, 0, none⟩ 1 1 qs (by simp [Act.eval]) (by decide) hlen hnews hone hpm hpb (hBB _) ?_; intro g2 cap2 w3 hS3 hg3; have hC3 := (hC2.alloc _).drew.grown hg3 hne1; obtain ⟨d0, d1, d2, d3, d4, d5, d6⟩ := hC3.c7; have fC3 := hC3.frozen; have hR3 := (hR2.alloc _).drew.grown hg3 hne2; have hL3 := (hL2.alloc _).drew.kept hg3 hne4; have hKK3 := ((hKK2.alloc _ hB2).drew).grown hg3 (by simp; omega) hbs)
            all_goals go_wp2_with fail
            all_goals go_meet
            all_goals
              exact ⟨g2, cap2, hC3.setCell 6 _, own_set hL3 ⟨cb, 6, none⟩ _ (own_ne hL3 hC3 (by decide)), own_set hS3 ⟨cb, 6, none⟩ _ (own_ne hS3 hC3 (by decide)), hR3.setOther ⟨cb, 6, none⟩ _ (by simp only [ne_eq]; omega), hKK3.set ⟨cb, 6, none⟩ _ (.inl hB)⟩
          case rest =>
            clear c0 c1 c2 c3 c4 c5 c6 fC p0 p1 p2 p3 p4 hown hnews hBB hC2 hL2 hS2 hP2 hR2 hKK2 hne1 hne2 hne4 hbs hone hlen
            obtain ⟨g2, cap2, hC2, hL2, hS2, hR2, hKK2⟩ := hcut
            rw [HLX.out] at hL2
            rw [HSX.out] at hS2
            obtain ⟨c0, c1, c2, c3, c4, c5, c6⟩ := hC2.c7
            by_cases h3 : ls.length = 3
            · have hq : (((ls.length : Int) + 1) == 4) = true := by rw [beq_iff_eq]; omega
              have HF : Hid (bodyR s ps0 l = ⟨true, ls ++ [litD s r], ps ++ [spotD s r], (litAt s r).rest⟩) := by
                show bodyR s ps0 l = _
                rw [HE.out, ← HX.out, h3]; simp [litsR, hok]
              clear h3
              go_wp2
              go_ret
              rw [HF.out]
              exact ⟨rfl, _, _, hC2, by simpa using hL2, by simpa using hS2, by rw [← HA.out]; exact hR2, hKK2⟩
            · have hq : (((ls.length : Int) + 1) == 4) = false := by rw [beq_eq_false_iff_ne]; omega
              have HG : Hid (4 - ls.length = (3 - ls.length) + 1 ∧ 3 - ls.length ≠ 0) := ⟨by omega, by omega⟩
              have hl3 : ls.length + 1 < 4 := by omega
              clear h3
              cases ht : tookB A.rest 44
              · have HF : Hid (bodyR s ps0 l = ⟨true, ls ++ [litD s r], ps ++ [spotD s r], tookL A.rest 44⟩) := by
                  show bodyR s ps0 l = _
                  rw [HA.out] at ht
                  rw [HE.out, ← HX.out, HG.out.1]; simp [litsR, hok, HG.out.2, ht, HA.out]
                go_wp2_with (go_at_call 89; refine (take_l _ b s A.rest 44 (by exact hR2) hsm (by omega)).mono ?_; rintro e w3 ⟨rfl, hR3, hK3⟩)
                go_ret
                rw [HF.out]
                exact ⟨rfl, _, _, hC2.kept hK3 hcb, by simpa using own_kept hL2 hK3 (own_ne hL2 hR2.at.1 (by decide)), by simpa using own_kept hS2 hK3 (own_ne hS2 hR2.at.1 (by decide)), hR3, hKK2.kept hK3 (by have := hKK2.size; omega)⟩
              · have HF : Hid (litsR s (4 - (ls ++ [litD s r]).length) (ls ++ [litD s r]) (ps ++ [spotD s r]) (tookL A.rest 44) = litsR s 4 [] ps0 l') := by
                  show litsR s (4 - (ls ++ [litD s r]).length) (ls ++ [litD s r]) (ps ++ [spotD s r]) (tookL A.rest 44) = _
                  rw [HA.out] at ht
                  rw [← HX.out, HG.out.1, List.length_append, List.length_singleton, show 4 - (ls.length + 1) = 3 - ls.length by omega]; simp [litsR, hok, HG.out.2, ht, HA.out]
                go_wp2_with (go_at_call 89; refine (take_l _ b s A.rest 44 (by exact hR2) hsm (by omega)).mono ?_; rintro e w3 ⟨rfl, hR3, hK3⟩)
                have hC3 := hC2.kept hK3 hcb
                refine ⟨⟨ls ++ [litD s r], ps ++ [spotD s r], tookL A.rest 44, _, _, by simpa using hl3, by simp [HPS.out], HF, hR3, hC3, by simpa using own_kept hL2 hK3 (own_ne hL2 hR2.at.1 (by decide)), by simpa using own_kept hS2 hK3 (own_ne hS2 hR2.at.1 (by decide)), hKK2.kept hK3 (by have := hKK2.size; omega)⟩, ?_⟩
                rw [HBL.out, blen_eq hC3]
                omega

end Go.Proofs.YtpbfiffgcgnidaaGreatDoor
