/-
  QTwosToCells6: Twos, PowPure, Cells6, joined.
-/
import Derived.Test.YthdnnphpjdchnaaQLen2ToByWord
import Derived.Shelf.Spec.TrailingZeros
import Derived.Test.YthdnnphpjdchnaaQZModToZStore

/- Twos -/
namespace Go.Proofs.Ythdnnphpjdchnaa
open Go.RowKit

/-- The table lies where the program has it. -/
def Tab (w : World) : Prop := TabAt 0 Lib.deBruijn64tab w
theorem Tab.below {w w' : World} {B : Nat} (h : Tab w) (hb : Below B w w') (hB : 0 < B) : Tab w' := fun j hj => (hb.cell (p := ⟨0, j, none⟩) hB).trans (h j hj)
theorem Tab.drewN {w : World} (h : Tab w) (n : Nat) : Tab (w.drewN n) := fun j hj => h j hj
theorem Tab.pos {w : World} (h : Tab w) : 0 < w.heap.size := World.block_lt_of_cell? w _ (h 0 (by decide))
theorem Tab.now {w w' : World} (h : Tab w) (hb : Below w.heap.size w w') : Tab w' := h.below hb h.pos

/-- What Twos answers. -/
def IsTwos (v : Nat) (r : Int) : Prop := (v = 0 ∧ r = -1) ∨ ∃ t : Nat, r = (t : Int) ∧ Odd2 v t
/-- What Bit answers. -/
def bitAt (v : Nat) (i : Int) : Int := if i < 0 then 0 else ((v / 2 ^ i.toNat % 2 : Nat) : Int)
theorem and_one {x : Int} (hx : IsW x) (k : Nat) : wrap64 (bits BinOp.and IntKind.u64 (x / 2 ^ k) 1) = ((x.toNat / 2 ^ k % 2 : Nat) : Int) := by
  have hl := toNat_lt hx
  obtain ⟨n, rfl⟩ := Int.eq_ofNat_of_zero_le hx.1
  simp only [Int.toNat_natCast] at hl ⊢
  have e : (n : Int) / 2 ^ k = ((n / 2 ^ k : Nat) : Int) := by simp
  have hd : n / 2 ^ k ≤ n := Nat.div_le_self _ _
  rw [e, show (1 : Int) = ((1 : Nat) : Int) from rfl, bits_and_u64_nat _ 1 (by omega) (by omega), Nat.and_one_is_mod]
  unfold wrap64
  omega
theorem bit_word {xs : List Int} (hw : WF xs) {n : Nat} (h : n / 64 < xs.length) : vn xs / 2 ^ n % 2 = xs[n / 64].toNat / 2 ^ (n % 64) % 2 := by
  rw [bit_val, bit_val, vn_bit hw]
  simp [h]
theorem bit_beyond {xs : List Int} (hw : WF xs) {n : Nat} (h : xs.length ≤ n / 64) : vn xs / 2 ^ n % 2 = 0 := by
  rw [bit_val, vn_bit hw]
  simp [h]

set_option maxHeartbeats 800000 in
theorem bit_any {B : Nat} {w : World} {v : Value} {xs : List Int} (h : Sl B w v xs) {i : Int} (hi0 : -9223372036854775808 ≤ i) (hi1 : i ≤ 9223372036854775807) :
    Calls Try.prog 57 #[v, .int .i64 i] w fun e w' => e = .returned (.int .i64 (bitAt (vn xs) i)) ∧ w' = w := by
  obtain ⟨hw, a, cap, rfl, hlc, hcm, hm⟩ := h
  by_cases hn : i < 0
  · have HV : Hid (bitAt (vn xs) i = 0) := by unfold Hid bitAt; rw [if_pos hn]
    generalize bitAt (vn xs) i = V at *
    go_enter Try.func57, Try.ntmps57
    go_wp2
    go_ret
    exact ⟨by rw [HV.out]; rfl, rfl⟩
  · obtain ⟨n, rfl⟩ := Int.eq_ofNat_of_zero_le (show 0 ≤ i by omega)
    have hv : bitAt (vn xs) (n : Int) = ((vn xs / 2 ^ n % 2 : Nat) : Int) := by unfold bitAt; rw [if_neg hn]; simp
    by_cases hl : n / 64 < xs.length
    · rw [bit_word hw hl] at hv
      have HV := hid hv
      generalize bitAt (vn xs) (n : Int) = V at *
      rcases hm with e | ⟨b, off, rfl, hb, hc⟩
      · subst e; simp at hl
      have c1 := hc (n / 64) hl
      have hx := hw.get hl
      have HA := hid (and_one hx (n % 64))
      unfold IsW wB at hx
      generalize xs[n / 64] = x at *
      clear hv hc hw
      go_enter Try.func57, Try.ntmps57
      go_wp2
      go_ret
      refine ⟨congrArg Ending.returned (congrArg (Value.int IntKind.i64) ?_), rfl⟩
      rw [HV.out]
      exact HA.out
    · rw [bit_beyond hw (by omega)] at hv
      have HV := hid hv
      generalize bitAt (vn xs) (n : Int) = V at *
      clear hv hw
      go_enter Try.func57, Try.ntmps57
      go_wp2
      go_ret
      exact ⟨by rw [HV.out]; rfl, rfl⟩
end Go.Proofs.Ythdnnphpjdchnaa

/- PowPure -/
namespace Go.Proofs.Ythdnnphpjdchnaa
open Go.RowKit
set_option linter.unusedVariables false

/-- a to the power n, modulo b. -/
def pmod (A : Int) (n : Nat) (B : Int) : Int := A ^ n % B
theorem pmod_zero (A B : Int) : pmod A 0 B = 1 % B := by simp [pmod]
theorem emod_mul_left (x y B : Int) : (x % B * y) % B = (x * y) % B := by rw [Int.mul_emod, Int.emod_emod, ← Int.mul_emod]
theorem emod_mul_right (x y B : Int) : (x * (y % B)) % B = (x * y) % B := by rw [Int.mul_comm, emod_mul_left, Int.mul_comm]
theorem pmod_sq (A : Int) (n : Nat) (B : Int) : (pmod A n B * pmod A n B) % B = pmod A (2 * n) B := by
  unfold pmod
  rw [emod_mul_left, emod_mul_right, ← Int.pow_add, Nat.two_mul]
theorem pmod_more (A : Int) (n : Nat) (B : Int) : (pmod A n B * (A % B)) % B = pmod A (n + 1) B := by
  unfold pmod
  rw [emod_mul_left, emod_mul_right, Int.pow_succ]
theorem half_next (N j : Nat) : N / 2 ^ j = 2 * (N / 2 ^ (j + 1)) + N / 2 ^ j % 2 := by
  rw [Nat.pow_succ, ← Nat.div_div_eq_div_mul]
  omega
theorem pmod_bit0 {A B : Int} {N j : Nat} (h : N / 2 ^ j % 2 = 0) : (pmod A (N / 2 ^ (j + 1)) B * pmod A (N / 2 ^ (j + 1)) B) % B = pmod A (N / 2 ^ j) B := by
  rw [pmod_sq]
  congr 1
  have := half_next N j
  omega
theorem pmod_bit1 {A B : Int} {N j : Nat} (h : N / 2 ^ j % 2 = 1) : ((pmod A (N / 2 ^ (j + 1)) B * pmod A (N / 2 ^ (j + 1)) B) % B * (A % B)) % B = pmod A (N / 2 ^ j) B := by
  rw [pmod_sq, pmod_more]
  congr 1
  have := half_next N j
  omega
theorem pmod_start (A B : Int) (N : Nat) : 1 % B = pmod A (N / 2 ^ bitLen N) B := by
  rw [Nat.div_eq_of_lt (bitLen_spec N).1, pmod_zero]
theorem bitAt_nat (N j : Nat) : bitAt N (j : Int) = ((N / 2 ^ j % 2 : Nat) : Int) := by
  unfold bitAt
  rw [if_neg (by omega)]
  simp
theorem pmod_in {A B : Int} {n : Nat} (hB : B ≠ 0) : 0 ≤ pmod A n B ∧ pmod A n B < (B.natAbs : Int) := ⟨Int.emod_nonneg _ hB, Int.emod_lt _ hB⟩
theorem vn_toNat {n : Bool} {xs : List Int} {X : Int} (hx : WF xs) (h : iv n xs = X) (h0 : 0 ≤ X) : vn xs = X.toNat := by
  have hv := val_vn hx
  cases n
  · rw [iv_pos] at h; omega
  · rw [iv_neg] at h; omega
theorem bitLen_leT {v T : Nat} (h : v < 2 ^ T) : bitLen v ≤ T := by
  by_cases e : bitLen v ≤ T
  · exact e
  · exact absurd h (Nat.not_lt.2 (Nat.le_trans (Nat.pow_le_pow_right (by omega) (show T ≤ bitLen v - 1 by omega)) ((bitLen_spec v).2 (fun q => by rw [q] at e; simp [bitLen] at e))))
theorem bitLen_fit {xs : List Int} (hx : WF xs) (hl : xs.length ≤ 1048576) : bitLen (vn xs) ≤ 67108864 := by
  have h1 := bitLen_leT (vn_lt hx)
  omega
end Go.Proofs.Ythdnnphpjdchnaa

/- Cells6 -/
namespace Go.Proofs.Ythdnnphpjdchnaa
open Go.RowKit
set_option linter.unusedVariables false

/-- A block of these cells. -/
def Cel (w : World) (b : Nat) (T : TypeId) (L : List Value) : Prop := w.heap[b]? = some (.cells L.toArray T (0, 0))
theorem Cel.blk {w : World} {b : Nat} {T : TypeId} {L : List Value} (h : Cel w b T L) : b < w.heap.size := (Array.getElem?_eq_some_iff.1 (show w.heap[b]? = _ from h)).1
theorem Cel.at {w : World} {b : Nat} {T : TypeId} {L : List Value} (h : Cel w b T L) {i : Nat} {v : Value} (e : L[i]? = some v) : w.cell? ⟨b, i, none⟩ = some v := by
  simp [World.cell?, show w.heap[b]? = _ from h, e]
theorem Cel.fz {w : World} {b : Nat} {T : TypeId} {L : List Value} (h : Cel w b T L) (i : Nat) : w.frozen? ⟨b, i, none⟩ = false := by simp [World.frozen?, show w.heap[b]? = _ from h]
theorem Cel.step {w w' : World} {b : Nat} {T : TypeId} {L : List Value} (h : Cel w b T L) (hb : Below w.heap.size w w') : Cel w' b T L := (hb.block b h.blk).trans h
theorem Cel.new (w : World) (T : TypeId) (L : List Value) : Cel (w.alloc (.cells L.toArray T)) w.heap.size T L := heap_alloc_new w _
theorem Cel.ne {w : World} {b b' i : Nat} {T : TypeId} {L : List Value} {u : Value} (h : Cel w b T L) (hne : b' ≠ b) : Cel (w.setCell ⟨b', i, none⟩ u) b T L := by
  have e : (w.setCell ⟨b', i, none⟩ u).heap[b]? = w.heap[b]? := Below.heap_setCell w _ u b (fun e => by simp at e; omega)
  exact e.trans h
theorem Cel.set {w : World} {b : Nat} {T : TypeId} {L : List Value} (h : Cel w b T L) (i : Nat) (v : Value) : Cel (w.setCell ⟨b, i, none⟩ v) b T (L.set i v) := by
  have h' : w.heap[b]? = some (.cells L.toArray T (0, 0)) := h
  have hlt : b < w.heap.size := h.blk
  have e : w.heap[b] = .cells L.toArray T (0, 0) := (Array.getElem?_eq_some_iff.1 h').2
  unfold Cel World.setCell
  simp [hlt, Array.getElem_modify, e]
theorem Cel.wk {w : World} {b : Nat} {T : TypeId} {L : List Value} (h : Cel w b T L) {i : Nat} {u : Value} (e : L[i]? = some u) (hu : ∀ x, u ≠ .int .u64 x) (v : Value) : Wk w (w.setCell ⟨b, i, none⟩ v) := Wk.set (h.at e) hu

abbrev put4 (w : World) (b : Nat) (y0 y1 y2 y3 : Value) : World := (((w.setCell ⟨b, 0, none⟩ y0).setCell ⟨b, 1, none⟩ y1).setCell ⟨b, 2, none⟩ y2).setCell ⟨b, 3, none⟩ y3
abbrev put8 (w : World) (b : Nat) (y0 y1 y2 y3 y4 y5 y6 y7 : Value) : World := ((((put4 w b y0 y1 y2 y3).setCell ⟨b, 4, none⟩ y4).setCell ⟨b, 5, none⟩ y5).setCell ⟨b, 6, none⟩ y6).setCell ⟨b, 7, none⟩ y7
theorem Cel.put4 {w : World} {b : Nat} {T : TypeId} {x0 x1 x2 x3 : Value} (h : Cel w b T [x0, x1, x2, x3]) (y0 y1 y2 y3 : Value) : Cel (put4 w b y0 y1 y2 y3) b T [y0, y1, y2, y3] := (((h.set 0 y0).set 1 y1).set 2 y2).set 3 y3
theorem Cel.put8 {w : World} {b : Nat} {T : TypeId} {x0 x1 x2 x3 x4 x5 x6 x7 : Value} (h : Cel w b T [x0, x1, x2, x3, x4, x5, x6, x7]) (y0 y1 y2 y3 y4 y5 y6 y7 : Value) : Cel (put8 w b y0 y1 y2 y3 y4 y5 y6 y7) b T [y0, y1, y2, y3, y4, y5, y6, y7] :=
  (((((((h.set 0 y0).set 1 y1).set 2 y2).set 3 y3).set 4 y4).set 5 y5).set 6 y6).set 7 y7
/-- A box of an integer and a store into another box. -/
theorem Duo.away4 {w : World} {b b' : Nat} {x y : Value} (h : Duo w b x y) (hne : b' ≠ b) (y0 y1 y2 y3 : Value) : Duo (put4 w b' y0 y1 y2 y3) b x y := (((h.ne hne).ne hne).ne hne).ne hne
theorem Duo.away8 {w : World} {b b' : Nat} {x y : Value} (h : Duo w b x y) (hne : b' ≠ b) (y0 y1 y2 y3 y4 y5 y6 y7 : Value) : Duo (put8 w b' y0 y1 y2 y3 y4 y5 y6 y7) b x y := (((((((h.ne hne).ne hne).ne hne).ne hne).ne hne).ne hne).ne hne).ne hne
theorem Cel.away2 {w : World} {b b' : Nat} {T : TypeId} {L : List Value} (h : Cel w b T L) (hne : b' ≠ b) (y0 y1 : Value) : Cel ((w.setCell ⟨b', 0, none⟩ y0).setCell ⟨b', 1, none⟩ y1) b T L := (h.ne hne).ne hne
/-- What holds no word may be written over. -/
def NoW (u : Value) : Prop := ∀ x, u ≠ .int .u64 x
theorem noB (n : Bool) : NoW (.bool n) := by intro x; simp
theorem noS (a : Option Addr) (l c : Nat) : NoW (.slice a l c) := by intro x; simp
theorem Cel.wk8 {w : World} {b : Nat} {T : TypeId} {n0 n1 n2 n3 : Bool} {a0 a1 a2 a3 : Option Addr} {l0 l1 l2 l3 c0 c1 c2 c3 : Nat} (h : Cel w b T [.bool n0, .slice a0 l0 c0, .bool n1, .slice a1 l1 c1, .bool n2, .slice a2 l2 c2, .bool n3, .slice a3 l3 c3]) (y0 y1 y2 y3 y4 y5 y6 y7 : Value) : Wk w (Go.Proofs.Ythdnnphpjdchnaa.put8 w b y0 y1 y2 y3 y4 y5 y6 y7) := by
  have h1 := h.set 0 y0
  have h2 := h1.set 1 y1
  have h3 := h2.set 2 y2
  have h4 := h3.set 3 y3
  have h5 := h4.set 4 y4
  have h6 := h5.set 5 y5
  have h7 := h6.set 6 y6
  exact (((((((h.wk (i := 0) rfl (noB n0) y0).trans (h1.wk (i := 1) rfl (noS a0 l0 c0) y1)).trans (h2.wk (i := 2) rfl (noB n1) y2)).trans (h3.wk (i := 3) rfl (noS a1 l1 c1) y3)).trans (h4.wk (i := 4) rfl (noB n2) y4)).trans (h5.wk (i := 5) rfl (noS a2 l2 c2) y5)).trans (h6.wk (i := 6) rfl (noB n3) y6)).trans (h7.wk (i := 7) rfl (noS a3 l3 c3) y7)
theorem Cel.wk4 {w : World} {b : Nat} {T : TypeId} {n0 n1 : Bool} {a0 a1 : Option Addr} {l0 l1 c0 c1 : Nat} (h : Cel w b T [.bool n0, .slice a0 l0 c0, .bool n1, .slice a1 l1 c1]) (y0 y1 y2 y3 : Value) : Wk w (Go.Proofs.Ythdnnphpjdchnaa.put4 w b y0 y1 y2 y3) := by
  have h1 := h.set 0 y0
  have h2 := h1.set 1 y1
  have h3 := h2.set 2 y2
  exact (((h.wk (i := 0) rfl (noB n0) y0).trans (h1.wk (i := 1) rfl (noS a0 l0 c0) y1)).trans (h2.wk (i := 2) rfl (noB n1) y2)).trans (h3.wk (i := 3) rfl (noS a1 l1 c1) y3)
theorem Cel.away4 {w : World} {b b' : Nat} {T : TypeId} {L : List Value} (h : Cel w b T L) (hne : b' ≠ b) (y0 y1 y2 y3 : Value) : Cel (Go.Proofs.Ythdnnphpjdchnaa.put4 w b' y0 y1 y2 y3) b T L := (((h.ne hne).ne hne).ne hne).ne hne
theorem Cel.away8 {w : World} {b b' : Nat} {T : TypeId} {L : List Value} (h : Cel w b T L) (hne : b' ≠ b) (y0 y1 y2 y3 y4 y5 y6 y7 : Value) : Cel (Go.Proofs.Ythdnnphpjdchnaa.put8 w b' y0 y1 y2 y3 y4 y5 y6 y7) b T L := (((((((h.ne hne).ne hne).ne hne).ne hne).ne hne).ne hne).ne hne).ne hne
end Go.Proofs.Ythdnnphpjdchnaa
