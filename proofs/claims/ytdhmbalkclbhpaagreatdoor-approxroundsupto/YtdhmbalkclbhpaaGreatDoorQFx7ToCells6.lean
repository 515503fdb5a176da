/-
  QFx7ToCells6: Fx7, Fy7, Cells6, joined.
-/
import Derived.Test.YtdhmbalkclbhpaaGreatDoorQOpenU7ToFr7
import Derived.Test.YtdhmbalkclbhpaaGreatDoorQTextToValueOf
import Derived.Test.YtdhmbalkclbhpaaGreatDoorQAlikeToZStore

/- Fx7 -/
namespace Go.Proofs.YtdhmbalkclbhpaaGreatDoor
open Go.RowKit
set_option linter.unusedVariables false

/-- Q with the sign of A. -/
def sgd (A : Int) (Q : Nat) : Int := if A < 0 then -(Q : Int) else (Q : Int)
theorem sgd_off {A : Int} {Q S : Nat} : ((A - sgd A Q * (S : Int)) + (A - sgd A Q * (S : Int))).natAbs = 2 * ((A.natAbs - Q * S) + (Q * S - A.natAbs)) := by
  have e : ((Q * S : Nat) : Int) = (Q : Int) * (S : Int) := Int.natCast_mul ..
  unfold sgd
  split
  · rw [Int.neg_mul, ← e]
    generalize Q * S = u
    omega
  · rw [← e]
    generalize Q * S = u
    omega
theorem rounds_pure {A : Int} {n : Nat} (hA : A ≠ 0) (hn : 1 ≤ n) : ∃ D Q ds x, (txtL 10 A.natAbs).length = D ∧ rdL (txtL 10 A.natAbs) n = (ds, x) ∧ ds.length = n ∧ Good 10 ds ∧ ofD 10 (dsL ds) = Q ∧ 10 ^ (n - 1) ≤ Q ∧ 1 ≤ D ∧
    ((x = D - 1 ∧ x < n ∧ sgd A Q = A * ((10 ^ (n - 1 - x) : Nat) : Int)) ∨
     (x = D - 1 ∧ n ≤ x ∧ (((A - sgd A Q * ((10 ^ (x - n + 1) : Nat) : Int)) + (A - sgd A Q * ((10 ^ (x - n + 1) : Nat) : Int))).natAbs < 10 ^ (x - n + 1) ∨ ((A - sgd A Q * ((10 ^ (x - n + 1) : Nat) : Int)) + (A - sgd A Q * ((10 ^ (x - n + 1) : Nat) : Int))).natAbs = 10 ^ (x - n + 1) ∧ Q % 2 = 0)) ∨
     (x = D ∧ n < x ∧ Q = 10 ^ (n - 1) ∧ ((A - sgd A Q * ((10 ^ (x - n + 1) : Nat) : Int)) + (A - sgd A Q * ((10 ^ (x - n + 1) : Nat) : Int))).natAbs ≤ 10 ^ (x - n))) := by
  obtain ⟨D, Q, ds, x, h1, h2, h3, h4, h5, h6, h7, h8⟩ := rdL_spec (N := A.natAbs) (n := n) (by omega) hn
  refine ⟨D, Q, ds, x, h1, h2, h3, h4, h5, h6, h7, ?_⟩
  rcases h8 with ⟨a, b, c⟩ | ⟨a, b, c⟩ | ⟨a, b, c, d, e⟩
  · refine .inl ⟨b, by omega, ?_⟩
    rw [show n - 1 - x = n - D by omega]
    have e : ((A.natAbs * 10 ^ (n - D) : Nat) : Int) = (A.natAbs : Int) * ((10 ^ (n - D) : Nat) : Int) := Int.natCast_mul ..
    unfold sgd
    rw [c, e]
    split
    · rw [← Int.neg_mul]
      congr 1
      omega
    · congr 1
      omega
  · refine .inr (.inl ⟨b, by omega, ?_⟩)
    rw [sgd_off, show x - n + 1 = D - n by omega]
    generalize 10 ^ (D - n) = S at *
    unfold Nst at c
    generalize Q * S = u at *
    omega
  · refine .inr (.inr ⟨b, by omega, c, ?_⟩)
    rw [sgd_off, b]
    have hp : Q * 10 ^ (D - n + 1) = 10 ^ D := by rw [c, ← Nat.pow_add]; congr 1; omega
    rw [hp]
    generalize 10 ^ D = u at *
    generalize 10 ^ (D - n) = v at *
    omega
end Go.Proofs.YtdhmbalkclbhpaaGreatDoor

/- Fy7 -/
namespace Go.Proofs.YtdhmbalkclbhpaaGreatDoor
open Go.RowKit
set_option linter.unusedVariables false

theorem ten_small {j : Nat} (h : j ≤ 40) : ((10 ^ j : Nat) : Int) < pw 3 := by
  have h1 : 10 ^ j ≤ 10 ^ 40 := Nat.pow_le_pow_right (by decide) h
  have h2 : ((10 ^ 40 : Nat) : Int) < pw 3 := by decide +kernel
  omega
theorem pw_next7 (k : Nat) : pw (k + 1) = 18446744073709551616 * pw k := by
  rw [pw_pow, pw_pow, Nat.mul_add, Int.pow_add, Int.mul_comm]
  congr 1
theorem up_ten {a N P0 P1 : Int} (h : a ≤ 10 * N) (h0 : N < P0) (h1 : P1 = 18446744073709551616 * P0) (hN : 0 ≤ N := by omega) : a < P1 := by omega
/-- The digits of an integer that came in. -/
theorem rounds_size {w : World} {v : Value} {A : Int} (h : Zi w v A 1048576) (hA : A ≠ 0) : (txtL 10 A.natAbs).length ≤ 67108865 ∧ ∀ j, j ≤ (txtL 10 A.natAbs).length → ((10 ^ j : Nat) : Int) < pw (1048576 + 1) := by
  have hl := h.lt
  obtain ⟨n, xs, a, c, rfl, s, v, l⟩ := h
  have e : vn xs = A.natAbs := by
    have h1 := iv_abs s.1 v
    have h2 := val_vn s.1
    omega
  have h1 := txt_size (B := 10) (by decide) s.1 l
  rw [e] at h1
  have h4 : (txt 10 A.natAbs).size = (txtL 10 A.natAbs).length := mk_size _
  obtain ⟨d1, d2⟩ := txt_low (N := A.natAbs) (by omega)
  refine ⟨by omega, fun j hj => ?_⟩
  have e1 : 10 ^ j ≤ 10 ^ ((txtL 10 A.natAbs).length - 1 + 1) := Nat.pow_le_pow_right (by decide) (by omega)
  rw [Nat.pow_succ] at e1
  have e3 : ((10 ^ j : Nat) : Int) ≤ 10 * (A.natAbs : Int) := by
    have : 10 ^ j ≤ 10 * A.natAbs := by omega
    exact_mod_cast this
  exact up_ten e3 hl (pw_next7 1048576)
theorem rounds_lead {N n : Nat} (hN : 0 < N) (hn : 1 ≤ n) (h : n < (txtL 10 N).length) : 10 ^ (n - 1) ≤ ofD 10 (dsL ((txtL 10 N).take n)) := by
  obtain ⟨⟨h0, hg⟩, hv⟩ := txt_back (B := 10) (n := N) (by omega) (by omega)
  obtain ⟨hD, hlow⟩ := txt_low hN
  generalize txtL 10 N = l at *
  have hcut := ofD_cut l n
  rw [hv] at hcut
  have hrn : (l.drop n).length = l.length - n := by simp
  have hgr : Good 10 (l.drop n) := fun b hb => hg b (List.mem_of_mem_drop hb)
  have hR := good_lt hgr
  rw [hrn] at hR
  rw [show l.length - 1 = (n - 1) + (l.length - n) by omega, Nat.pow_add] at hlow
  have h1 : 10 ^ (n - 1) * 10 ^ (l.length - n) < (ofD 10 (dsL (l.take n)) + 1) * 10 ^ (l.length - n) := by
    rw [Nat.add_mul, Nat.one_mul]
    omega
  have := Nat.lt_of_mul_lt_mul_right h1
  omega
theorem sgd_sign {A : Int} {Q : Nat} (hQ : 0 < Q) (hA : A ≠ 0) : cmpI (sgd A Q) 0 = cmpI A 0 := by
  unfold sgd
  split
  · rw [cmpI_lt (by omega), cmpI_lt (by omega)]
  · rw [cmpI_gt (by omega), cmpI_gt (by omega)]
theorem sgd_abs (A : Int) (Q : Nat) : (sgd A Q).natAbs = Q := by unfold sgd; split <;> omega
end Go.Proofs.YtdhmbalkclbhpaaGreatDoor

/- Cells6 -/
namespace Go.Proofs.YtdhmbalkclbhpaaGreatDoor
open Go.RowKit
set_option linter.unusedVariables false

/-- A block of these cells. -/
def Cel (w : World) (b : Nat) (T : TypeId) (L : List Value) : Prop := w.heap[b]? = some (.cells L.toArray T (0, 0))
theorem Cel.blk {w : World} {b : Nat} {T : TypeId} {L : List Value} (h : Cel w b T L) : b < w.heap.size := (Array.getElem?_eq_some_iff.1 (show w.heap[b]? = _ from h)).1
theorem Cel.at {w : World} {b : Nat} {T : TypeId} {L : List Value} (h : Cel w b T L) {i : Nat} {v : Value} (e : L[i]? = some v) : w.cell? ⟨b, i, none⟩ = some v := by
  simp [World.cell?, show w.heap[b]? = _ from h, e]
theorem Cel.fz {w : World} {b : Nat} {T : TypeId} {L : List Value} (h : Cel w b T L) (i : Nat) : w.frozen? ⟨b, i, none⟩ = false := by simp [World.frozen?, show w.heap[b]? = _ from h]
theorem Cel.step {w w' : World} {b : Nat} {T : TypeId} {L : List Value} (h : Cel w b T L) (hb : Below w.heap.size w w') : Cel w' b T L := (hb.block b h.blk).trans h
theorem Cel.new (w : World) (T : TypeId) (L : List Value) : Cel (w.alloc (.cells L.toArray T)) w.heap.size T L := heap_alloc_new w _
theorem Cel.ne {w : World} {b b' i : Nat} {T : TypeId} {L : List Value} {u : Value} (h : Cel w b T L) (hne : b' ≠ b) : Cel (w.setCell ⟨b', i, none⟩ u) b T L := by
  have e : (w.setCell ⟨b', i, none⟩ u).heap[b]? = w.heap[b]? := Below.heap_setCell w _ u b (fun e => by simp at e; omega)
  exact e.trans h
theorem Cel.set {w : World} {b : Nat} {T : TypeId} {L : List Value} (h : Cel w b T L) (i : Nat) (v : Value) : Cel (w.setCell ⟨b, i, none⟩ v) b T (L.set i v) := by
  have h' : w.heap[b]? = some (.cells L.toArray T (0, 0)) := h
  have hlt : b < w.heap.size := h.blk
  have e : w.heap[b] = .cells L.toArray T (0, 0) := (Array.getElem?_eq_some_iff.1 h').2
  unfold Cel World.setCell
  simp [hlt, Array.getElem_modify, e]
theorem Cel.wk {w : World} {b : Nat} {T : TypeId} {L : List Value} (h : Cel w b T L) {i : Nat} {u : Value} (e : L[i]? = some u) (hu : ∀ x, u ≠ .int .u64 x) (v : Value) : Wk w (w.setCell ⟨b, i, none⟩ v) := Wk.set (h.at e) hu

abbrev put4 (w : World) (b : Nat) (y0 y1 y2 y3 : Value) : World := (((w.setCell ⟨b, 0, none⟩ y0).setCell ⟨b, 1, none⟩ y1).setCell ⟨b, 2, none⟩ y2).setCell ⟨b, 3, none⟩ y3
abbrev put8 (w : World) (b : Nat) (y0 y1 y2 y3 y4 y5 y6 y7 : Value) : World := ((((put4 w b y0 y1 y2 y3).setCell ⟨b, 4, none⟩ y4).setCell ⟨b, 5, none⟩ y5).setCell ⟨b, 6, none⟩ y6).setCell ⟨b, 7, none⟩ y7
theorem Cel.put4 {w : World} {b : Nat} {T : TypeId} {x0 x1 x2 x3 : Value} (h : Cel w b T [x0, x1, x2, x3]) (y0 y1 y2 y3 : Value) : Cel (put4 w b y0 y1 y2 y3) b T [y0, y1, y2, y3] := (((h.set 0 y0).set 1 y1).set 2 y2).set 3 y3
theorem Cel.put8 {w : World} {b : Nat} {T : TypeId} {x0 x1 x2 x3 x4 x5 x6 x7 : Value} (h : Cel w b T [x0, x1, x2, x3, x4, x5, x6, x7]) (y0 y1 y2 y3 y4 y5 y6 y7 : Value) : Cel (put8 w b y0 y1 y2 y3 y4 y5 y6 y7) b T [y0, y1, y2, y3, y4, y5, y6, y7] :=
  (((((((h.set 0 y0).set 1 y1).set 2 y2).set 3 y3).set 4 y4).set 5 y5).set 6 y6).set 7 y7
/-- A box of an integer and a store into another box. -/
theorem Duo.away4 {w : World} {b b' : Nat} {x y : Value} (h : Duo w b x y) (hne : b' ≠ b) (y0 y1 y2 y3 : Value) : Duo (put4 w b' y0 y1 y2 y3) b x y := (((h.ne hne).ne hne).ne hne).ne hne
theorem Duo.away8 {w : World} {b b' : Nat} {x y : Value} (h : Duo w b x y) (hne : b' ≠ b) (y0 y1 y2 y3 y4 y5 y6 y7 : Value) : Duo (put8 w b' y0 y1 y2 y3 y4 y5 y6 y7) b x y := (((((((h.ne hne).ne hne).ne hne).ne hne).ne hne).ne hne).ne hne).ne hne
theorem Cel.away2 {w : World} {b b' : Nat} {T : TypeId} {L : List Value} (h : Cel w b T L) (hne : b' ≠ b) (y0 y1 : Value) : Cel ((w.setCell ⟨b', 0, none⟩ y0).setCell ⟨b', 1, none⟩ y1) b T L := (h.ne hne).ne hne
/-- What holds no word may be written over. -/
def NoW (u : Value) : Prop := ∀ x, u ≠ .int .u64 x
theorem noB (n : Bool) : NoW (.bool n) := by intro x; simp
theorem noS (a : Option Addr) (l c : Nat) : NoW (.slice a l c) := by intro x; simp
theorem Cel.wk8 {w : World} {b : Nat} {T : TypeId} {n0 n1 n2 n3 : Bool} {a0 a1 a2 a3 : Option Addr} {l0 l1 l2 l3 c0 c1 c2 c3 : Nat} (h : Cel w b T [.bool n0, .slice a0 l0 c0, .bool n1, .slice a1 l1 c1, .bool n2, .slice a2 l2 c2, .bool n3, .slice a3 l3 c3]) (y0 y1 y2 y3 y4 y5 y6 y7 : Value) : Wk w (Go.Proofs.YtdhmbalkclbhpaaGreatDoor.put8 w b y0 y1 y2 y3 y4 y5 y6 y7) := by
  have h1 := h.set 0 y0
  have h2 := h1.set 1 y1
  have h3 := h2.set 2 y2
  have h4 := h3.set 3 y3
  have h5 := h4.set 4 y4
  have h6 := h5.set 5 y5
  have h7 := h6.set 6 y6
  exact (((((((h.wk (i := 0) rfl (noB n0) y0).trans (h1.wk (i := 1) rfl (noS a0 l0 c0) y1)).trans (h2.wk (i := 2) rfl (noB n1) y2)).trans (h3.wk (i := 3) rfl (noS a1 l1 c1) y3)).trans (h4.wk (i := 4) rfl (noB n2) y4)).trans (h5.wk (i := 5) rfl (noS a2 l2 c2) y5)).trans (h6.wk (i := 6) rfl (noB n3) y6)).trans (h7.wk (i := 7) rfl (noS a3 l3 c3) y7)
theorem Cel.wk4 {w : World} {b : Nat} {T : TypeId} {n0 n1 : Bool} {a0 a1 : Option Addr} {l0 l1 c0 c1 : Nat} (h : Cel w b T [.bool n0, .slice a0 l0 c0, .bool n1, .slice a1 l1 c1]) (y0 y1 y2 y3 : Value) : Wk w (Go.Proofs.YtdhmbalkclbhpaaGreatDoor.put4 w b y0 y1 y2 y3) := by
  have h1 := h.set 0 y0
  have h2 := h1.set 1 y1
  have h3 := h2.set 2 y2
  exact (((h.wk (i := 0) rfl (noB n0) y0).trans (h1.wk (i := 1) rfl (noS a0 l0 c0) y1)).trans (h2.wk (i := 2) rfl (noB n1) y2)).trans (h3.wk (i := 3) rfl (noS a1 l1 c1) y3)
theorem Cel.away4 {w : World} {b b' : Nat} {T : TypeId} {L : List Value} (h : Cel w b T L) (hne : b' ≠ b) (y0 y1 y2 y3 : Value) : Cel (Go.Proofs.YtdhmbalkclbhpaaGreatDoor.put4 w b' y0 y1 y2 y3) b T L := (((h.ne hne).ne hne).ne hne).ne hne
theorem Cel.away8 {w : World} {b b' : Nat} {T : TypeId} {L : List Value} (h : Cel w b T L) (hne : b' ≠ b) (y0 y1 y2 y3 y4 y5 y6 y7 : Value) : Cel (Go.Proofs.YtdhmbalkclbhpaaGreatDoor.put8 w b' y0 y1 y2 y3 y4 y5 y6 y7) b T L := (((((((h.ne hne).ne hne).ne hne).ne hne).ne hne).ne hne).ne hne).ne hne
end Go.Proofs.YtdhmbalkclbhpaaGreatDoor
