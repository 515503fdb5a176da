/-
  Nz7: the calls of ApproxNearest.
-/
import Derived.Test.YtbamffggnnacaaaDoorQFz7
import Derived.Test.YtbamffggnnacaaaDoorQWl7
import Derived.Test.YtbamffggnnacaaaDoorQZFloorToZMet
import Derived.Test.YtbamffggnnacaaaDoorQTailX
namespace Go.Proofs.YtbamffggnnacaaaDoor
open Go.RowKit
set_option linter.unusedVariables false

theorem near_as {w : World} {v : Value} {z : Int} {k F : Nat} (h : Zi w v z k) (hT : Tab w) (hk : k ≤ 1099511627776) (e : zw z 0 = F) :
    Calls Tryd.prog 7 #[v] w fun e w' => e = .returned (.float .f64 F) ∧ Below w.heap.size w w' := by
  subst e; exact near_z h hT hk
theorem two_1024 (w : World) : Calls Tryd.prog 9 #[.int .i64 1024] w fun e w' => ∃ r, e = .returned r ∧ Zi w' r ((2 ^ (54 + E8) : Nat) : Int) 18 ∧ Below w.heap.size w w' :=
  two_z (k := 54 + E8) (by decide) w
theorem two_970 (w : World) : Calls Tryd.prog 9 #[.int .i64 970] w fun e w' => ∃ r, e = .returned r ∧ Zi w' r ((2 ^ E8 : Nat) : Int) 18 ∧ Below w.heap.size w w' :=
  two_z (k := E8) (by decide) w
theorem two_53 (w : World) : Calls Tryd.prog 9 #[.int .i64 53] w fun e w' => ∃ r, e = .returned r ∧ Zi w' r ((2 ^ 53 : Nat) : Int) 18 ∧ Below w.heap.size w w' :=
  two_z (k := 53) (by decide) w
theorem lim_int : (((2 ^ (54 + E8) : Nat) : Int) - ((2 ^ E8 : Nat) : Int)).natAbs = lim7 := by
  unfold lim7
  have : 2 ^ E8 ≤ 2 ^ (54 + E8) := Nat.pow_le_pow_right (by omega) (by omega)
  generalize 2 ^ E8 = Q at *
  generalize 2 ^ (54 + E8) = P at *
  omega
theorem cmpI_ge {a b : Int} (h : b ≤ a) : 0 ≤ cmpI a b := by unfold cmpI; split <;> (try split) <;> omega
theorem abs_ge {w : World} {v u : Value} {A Y : Int} {k l : Nat} (h : Zi w v A k) (h' : Zi w u Y l) (q : Y.natAbs ≤ A.natAbs) :
    Calls Tryd.prog 10 #[v, u] w fun e w' => ∃ c, e = .returned (.int .i64 c) ∧ 0 ≤ c ∧ Below w.heap.size w w' :=
  (cmpAbs_z h h').mono fun e w' ⟨h1, h2⟩ => ⟨_, h1, cmpI_ge (by omega), h2⟩
theorem abs_lt {w : World} {v u : Value} {A Y : Int} {k l : Nat} (h : Zi w v A k) (h' : Zi w u Y l) (q : A.natAbs < Y.natAbs) :
    Calls Tryd.prog 10 #[v, u] w fun e w' => ∃ c, e = .returned (.int .i64 c) ∧ c < 0 ∧ Below w.heap.size w w' :=
  (cmpAbs_z h h').mono fun e w' ⟨h1, h2⟩ => ⟨_, h1, by rw [cmpI_lt (by omega)]; omega, h2⟩
theorem abs_le {w : World} {v u : Value} {A Y : Int} {k l : Nat} (h : Zi w v A k) (h' : Zi w u Y l) (q : A.natAbs ≤ Y.natAbs) :
    Calls Tryd.prog 10 #[v, u] w fun e w' => ∃ c, e = .returned (.int .i64 c) ∧ c ≤ 0 ∧ Below w.heap.size w w' :=
  (cmpAbs_z h h').mono fun e w' ⟨h1, h2⟩ => ⟨_, h1, cmpI_le (by omega), h2⟩
theorem abs_gt {w : World} {v u : Value} {A Y : Int} {k l : Nat} (h : Zi w v A k) (h' : Zi w u Y l) (q : Y.natAbs < A.natAbs) :
    Calls Tryd.prog 10 #[v, u] w fun e w' => ∃ c, e = .returned (.int .i64 c) ∧ 0 < c ∧ Below w.heap.size w w' :=
  (cmpAbs_z h h').mono fun e w' ⟨h1, h2⟩ => ⟨_, h1, by rw [cmpI_gt (by omega)]; omega, h2⟩
theorem isInf_b {b : Nat} (h : b < 2 ^ 64) {s : Int} (w : World) (q : infAs b s = true) : Calls Tryd.prog 11 #[.float .f64 b, .int .i64 s] w fun e w' => e = .returned (.bool true) ∧ Below w.heap.size w w' :=
  (isInf_any h w).mono fun e w' ⟨h1, h2⟩ => ⟨by rw [h1, q], by rw [h2]; exact Below.refl _ _⟩
theorem finite_yes {b : Nat} (h : Fin7 b) (w : World) : Calls Tryd.prog 14 #[.float .f64 b] w fun e w' => e = .returned (.bool true) ∧ Below w.heap.size w w' := by
  have := finite_any b w
  rw [decide_eq_true h] at this
  exact this
theorem finite_no {b : Nat} (h : ¬ Fin7 b) (w : World) : Calls Tryd.prog 14 #[.float .f64 b] w fun e w' => e = .returned (.bool false) ∧ Below w.heap.size w w' := by
  have := finite_any b w
  rw [decide_eq_false h] at this
  exact this
theorem acmp_zero {w : World} {v : Value} {z : Int} {k b : Nat} (h : Zi w v z k) (hb : b < 2 ^ 64) (hf : Fin7 b) (q : acv z b = 0) :
    Calls Tryd.prog 16 #[v, .float .f64 b] w fun e w' => e = .returned (.tuple #[.int .i64 0, .int .i64 0]) ∧ Below w.heap.size w w' := by
  have := acmp_fin h hb hf
  rw [q] at this
  exact this
theorem cmp_nb {w : World} {v u : Value} {z y : Int} {k l F : Nat} (h : Zi w v z k) (h' : Zi w u y l) (h1 : cmpI z y ≤ 0) (h2 : cmpI z y = 0 → F % 2 = 0) :
    Calls Tryd.prog 19 #[v, u] w fun e w' => ∃ c, e = .returned (.int .i64 c) ∧ (c ≤ 0 ∧ (c = 0 → (F : Int) % 2 = 0)) ∧ Below w.heap.size w w' :=
  (cmp_z h h').mono fun e w' ⟨q1, q2⟩ => ⟨_, q1, ⟨h1, fun e => by have := h2 e; omega⟩, q2⟩
theorem sign_no {w : World} {v : Value} {z : Int} {k : Nat} (h : Zi w v z k) (e : z = 0) : Calls Tryd.prog 12 #[v] w fun e w' => e = .returned (.int .i64 0) ∧ Below w.heap.size w w' := by
  have := sign_z h
  rw [e, cmpI_self] at this
  exact this
end Go.Proofs.YtbamffggnnacaaaDoor
