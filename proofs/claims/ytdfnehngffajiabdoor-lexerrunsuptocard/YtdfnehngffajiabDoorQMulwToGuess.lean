/-
  QMulwToGuess: Mulw, DivParts, Guess, joined.
-/
import Derived.Test.YtdfnehngffajiabDoorQCarryToMade
import Derived.Test.YtdfnehngffajiabDoorQProd
import Derived.Shelf.Bits.Mul64
import Derived.Test.YtdfnehngffajiabDoorQShiftToDivWord

/- Mulw -/
namespace Go.Proofs.YtdfnehngffajiabDoor
open Go.RowKit
set_option linter.unusedVariables false

set_option maxHeartbeats 1000000 in
theorem mul64_nat (x y : Nat) (hx : x < 18446744073709551616) (hy : y < 18446744073709551616) (w : World) :
    Calls Tryd.prog 65 #[.int .u64 x, .int .u64 y] w fun e w' => e = .returned (.tuple #[.int .u64 ((x * y / 18446744073709551616 : Nat) : Int), .int .u64 ((x * y % 18446744073709551616 : Nat) : Int)]) ∧ w' = w := by
  obtain ⟨bd, bt, bw, hhi⟩ := Lib.mul64_hi x y hx hy
  have ba := Lib.half_mul_le (a := x / 4294967296) (b := y / 4294967296) (by omega) (by omega)
  have bb := Lib.half_mul_le (a := x / 4294967296) (b := y % 4294967296) (by omega) (by omega)
  have bc := Lib.half_mul_le (a := x % 4294967296) (b := y / 4294967296) (by omega) (by omega)
  have ba' : x / 4294967296 * (y / 4294967296) < 18446744073709551616 := by omega
  have bb' : x / 4294967296 * (y % 4294967296) < 18446744073709551616 := by omega
  have bc' : x % 4294967296 * (y / 4294967296) < 18446744073709551616 := by omega
  have bh1 : x / 4294967296 * (y / 4294967296) + (x / 4294967296 * (y % 4294967296) + x % 4294967296 * (y % 4294967296) / 4294967296) / 4294967296 < 18446744073709551616 := by omega
  have bh : x / 4294967296 * (y / 4294967296) + (x / 4294967296 * (y % 4294967296) + x % 4294967296 * (y % 4294967296) / 4294967296) / 4294967296 + ((x / 4294967296 * (y % 4294967296) + x % 4294967296 * (y % 4294967296) / 4294967296) % 4294967296 + x % 4294967296 * (y / 4294967296)) / 4294967296 < 18446744073709551616 := by omega
  go_enter Tryd.func65, Tryd.ntmps65
  go_wp2
  simp only [Mul64.maskN x hx, Mul64.maskN y hy, Mul64.divN, Mul64.mulN, Mul64.addN, Mul64.wrapN _ bd, Mul64.wrapN _ bb', Mul64.wrapN _ bt, Mul64.maskN _ bt, Mul64.wrapN _ bc', Mul64.wrapN _ bw, Mul64.wrapN _ ba', Mul64.wrapN _ bh1, Mul64.wrapN _ bh, Mul64.wrapM (x * y)]
  rw [hhi]
  go_ret2
  exact ⟨rfl, rfl⟩

theorem mul64_any {x y : Int} (hx : IsW x) (hy : IsW y) :
    ∃ hi lo, IsW hi ∧ IsW lo ∧ lo + wB * hi = x * y ∧
      ∀ w : World, Calls Tryd.prog 65 #[.int .u64 x, .int .u64 y] w fun e w' => e = .returned (.tuple #[.int .u64 hi, .int .u64 lo]) ∧ w' = w := by
  have hle := word_mul_le hx hy
  unfold IsW wB at hx hy
  obtain ⟨X, rfl⟩ := Int.eq_ofNat_of_zero_le hx.1
  obtain ⟨Y, rfl⟩ := Int.eq_ofNat_of_zero_le hy.1
  rw [← Int.natCast_mul] at hle
  refine ⟨((X * Y / 18446744073709551616 : Nat) : Int), ((X * Y % 18446744073709551616 : Nat) : Int), ?_, ?_, ?_, fun w => mul64_nat X Y (by omega) (by omega) w⟩
  · unfold IsW wB; omega
  · unfold IsW wB; omega
  · rw [← Int.natCast_mul]
    unfold wB; omega
end Go.Proofs.YtdfnehngffajiabDoor

/- DivParts -/
namespace Go.Proofs.YtdfnehngffajiabDoor
open Go.RowKit
set_option linter.unusedVariables false

/-- Of all blocks, g alone may have turned. -/
def Only (g : Nat) (w w' : World) : Prop := w'.heap.size = w.heap.size ∧ ∀ h, h ≠ g → w'.heap[h]? = w.heap[h]?
theorem Only.refl (g : Nat) (w : World) : Only g w w := ⟨rfl, fun _ _ => rfl⟩
theorem Only.trans {g : Nat} {w w1 w2 : World} (h : Only g w w1) (k : Only g w1 w2) : Only g w w2 := ⟨k.1.trans h.1, fun j hj => (k.2 j hj).trans (h.2 j hj)⟩
theorem Only.set {g : Nat} {w w1 : World} (h : Only g w w1) (i : Nat) (v : Value) : Only g w (w1.setCell ⟨g, i, none⟩ v) := by
  refine ⟨by rw [← h.1]; simp [World.setCell], fun j hj => ?_⟩
  rw [← h.2 j hj]
  simp [World.setCell, Array.getElem?_modify, Ne.symm hj]
theorem Only.drew {g : Nat} {w w1 : World} (h : Only g w w1) (n : Nat) : Only g w (w1.drewN n) := ⟨h.1, h.2⟩
theorem Only.row {g j : Nat} {w w1 : World} {L : List Value} (h : Only g w w1) (hj : j ≠ g) (r : Row w j L) : Row w1 j L := (h.2 j hj).trans r

theorem take_step {zs xs : List Int} {o k : Nat} {z0 W cc bb hi lo l1 ov s d x z : Int} (hz : o + k < zs.length) (hzz : zs[o + k] = z) (hx : k < xs.length) (hxx : xs[k] = x) (hv : val zs - pw (o + k) * (cc + bb) = z0 - pw o * (val (xs.take k) * W))
    (hm : lo + wB * hi = x * W) (h1 : l1 + wB * ov = lo + cc + 0) (h2 : s - wB * d = z - l1 - bb) :
    val (zs.set (o + k) s) - pw (o + (k + 1)) * (hi + ov + d) = z0 - pw o * (val (xs.take (k + 1)) * W) := by
  rw [val_set zs (o + k) s hz, hzz, val_take_succ xs k hx, hxx, show o + (k + 1) = (o + k) + 1 by omega, pw]
  rw [pw_add] at hv ⊢
  generalize pw o = P at *
  generalize pw k = K at *
  generalize val zs = Z at *
  generalize val (xs.take k) = X at *
  have e : s = z - l1 - bb + wB * d := by omega
  subst e
  have e2 : l1 = lo + cc - wB * ov := by omega
  subst e2
  have e3 : lo = x * W - wB * hi := by omega
  subst e3
  grind
theorem take_last {zs : List Int} {o n : Nat} {z0 X cc bb s d z : Int} (hz : o + n < zs.length) (hzz : zs[o + n] = z) (hv : val zs - pw (o + n) * (cc + bb) = z0 - X) (h2 : s - wB * d = z - cc - bb) :
    val (zs.set (o + n) s) - pw (o + n + 1) * d = z0 - X := by
  rw [val_set zs (o + n) s hz, hzz, pw]
  generalize pw (o + n) = P at *
  generalize val zs = Z at *
  have e : s = z - cc - bb + wB * d := by omega
  subst e
  grind
theorem times_fits {v w cc hi lo l1 ov : Int} (hv : IsW v) (hw : IsW w) (hc : IsW cc) (h0 : 0 ≤ hi) (hlo : IsW lo) (hm : lo + wB * hi = v * w) (hl1 : IsW l1) (ho : 0 ≤ ov) (e1 : l1 + wB * ov = lo + cc + 0) : IsW (hi + ov) := by
  have := word_mul_le hv hw
  generalize v * w = p at *
  unfold IsW wB at *
  refine ⟨by omega, by omega⟩

theorem add_step {zs xs : List Int} {o k : Nat} {z0 cc s d x z : Int} (hz : o + k < zs.length) (hzz : zs[o + k] = z) (hx : k < xs.length) (hxx : xs[k] = x) (hv : val zs + pw (o + k) * cc = z0 + pw o * val (xs.take k)) (h2 : s + wB * d = z + x + cc) :
    val (zs.set (o + k) s) + pw (o + (k + 1)) * d = z0 + pw o * val (xs.take (k + 1)) := by
  rw [val_set zs (o + k) s hz, hzz, val_take_succ xs k hx, hxx, show o + (k + 1) = (o + k) + 1 by omega, pw]
  rw [pw_add] at hv ⊢
  generalize pw o = P at *
  generalize pw k = K at *
  generalize val zs = Z at *
  generalize val (xs.take k) = X at *
  have e : s = z + x + cc - wB * d := by omega
  subst e
  grind
theorem add_last {zs : List Int} {o n : Nat} {z0 X cc s d z : Int} (hz : o + n < zs.length) (hzz : zs[o + n] = z) (hv : val zs + pw (o + n) * cc = z0 + X) (h2 : s + wB * d = z + 0 + cc) :
    val (zs.set (o + n) s) + pw (o + n + 1) * d = z0 + X := by
  rw [val_set zs (o + n) s hz, hzz, pw]
  generalize pw (o + n) = P at *
  generalize val zs = Z at *
  have e : s = z + cc - wB * d := by omega
  subst e
  grind

end Go.Proofs.YtdfnehngffajiabDoor

/- Guess -/
namespace Go.Proofs.YtdfnehngffajiabDoor
open Go.RowKit
set_option linter.unusedVariables false

theorem val_top1 {bs : List Int} {N : Nat} (h : bs.length = N + 1) : val bs = val (bs.take N) + bs[N] * pw N := by
  have := val_take_succ bs N (by omega)
  rwa [← h, List.take_length] at this
theorem val_top2 {ps : List Int} {N : Nat} (h : ps.length = N + 2) : val ps = val (ps.take N) + (ps[N] + wB * ps[N + 1]) * pw N := by
  rw [val_top1 (N := N + 1) h, val_take_succ ps N (by omega), pw]
  generalize pw N = P
  generalize val (ps.take N) = V
  generalize ps[N] = a
  generalize ps[N + 1] = b
  grind
theorem guess_ok {ps bs : List Int} {N : Nat} {q r : Int} (hp : WF ps) (hb : WF bs) (h1 : ps.length = N + 2) (h2 : bs.length = N + 1) (hq : 0 ≤ q) (hr : r < bs[N]) (he : q * bs[N] + r = ps[N + 1] * wB + ps[N]) : val ps < (q + 1) * val bs := by
  rw [val_top2 h1, val_top1 h2]
  have l1 := val_lt_pw (hp.take N)
  have l2 := val_nonneg (hb.take N)
  rw [show (ps.take N).length = N by simp; omega] at l1
  have hP := pw_pos N
  generalize pw N = P at *
  generalize val (ps.take N) = V at *
  generalize val (bs.take N) = U at *
  generalize bs[N] = t at *
  generalize ps[N] = a at *
  generalize ps[N + 1] = b at *
  have e1 : a + wB * b + 1 ≤ (q + 1) * t := by rw [Int.add_mul, Int.one_mul, Int.mul_comm wB]; omega
  have e2 := Int.mul_le_mul_of_nonneg_right e1 (Int.le_of_lt hP)
  have e3 : 0 ≤ (q + 1) * U := Int.mul_nonneg (by omega) l2
  rw [Int.mul_add (q + 1), ← Int.mul_assoc]
  rw [Int.add_mul (a + wB * b), Int.one_mul] at e2
  omega

end Go.Proofs.YtdfnehngffajiabDoor
