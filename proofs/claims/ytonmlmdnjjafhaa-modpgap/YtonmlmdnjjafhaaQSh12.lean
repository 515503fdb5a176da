/-
  Sh12: a sheet's own reckoning: minus, inverse, divide, take.
-/
import Derived.Test.YtonmlmdnjjafhaaQFn12
import Derived.Test.YtonmlmdnjjafhaaQPrm12
import Derived.Test.YtonmlmdnjjafhaaQZStoreToTouch
namespace Go.Proofs.Ytonmlmdnjjafhaa
open Go.RowKit
set_option linter.unusedVariables false

abbrev shv (p c : Nat) (lv : Value) : Value := .agg #[.int .u64 (p : Int), .int .i64 (c : Int), lv]
abbrev shc (p c : Nat) (lv : Value) : List Value := [.int .u64 (p : Int), .int .i64 (c : Int), lv]
abbrev shO (p c : Nat) (lv : Value) : Obj := .cells #[.int .u64 (p : Int), .int .i64 (c : Int), lv] 46
theorem alo12 (w : World) (o1 : Obj) : Below w.heap.size w (w.alloc o1) ∧ (w.alloc o1).heap.size = w.heap.size + 1 := ⟨(Below.refl _ _).alloc (Nat.le_refl _) _, by simp⟩
theorem tmodE {p : Nat} {x : Int} (h : 0 ≤ x) : x.tmod (p : Int) = x % (p : Int) := Int.tmod_eq_emod_of_nonneg h
theorem mul_lt12 {p : Nat} {x y : Int} (hp : p < 2147483648) (hx : IsR p x) (hy : IsR p y) : 0 ≤ x * y ∧ x * y ≤ 4611686014132420609 := by
  unfold IsR at hx hy
  refine ⟨Int.mul_nonneg hx.1 hy.1, ?_⟩
  have h1 : x * y ≤ 2147483647 * y := Int.mul_le_mul_of_nonneg_right (by omega) hy.1
  omega
theorem uwrapM {p : Nat} {x y : Int} (hp : p < 2147483648) (hx : IsR p x) (hy : IsR p y) : IntKind.u64.wrap (x * y) = x * y := by
  have := mul_lt12 hp hx hy
  exact uwrap this.1 (by omega)
theorem emod_nat {p a : Nat} : ((a % p : Nat) : Int) = (a : Int) % (p : Int) := rfl

set_option maxHeartbeats 800000 in
set_option maxRecDepth 100000 in
theorem minus12 {w : World} {p c : Nat} {a : Option Addr} {l k : Nat} {x : Int} (hp : 2 ≤ p) (hp2 : p < 2147483648) (hx : IsR p x) :
    Calls Try.prog 19 #[shv p c (.slice a l k), .int .u64 x] w fun e w' => e = .returned (.int .u64 (((p : Int) - x) % (p : Int))) ∧ Below w.heap.size w w' := by
  obtain ⟨W0, hW⟩ : ∃ W0, w.alloc (shO p c (.slice a l k)) = W0 := ⟨_, rfl⟩
  obtain ⟨b0, sz0⟩ := alo12 w (shO p c (.slice a l k))
  rw [hW] at b0 sz0
  have P1 : Hid (Cel W0 w.heap.size 46 (shc p c (.slice a l k))) := by unfold Hid; rw [← hW]; exact Cel.new w _ _
  have x0 := P1.out.at (i := 0) rfl
  rw [← hW] at x0
  obtain ⟨Y, hY⟩ : ∃ Y, (p : Int) - x = Y := ⟨_, rfl⟩
  have hw : IntKind.u64.wrap ((p : Int) - x) = Y := by unfold IsR at hx; rw [uwrap, hY] <;> omega
  rw [hY]
  have ht : Y.tmod (p : Int) = Y % (p : Int) := tmodE (by unfold IsR at hx; omega)
  have hp0 : ¬ (p : Int) = 0 := by omega
  generalize Y % (p : Int) = z at *
  have G0 := hid b0
  have EW := hid hW
  clear b0 sz0 hW hx hY P1
  go_enter Try.func19, Try.ntmps19
  go_wp2
  go_ret
  exact ⟨rfl, by rw [EW.out]; exact G0.out⟩
theorem pow_half (X R p : Nat) (hR : R % 2 = 0) : ∀ P, (P * (X * X % p) ^ (R / 2)) % p = (P * X ^ R) % p := fun P => by
  have e : X ^ R = (X * X) ^ (R / 2) := by
    rw [← Nat.pow_two, ← Nat.pow_mul]
    congr 1
    omega
  rw [e, Nat.mul_mod, Nat.pow_mod, Nat.mod_mod, ← Nat.pow_mod, ← Nat.mul_mod]
theorem pow_half1 (X R p : Nat) (hR : R % 2 = 1) : ∀ P, ((P * X % p) * (X * X % p) ^ (R / 2)) % p = (P * X ^ R) % p := fun P => by
  have e : X ^ R = X * (X * X) ^ (R / 2) := by
    rw [← Nat.pow_two, ← Nat.pow_mul, Nat.mul_comm X, ← Nat.pow_succ]
    congr 1
    omega
  rw [e, Nat.mul_mod, Nat.pow_mod, Nat.mod_mod, Nat.mod_mod, ← Nat.pow_mod, ← Nat.mul_mod, Nat.mul_assoc]
set_option maxHeartbeats 800000 in
set_option maxRecDepth 100000 in
theorem inverse12 {w : World} {p c : Nat} {a : Option Addr} {l k : Nat} {x : Int} (hp : 2 ≤ p) (hp2 : p < 2147483648) (hx : IsR p x) :
    Calls Try.prog 26 #[shv p c (.slice a l k), .int .u64 x] w fun e w' => e = .returned (.int .u64 (invP p x)) ∧ Below w.heap.size w w' := by
  obtain ⟨X0, rfl⟩ : ∃ X0 : Nat, x = (X0 : Int) := ⟨x.toNat, by unfold IsR at hx; omega⟩
  have hX0 : X0 < p := by unfold IsR at hx; omega
  obtain ⟨V, hV⟩ : ∃ V, X0 ^ (p - 2) % p = V := ⟨_, rfl⟩
  have HF : Hid (invP p (X0 : Int) = (V : Int)) := by unfold Hid invP; rw [Int.toNat_natCast, hV]
  have HV := hid hV
  clear hV hx
  rw [HF.out]
  obtain ⟨W0, hW⟩ : ∃ W0, w.alloc (shO p c (.slice a l k)) = W0 := ⟨_, rfl⟩
  obtain ⟨b0, sz0⟩ := alo12 w (shO p c (.slice a l k))
  rw [hW] at b0 sz0
  have P1 : Hid (Cel W0 w.heap.size 46 (shc p c (.slice a l k))) := by unfold Hid; rw [← hW]; exact Cel.new w _ _
  have x0 := P1.out.at (i := 0) rfl
  have x0' := x0
  rw [← hW] at x0
  have G0 := hid b0
  have EW := hid hW
  have hp0 : ¬ (p : Int) = 0 := by omega
  obtain ⟨R0, hR0⟩ : ∃ R0, p - 2 = R0 := ⟨_, rfl⟩
  have hw2 : IntKind.u64.wrap ((p : Int) - 2) = (R0 : Int) := by rw [uwrap] <;> omega
  rw [hR0] at HV
  have hR1 : R0 < 2147483648 := by omega
  clear b0 sz0 hW P1 HF hR0
  go_enter Try.func26, Try.ntmps26
  go_wp2
  rw [EW.out]
  clear x0 EW hw2
  go_loop [1, 5, 6] (fun s1 s5 s6 => ∃ X P R : Nat, s1 = .int .u64 (X : Int) ∧ s5 = .int .u64 (P : Int) ∧ s6 = .int .u64 (R : Int) ∧ X < p ∧ P < p ∧ R < 2147483648 ∧ (P * X ^ R) % p = V) (fun s1 s5 s6 => (intOf s6).toNat)
  case atStart => exact ⟨X0, 1, R0, rfl, rfl, rfl, hX0, by omega, hR1, by rw [Nat.one_mul]; exact HV.out⟩
  case round =>
    clear HV hX0
    obtain ⟨X, P, R, rfl, rfl, rfl, hX, hP, hR, hI⟩ := hrel
    have HI := hid hI
    clear hI hR1
    by_cases h0 : R = 0
    · subst h0
      have hlt : ¬ (0 : Int) < ((0 : Nat) : Int) := by omega
      go_wp2
      go_ret
      have h1 := HI.out
      rw [Nat.pow_zero, Nat.mul_one, Nat.mod_eq_of_lt hP] at h1
      subst h1
      exact ⟨rfl, G0.out⟩
    · have hlt : (0 : Int) < (R : Int) := by omega
      have iX : IsR p (X : Int) := by unfold IsR; omega
      have iP : IsR p (P : Int) := by unfold IsR; omega
      have w1 := uwrapM hp2 iX iX
      have t1 : (((X * X : Nat) : Int)).tmod (p : Int) = ((X * X % p : Nat) : Int) := tmodN _ _
      obtain ⟨XX, hXX⟩ : ∃ XX, X * X = XX := ⟨_, rfl⟩
      rw [show (X : Int) * (X : Int) = ((X * X : Nat) : Int) by simp, hXX] at w1
      have w1' : IntKind.u64.wrap ((X : Int) * (X : Int)) = (XX : Int) := by rw [show (X : Int) * (X : Int) = ((X * X : Nat) : Int) by simp, hXX]; exact w1
      rw [hXX] at t1
      obtain ⟨X1, hX1⟩ : ∃ X1, XX % p = X1 := ⟨_, rfl⟩
      rw [hX1] at t1
      have d1 : (R : Int).tdiv 2 = ((R / 2 : Nat) : Int) := by rw [Int.tdiv_eq_ediv_of_nonneg (by omega)]; rfl
      obtain ⟨R1, hR1⟩ : ∃ R1, R / 2 = R1 := ⟨_, rfl⟩
      rw [hR1] at d1
      have w3 : IntKind.u64.wrap (R1 : Int) = (R1 : Int) := uwrapN (by omega)
      have LX : Hid (X1 < p) := by unfold Hid; rw [← hX1]; exact Nat.mod_lt _ (by omega)
      have LR : Hid (R1 < R) := by unfold Hid; omega
      by_cases h2 : R % 2 = 1
      · have m2 : (R : Int).tmod 2 = 1 := by rw [Int.tmod_eq_emod_of_nonneg (by omega)]; omega
        have w2 := uwrapM hp2 iP iX
        obtain ⟨PX, hPX⟩ : ∃ PX, P * X = PX := ⟨_, rfl⟩
        have w2' : IntKind.u64.wrap ((P : Int) * (X : Int)) = (PX : Int) := by rw [w2, ← hPX]; simp
        have t2 : (PX : Int).tmod (p : Int) = ((PX % p : Nat) : Int) := tmodN _ _
        obtain ⟨P1, hP1⟩ : ∃ P1, PX % p = P1 := ⟨_, rfl⟩
        rw [hP1] at t2
        have LP : Hid (P1 < p) := by unfold Hid; rw [← hP1]; exact Nat.mod_lt _ (by omega)
        have HN : Hid ((P1 * X1 ^ R1) % p = V) := by
          unfold Hid
          rw [← hP1, ← hPX, ← hX1, ← hXX, ← hR1, pow_half1 X R p h2]
          exact HI.out
        clear w1 w2 hXX hX1 hR1 hPX hP1 HI iX iP
        go_wp2
        go_round
        case rel => exact ⟨X1, P1, R1, rfl, rfl, rfl, LX.out, LP.out, by have := LR.out; omega, HN.out⟩
        case measure => have := LR.out; simp [intOf]; omega
      · have m2 : (R : Int).tmod 2 = 0 := by rw [Int.tmod_eq_emod_of_nonneg (by omega)]; omega
        have HN : Hid ((P * X1 ^ R1) % p = V) := by
          unfold Hid
          rw [← hX1, ← hXX, ← hR1, pow_half X R p (by omega)]
          exact HI.out
        clear w1 hXX hX1 hR1 HI iX iP h2
        go_wp2
        go_round
        case rel => exact ⟨X1, P, R1, rfl, rfl, rfl, LX.out, hP, by have := LR.out; omega, HN.out⟩
        case measure => have := LR.out; simp [intOf]; omega
end Go.Proofs.Ytonmlmdnjjafhaa
