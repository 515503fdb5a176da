/-
  QWw7ToAwake5: Ww7, Wz7, Wl7, Awake5, joined.
-/
import Derived.Test.YtdhmbalkclbhpaaGreatDoorQFo7ToWf7
import Derived.Test.YtdhmbalkclbhpaaGreatDoorQWords
import Derived.Test.YtdhmbalkclbhpaaGreatDoorQWn7ToWb7
import Derived.Test.YtdhmbalkclbhpaaGreatDoorQZAdd
import Derived.Test.YtdhmbalkclbhpaaGreatDoorQDivideToShl
import Derived.Test.YtdhmbalkclbhpaaGreatDoorQAlikeToZStore
import Derived.Test.YtdhmbalkclbhpaaGreatDoorQTextToValueOf

/- Ww7 -/
namespace Go.Proofs.YtdhmbalkclbhpaaGreatDoor
open Go.RowKit
set_option linter.unusedVariables false

/-- The greatest finite float64. -/
theorem fin_most : Fin7 9218868437227405311 := by decide
theorem rg_most : rg 9218868437227405311 = 2047 * 2 ^ 52 - 1 ∧ ng 9218868437227405311 = false := by decide
theorem gtr_most (b : Nat) : (FloatKind.f64.format.order b 9218868437227405311 == some .gt) = (decide (rg b = 2047 * 2 ^ 52) && !(ng b)) := by
  show (Ieee.double.order b 9218868437227405311 == some .gt) = _
  rcases Nat.lt_trichotomy (rg b) (2047 * 2 ^ 52) with h | h | h
  · rw [order_fin h fin_most, decide_eq_false (by omega)]
    have hle : sv b ≤ sv 9218868437227405311 := by
      have hm : sv 9218868437227405311 = (fv (2047 * 2 ^ 52 - 1) : Int) := by
        unfold sv; rw [rg_most.1, rg_most.2, if_neg (by decide)]
      have hf := fv_mono (show rg b ≤ 2047 * 2 ^ 52 - 1 by omega)
      rw [hm]
      unfold sv
      generalize fv (2047 * 2 ^ 52 - 1) = X at *
      split <;> omega
    rcases Int.lt_or_eq_of_le hle with q | q
    · rw [cmp_lt q]; rfl
    · rw [cmp_eq q]; rfl
  · rw [order_inf_l h fin_most, decide_eq_true h]
    cases ng b <;> rfl
  · rw [order_nan_l h, decide_eq_false (by omega)]; rfl
theorem rg_rg (b : Nat) : rg (rg b) = rg b ∧ ng (rg b) = false := rg_pos (rg_lt b)
/-- IsInf with a sign asked. -/
def infAs (b : Nat) (s : Int) : Bool := decide (rg b = 2047 * 2 ^ 52) && (s == 0 || (ng b == decide (s < 0)))
theorem neg_bits {b : Nat} (h : b < 2 ^ 64) : Op.negFloat .f64 b < 2 ^ 64 ∧ rg (Op.negFloat .f64 b) = rg b ∧ ng (Op.negFloat .f64 b) = !(ng b) := by
  have e : Op.negFloat .f64 b = b ^^^ 2 ^ 63 := rfl
  have hx : b ^^^ 2 ^ 63 < 2 ^ 64 := Nat.xor_lt_two_pow h (by omega)
  rw [e]
  have h1 : (b ^^^ 2 ^ 63) % 2 ^ 63 = b % 2 ^ 63 := by
    apply Nat.eq_of_testBit_eq
    intro i
    rw [Nat.testBit_mod_two_pow, Nat.testBit_mod_two_pow, Nat.testBit_xor, Nat.testBit_two_pow]
    by_cases q : i < 63
    · have q2 : ¬ 63 = i := by omega
      simp [q, q2]
    · simp [q]
  have h2 : (b ^^^ 2 ^ 63).testBit 63 = !(b.testBit 63) := by
    rw [Nat.testBit_xor, Nat.testBit_two_pow_self]; simp
  refine ⟨hx, h1, ?_⟩
  rw [Nat.testBit_eq_decide_div_mod_eq, Nat.testBit_eq_decide_div_mod_eq] at h2
  unfold ng
  have t : ∀ n : Nat, (n == 1) = decide (n = 1) := fun n => by by_cases q : n = 1 <;> simp [q]
  rw [t, t]; exact h2
theorem run_negf {P : Program} (k : FloatKind) (b : Nat) (w : World) : (Op.unary .neg (.float k b)).run P w = .ok (.float k (Op.negFloat k b)) w := rfl
/-- Without what is behind the point. -/
def trw (b : Nat) : Nat := (if ng b = true then 2 ^ 63 else 0) + nbits (wv (rg b)) 0
/-- The same, as a whole number. -/
def swv (b : Nat) : Int := if ng b = true then -(wv (rg b) : Int) else (wv (rg b) : Int)
theorem trw_sv {b : Nat} (h : Fin7 b) : Fin7 (trw b) ∧ sv (trw b) = swv b * ((2 ^ E7 : Nat) : Int) := by
  obtain ⟨h1, h2⟩ := trunc_fv h
  have hl : nbits (wv (rg b)) 0 < 2 ^ 63 := by omega
  unfold trw sv swv Fin7
  cases hn : ng b
  · simp only [Bool.false_eq_true, if_false, Nat.zero_add]
    rw [(rg_pos hl).1, (rg_pos hl).2, h1]
    refine ⟨h2, ?_⟩
    simp only [Bool.false_eq_true, if_false]
    exact Int.natCast_mul _ _
  · simp only [if_true]
    rw [(rg_neg hl).1, (rg_neg hl).2, h1]
    refine ⟨h2, ?_⟩
    simp only [if_true]
    rw [Int.natCast_mul, Int.neg_mul]
end Go.Proofs.YtdhmbalkclbhpaaGreatDoor

/- Wz7 -/
namespace Go.Proofs.YtdhmbalkclbhpaaGreatDoor
open Go.RowKit
set_option linter.unusedVariables false

/-- The word of the float64 nearest to z * 2^n. -/
def zw (z n : Int) : Nat := fw (decide (z < 0)) (nbits z.natAbs n)
theorem fw_iv {n : Bool} {xs : List Int} {z : Int} (hx : WF xs) (h : iv n xs = z) (N : Int) : fw n (nbits (vn xs) N) = zw z N := by
  have hv := val_vn hx
  unfold zw
  have e : vn xs = z.natAbs := by
    have := iv_abs hx h
    omega
  rw [← e]
  rcases iv_sign hx h with ⟨q1, q2⟩ | ⟨q1, q2, q3⟩ | ⟨q1, q2, q3⟩
  · rw [q1, nbits_zero]; unfold fw; simp
  · rw [q2, decide_eq_true q3]
  · rw [q2, decide_eq_false (by omega)]
set_option maxHeartbeats 1600000 in
theorem near_z {w : World} {v : Value} {z : Int} {k : Nat} (h : Zi w v z k) (hT : Tab w) (hk : k ≤ 1099511627776) :
    Calls Tryz.prog 16 #[v] w fun e w' => e = .returned (.float .f64 (zw z 0)) ∧ Below w.heap.size w w' := by
  obtain ⟨n, xs, a, c, rfl, s0, z0, k0⟩ := h
  obtain ⟨W0, hW0⟩ : ∃ W0, w.alloc (duo (.bool n) (.slice a xs.length c)) = W0 := ⟨_, rfl⟩
  have b0 : Below w.heap.size w W0 := by rw [← hW0]; exact (Below.refl _ _).alloc (Nat.le_refl _) _
  have p0 : Duo W0 w.heap.size (.bool n) (.slice a xs.length c) := by rw [← hW0]; exact Duo.new w _ _
  have HC := hid (nearest_any (s0.now b0) (hT.now b0) (by omega) (n := 0) (by omega) (by omega) n)
  rw [fw_iv s0.1 z0] at HC
  have i0 := p0.c0
  have i1 := p0.c1
  rw [← hW0] at i0 i1
  have EW := hid hW0
  have B0 := hid b0
  clear s0 z0 p0 hW0 b0 hT
  go_enter Tryz.func16, Tryz.ntmps16
  go_wp2_with fail
  rw [EW.out]
  refine HC.out.mono ?_
  rintro e w1 ⟨rfl, b⟩
  have B1 := hid (below_step B0.out b)
  clear b i0 i1 EW
  go_wp2
  go_ret
  exact ⟨rfl, B1.out⟩
theorem rung_bits {r : Nat} (h : r < 2 ^ 63) : ∃ e c : Nat, r = e * 2 ^ 52 + c ∧ c < 2 ^ 53 ∧ (e = 0 ∨ 2 ^ 52 ≤ c) ∧ fv r = c * 2 ^ e ∧ e ≤ 2047 ∧ max ((r : Int) / 4503599627370496) 1 = (e : Int) + 1 := by
  by_cases q : r < 2 ^ 52
  · exact ⟨0, r, by omega, by omega, .inl rfl, by simpa using fv_at 0 r (by omega) (.inl rfl), by omega, by omega⟩
  · refine ⟨r / 2 ^ 52 - 1, 2 ^ 52 + r % 2 ^ 52, by omega, by omega, .inr (by omega), ?_, by omega, by omega⟩
    unfold fv; rw [if_neg q]
end Go.Proofs.YtdhmbalkclbhpaaGreatDoor

/- Wl7 -/
namespace Go.Proofs.YtdhmbalkclbhpaaGreatDoor
open Go.RowKit
set_option linter.unusedVariables false

theorem bset' {B g j : Nat} {w w' : World} {u : Value} (h : Below B w w') (hg : B ≤ g) : Below B w (w'.setCell ⟨g, j, none⟩ u) := h.setCell (p := ⟨g, j, none⟩) hg u
theorem vn_set_top : ∀ (n : Nat) (x : Int), vn ((List.replicate (n + 1) 0).set n x) = 2 ^ (64 * n) * x.toNat
  | 0, x => by simp [vn]
  | n + 1, x => by
    rw [List.replicate_succ, List.set_cons_succ]
    simp only [vn]
    rw [vn_set_top n x, show 64 * (n + 1) = 64 + 64 * n by omega, Nat.pow_add]
    simp [Nat.mul_assoc]
theorem two_word (k : Nat) : vn ((List.replicate (k / 64 + 1) 0).set (k / 64) ((2 : Int) ^ (k % 64))) = 2 ^ k := by
  rw [vn_set_top, show ((2 : Int) ^ (k % 64)).toNat = 2 ^ (k % 64) by rw [cast_pow]; exact Int.toNat_natCast _, ← Nat.pow_add]
  congr 1; omega
theorem run_sub_nan {P : Program} (w : World) (t : TypeId) {x y : Nat} (h : Ieee.double.sub x y = none) : ∃ r, 2047 * 2 ^ 52 < rg r ∧ (binOp .sub t (.float .f64 x) (.float .f64 y)).run P w = .ok (.float .f64 r) w.drew := by
  have h' : FloatKind.f64.format.sub x y = none := h
  refine ⟨(Question.nanBits .f64 x y).cut (w.tape w.drawn (.nanBits .f64 x y)), ?_, ?_⟩
  · generalize w.tape w.drawn (.nanBits .f64 x y) = t
    show 2047 * 2 ^ 52 < rg ((t % 2) * 2 ^ 63 + 0x7ff0000000000000 + 1 + (t / 2) % (2 ^ 52 - 1))
    have h1 := Nat.mod_lt t (show 0 < 2 by omega)
    have h2 := Nat.mod_lt (t / 2) (show 0 < 2 ^ 52 - 1 by omega)
    generalize t % 2 = a at *
    generalize (t / 2) % (2 ^ 52 - 1) = f at *
    unfold rg
    rcases (show a = 0 ∨ a = 1 by omega) with rfl | rfl <;> omega
  · simp [binOp, Op.floatArith, h', Question.forced]
set_option maxHeartbeats 1600000 in
theorem awake7 {w : World} (hT : Tab w) : Calls Tryz.prog 4 #[] w fun e w' => e = .returned (.bool true) ∧ Below w.heap.size w w' := by
  obtain ⟨W0, hW0⟩ : ∃ W0, w.alloc (.cells #[.int .u64 3] 37) = W0 := ⟨_, rfl⟩
  have b0 : Below w.heap.size w W0 := by rw [← hW0]; exact (Below.refl _ _).alloc (Nat.le_refl _) _
  have s1 := word_one w 3 ⟨by omega, by omega⟩
  rw [hW0] at s1
  have hz : Zi W0 (.agg #[.bool true, .slice (some ⟨w.heap.size, 0, none⟩) 1 1]) (-3) 1 := ⟨true, [3], _, _, rfl, s1, by decide, Nat.le_refl _⟩
  have HC := hid (near_z hz (hT.now b0) (by omega))
  have k2 : (FloatKind.f64.format.order (zw (-3) 0) 13837309855095848960 == some .eq) = true := by kernel_rfl
  generalize zw (-3) 0 = F at *
  have EW := hid hW0
  have B0 := hid b0
  clear hW0 b0 s1 hz hT
  go_enter Tryz.func4, Tryz.ntmps4
  go_wp2_with fail
  rw [EW.out]
  refine HC.out.mono ?_
  rintro e w1 ⟨rfl, b⟩
  have B1 := hid (below_step B0.out b)
  clear b EW
  go_wp2
  go_ret
  exact ⟨rfl, B1.out⟩
end Go.Proofs.YtdhmbalkclbhpaaGreatDoor

/- Awake5 -/
namespace Go.Proofs.YtdhmbalkclbhpaaGreatDoor
open Go.RowKit
set_option linter.unusedVariables false

/-- An integer in base ten. -/
def ztxt (z : Int) : ByteArray := if z < 0 then ⟨#[45]⟩ ++ txt 10 z.natAbs else txt 10 z.natAbs
theorem iv_vn {n : Bool} {xs : List Int} {z : Int} (hx : WF xs) (h : iv n xs = z) : vn xs = z.natAbs := by
  have h1 := iv_abs hx h
  have h2 := val_vn hx
  omega

set_option maxHeartbeats 800000 in
set_option maxRecDepth 100000 in
theorem text_z {w : World} {v : Value} {z : Int} {k : Nat} (h : Zi w v z k) (hk : k ≤ 1048576) (hT : Sg w) :
    Calls Tryz.prog 8 #[v] w fun e w' => e = .returned (.string (ztxt z)) ∧ Below w.heap.size w w' := by
  have hv := h
  obtain ⟨n, xs, a, c, rfl, s0, z0, k0⟩ := h
  obtain ⟨W0, hW0⟩ : ∃ W0, w.alloc (duo (.bool n) (.slice a xs.length c)) = W0 := ⟨_, rfl⟩
  have b0 : Below w.heap.size w W0 := by rw [← hW0]; exact (Below.refl _ _).alloc (Nat.le_refl _) _
  have sz0 : W0.heap.size = w.heap.size + 1 := by rw [← hW0]; simp
  have p0 : Duo W0 w.heap.size (.bool n) (.slice a xs.length c) := by rw [← hW0]; exact Duo.new w _ _
  have HS := hid (sign_z (hv.now b0))
  have HD : Hid (∀ w', Below W0.heap.size W0 w' → Calls Tryz.prog 18 #[.slice a xs.length c] w' fun e w'' => e = .returned (.string (txt 10 z.natAbs)) ∧ Below w'.heap.size w' w'') := fun w' h => by
    rw [← iv_vn s0.1 z0]
    exact dec_any ((s0.now b0).now h) (by omega) ((hT.now b0).now h)
  have HKB : Hid (∀ w', Below W0.heap.size W0 w' → Duo w' w.heap.size (.bool n) (.slice a xs.length c)) := fun w' h => p0.below h (by omega)
  have EW := hid hW0
  have B0 := hid b0
  have HSZ : Hid ((txt 10 z.natAbs).size ≤ 67108865) := by
    unfold Hid
    rw [← iv_vn s0.1 z0]
    exact txt_size (by omega) s0.1 (by omega)
  clear hv s0 z0 hT hW0 b0 p0
  by_cases hz : z < 0
  · have hs : cmpI z 0 < 0 := cmpI_neg hz
    have ht : Hid (ztxt z = ⟨#[45]⟩ ++ txt 10 z.natAbs) := by unfold Hid ztxt; rw [if_pos hz]
    rw [ht.out]
    generalize cmpI z 0 = C at *
    have hsz := HSZ.out
    clear HSZ
    generalize txt 10 z.natAbs = t at *
    go_enter Tryz.func8, Tryz.ntmps8
    go_wp2_with fail
    rw [EW.out]
    refine HS.out.mono ?_
    rintro e w1 ⟨rfl, b1⟩
    have c1 := (HKB.out w1 b1).c1
    have H1 := hid (HD.out w1 b1)
    have B1 := hid (below_step B0.out b1)
    clear b1 HS
    go_wp2_with fail
    refine H1.out.mono ?_
    rintro e w2 ⟨rfl, b2⟩
    have B2 := hid (below_step B1.out b2)
    clear b2 H1
    go_wp2
    go_ret
    exact ⟨rfl, B2.out⟩
  · have hs : ¬ cmpI z 0 < 0 := cmpI_nonneg (by omega)
    have ht : Hid (ztxt z = txt 10 z.natAbs) := by unfold Hid ztxt; rw [if_neg hz]
    rw [ht.out]
    generalize cmpI z 0 = C at *
    generalize txt 10 z.natAbs = t at *
    go_enter Tryz.func8, Tryz.ntmps8
    go_wp2_with fail
    rw [EW.out]
    refine HS.out.mono ?_
    rintro e w1 ⟨rfl, b1⟩
    have c1 := (HKB.out w1 b1).c1
    have H1 := hid (HD.out w1 b1)
    have B1 := hid (below_step B0.out b1)
    clear b1 HS
    go_wp2_with fail
    refine H1.out.mono ?_
    rintro e w2 ⟨rfl, b2⟩
    have B2 := hid (below_step B1.out b2)
    clear b2 H1
    go_wp2
    go_ret
    exact ⟨rfl, B2.out⟩

theorem txt_15 : txt 10 15 = ⟨#[49, 53]⟩ := by
  have e : lead (digF 10 15 15) = [1, 5] := by
    rw [leadD_any (k := 2) (lt_pow_self (by omega) 15) (by decide)]
    decide
  unfold txt txtL
  rw [if_neg (by decide), e]
  rfl
theorem ztxt_15 : ztxt (-15) = ⟨#[45, 49, 53]⟩ := by
  unfold ztxt
  rw [if_pos (by decide), show (-15 : Int).natAbs = 15 from rfl, txt_15]
  rfl
end Go.Proofs.YtdhmbalkclbhpaaGreatDoor
