/-
  ZCmp: Sign, CmpAbs, Cmp, Of.
-/
import Derived.Test.YtnpcfohimlfbdaaQZOnes
namespace Go.Proofs.Ytnpcfohimlfbdaa
open Go.RowKit
set_option linter.unusedVariables false

theorem iv_sign {n : Bool} {xs : List Int} {z : Int} (hx : WF xs) (h : iv n xs = z) : (vn xs = 0 ∧ z = 0) ∨ (vn xs ≠ 0 ∧ n = true ∧ z < 0) ∨ (vn xs ≠ 0 ∧ n = false ∧ 0 < z) := by
  have hv := val_vn hx
  cases n
  · rw [iv_pos] at h
    by_cases e : vn xs = 0
    · exact .inl ⟨e, by omega⟩
    · exact .inr (.inr ⟨e, rfl, by omega⟩)
  · rw [iv_neg] at h
    by_cases e : vn xs = 0
    · exact .inl ⟨e, by omega⟩
    · exact .inr (.inl ⟨e, rfl, by omega⟩)
theorem bitLen_pos {v : Nat} (h : v ≠ 0) : bitLen v ≠ 0 := by unfold bitLen; rw [if_neg h]; omega

set_option maxHeartbeats 800000 in
set_option maxRecDepth 100000 in
theorem sign_z {w : World} {v : Value} {z : Int} {k : Nat} (h : Zi w v z k) :
    Calls Try.prog 17 #[v] w fun e w' => e = .returned (.int .i64 (cmpI z 0)) ∧ Below w.heap.size w w' := by
  obtain ⟨n, xs, a, c, rfl, s0, z0, k0⟩ := h
  have b0 : Below w.heap.size w (w.alloc (duo (.bool n) (.slice a xs.length c))) := (Below.refl _ _).alloc (Nat.le_refl _) _
  have HB := hid (bitLen_any (s0.now b0))
  have B0 := hid b0
  rcases iv_sign s0.1 z0 with ⟨e0, ez⟩ | ⟨e0, rfl, ez⟩ | ⟨e0, rfl, ez⟩
  · subst ez
    rw [cmpI_self]
    have eb : bitLen (vn xs) = 0 := by rw [e0]; rfl
    rw [eb] at HB
    clear s0 z0 b0 eb e0
    go_enter Try.func17, Try.ntmps17
    go_wp2_with fail
    refine HB.out.mono ?_
    rintro e w1 ⟨rfl, rfl⟩
    go_wp2
    go_ret
    exact ⟨rfl, B0.out⟩
  · rw [cmpI_lt ez]
    have eb := bitLen_pos e0
    obtain ⟨q, hq⟩ : ∃ q, bitLen (vn xs) = q + 1 := ⟨bitLen (vn xs) - 1, by omega⟩
    rw [hq] at HB
    have hne : (((q + 1 : Nat) : Int) == 0) = false := by rw [beq_eq_false_iff_ne]; omega
    clear s0 z0 b0 eb e0 hq ez
    go_enter Try.func17, Try.ntmps17
    go_wp2_with fail
    refine HB.out.mono ?_
    rintro e w1 ⟨rfl, rfl⟩
    go_wp2
    go_ret
    exact ⟨rfl, B0.out⟩
  · rw [cmpI_gt ez]
    have eb := bitLen_pos e0
    obtain ⟨q, hq⟩ : ∃ q, bitLen (vn xs) = q + 1 := ⟨bitLen (vn xs) - 1, by omega⟩
    rw [hq] at HB
    have hne : (((q + 1 : Nat) : Int) == 0) = false := by rw [beq_eq_false_iff_ne]; omega
    clear s0 z0 b0 eb e0 hq ez
    go_enter Try.func17, Try.ntmps17
    go_wp2_with fail
    refine HB.out.mono ?_
    rintro e w1 ⟨rfl, rfl⟩
    go_wp2
    go_ret
    exact ⟨rfl, B0.out⟩

theorem iv_abs {n : Bool} {xs : List Int} {z : Int} (hx : WF xs) (h : iv n xs = z) : val xs = (z.natAbs : Int) := by
  have := val_nonneg hx
  cases n
  · rw [iv_pos] at h; omega
  · rw [iv_neg] at h; omega
set_option maxHeartbeats 800000 in
set_option maxRecDepth 100000 in
theorem cmpAbs_z {w : World} {v u : Value} {z y : Int} {k l : Nat} (h : Zi w v z k) (h' : Zi w u y l) :
    Calls Try.prog 33 #[v, u] w fun e w' => e = .returned (.int .i64 (cmpI (z.natAbs : Int) (y.natAbs : Int))) ∧ Below w.heap.size w w' := by
  obtain ⟨n, xs, a, c, rfl, s0, z0, k0⟩ := h
  obtain ⟨m, ys, b, d, rfl, s1, z1, k1⟩ := h'
  have b0 := (alloc2 w (duo (.bool n) (.slice a xs.length c)) (duo (.bool m) (.slice b ys.length d))).1
  have HC := hid (cmp_now (s0.now b0) (s1.now b0))
  rw [iv_abs s0.1 z0, iv_abs s1.1 z1] at HC
  have B0 := hid b0
  clear s0 s1 z0 z1 b0
  generalize cmpI (z.natAbs : Int) (y.natAbs : Int) = C at *
  go_enter Try.func33, Try.ntmps33
  go_wp2_with fail
  refine HC.out.mono ?_
  rintro e w1 ⟨rfl, b1⟩
  have B1 := hid (below_step B0.out b1)
  clear b1 HC
  go_wp2
  go_ret
  exact ⟨rfl, B1.out⟩

set_option maxHeartbeats 800000 in
theorem isNaN_any (x : Int) (w : World) : Calls Try.prog 46 #[.int .i64 x] w fun e w' => e = .returned (.bool false) ∧ w' = w := by
  have h : (x != x) = false := by simp
  go_enter Try.func46, Try.ntmps46
  go_wp2
  go_ret
  exact ⟨rfl, rfl⟩
set_option maxHeartbeats 800000 in
theorem compare_any (x y : Int) (w : World) : Calls Try.prog 32 #[.int .i64 x, .int .i64 y] w fun e w' => e = .returned (.int .i64 (cmpI x y)) ∧ w' = w := by
  have H1 := hid (isNaN_any x w)
  have H2 := hid (isNaN_any y w)
  have key : (x < y ∧ cmpI x y = -1) ∨ (¬ x < y ∧ y < x ∧ cmpI x y = 1) ∨ (¬ x < y ∧ ¬ y < x ∧ cmpI x y = 0) := by
    unfold cmpI
    by_cases h1 : x < y
    · exact .inl ⟨h1, if_pos h1⟩
    · by_cases h2 : y < x
      · exact .inr (.inl ⟨h1, h2, by rw [if_neg h1, if_pos h2]⟩)
      · exact .inr (.inr ⟨h1, h2, by rw [if_neg h1, if_neg h2]⟩)
  rcases key with ⟨h1, e⟩ | ⟨h1, h2, e⟩ | ⟨h1, h2, e⟩
  all_goals
    rw [e]
    clear e
    go_enter Try.func32, Try.ntmps32
    go_wp2_with fail
    refine H1.out.mono ?_
    rintro e w1 ⟨rfl, rfl⟩
    go_wp2_with fail
    refine H2.out.mono ?_
    rintro e w1 ⟨rfl, rfl⟩
    go_wp2
    go_ret
    exact ⟨rfl, rfl⟩
theorem cmp_signs {z y : Int} : (cmpI (cmpI z 0) (cmpI y 0) ≠ 0 → cmpI (cmpI z 0) (cmpI y 0) = cmpI z y) ∧ (cmpI (cmpI z 0) (cmpI y 0) = 0 → cmpI z 0 * cmpI (z.natAbs : Int) (y.natAbs : Int) = cmpI z y) := by
  unfold cmpI
  constructor <;> intro h <;> (repeat' split at h) <;> (repeat' split) <;> omega
theorem cmpI_bound (x y : Int) : -1 ≤ cmpI x y ∧ cmpI x y ≤ 1 := by
  unfold cmpI
  (repeat' split) <;> omega

set_option maxHeartbeats 1600000 in
set_option maxRecDepth 100000 in
theorem cmp_z {w : World} {v u : Value} {z y : Int} {k l : Nat} (h : Zi w v z k) (h' : Zi w u y l) :
    Calls Try.prog 16 #[v, u] w fun e w' => e = .returned (.int .i64 (cmpI z y)) ∧ Below w.heap.size w w' := by
  have hv := h
  have hu := h'
  obtain ⟨n, xs, a, c, rfl, s0, z0, k0⟩ := h
  obtain ⟨m, ys, b, d, rfl, s1, z1, k1⟩ := h'
  obtain ⟨W0, hW0⟩ : ∃ W0, (w.alloc (duo (.bool n) (.slice a xs.length c))).alloc (duo (.bool m) (.slice b ys.length d)) = W0 := ⟨_, rfl⟩
  obtain ⟨b0, sz0⟩ := alloc2 w (duo (.bool n) (.slice a xs.length c)) (duo (.bool m) (.slice b ys.length d))
  rw [hW0] at b0 sz0
  have p0 : Duo W0 w.heap.size (.bool n) (.slice a xs.length c) := by rw [← hW0]; exact duo_late (duo_at rfl) _
  have p1 : Duo W0 (w.heap.size + 1) (.bool m) (.slice b ys.length d) := by rw [← hW0]; exact duo_at (by simp)
  have HKB : Hid (∀ w', Below W0.heap.size W0 w' → Duo w' w.heap.size (.bool n) (.slice a xs.length c) ∧ Duo w' (w.heap.size + 1) (.bool m) (.slice b ys.length d)) := fun w' h => ⟨p0.below h (by omega), p1.below h (by omega)⟩
  have H1 := hid (sign_z (hv.now b0))
  have H2 : Hid (∀ w', Below W0.heap.size W0 w' → _) := fun w' h => sign_z ((hu.now b0).now h)
  have H3 : Hid (∀ w', Below W0.heap.size W0 w' → _) := fun w' h => cmpAbs_z ((hv.now b0).now h) ((hu.now b0).now h)
  have HS := hid (@cmp_signs z y)
  have bd := cmpI_bound z 0
  have bd2 := cmpI_bound (z.natAbs : Int) (y.natAbs : Int)
  have EW := hid hW0
  have B0 := hid b0
  clear hv hu s0 s1 z0 z1 b0 p0 p1 hW0
  generalize cmpI z 0 = S at *
  generalize cmpI y 0 = T at *
  generalize cmpI (z.natAbs : Int) (y.natAbs : Int) = U at *
  generalize cmpI z y = R at *
  have HC : Hid (∀ w', _) := fun w' => compare_any S T w'
  obtain ⟨C, hC⟩ : ∃ C, cmpI S T = C := ⟨_, rfl⟩
  rw [hC] at HC HS
  clear hC
  go_enter Try.func16, Try.ntmps16
  go_wp2_with fail
  rw [EW.out]
  refine H1.out.mono ?_
  rintro e w1 ⟨rfl, b1⟩
  obtain ⟨d0, d1⟩ := HKB.out w1 b1
  have e0 := d1.c0
  have e1 := d1.c1
  have B1 := hid b1
  clear b1 H1 d0 d1
  go_wp2_with fail
  refine (H2.out w1 B1.out).mono ?_
  rintro e w2 ⟨rfl, b2⟩
  have B2 := hid (below_step B1.out b2)
  clear b2 e0 e1
  go_wp2_with fail
  refine (HC.out w2).mono ?_
  rintro e w3 ⟨rfl, rfl⟩
  by_cases h0 : C = 0
  · have hne : (C != 0) = false := by simp [h0]
    have HR := hid (HS.out.2 h0)
    have hm : IntKind.i64.wrap (S * U) = R := by
      rw [HR.out, wrap_is] <;> rw [← HR.out]
      all_goals (obtain ⟨q1, q2⟩ := bd; obtain ⟨q3, q4⟩ := bd2; rcases (show S = -1 ∨ S = 0 ∨ S = 1 by omega) with rfl | rfl | rfl <;> omega)
    obtain ⟨d0, d1⟩ := HKB.out w3 B2.out
    have e0 := d1.c0
    have e1 := d1.c1
    have g0 := d0.c0
    have g1 := d0.c1
    clear d0 d1
    go_wp2_with fail
    refine (H3.out w3 B2.out).mono ?_
    rintro e w4 ⟨rfl, b4⟩
    have B4 := hid (below_step B0.out (below_step B2.out b4))
    clear b4
    go_wp2
    go_ret
    exact ⟨by first | rfl | rw [hm], B4.out⟩
  · have hne : (C != 0) = true := by simp [h0]
    have HR := hid (HS.out.1 h0)
    go_wp2
    go_ret
    exact ⟨by rw [HR.out]; rfl, below_step B0.out B2.out⟩
end Go.Proofs.Ytnpcfohimlfbdaa
