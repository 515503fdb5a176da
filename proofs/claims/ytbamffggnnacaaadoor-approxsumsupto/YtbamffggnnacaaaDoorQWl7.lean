/-
  Wl7: what the laws call: awake, two, finite.
-/
import Derived.Test.YtbamffggnnacaaaDoorQWz7ToDivPure
import Derived.Test.YtbamffggnnacaaaDoorQShl
namespace Go.Proofs.YtbamffggnnacaaaDoor
open Go.RowKit
set_option linter.unusedVariables false

theorem bset' {B g j : Nat} {w w' : World} {u : Value} (h : Below B w w') (hg : B ≤ g) : Below B w (w'.setCell ⟨g, j, none⟩ u) := h.setCell (p := ⟨g, j, none⟩) hg u
theorem vn_set_top : ∀ (n : Nat) (x : Int), vn ((List.replicate (n + 1) 0).set n x) = 2 ^ (64 * n) * x.toNat
  | 0, x => by simp [vn]
  | n + 1, x => by
    rw [List.replicate_succ, List.set_cons_succ]
    simp only [vn]
    rw [vn_set_top n x, show 64 * (n + 1) = 64 + 64 * n by omega, Nat.pow_add]
    simp [Nat.mul_assoc]
theorem two_word (k : Nat) : vn ((List.replicate (k / 64 + 1) 0).set (k / 64) ((2 : Int) ^ (k % 64))) = 2 ^ k := by
  rw [vn_set_top, show ((2 : Int) ^ (k % 64)).toNat = 2 ^ (k % 64) by rw [cast_pow]; exact Int.toNat_natCast _, ← Nat.pow_add]
  congr 1; omega
set_option maxHeartbeats 1600000 in
theorem two_z {k : Nat} (hk : k ≤ 1100) (w : World) : Calls Tryd.prog 9 #[.int .i64 (k : Int)] w fun e w' => ∃ r, e = .returned r ∧ Zi w' r ((2 ^ k : Nat) : Int) 18 ∧ Below w.heap.size w w' := by
  obtain ⟨W0, hW0⟩ : ∃ W0, w.alloc zbox = W0 := ⟨_, rfl⟩
  have b0 : Below w.heap.size w W0 := by rw [← hW0]; exact (Below.refl _ _).alloc (Nat.le_refl _) _
  have sz0 : W0.heap.size = w.heap.size + 1 := by rw [← hW0]; simp
  have pR : Duo W0 w.heap.size (.bool false) (.slice none 0 0) := by rw [← hW0]; exact duo_at rfl
  have EW := hid hW0
  have B0 := hid b0
  have PR := hid pR
  have hp : k % 64 < 64 := Nat.mod_lt _ (by omega)
  have HV := hid (two_word k)
  generalize 2 ^ k = T at *
  clear hW0 b0 pR
  go_enter Tryd.func9, Tryd.ntmps9
  go_wp2_with (at_make; refine wpList_make_words _ rfl _ _ rfl _ _ (k / 64 + 1) (k / 64 + 1) rfl rfl (by omega) (by omega) (Nat.le_refl _) (by omega) ?_)
  intro w2 hrow hb2 hsz2
  rw [EW.out] at hb2
  obtain ⟨zs, hzs⟩ : ∃ zs, List.replicate (k / 64 + 1) (0 : Int) = zs := ⟨_, rfl⟩
  have hzl : zs.length = k / 64 + 1 := by rw [← hzs]; simp
  have hzw : WF zs := fun x hx => by rw [← hzs] at hx; rw [List.eq_of_mem_replicate hx]; unfold IsW wB; omega
  rw [hzs] at hrow HV
  have hk1 : k / 64 < zs.length := by omega
  have c1 : w2.cell? ⟨w.heap.size + 1, k / 64, none⟩ = some (.int .u64 zs[k / 64]) := Row.word (r := []) (by simpa using hrow) hk1
  have cf : w2.frozen? ⟨w.heap.size + 1, k / 64, none⟩ = false := hrow.frozen _
  have hpw : (2 : Int) ^ (k % 64) < 18446744073709551616 := by
    have : (2 : Nat) ^ (k % 64) < 2 ^ 64 := Nat.pow_lt_pow_right (by omega) hp
    rw [cast_pow]; omega
  have hpos : (0 : Int) ≤ 2 ^ (k % 64) := Int.le_of_lt (Int.pow_pos (by omega))
  have B2 : Hid (Below W0.heap.size W0 w2) := by unfold Hid; rw [sz0]; exact hb2
  have HR := hid (Row.setWord (r := []) (by simpa using hrow) hk1 ((2 : Int) ^ (k % 64)))
  have HW2 : Hid (WF (zs.set (k / 64) ((2 : Int) ^ (k % 64)))) := hzw.set _ ⟨hpos, hpw⟩
  have P2 := hid (PR.out.below B2.out (by omega))
  have P3 := hid (P2.out.ne (b' := w.heap.size + 1) (i := k / 64) (u := .int .u64 ((2 : Int) ^ (k % 64))) (by omega))
  have r0 := P3.out.c0
  have r1 := P3.out.c1
  have f0 := P3.out.fz 0
  have f1 := P3.out.fz 1
  clear hrow hb2 hzs hzw
  go_wp2
  refine bodyPost_ret (zback Tryd.results9 (P3.out.set _ _) _ (by rfl)) rfl ⟨_, rfl, ?_, ?_⟩
  · have hl : (zs.set (k / 64) ((2 : Int) ^ (k % 64))).length = k / 64 + 1 := by simp [hzl]
    have hr : Row (((w2.setCell ⟨w.heap.size + 1, k / 64, none⟩ (.int .u64 ((2 : Int) ^ (k % 64)))).setCell ⟨w.heap.size, 0, none⟩ (.bool false)).setCell ⟨w.heap.size, 1, none⟩ (.slice (some ⟨w.heap.size + 1, 0, none⟩) (k / 64 + 1) (k / 64 + 1))) (w.heap.size + 1) (ws (zs.set (k / 64) ((2 : Int) ^ (k % 64))) ++ []) := by
      have hn : ∀ (W : World) (i : Nat) (u : Value), (W.setCell ⟨w.heap.size, i, none⟩ u).heap[w.heap.size + 1]? = W.heap[w.heap.size + 1]? := fun W i u => Below.heap_setCell W _ u _ (fun e => by simp at e)
      have q := HR.out
      exact (hn _ _ _).trans ((hn _ _ _).trans q)
    have hs := Row.sl hr HW2.out (cap := k / 64 + 1) (by omega) (by omega) (B := (((w2.setCell ⟨w.heap.size + 1, k / 64, none⟩ (.int .u64 ((2 : Int) ^ (k % 64)))).setCell ⟨w.heap.size, 0, none⟩ (.bool false)).setCell ⟨w.heap.size, 1, none⟩ (.slice (some ⟨w.heap.size + 1, 0, none⟩) (k / 64 + 1) (k / 64 + 1))).heap.size) hr.lt
    refine ⟨false, zs.set (k / 64) ((2 : Int) ^ (k % 64)), _, _, by rw [hl], by rw [hl] at hs ⊢; exact hs, ?_, by omega⟩
    rw [iv_pos, val_vn HW2.out, HV.out]
  · exact bset' (bset' (bset' (below_step B0.out B2.out) (by omega)) (by omega)) (by omega)
theorem run_sub_nan {P : Program} (w : World) (t : TypeId) {x y : Nat} (h : Ieee.double.sub x y = none) : ∃ r, 2047 * 2 ^ 52 < rg r ∧ (binOp .sub t (.float .f64 x) (.float .f64 y)).run P w = .ok (.float .f64 r) w.drew := by
  have h' : FloatKind.f64.format.sub x y = none := h
  refine ⟨(Question.nanBits .f64 x y).cut (w.tape w.drawn (.nanBits .f64 x y)), ?_, ?_⟩
  · generalize w.tape w.drawn (.nanBits .f64 x y) = t
    show 2047 * 2 ^ 52 < rg ((t % 2) * 2 ^ 63 + 0x7ff0000000000000 + 1 + (t / 2) % (2 ^ 52 - 1))
    have h1 := Nat.mod_lt t (show 0 < 2 by omega)
    have h2 := Nat.mod_lt (t / 2) (show 0 < 2 ^ 52 - 1 by omega)
    generalize t % 2 = a at *
    generalize (t / 2) % (2 ^ 52 - 1) = f at *
    unfold rg
    rcases (show a = 0 ∨ a = 1 by omega) with rfl | rfl <;> omega
  · simp [binOp, Op.floatArith, h', Question.forced]
set_option maxHeartbeats 1600000 in
theorem finite_any (b : Nat) (w : World) : Calls Tryd.prog 14 #[.float .f64 b] w fun e w' => e = .returned (.bool (decide (Fin7 b))) ∧ Below w.heap.size w w' := by
  by_cases hf : Fin7 b
  · have k1 := fun (t : TypeId) (w : World) => run_float_arith (P := Tryd.prog) w .sub t .f64 b b 0 (sub_self_fin hf)
    have k2 : (FloatKind.f64.format.order 0 0 == some .eq) = true := by kernel_rfl
    rw [decide_eq_true hf]
    clear hf
    go_enter Tryd.func14, Tryd.ntmps14
    go_wp2_with (simp only [k1, Result.andThen])
    go_ret
    exact ⟨rfl, Below.refl _ _⟩
  · rw [decide_eq_false hf]
    obtain ⟨r, hr, k1⟩ := run_sub_nan (P := Tryd.prog) w 26 (sub_self_not hf)
    have k2 : (FloatKind.f64.format.order r 0 == some .eq) = false := by
      show (Ieee.double.order r 0 == some .eq) = false
      rw [order_nan_l hr]; rfl
    clear hf hr
    go_enter Tryd.func14, Tryd.ntmps14
    go_wp2_with (simp only [k1, Result.andThen])
    go_ret
    exact ⟨rfl, (Below.refl _ _).drew⟩
set_option maxHeartbeats 1600000 in
theorem awake7 {w : World} (hT : Tab w) : Calls Tryd.prog 6 #[] w fun e w' => e = .returned (.bool true) ∧ Below w.heap.size w w' := by
  obtain ⟨W0, hW0⟩ : ∃ W0, w.alloc (.cells #[.int .u64 3] 37) = W0 := ⟨_, rfl⟩
  have b0 : Below w.heap.size w W0 := by rw [← hW0]; exact (Below.refl _ _).alloc (Nat.le_refl _) _
  have s1 := word_one w 3 ⟨by omega, by omega⟩
  rw [hW0] at s1
  have hz : Zi W0 (.agg #[.bool true, .slice (some ⟨w.heap.size, 0, none⟩) 1 1]) (-3) 1 := ⟨true, [3], _, _, rfl, s1, by decide, Nat.le_refl _⟩
  have HC := hid (near_z hz (hT.now b0) (by omega))
  have k2 : (FloatKind.f64.format.order (zw (-3) 0) 13837309855095848960 == some .eq) = true := by kernel_rfl
  generalize zw (-3) 0 = F at *
  have EW := hid hW0
  have B0 := hid b0
  clear hW0 b0 s1 hz hT
  go_enter Tryd.func6, Tryd.ntmps6
  go_wp2_with fail
  rw [EW.out]
  refine HC.out.mono ?_
  rintro e w1 ⟨rfl, b⟩
  have B1 := hid (below_step B0.out b)
  clear b EW
  go_wp2
  go_ret
  exact ⟨rfl, B1.out⟩
end Go.Proofs.YtbamffggnnacaaaDoor
