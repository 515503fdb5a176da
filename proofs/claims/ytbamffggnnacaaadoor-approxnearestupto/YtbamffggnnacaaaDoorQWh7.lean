/-
  Wh7: whole, Whole, Cmp.
-/
import Derived.Test.YtbamffggnnacaaaDoorQWz7ToDivPure
import Derived.Test.YtbamffggnnacaaaDoorQZDiv
namespace Go.Proofs.YtbamffggnnacaaaDoor
open Go.RowKit
set_option linter.unusedVariables false

/-- A finite float64 times 2^n, toward zero. -/
def swn (b : Nat) (n : Int) : Int := if ng b = true then -(mv (fv (rg b)) (n - 1074) : Int) else (mv (fv (rg b)) (n - 1074) : Int)
theorem swn_zero (b : Nat) : swn b 0 = swv b := by
  unfold swn swv
  rw [wv_mv]; rfl
theorem swn_iv {b c e : Nat} {n : Int} {zs : List Int} (hz : WF zs) (hv : vn zs = mv c ((e : Int) - 1074 + n)) (h4 : fv (rg b) = c * 2 ^ e) : iv (ng b && decide (rg b ≠ 0)) zs = swn b n := by
  have hm : mv (fv (rg b)) (n - 1074) = vn zs := by rw [h4, mv_shift, hv]; congr 1; omega
  unfold swn
  rw [hm]
  have hvv := val_vn hz
  by_cases h0 : rg b = 0
  · have : vn zs = 0 := by rw [← hm, h0, fv_zero, mv_zero]
    rw [this] at hvv ⊢
    unfold iv
    rw [hvv]
    split <;> split <;> rfl
  · unfold iv
    rw [hvv, decide_eq_true h0, Bool.and_true]
set_option maxHeartbeats 1600000 in
theorem whole_any {b : Nat} (h : b < 2 ^ 64) (hf : Fin7 b) {n : Int} (h1 : -4096 ≤ n) (h2 : n ≤ 4096) (w : World) :
    Calls Tryd.prog 34 #[.float .f64 b, .int .i64 n] w (GivesZ w (swn b n) 16386) := by
  obtain ⟨W0, hW0⟩ : ∃ W0, w.alloc zbox = W0 := ⟨_, rfl⟩
  have b0 : Below w.heap.size w W0 := by rw [← hW0]; exact (Below.refl _ _).alloc (Nat.le_refl _) _
  have sz0 : W0.heap.size = w.heap.size + 1 := by rw [← hW0]; simp
  have pR : Duo W0 w.heap.size (.bool false) (.slice none 0 0) := by rw [← hW0]; exact duo_at rfl
  have HP := hid (parts_any h W0)
  have lt : (FloatKind.f64.format.order b 0 == some .lt) = (ng b && decide (rg b ≠ 0)) := order_zero_lt hf
  have EW := hid hW0
  have B0 := hid b0
  have PR := hid pR
  have HS : Hid (∀ (c e : Nat) (zs : List Int), WF zs → vn zs = mv c ((e : Int) - 1074 + n) → fv (rg b) = c * 2 ^ e → iv (ng b && decide (rg b ≠ 0)) zs = swn b n) := fun c e zs q1 q2 q3 => swn_iv q1 q2 q3
  have SZ := hid sz0
  clear hW0 b0 pR hf sz0
  generalize swn b n = Z at *
  generalize (ng b && decide (rg b ≠ 0)) = N at *
  go_enter Tryd.func34, Tryd.ntmps34
  go_wp2_with fail
  rw [EW.out]
  clear EW
  refine HP.out.mono ?_
  rintro e1 w1 ⟨e, c, rfl, hw1, hc, hrg, h3, h4, h5⟩
  have b1 : Below W0.heap.size W0 w1 := by rw [hw1]; exact (Below.refl _ _).alloc (Nat.le_refl _) _
  have s1 := word_one W0 c ⟨by omega, by omega⟩
  rw [← hw1] at s1
  have HM := hid (moved_any s1 (n := (e : Int) - 1074 + n) (by omega) (by omega) (by simp))
  have B1 := hid b1
  have H4 := hid h4
  clear HP hw1 b1 s1 hrg h3 h4 h hc
  go_wp2_with fail
  refine HM.out.mono ?_
  rintro e2 w2 ⟨zs, r, rfl, o2, q2, v2, l2, b2⟩
  obtain ⟨a2, c2, rfl⟩ := o2.form
  have hz : Zi w2 (.agg #[.bool N, .slice a2 zs.length c2]) Z 16386 :=
    ⟨_, zs, a2, c2, rfl, o2.sl, HS.out c e zs q2.1 (by rw [v2]; congr 1) H4.out, by simpa using l2⟩
  have HL := hid (least_z hz)
  have B2 := hid (below_step B1.out b2)
  clear HM hz o2 q2 v2 l2 b2 HS H4
  go_wp2_with fail
  refine HL.out.mono ?_
  rintro e3 w3 ⟨r3, rfl, m3, b3⟩
  obtain ⟨n3, x3, a3, c3, rfl, -⟩ := id m3
  have B3 := hid (below_step B2.out b3)
  have M3 := hid (m3.mono B2.out.size)
  have P3 := hid (PR.out.below B3.out (by have := SZ.out; omega))
  have r0 := P3.out.c0
  have r1 := P3.out.c1
  have f0 := P3.out.fz 0
  have f1 := P3.out.fz 1
  clear HL m3 b3
  go_wp2
  exact bodyPost_ret (zback Tryd.results34 (P3.out.set _ _) _ (by rfl)) rfl (gz_end M3.out (below_step B0.out B3.out) (Nat.le_refl _) (by have := SZ.out; omega))
set_option maxHeartbeats 1600000 in
theorem whole_fin {b : Nat} (h : b < 2 ^ 64) (hf : Fin7 b) (w : World) :
    Calls Tryd.prog 13 #[.float .f64 b] w (GivesZ1 0 w (swv b) 16386) := by
  obtain ⟨W0, hW0⟩ : ∃ W0, w.alloc zbox = W0 := ⟨_, rfl⟩
  have b0 : Below w.heap.size w W0 := by rw [← hW0]; exact (Below.refl _ _).alloc (Nat.le_refl _) _
  have sz0 : W0.heap.size = w.heap.size + 1 := by rw [← hW0]; simp
  have pR : Duo W0 w.heap.size (.bool false) (.slice none 0 0) := by rw [← hW0]; exact duo_at rfl
  have HF := hid (isFinite_any h W0)
  rw [decide_eq_true hf] at HF
  have HC := hid (whole_any h hf (n := 0) (by omega) (by omega) W0)
  rw [swn_zero] at HC
  have EW := hid hW0
  have B0 := hid b0
  have PR := hid pR
  clear hW0 b0 pR hf
  go_enter Tryd.func13, Tryd.ntmps13
  go_wp2_with fail
  rw [EW.out]
  clear EW
  refine HF.out.mono ?_
  rintro e1 w1 ⟨rfl, rfl⟩
  go_wp2_with fail
  refine HC.out.mono ?_
  rintro e3 w3 ⟨r3, rfl, m3, b3⟩
  obtain ⟨n3, x3, a3, c3, rfl, -⟩ := id m3
  have B3 := hid b3
  have M3 := hid m3
  have P3 := hid (PR.out.below B3.out (by omega))
  have r0 := P3.out.c0
  have r1 := P3.out.c1
  have f0 := P3.out.fz 0
  have f1 := P3.out.fz 1
  clear HC m3 b3
  go_wp2
  exact bodyPost_ret (zback1 Tryd.results13 (P3.out.set _ _) _ (by rfl) (by rfl)) rfl (gz1_end M3.out (below_step B0.out B3.out) (Nat.le_refl _) (by omega))
set_option maxHeartbeats 1600000 in
theorem whole_not {b : Nat} (h : b < 2 ^ 64) (hf : ¬ Fin7 b) (w : World) :
    Calls Tryd.prog 13 #[.float .f64 b] w (GivesZ1 3 w 0 0) := by
  obtain ⟨W0, hW0⟩ : ∃ W0, w.alloc zbox = W0 := ⟨_, rfl⟩
  have b0 : Below w.heap.size w W0 := by rw [← hW0]; exact (Below.refl _ _).alloc (Nat.le_refl _) _
  have sz0 : W0.heap.size = w.heap.size + 1 := by rw [← hW0]; simp
  have pR : Duo W0 w.heap.size (.bool false) (.slice none 0 0) := by rw [← hW0]; exact duo_at rfl
  have HF := hid (isFinite_any h W0)
  rw [decide_eq_false hf] at HF
  have r0 := pR.c0
  have r1 := pR.c1
  have f0 := pR.fz 0
  have f1 := pR.fz 1
  have EW := hid hW0
  have B0 := hid b0
  have PR := hid pR
  clear hW0 b0 pR hf
  go_enter Tryd.func13, Tryd.ntmps13
  go_wp2_with fail
  rw [EW.out]
  clear EW
  refine HF.out.mono ?_
  rintro e1 w1 ⟨rfl, rfl⟩
  go_wp2
  exact bodyPost_ret (zback1 Tryd.results13 (PR.out.set _ _) _ (by rfl) (by rfl)) rfl (gz1_end (zm_nil _ _ 0) B0.out (Nat.le_refl _) (show w.heap.size < w1.heap.size by omega))
end Go.Proofs.YtbamffggnnacaaaDoor
