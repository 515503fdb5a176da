/-
  Back: the walk of DivnatBack.
-/
import Derived.Test.YtgoldbnjdghmeaaRebuilt
namespace Go.Proofs.Ytgoldbnjdghmeaa
open Go.RowKit
set_option linter.unusedVariables false

/-- Quotient and rest are one pair. -/
theorem div_one {X Y q r q' r' : Int} (h : X = Y * q + r) (h' : X = Y * q' + r') (a : 0 ≤ r) (b : r < Y) (a' : 0 ≤ r') (b' : r' < Y) : q' = q ∧ r' = r := by
  have e : Y * (q' - q) = r - r' := by rw [Int.mul_sub]; omega
  rcases Int.lt_trichotomy (q' - q) 0 with k | k | k
  · have := Int.mul_le_mul_of_nonneg_left (show q' - q ≤ -1 by omega) (show 0 ≤ Y by omega)
    rw [Int.mul_neg, Int.mul_one] at this
    omega
  · rw [k, Int.mul_zero] at e
    omega
  · have := Int.mul_le_mul_of_nonneg_left (show 1 ≤ q' - q by omega) (show 0 ≤ Y by omega)
    rw [Int.mul_one] at this
    omega

set_option maxHeartbeats 3200000 in
theorem divnatBack_any {w : World} {va vb : Value} {xs ys : List Int} {W : Int} (ha : Sl w.heap.size w va xs) (hb : Sl w.heap.size w vb ys) (hW : IsW W) (lx : xs.length ≤ 1048576) (ly : ys.length ≤ 1048576) :
    Calls Try.prog 3 #[va, vb, .int .u64 W] w fun e w' => e = .returned (.bool true) ∧ Below w.heap.size w w' := by
  have HA0 := hid ha
  have HB0 := hid hb
  have HW := wakes3_any w
  clear ha hb
  go_enter Try.func3, Try.ntmps3
  go_wp2_with fail
  refine HW.mono ?_
  rintro e w1 ⟨rfl, b1⟩
  have B1 := hid b1
  have HA1 := hid (HA0.out.now b1)
  have HB1 := hid (HB0.out.now b1)
  clear HW b1 HA0 HB0
  by_cases hW0 : W = 0
  · subst hW0
    have hz : ((0 : Int) == 0) = true := rfl
    have hzn : ((0 : Int) != 0) = false := rfl
    have hz4 : ((4 : Int) != 4) = false := rfl
    have HWD := divWord_zero va w1
    go_wp2_with fail
    refine HWD.mono ?_
    rintro e w2 ⟨rfl, rfl⟩
    have B2 := hid B1.out
    have HA := hid HA1.out
    have HB := hid HB1.out
    clear HWD HA1 HB1
    by_cases h0 : wid ys = 0
    · have HD := hid (divMod_zero (v := va) HB.out h0)
      go_wp2_with fail
      refine HD.out.mono ?_
      rintro e w3 ⟨rfl, b3⟩
      have HE := hid (exact_zero (v := va) (HB.out.now b3) h0)
      have B3 := hid b3
      clear HD b3
      go_wp2_with fail
      refine HE.out.mono ?_
      rintro e w4 ⟨rfl, b4⟩
      have HN := hid (rleast_any ((HB.out.now B3.out).now b4) (by omega))
      have B4 := hid b4
      clear HE b4
      go_wp2_with fail
      refine HN.out.mono ?_
      rintro e w5 ⟨ns, vd, rfl, hon, hcn, hvn, b5⟩
      have hns : ns = [] := canon_zero hcn (by rw [hvn]; exact wid_zero_val ys h0)
      subst hns
      obtain ⟨na, nc, rfl⟩ := hon.form
      have B5 := hid b5
      have hz : ((0 : Int) == 0) = true := rfl
      have hz4 : ((4 : Int) == 4) = true := rfl
      clear HN b5 hon hcn hvn
      go_wp2
      go_ret
      exact ⟨rfl, below_step (below_step (below_step B2.out B3.out) B4.out) B5.out⟩
    · have HD := hid (divMod_any HA.out HB.out h0 (by omega) (by omega))
      go_wp2_with fail
      refine HD.out.mono ?_
      rintro e w3 ⟨qs, rs, q, r, rfl, hoq, hor, hcq, hcr, hv, hlt, hlq, hlr, _, b3⟩
      have HE := hid (exact_any (HA.out.now b3) (HB.out.now b3) h0 (by omega) (by omega))
      have B3 := hid b3
      have HQ3 := hid hoq.sl
      have HR3 := hid hor.sl
      have HV : Hid (val xs = val ys * val qs + val rs ∧ val rs < val ys) := ⟨hv, hlt⟩
      obtain ⟨qa, qc, rfl⟩ := hoq.form
      obtain ⟨ra, rc, rfl⟩ := hor.form
      clear HD b3 hoq hor hv hlt
      go_wp2_with fail
      refine HE.out.mono ?_
      rintro e w4 ⟨qs', rs', hcq', hcr', hv', hlt', hlq', b4, hend⟩
      have hun : val qs' = val qs ∧ val rs' = val rs := div_one HV.out.1 hv' (val_nonneg hcr.1) HV.out.2 (val_nonneg hcr'.1) hlt'
      obtain rfl := canon_inj hcq' hcq hun.1
      obtain rfl := canon_inj hcr' hcr hun.2
      have B4 := hid b4
      have HA4 := hid ((HA.out.now B3.out).now b4)
      have HB4 := hid ((HB.out.now B3.out).now b4)
      have HQ4 := hid (HQ3.out.now b4)
      have HR4 := hid (HR3.out.now b4)
      have HEND := hid hend
      clear HE b4 hend hun hv' hlt' HQ3 HR3 HA HB
      have HN := hid (rleast_any HB4.out (by omega))
      rcases HEND.out with ⟨hrs, xq, rfl, hxo⟩ | ⟨hrs, rfl⟩
      · subst hrs
        have HXQ := hid hxo.sl
        obtain ⟨xa, xc, rfl⟩ := hxo.form
        clear hxo HEND
        go_wp2_with fail
        refine HN.out.mono ?_
        rintro e w5 ⟨ns, vd, rfl, hon, hcn, hvn, b5⟩
        have hnl : ns.length ≠ 0 := fun e => by
          have : ns = [] := List.eq_nil_of_length_eq_zero e
          subst this
          have h1 := wid_pos_val HB4.out.1 (by omega)
          simp [val] at hvn
          omega
        obtain ⟨na, nc, rfl⟩ := hon.form
        have hz : ((ns.length : Int) == 0) = false := by rw [beq_eq_false_iff_ne]; omega
        have hz0 : ((0 : Int) != 0) = false := rfl
        have hzz : ((0 : Int) == 0) = true := rfl
        have HRB := hid (rebuilt_yes (HA4.out.now b5) (HB4.out.now b5) (HQ4.out.now b5) (HR4.out.now b5) hcq hcr HV.out.1 HV.out.2 (by omega) (by omega) (by omega) (by omega))
        have HSM := hid (fun (w6 : World) (b6 : Below w5.heap.size w5 w6) => same_yes ((HXQ.out.now b5).now b6) ((HQ4.out.now b5).now b6) rfl)
        have B5 := hid b5
        clear HN b5 hon hcn hvn
        generalize ns.length = nl at *
        go_wp2_with fail
        refine HRB.out.mono ?_
        rintro e w6 ⟨rfl, b6⟩
        have HS6 := hid (HSM.out w6 b6)
        have B6 := hid b6
        clear HRB b6 HSM
        go_wp2_with fail
        refine HS6.out.mono ?_
        rintro e w7 ⟨rfl, b7⟩
        have B7 := hid b7
        clear HS6 b7
        go_wp2
        go_ret
        exact ⟨rfl, below_step (below_step (below_step (below_step (below_step B2.out B3.out) B4.out) B5.out) B6.out) B7.out⟩
      · obtain ⟨k, hk⟩ : ∃ k, rs'.length = k + 1 := ⟨rs'.length - 1, by have := Nat.pos_of_ne_zero (fun e => hrs (List.eq_nil_of_length_eq_zero e)); omega⟩
        rw [hk] at HR4
        rw [hk]
        have hzk : (((k + 1 : Nat) : Int) == 0) = false := by rw [beq_eq_false_iff_ne]; omega
        clear HEND
        go_wp2_with fail
        refine HN.out.mono ?_
        rintro e w5 ⟨ns, vd, rfl, hon, hcn, hvn, b5⟩
        have hnl : ns.length ≠ 0 := fun e => by
          have : ns = [] := List.eq_nil_of_length_eq_zero e
          subst this
          have h1 := wid_pos_val HB4.out.1 (by omega)
          simp [val] at hvn
          omega
        obtain ⟨na, nc, rfl⟩ := hon.form
        have hz : ((ns.length : Int) == 0) = false := by rw [beq_eq_false_iff_ne]; omega
        have hz0 : ((0 : Int) != 0) = false := rfl
        have hz8 : ((8 : Int) == 8) = true := rfl
        have hzz : ((0 : Int) == 0) = true := rfl
        have HRB := hid (rebuilt_yes (HA4.out.now b5) (HB4.out.now b5) (HQ4.out.now b5) (HR4.out.now b5) hcq hcr HV.out.1 HV.out.2 (by omega) (by omega) (by omega) (by omega))
        have B5 := hid b5
        clear HN b5 hon hcn hvn
        generalize ns.length = nl at *
        go_wp2_with fail
        refine HRB.out.mono ?_
        rintro e w6 ⟨rfl, b6⟩
        have B6 := hid b6
        clear HRB b6
        go_wp2
        go_ret
        exact ⟨rfl, below_step (below_step (below_step (below_step B2.out B3.out) B4.out) B5.out) B6.out⟩
  · have hz : (W == 0) = false := by simp [hW0]
    have hzn : (W != 0) = true := by simp [hW0]
    have hz0 : ((0 : Int) != 0) = false := rfl
    have hzz : ((0 : Int) == 0) = true := rfl
    have hW1 : 0 < W := by have := hW.1; omega
    have HWD := hid (divWord_any HA1.out hW hW1)
    go_wp2_with fail
    refine HWD.out.mono ?_
    rintro e w2 ⟨zs, q0, r0, rfl, ho, hcz, hrw, hrlt, hv0, hlz, b2⟩
    obtain ⟨za, zc, rfl⟩ := ho.form
    have hzs := hid ho.sl
    have B2a := hid b2
    have hl0 := wid_le xs
    have hge : ¬ W ≤ r0 := by omega
    have HA2 := hid (HA1.out.now b2)
    have HB2 := hid (HB1.out.now b2)
    have hrw' := hrw
    unfold IsW wB at hrw'
    clear HWD b2 ho HA1 HB1
    have HL1 : Hid (∀ w' : World, Below w2.heap.size w2 w' → Sl (w'.alloc (.cells #[.int .u64 r0] 23)).heap.size (w'.alloc (.cells #[.int .u64 r0] 23)) (.slice (some ⟨w'.heap.size, 0, none⟩) 1 1) [r0]) := fun w' _ => lit_last w' [r0] _ rfl (WF.cons hrw WF.nil) (by simp) 1 rfl
    go_wp2_with fail
    have hlit : Sl (w2.alloc (.cells #[.int .u64 W] 23)).heap.size (w2.alloc (.cells #[.int .u64 W] 23)) (.slice (some ⟨w2.heap.size, 0, none⟩) 1 1) [W] := lit_last w2 [W] _ rfl (WF.cons hW WF.nil) (by simp) 1 rfl
    have bA : Below w2.heap.size w2 (w2.alloc (.cells #[.int .u64 W] 23)) := (Below.refl _ _).alloc (Nat.le_refl _) _
    have hlit2 := HL1.out _ bA
    have bB : Below (w2.alloc (.cells #[.int .u64 W] 23)).heap.size (w2.alloc (.cells #[.int .u64 W] 23)) ((w2.alloc (.cells #[.int .u64 W] 23)).alloc (.cells #[.int .u64 r0] 23)) := (Below.refl _ _).alloc (Nat.le_refl _) _
    have hlitW := hid (hlit.now bB)
    have BB := hid (below_step bA bB)
    have HRL := hid (rleast_any hlit2 (by simp))
    clear hlit hlit2 bA bB HL1
    simp at HRL
    refine HRL.out.mono ?_
    rintro e w3 ⟨r1s, vr, rfl, hor, hcr1, hvr, b3⟩
    have bC := hid (below_step BB.out (by simpa using b3))
    have b3' : Below ((w2.alloc (.cells #[.int .u64 W] 23)).alloc (.cells #[.int .u64 r0] 23)).heap.size ((w2.alloc (.cells #[.int .u64 W] 23)).alloc (.cells #[.int .u64 r0] 23)) w3 := by simpa using b3
    have e1 : val r1s = r0 := by rw [hvr]; simp [val]
    have e2 : val [W] = W := by simp [val]
    have lr1 : r1s.length ≤ 1 := by
      have := canon_len_le hcr1 (canon_lst (WF.cons hrw WF.nil)) (by rw [val_lst, hvr]; exact Int.le_refl _)
      rw [length_lst] at this
      have := wid_le [r0]
      simp at this
      omega
    have HRB0 := hid (rebuilt_yes (HA2.out.now bC.out) (hlitW.out.now b3') (hzs.out.now bC.out) hor.sl hcz hcr1 (by rw [e1, e2]; exact hv0) (by rw [e1, e2]; exact hrlt) (by omega) (by simp) (by omega) (by omega))
    have HA3 := hid (HA2.out.now bC.out)
    have HB3 := hid (HB2.out.now bC.out)
    clear HRL hor hcr1 hvr b3 b3' HA2 HB2 hlitW hzs e1 e2 lr1
    go_wp2_with fail
    refine HRB0.out.mono ?_
    rintro e w4 ⟨rfl, b4⟩
    have B2 := hid (below_step (below_step (below_step B1.out B2a.out) bC.out) b4)
    have HA := hid (HA3.out.now b4)
    have HB := hid (HB3.out.now b4)
    clear HRB0 b4 HA3 HB3 B1 B2a bC BB hcz hv0
    by_cases h0 : wid ys = 0
    · have HD := hid (divMod_zero (v := va) HB.out h0)
      go_wp2_with fail
      refine HD.out.mono ?_
      rintro e w3 ⟨rfl, b3⟩
      have HE := hid (exact_zero (v := va) (HB.out.now b3) h0)
      have B3 := hid b3
      clear HD b3
      go_wp2_with fail
      refine HE.out.mono ?_
      rintro e w4 ⟨rfl, b4⟩
      have HN := hid (rleast_any ((HB.out.now B3.out).now b4) (by omega))
      have B4 := hid b4
      clear HE b4
      go_wp2_with fail
      refine HN.out.mono ?_
      rintro e w5 ⟨ns, vd, rfl, hon, hcn, hvn, b5⟩
      have hns : ns = [] := canon_zero hcn (by rw [hvn]; exact wid_zero_val ys h0)
      subst hns
      obtain ⟨na, nc, rfl⟩ := hon.form
      have B5 := hid b5
      have hz : ((0 : Int) == 0) = true := rfl
      have hz4 : ((4 : Int) == 4) = true := rfl
      clear HN b5 hon hcn hvn
      go_wp2
      go_ret
      exact ⟨rfl, below_step (below_step (below_step B2.out B3.out) B4.out) B5.out⟩
    · have HD := hid (divMod_any HA.out HB.out h0 (by omega) (by omega))
      go_wp2_with fail
      refine HD.out.mono ?_
      rintro e w3 ⟨qs, rs, q, r, rfl, hoq, hor, hcq, hcr, hv, hlt, hlq, hlr, _, b3⟩
      have HE := hid (exact_any (HA.out.now b3) (HB.out.now b3) h0 (by omega) (by omega))
      have B3 := hid b3
      have HQ3 := hid hoq.sl
      have HR3 := hid hor.sl
      have HV : Hid (val xs = val ys * val qs + val rs ∧ val rs < val ys) := ⟨hv, hlt⟩
      obtain ⟨qa, qc, rfl⟩ := hoq.form
      obtain ⟨ra, rc, rfl⟩ := hor.form
      clear HD b3 hoq hor hv hlt
      go_wp2_with fail
      refine HE.out.mono ?_
      rintro e w4 ⟨qs', rs', hcq', hcr', hv', hlt', hlq', b4, hend⟩
      have hun : val qs' = val qs ∧ val rs' = val rs := div_one HV.out.1 hv' (val_nonneg hcr.1) HV.out.2 (val_nonneg hcr'.1) hlt'
      obtain rfl := canon_inj hcq' hcq hun.1
      obtain rfl := canon_inj hcr' hcr hun.2
      have B4 := hid b4
      have HA4 := hid ((HA.out.now B3.out).now b4)
      have HB4 := hid ((HB.out.now B3.out).now b4)
      have HQ4 := hid (HQ3.out.now b4)
      have HR4 := hid (HR3.out.now b4)
      have HEND := hid hend
      clear HE b4 hend hun hv' hlt' HQ3 HR3 HA HB
      have HN := hid (rleast_any HB4.out (by omega))
      rcases HEND.out with ⟨hrs, xq, rfl, hxo⟩ | ⟨hrs, rfl⟩
      · subst hrs
        have HXQ := hid hxo.sl
        obtain ⟨xa, xc, rfl⟩ := hxo.form
        clear hxo HEND
        go_wp2_with fail
        refine HN.out.mono ?_
        rintro e w5 ⟨ns, vd, rfl, hon, hcn, hvn, b5⟩
        have hnl : ns.length ≠ 0 := fun e => by
          have : ns = [] := List.eq_nil_of_length_eq_zero e
          subst this
          have h1 := wid_pos_val HB4.out.1 (by omega)
          simp [val] at hvn
          omega
        obtain ⟨na, nc, rfl⟩ := hon.form
        have hz : ((ns.length : Int) == 0) = false := by rw [beq_eq_false_iff_ne]; omega
        have hz0 : ((0 : Int) != 0) = false := rfl
        have hzz : ((0 : Int) == 0) = true := rfl
        have HRB := hid (rebuilt_yes (HA4.out.now b5) (HB4.out.now b5) (HQ4.out.now b5) (HR4.out.now b5) hcq hcr HV.out.1 HV.out.2 (by omega) (by omega) (by omega) (by omega))
        have HSM := hid (fun (w6 : World) (b6 : Below w5.heap.size w5 w6) => same_yes ((HXQ.out.now b5).now b6) ((HQ4.out.now b5).now b6) rfl)
        have B5 := hid b5
        clear HN b5 hon hcn hvn
        generalize ns.length = nl at *
        go_wp2_with fail
        refine HRB.out.mono ?_
        rintro e w6 ⟨rfl, b6⟩
        have HS6 := hid (HSM.out w6 b6)
        have B6 := hid b6
        clear HRB b6 HSM
        go_wp2_with fail
        refine HS6.out.mono ?_
        rintro e w7 ⟨rfl, b7⟩
        have B7 := hid b7
        clear HS6 b7
        go_wp2
        go_ret
        exact ⟨rfl, below_step (below_step (below_step (below_step (below_step B2.out B3.out) B4.out) B5.out) B6.out) B7.out⟩
      · obtain ⟨k, hk⟩ : ∃ k, rs'.length = k + 1 := ⟨rs'.length - 1, by have := Nat.pos_of_ne_zero (fun e => hrs (List.eq_nil_of_length_eq_zero e)); omega⟩
        rw [hk] at HR4
        rw [hk]
        have hzk : (((k + 1 : Nat) : Int) == 0) = false := by rw [beq_eq_false_iff_ne]; omega
        clear HEND
        go_wp2_with fail
        refine HN.out.mono ?_
        rintro e w5 ⟨ns, vd, rfl, hon, hcn, hvn, b5⟩
        have hnl : ns.length ≠ 0 := fun e => by
          have : ns = [] := List.eq_nil_of_length_eq_zero e
          subst this
          have h1 := wid_pos_val HB4.out.1 (by omega)
          simp [val] at hvn
          omega
        obtain ⟨na, nc, rfl⟩ := hon.form
        have hz : ((ns.length : Int) == 0) = false := by rw [beq_eq_false_iff_ne]; omega
        have hz0 : ((0 : Int) != 0) = false := rfl
        have hz8 : ((8 : Int) == 8) = true := rfl
        have hzz : ((0 : Int) == 0) = true := rfl
        have HRB := hid (rebuilt_yes (HA4.out.now b5) (HB4.out.now b5) (HQ4.out.now b5) (HR4.out.now b5) hcq hcr HV.out.1 HV.out.2 (by omega) (by omega) (by omega) (by omega))
        have B5 := hid b5
        clear HN b5 hon hcn hvn
        generalize ns.length = nl at *
        go_wp2_with fail
        refine HRB.out.mono ?_
        rintro e w6 ⟨rfl, b6⟩
        have B6 := hid b6
        clear HRB b6
        go_wp2
        go_ret
        exact ⟨rfl, below_step (below_step (below_step (below_step B2.out B3.out) B4.out) B5.out) B6.out⟩
end Go.Proofs.Ytgoldbnjdghmeaa
