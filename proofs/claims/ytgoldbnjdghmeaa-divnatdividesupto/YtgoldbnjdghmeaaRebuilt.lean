/-
  Rebuilt: quotient times divisor plus rest, by the reference's sums and products.
-/
import Derived.Test.YtgoldbnjdghmeaaExact
import Derived.Test.YtgoldbnjdghmeaaRMul
import Derived.Test.YtgoldbnjdghmeaaRAdd
import Derived.Test.YtgoldbnjdghmeaaRLeast
namespace Go.Proofs.Ytgoldbnjdghmeaa
open Go.RowKit
set_option linter.unusedVariables false

set_option maxHeartbeats 1600000 in
theorem rebuilt_yes {w : World} {va vb vq vr : Value} {xs ys qs rs : List Int} (ha : Sl w.heap.size w va xs) (hb : Sl w.heap.size w vb ys) (hq : Sl w.heap.size w vq qs) (hr : Sl w.heap.size w vr rs) (hcq : Canon qs) (hcr : Canon rs)
    (hv : val xs = val ys * val qs + val rs) (hlt : val rs < val ys) (l1 : xs.length ≤ 1099511627776) (l2 : ys.length ≤ 1099511627776) (l3 : qs.length ≤ 1099511627776) (l4 : rs.length ≤ 1099511627776) :
    Calls Try.prog 7 #[va, vb, vq, vr] w fun e w' => e = .returned (.bool true) ∧ Below w.heap.size w w' := by
  have HA := hid ha
  have HB := hid hb
  have HQ := hid hq
  have HR := hid hr
  have HV : Hid (val xs = val ys * val qs + val rs ∧ val rs < val ys) := ⟨hv, hlt⟩
  have L1 := least3_yes hq hcq
  have L2 := least3_yes hr hcr
  have HC := hid (rcmp_any hr hb (by omega) (by omega))
  rw [cmpI_lt hlt] at HC
  clear ha hb hq hr hv hlt
  go_enter Try.func7, Try.ntmps7
  go_wp2_with fail
  refine L1.mono ?_
  rintro e w1 ⟨rfl, rfl⟩
  clear L1
  go_wp2_with fail
  refine L2.mono ?_
  rintro e w2 ⟨rfl, rfl⟩
  clear L2
  go_wp2_with fail
  refine HC.out.mono ?_
  rintro e w3 ⟨rfl, b3⟩
  have HM := hid (rmul_any (HQ.out.now b3) (HB.out.now b3) l3 l2)
  have B3 := hid b3
  have HA3 := hid (HA.out.now b3)
  have HR3 := hid (HR.out.now b3)
  clear HC b3 HA HB HQ HR
  go_wp2_with fail
  refine HM.out.mono ?_
  rintro e w4 ⟨ps, vp, rfl, hop, hcp, hvp, b4⟩
  have lp : ps.length ≤ 1099511627776 := by
    have h1 := canon_len_le hcp (canon_lst HA3.out.1) (by
      rw [val_lst, hvp]
      have := HV.out.1
      have := val_nonneg hcr.1
      rw [Int.mul_comm]; omega)
    rw [length_lst] at h1
    have := wid_le xs
    omega
  have HS := hid (radd_any hop.sl (HR3.out.now b4) lp l4)
  have B4 := hid b4
  have HA4 := hid (HA3.out.now b4)
  have HVP := hid hvp
  clear HM hop hcp hvp b4 HA3 HR3
  go_wp2_with fail
  refine HS.out.mono ?_
  rintro e w5 ⟨ss, vs, rfl, hos, hcs, hvs, b5⟩
  have HN := hid (rleast_any (HA4.out.now b5) (by omega))
  have HS5 := hid hos.sl
  have B5 := hid b5
  clear HS hos b5
  go_wp2_with fail
  refine HN.out.mono ?_
  rintro e w6 ⟨ns, vn', rfl, hon, hcn, hvn, b6⟩
  have he : ss = ns := canon_inj hcs hcn (by rw [hvs, hvn, HVP.out, HV.out.1, Int.mul_comm])
  have HE := hid (same_yes (HS5.out.now b6) hon.sl he)
  have B6 := hid b6
  clear HN hon b6 HS5 he hvs hvn
  go_wp2_with fail
  refine HE.out.mono ?_
  rintro e w7 ⟨rfl, b7⟩
  have B7 := hid b7
  clear HE b7
  go_wp2
  go_ret
  exact ⟨rfl, below_step (below_step (below_step (below_step B3.out B4.out) B5.out) B6.out) B7.out⟩

theorem wake3_is {zs : List Int} {r : Int} (hc : Canon zs) (h0 : 0 ≤ r) (h1 : r < 2) (hv : val [7] = 2 * val zs + r) : zs = [3] ∧ r = 1 := by
  have e : val [7] = 7 := by simp [val]
  rw [e] at hv
  have h3 : val zs = 3 := by omega
  exact ⟨canon_inj hc ⟨wf_word (by omega) WF.nil, rfl⟩ (by rw [h3]; simp [val]), by omega⟩
set_option maxHeartbeats 800000 in
theorem wakes3_any (w : World) : Calls Try.prog 5 #[] w fun e w' => e = .returned (.bool true) ∧ Below w.heap.size w w' := by
  go_enter Try.func5, Try.ntmps5
  go_wp2_with fail
  refine (divWord_any (xs := [7]) (W := 2) ?_ (by unfold IsW wB; omega) (by omega)).mono ?_
  · exact lit_last w [7] _ rfl (wf_word (by omega) WF.nil) (by simp) 1 rfl
  rintro e w1 ⟨zs, q, r, rfl, ho, hc, hrw, hr2, hv, _, hb⟩
  obtain ⟨rfl, rfl⟩ := wake3_is hc hrw.1 hr2 hv
  have hb1 : Below w.heap.size w w1 := ((Below.refl _ _).alloc (Nat.le_refl _) _).trans (hb.mono (by simp))
  obtain ⟨_, ⟨_, e⟩ | ⟨g, rr, _, _, rfl, hrow⟩⟩ := ho
  · cases e
  have c0 : w1.cell? ⟨g, 0, none⟩ = some (.int .u64 3) := hrow.word (xs := [3]) (i := 0) (by simp)
  clear hrow hc hv hb
  go_wp2
  go_ret
  exact ⟨rfl, hb1⟩
end Go.Proofs.Ytgoldbnjdghmeaa
