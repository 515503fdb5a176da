/-
  Mul: the contracts of byTwoHalves, byFourHalves and Mul.
-/
import Derived.Test.YtdfnehngffajiabDoorQCut
import Derived.Test.YtdfnehngffajiabDoorQCmpToNow
namespace Go.Proofs.YtdfnehngffajiabDoor
open Go.RowKit
set_option linter.unusedVariables false

theorem val_halves_any (xs : List Int) (n : Nat) : val xs = val (xs.take n) + pw n * val (xs.drop n) := by
  by_cases h : n ≤ xs.length
  · exact val_halves xs h
  · rw [List.take_of_length_le (by omega), List.drop_of_length_le (by omega)]
    simp [val]
theorem high_lt {l S : Int} {n N : Nat} (h : l + pw n * S < pw (n + N)) (hl : 0 ≤ l) : S < pw N := by
  rw [pw_plus] at h
  exact Int.lt_of_mul_lt_mul_left (show pw n * S < pw n * pw N by omega) (Int.le_of_lt (pw_pos n))
theorem prod_len {xs ys zs : List Int} (hx : WF xs) (hy : WF ys) (hz : Canon zs) (h : val zs = val xs * val ys) : zs.length ≤ xs.length + ys.length :=
  canon_len hz (by rw [h]; exact val_mul_lt hx hy)
theorem mine_row {B : Nat} {w : World} {g k : Nat} {zs : List Int} (hB : B ≤ g) (hw : WF zs) (hk : zs.length = k) (hl : k ≤ 35184372088832) (hr : Row w g (ws zs)) : Mine B w (.slice (some ⟨g, 0, none⟩) k k) zs := by
  subst hk
  exact ⟨hw, .inr ⟨g, [], zs.length, hB, hl, Nat.le_refl _, by simp, rfl, by simpa using hr⟩⟩
theorem join_len (xs ys : List Int) {n : Nat} (h : xs.length ≤ n) : (xs ++ List.replicate (n - xs.length) 0 ++ ys).length = n + ys.length := by
  simp
  omega

/-- Mul is right wherever its factors have together fewer than N words. -/
def MulOk (N : Nat) : Prop := ∀ (w : World) (v u : Value) (xs ys : List Int), Sl w.heap.size w v xs → Sl w.heap.size w u ys → xs.length + ys.length ≤ 35184372088832 → xs.length + ys.length < N →
  Calls Tryd.prog 48 #[v, u] w (Makes w (val xs * val ys))

/-- The end of byTwoHalves. -/
theorem two_end {xs ys P Q S : List Int} {n : Nat} (hx : Canon xs) (hy : Canon ys) (hn : n < xs.length) (hy0 : ys ≠ []) (hP : Canon P) (vP : val P = val (xs.take n) * val ys) (vQ : val Q = val (xs.drop n) * val ys) (hS : Canon S) (vS : val S = val Q + val (P.drop n)) :
    (P.take n).length ≤ n ∧ n + S.length ≤ xs.length + ys.length ∧ Canon (P.take n ++ List.replicate (n - (P.take n).length) 0 ++ S) ∧ val (P.take n ++ List.replicate (n - (P.take n).length) 0 ++ S) = val xs * val ys := by
  have hl : (P.take n).length ≤ n := by simp; omega
  have hj := val_join (P.take n) S hl
  have hv : val (P.take n) + pw n * val S = val xs * val ys := two_halves (n := n) (val_halves_any xs n) vP (val_halves_any P n) (by rw [vS, vQ]) rfl
  have hlt := val_mul_lt hx.1 hy.1
  rw [← hv] at hlt
  have h0 := val_nonneg (hP.1.take n)
  have hS0 : S ≠ [] := by
    refine canon_ne ?_
    have h1 : 0 < val (xs.drop n) := canon_pos (canon_drop n hx) (by intro e; have := congrArg List.length e; simp at this; omega)
    have h2 := canon_pos hy hy0
    have h3 := Int.mul_pos h1 h2
    have h4 := val_nonneg (hP.1.rest n)
    rw [vS, vQ]
    omega
  refine ⟨hl, ?_, canon_join n (hP.1.take n) hS hS0, by rw [hj, hv]⟩
  have h5 : xs.length + ys.length = n + (xs.length + ys.length - n) := by omega
  rw [h5] at hlt
  have := canon_len hS (high_lt hlt h0)
  omega

/-- The end of byFourHalves. -/
theorem four_end {xs ys LL HH SA SB SS T X Y Z : List Int} {n : Nat} (hx : Canon xs) (hy : Canon ys) (hn : n < xs.length) (hn' : n < ys.length)
    (hLL : Canon LL) (vLL : val LL = val (xs.take n) * val (ys.take n)) (hHH : Canon HH) (vHH : val HH = val (xs.drop n) * val (ys.drop n))
    (vSA : val SA = val (xs.take n) + val (xs.drop n)) (vSB : val SB = val (ys.take n) + val (ys.drop n)) (vSS : val SS = val SA * val SB) (vT : val T = val LL + val HH) (vX : val X = val SS - val T)
    (hY : Canon Y) (vY : val Y = val X + val (LL.drop n)) (hZ : Canon Z) (vZ : val Z = val HH + val (Y.drop n)) :
    (LL.take n).length ≤ n ∧ (Y.take n).length ≤ n ∧ n + (n + Z.length) ≤ xs.length + ys.length ∧
    Canon (LL.take n ++ List.replicate (n - (LL.take n).length) 0 ++ (Y.take n ++ List.replicate (n - (Y.take n).length) 0 ++ Z)) ∧
    val (LL.take n ++ List.replicate (n - (LL.take n).length) 0 ++ (Y.take n ++ List.replicate (n - (Y.take n).length) 0 ++ Z)) = val xs * val ys := by
  have hl : (LL.take n).length ≤ n := by simp; omega
  have hm : (Y.take n).length ≤ n := by simp; omega
  have hj1 := val_join (Y.take n) Z hm
  have hj := val_join (LL.take n) (Y.take n ++ List.replicate (n - (Y.take n).length) 0 ++ Z) hl
  rw [hj1] at hj
  have hv : val (LL.take n) + pw n * (val (Y.take n) + pw n * val Z) = val xs * val ys :=
    four_halves (n := n) (val_halves_any xs n) (val_halves_any ys n) vLL vHH vSA vSB vSS vT vX (val_halves_any LL n) vY (val_halves_any Y n) vZ rfl
  have hlt := val_mul_lt hx.1 hy.1
  rw [← hv] at hlt
  have h0 := val_nonneg (hLL.1.take n)
  have h0' := val_nonneg (hY.1.take n)
  have hZ0 : Z ≠ [] := by
    refine canon_ne ?_
    have h1 : 0 < val (xs.drop n) := canon_pos (canon_drop n hx) (by intro e; have := congrArg List.length e; simp at this; omega)
    have h2 : 0 < val (ys.drop n) := canon_pos (canon_drop n hy) (by intro e; have := congrArg List.length e; simp at this; omega)
    have h3 := Int.mul_pos h1 h2
    have h4 := val_nonneg (hY.1.rest n)
    rw [vZ, vHH]
    omega
  have c1 := canon_join n (hY.1.take n) hZ hZ0
  have c1' : Y.take n ++ List.replicate (n - (Y.take n).length) 0 ++ Z ≠ [] := by
    intro e
    exact hZ0 (List.append_eq_nil_iff.1 e).2
  refine ⟨hl, hm, ?_, canon_join n (hLL.1.take n) c1 c1', by rw [hj, hv]⟩
  have h5 : xs.length + ys.length = n + (n + (xs.length + ys.length - n - n)) := by omega
  rw [h5] at hlt
  have h6 := high_lt hlt h0
  have := canon_len hZ (high_lt h6 h0')
  omega

set_option maxHeartbeats 1600000 in
theorem byTwo_any {w : World} {va vb : Value} {xs ys : List Int} (ha : Sl w.heap.size w va xs) (hb : Sl w.heap.size w vb ys) (cx : Canon xs) (cy : Canon ys) (hl : xs.length + ys.length ≤ 35184372088832) {n : Nat} (hn0 : 0 < n) (hn : n < xs.length) (hy0 : ys ≠ []) (IH : MulOk (xs.length + ys.length)) :
    Calls Tryd.prog 54 #[va, vb, .int .i64 (n : Int)] w (Makes w (val xs * val ys)) := by
  have LT := hid (show (xs.take n).length = n by simp; omega)
  have LD := hid (show (xs.drop n).length = xs.length - n by simp)
  have CX := hid cx
  have CY := hid cy
  have Y0 := hid hy0
  have IH' := hid IH
  clear IH cx cy hy0
  go_enter Tryd.func54, Tryd.ntmps54
  go_wp2_with fail
  refine (split_now ha (by omega)).mono ?_
  rintro e w1 ⟨vl, vr, rfl, hl1, hr1, k1⟩
  have b1 := hb.now k1
  have g1 := k1
  clear ha hb k1
  go_wp2_with fail
  refine (IH'.out _ _ _ _ _ hl1 b1 (by rw [LT.out]; omega) (by rw [LT.out]; omega)).mono ?_
  rintro e w2 ⟨P, vp, rfl, mp, cp, HP, k2⟩
  have b2 := b1.now k2
  have ra2 := hr1.now k2
  have g2 := below_step g1 k2
  replace cp := hid cp
  replace HP := hid HP
  clear hl1 b1 hr1 g1 k2
  have p0 := mp.sl
  clear mp
  have LP := hid (prod_len (CX.out.1.take n) CY.out.1 cp.out HP.out)
  go_wp2_with fail
  refine (split_now p0 (by omega)).mono ?_
  rintro e w3 ⟨wl, wr, rfl, hl3, hr3, k3⟩
  have b3 := b2.now k3
  have ra3 := ra2.now k3
  have g3 := below_step g2 k3
  clear p0 b2 ra2 g2 k3
  go_wp2_with fail
  refine (IH'.out _ _ _ _ _ ra3 b3 (by rw [LD.out]; omega) (by rw [LD.out]; omega)).mono ?_
  rintro e w4 ⟨Q, vq, rfl, mq, cq, HQ, k4⟩
  have pl4 := hl3.now k4
  have pr4 := hr3.now k4
  have g4 := below_step g3 k4
  replace cq := hid cq
  replace HQ := hid HQ
  clear ra3 b3 hl3 hr3 g3 k4
  have q0 := mq.sl
  clear mq
  have LQ := hid (prod_len (CX.out.1.rest n) CY.out.1 cq.out HQ.out)
  have LPD := hid (show (P.drop n).length ≤ P.length by simp)
  go_wp2_with fail
  refine (add_now q0 pr4 (by have := LQ.out; have := LD.out; omega) (by have := LPD.out; have := LP.out; have := LT.out; omega)).mono ?_
  rintro e w5 ⟨S, vs, rfl, s0, cs, HS, ls, k5⟩
  have pl5 := pl4.now k5
  have g5 := below_step g4 k5
  replace cs := hid cs
  replace HS := hid HS
  clear q0 pr4 pl4 g4 k5
  clear ls
  have E := hid (two_end CX.out CY.out hn Y0.out cp.out HP.out HQ.out cs.out HS.out)
  clear cp HP HQ cs HS cq CX CY LP LQ LPD
  go_wp2_with fail
  refine (glue_any pl5 s0 E.out.1 (by have := E.out.2.1; omega)).mono ?_
  rintro e w6 ⟨rfl, hr, k6⟩
  have g6 := below_step g5 k6
  go_wp2
  go_ret
  exact ⟨_, _, rfl, mine_row g5.size E.out.2.2.1.1 (join_len _ _ E.out.1) (by have := E.out.2.1; omega) hr, E.out.2.2.1, E.out.2.2.2, g6⟩

set_option maxHeartbeats 6400000 in
theorem byFour_any {w : World} {va vb : Value} {xs ys : List Int} (ha : Sl w.heap.size w va xs) (hb : Sl w.heap.size w vb ys) (cx : Canon xs) (cy : Canon ys) (hl : xs.length + ys.length ≤ 35184372088832) {n : Nat} (hn0 : 0 < n) (hn : n < xs.length) (hn' : n < ys.length) (hx2 : xs.length ≤ 2 * n) (h2n : 2 * n ≤ xs.length + 1) (h64 : 64 ≤ ys.length) (hyx : ys.length ≤ xs.length) (IH : MulOk (xs.length + ys.length)) :
    Calls Tryd.prog 55 #[va, vb, .int .i64 (n : Int)] w (Makes w (val xs * val ys)) := by
  have LT := hid (show (xs.take n).length = n by simp; omega)
  have LD := hid (show (xs.drop n).length = xs.length - n by simp)
  have LT' := hid (show (ys.take n).length = n by simp; omega)
  have LD' := hid (show (ys.drop n).length = ys.length - n by simp)
  have CX := hid cx
  have CY := hid cy
  have IH' := hid IH
  clear IH cx cy
  go_enter Tryd.func55, Tryd.ntmps55
  go_wp2_with fail
  refine (split_now ha (by omega)).mono ?_
  rintro e w1 ⟨vl, vr, rfl, hl1, hr1, k1⟩
  have b1 := hb.now k1
  have g1 := k1
  clear ha hb k1
  go_wp2_with fail
  refine (split_now b1 (by omega)).mono ?_
  rintro e w2 ⟨ul, ur, rfl, hl2, hr2, k2⟩
  have la2 := hl1.now k2
  have ra2 := hr1.now k2
  have g2 := below_step g1 k2
  clear b1 hl1 hr1 g1 k2
  go_wp2_with fail
  refine (IH'.out _ _ _ _ _ la2 hl2 (by rw [LT.out, LT'.out]; omega) (by rw [LT.out, LT'.out]; omega)).mono ?_
  rintro e w3 ⟨LL, vp, rfl, mp, cLL, VLL, k3⟩
  have la3 := la2.now k3
  have ra3 := ra2.now k3
  have lb3 := hl2.now k3
  have rb3 := hr2.now k3
  have g3 := below_step g2 k3
  replace cLL := hid cLL
  replace VLL := hid VLL
  clear la2 ra2 hl2 hr2 g2 k3
  have ll0 := mp.sl
  clear mp
  have NLL := hid (prod_len (CX.out.1.take n) (CY.out.1.take n) cLL.out VLL.out)
  go_wp2_with fail
  refine (IH'.out _ _ _ _ _ ra3 rb3 (by rw [LD.out, LD'.out]; omega) (by rw [LD.out, LD'.out]; omega)).mono ?_
  rintro e w4 ⟨HH, vq, rfl, mq, cHH, VHH, k4⟩
  have la4 := la3.now k4
  have ra4 := ra3.now k4
  have lb4 := lb3.now k4
  have rb4 := rb3.now k4
  have ll4 := ll0.now k4
  have g4 := below_step g3 k4
  replace cHH := hid cHH
  replace VHH := hid VHH
  clear la3 ra3 lb3 rb3 ll0 g3 k4
  have hh0 := mq.sl
  clear mq
  have NHH := hid (prod_len (CX.out.1.rest n) (CY.out.1.rest n) cHH.out VHH.out)
  go_wp2_with fail
  refine (add_now la4 ra4 (by rw [LT.out]; omega) (by rw [LD.out]; omega)).mono ?_
  rintro e w5 ⟨SA, vsa, rfl, sa0, cSA, VSA, lsa, k5⟩
  have lb5 := lb4.now k5
  have rb5 := rb4.now k5
  have ll5 := ll4.now k5
  have hh5 := hh0.now k5
  have g5 := below_step g4 k5
  replace cSA := hid cSA
  replace VSA := hid VSA
  replace lsa := hid lsa
  clear la4 ra4 lb4 rb4 ll4 hh0 g4 k5
  have NSA : Hid (SA.length ≤ n + 1) := by unfold Hid; have := lsa.out; rw [LT.out, LD.out] at this; omega
  clear lsa
  go_wp2_with fail
  refine (add_now lb5 rb5 (by rw [LT'.out]; omega) (by rw [LD'.out]; omega)).mono ?_
  rintro e w6 ⟨SB, vsb, rfl, sb0, cSB, VSB, lsb, k6⟩
  have ll6 := ll5.now k6
  have hh6 := hh5.now k6
  have sa6 := sa0.now k6
  have g6 := below_step g5 k6
  replace cSB := hid cSB
  replace VSB := hid VSB
  replace lsb := hid lsb
  clear lb5 rb5 ll5 hh5 sa0 g5 k6
  have NSB : Hid (SB.length ≤ n + 1) := by unfold Hid; have := lsb.out; rw [LT'.out, LD'.out] at this; omega
  clear lsb
  go_wp2_with fail
  refine (IH'.out _ _ _ _ _ sa6 sb0 (by have := NSA.out; have := NSB.out; omega) (by have := NSA.out; have := NSB.out; omega)).mono ?_
  rintro e w7 ⟨SS, vss, rfl, ms, cSS, VSS, k7⟩
  have ll7 := ll6.now k7
  have hh7 := hh6.now k7
  have g7 := below_step g6 k7
  replace cSS := hid cSS
  replace VSS := hid VSS
  clear sa6 sb0 ll6 hh6 g6 k7
  have ss0 := ms.sl
  clear ms
  have NSS := hid (prod_len cSA.out.1 cSB.out.1 cSS.out VSS.out)
  go_wp2_with fail
  refine (add_now ll7 hh7 (by have := NLL.out; rw [LT.out, LT'.out] at this; omega) (by have := NHH.out; rw [LD.out, LD'.out] at this; omega)).mono ?_
  rintro e w8 ⟨T, vt, rfl, t0, cT, VT, lt, k8⟩
  have ll8 := ll7.now k8
  have hh8 := hh7.now k8
  have ss8 := ss0.now k8
  have g8 := below_step g7 k8
  replace cT := hid cT
  replace VT := hid VT
  clear ll7 hh7 ss0 g7 k8
  clear lt
  have GE : Hid (val T ≤ val SS) := by unfold Hid; rw [VT.out, VSS.out, VSA.out, VSB.out, VLL.out, VHH.out]; exact cross_nonneg (val_nonneg (CX.out.1.take n)) (val_nonneg (CX.out.1.rest n)) (val_nonneg (CY.out.1.take n)) (val_nonneg (CY.out.1.rest n))
  go_wp2_with fail
  refine (sub_now ss8 t0 GE.out).mono ?_
  rintro e w9 ⟨X, xa, xc, rfl, x0, cXX, VX, lx, k9⟩
  have ll9 := ll8.now k9
  have hh9 := hh8.now k9
  have g9 := below_step g8 k9
  replace cXX := hid cXX
  replace VX := hid VX
  replace lx := hid lx
  clear ss8 t0 ll8 hh8 g8 k9
  have NX : Hid (X.length ≤ n + 1 + (n + 1)) := by unfold Hid; have := lx.out; have := NSS.out; have := NSA.out; have := NSB.out; omega
  clear lx
  go_wp2_with fail
  refine (split_now ll9 (by omega)).mono ?_
  rintro e w10 ⟨wl, wr, rfl, hl9, hr9, k10⟩
  have hh10 := hh9.now k10
  have x10 := x0.now k10
  have g10 := below_step g9 k10
  clear ll9 hh9 x0 g9 k10
  have NC := hid (show (LL.drop n).length ≤ LL.length by simp)
  go_wp2_with fail
  refine (add_now x10 hr9 (by have := NX.out; omega) (by have := NC.out; have := NLL.out; rw [LT.out, LT'.out] at this; omega)).mono ?_
  rintro e w11 ⟨Y, vy, rfl, y0, cYY, VY, ly, k11⟩
  have hh11 := hh10.now k11
  have l11 := hl9.now k11
  have g11 := below_step g10 k11
  replace cYY := hid cYY
  replace VY := hid VY
  replace ly := hid ly
  clear x10 hr9 hh10 hl9 g10 k11
  have NY : Hid (Y.length < 35184372088832) := by unfold Hid; have := ly.out; have := NX.out; have := NC.out; have := NLL.out; rw [LT.out, LT'.out] at this; omega
  clear ly
  go_wp2_with fail
  refine (split_now y0 (by omega)).mono ?_
  rintro e w12 ⟨zl, zr, rfl, hl11, hr11, k12⟩
  have hh12 := hh11.now k12
  have l12 := l11.now k12
  have g12 := below_step g11 k12
  clear y0 hh11 l11 g11 k12
  have ND := hid (show (Y.drop n).length ≤ Y.length by simp)
  go_wp2_with fail
  refine (add_now hh12 hr11 (by have := NHH.out; rw [LD.out, LD'.out] at this; omega) (by have := ND.out; have := NY.out; omega)).mono ?_
  rintro e w13 ⟨Z, vz, rfl, z0, cZ, VZ, lz, k13⟩
  have l13 := l12.now k13
  have m13 := hl11.now k13
  have g13 := below_step g12 k13
  replace cZ := hid cZ
  replace VZ := hid VZ
  clear hh12 hr11 l12 hl11 g12 k13
  clear lz
  have E := hid (four_end CX.out CY.out hn hn' cLL.out VLL.out cHH.out VHH.out VSA.out VSB.out VSS.out VT.out VX.out cYY.out VY.out cZ.out VZ.out)
  have WZ := hid ((cYY.out.1.take n).append (wf_zeros (n - (Y.take n).length)) |>.append cZ.out.1)
  clear cLL VLL cHH VHH VSA VSB VSS VT VX cYY VY cZ VZ cXX cT cSS cSA cSB GE NLL NHH NSA NSB NSS NX NC NY ND CX CY IH' 
  go_wp2_with fail
  refine (glue_any m13 z0 E.out.2.1 (by have := E.out.2.2.1; omega)).mono ?_
  rintro e w14 ⟨rfl, hr, k14⟩
  have l14 := l13.now k14
  have g14 := below_step g13 k14
  have hj := (mine_row (Nat.le_refl _) WZ.out (join_len _ _ E.out.2.1) (by have := E.out.2.2.1; omega) hr).sl
  clear m13 z0 l13 g13 k14 hr
  go_wp2_with fail
  have HJ := glue_any l14 hj E.out.1 (by rw [join_len _ _ E.out.2.1]; have := E.out.2.2.1; omega)
  rw [join_len _ _ E.out.2.1] at HJ
  refine HJ.mono ?_
  rintro e w15 ⟨rfl, hr, k15⟩
  have g15 := below_step g14 k15
  clear HJ hj
  go_wp2
  go_ret
  exact ⟨_, _, rfl, mine_row g14.size E.out.2.2.2.1.1 (by rw [join_len _ _ E.out.1, join_len _ _ E.out.2.1]) (by have := E.out.2.2.1; omega) hr, E.out.2.2.2.1, E.out.2.2.2.2, g15⟩
end Go.Proofs.YtdfnehngffajiabDoor
