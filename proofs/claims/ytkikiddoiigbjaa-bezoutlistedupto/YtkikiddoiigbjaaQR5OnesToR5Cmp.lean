/-
  QR5OnesToR5Cmp: R5Ones, R5Cmp, joined.
-/
import Derived.Test.YtkikiddoiigbjaaQROrderToRDigits
import Derived.Test.YtkikiddoiigbjaaQRWordsToRMul

/- R5Ones -/
namespace Go.Proofs.Ytkikiddoiigbjaa
open Go.RowKit
set_option linter.unusedVariables false

set_option maxHeartbeats 3200000 in
set_option maxRecDepth 100000 in
theorem rleast_z {w : World} {va : Value} {A : Int} {ka : Nat} (ha : Zi w va A ka) (hk : ka ≤ 1099511627776) :
    Calls Try.prog 24 #[va] w (GivesZ w A ka) := by
  have za0 := ha
  obtain ⟨na, xa, aa, ca, rfl, sa, ea, la⟩ := ha
  obtain ⟨W0, hW0⟩ : ∃ W0, (w.alloc (duo (.bool na) (.slice aa xa.length ca))).alloc zbox = W0 := ⟨_, rfl⟩
  obtain ⟨b0, sz0⟩ := alloc2 w (duo (.bool na) (.slice aa xa.length ca)) zbox
  rw [hW0] at b0 sz0
  have pa : Duo W0 (w.heap.size) (.bool na) (.slice aa xa.length ca) := by rw [← hW0]; exact duo_late (duo_at (by simp)) _
  have r0 : Duo W0 (w.heap.size + 1) (.bool false) (.slice none 0 0) := by rw [← hW0]; exact duo_at (by simp)
  have Pa := hid pa
  have ia0 := pa.c0
  have ia1 := pa.c1
  have Za := hid (za0.now b0)
  have Sa := hid (sa.now b0)
  have R0 := hid r0
  have EW := hid hW0
  have G := hid b0
  clear b0 hW0 za0 sa pa r0
  have EV : Hid (iv na xa = A) := by
    unfold Hid
    have hx := Sa.out.1
    exact ea
  clear ea
  have HL : Hid (Calls Try.prog 42 #[.bool na, .slice aa xa.length ca] W0 (GivesZ W0 A xa.length)) := by
    unfold Hid
    have q := rmade (n := na) Sa.out (by omega)
    rw [EV.out] at q
    exact q
  clear EV
  go_enter Try.func24, Try.ntmps24
  go_wp2_with fail
  rw [EW.out]
  clear ia0 ia1
  refine (HL.out).mono ?_
  rintro e w1 ⟨r, rfl, m1, b⟩
  obtain ⟨n1, x1, a1, q1, rfl, -, -, -, -, -⟩ := id m1
  replace R0 := hid (R0.out.step b)
  replace G := hid (below_step G.out b)
  have Z1 := hid (m1.more la)
  clear b m1
  have y00 := R0.out.c0
  have y01 := R0.out.c1
  have f00 := R0.out.fz 0
  have f01 := R0.out.fz 1
  go_wp2
  exact bodyPost_ret (zback Try.results24 (R0.out.set _ _) _ (by rfl)) rfl (gz_end (B := W0.heap.size) Z1.out G.out (by omega) (by omega))

set_option maxHeartbeats 3200000 in
set_option maxRecDepth 100000 in
theorem rmul_z {w : World} {va vb : Value} {A B : Int} {ka kb : Nat} (ha : Zi w va A ka) (hb : Zi w vb B kb) (hk : ka ≤ 1099511627776) (hl : kb ≤ 1099511627776) :
    Calls Try.prog 26 #[va, vb] w (GivesZ w (A * B) (ka + kb)) := by
  have za0 := ha
  obtain ⟨na, xa, aa, ca, rfl, sa, ea, la⟩ := ha
  have zb0 := hb
  obtain ⟨nb, xb, ab, cb, rfl, sb, eb, lb⟩ := hb
  obtain ⟨W0, hW0⟩ : ∃ W0, ((w.alloc (duo (.bool na) (.slice aa xa.length ca))).alloc (duo (.bool nb) (.slice ab xb.length cb))).alloc zbox = W0 := ⟨_, rfl⟩
  obtain ⟨b0, sz0⟩ := alloc3 w (duo (.bool na) (.slice aa xa.length ca)) (duo (.bool nb) (.slice ab xb.length cb)) zbox
  rw [hW0] at b0 sz0
  have pa : Duo W0 (w.heap.size) (.bool na) (.slice aa xa.length ca) := by rw [← hW0]; exact duo_late (duo_late (duo_at (by simp)) _) _
  have pb : Duo W0 (w.heap.size + 1) (.bool nb) (.slice ab xb.length cb) := by rw [← hW0]; exact duo_late (duo_at (by simp)) _
  have r0 : Duo W0 (w.heap.size + 1 + 1) (.bool false) (.slice none 0 0) := by rw [← hW0]; exact duo_at (by simp)
  have Pa := hid pa
  have ia0 := pa.c0
  have ia1 := pa.c1
  have Za := hid (za0.now b0)
  have Sa := hid (sa.now b0)
  have Pb := hid pb
  have ib0 := pb.c0
  have ib1 := pb.c1
  have Zb := hid (zb0.now b0)
  have Sb := hid (sb.now b0)
  have R0 := hid r0
  have EW := hid hW0
  have G := hid b0
  clear b0 hW0 za0 sa pa zb0 sb pb r0
  have HV : Hid (∀ zs, val zs = val xa * val xb → iv (na != nb) zs = A * B) := fun zs e => by
    rw [← ea, ← eb]; cases na <;> cases nb <;> simp [iv, e, Int.mul_neg, Int.neg_mul]
  have HLt := hid (val_mul_lt Sa.out.1 Sb.out.1)
  clear ea eb
  go_enter Try.func26, Try.ntmps26
  go_wp2_with fail
  rw [EW.out]
  clear ia0 ia1 ib0 ib1
  refine (rmul_any Sa.out Sb.out (by omega) (by omega)).mono ?_
  rintro e w1 ⟨zs, r, rfl, ho, hc, hv, b⟩
  obtain ⟨az, cz, rfl⟩ := ho.form
  have hk1 : zs.length ≤ xa.length + xb.length := canon_len hc (by rw [hv]; exact HLt.out)
  have HM := hid ho.sl
  have lw := b.size
  have EV := hid (HV.out zs hv)
  replace Pa := hid (Pa.out.step b)
  have ia0 := Pa.out.c0
  have ia1 := Pa.out.c1
  replace Pb := hid (Pb.out.step b)
  have ib0 := Pb.out.c0
  have ib1 := Pb.out.c1
  replace R0 := hid (R0.out.step b)
  replace G := hid (below_step G.out b)
  clear b ho hc hv HV HLt
  go_wp2_with fail
  clear ia0 ia1 ib0 ib1
  have HL : Hid (Calls Try.prog 42 #[.bool (na != nb), .slice az zs.length cz] w1 (GivesZ w1 (A * B) zs.length)) := by
    unfold Hid
    have q := rmade (n := na != nb) HM.out (by omega)
    rw [EV.out] at q
    exact q
  refine (HL.out).mono ?_
  rintro e w2 ⟨r, rfl, m2, b⟩
  obtain ⟨n2, x2, a2, q2, rfl, -, -, -, -, -⟩ := id m2
  replace R0 := hid (R0.out.step b)
  replace G := hid (below_step G.out b)
  have Z2 := hid ((m2.mono (B' := W0.heap.size) lw).more (l := ka + kb) (by omega))
  clear b m2
  have y00 := R0.out.c0
  have y01 := R0.out.c1
  have f00 := R0.out.fz 0
  have f01 := R0.out.fz 1
  go_wp2
  exact bodyPost_ret (zback Try.results26 (R0.out.set _ _) _ (by rfl)) rfl (gz_end (B := W0.heap.size) Z2.out G.out (by omega) (by omega))

end Go.Proofs.Ytkikiddoiigbjaa

/- R5Cmp -/
namespace Go.Proofs.Ytkikiddoiigbjaa
open Go.RowKit
set_option linter.unusedVariables false

set_option maxHeartbeats 3200000 in
set_option maxRecDepth 100000 in
theorem rsign_z {w : World} {va : Value} {A : Int} {ka : Nat} (ha : Zi w va A ka) (hk : ka ≤ 1099511627776) :
    Calls Try.prog 10 #[va] w (fun e w' => e = .returned (.int .i64 (cmpI A 0)) ∧ Below w.heap.size w w') := by
  have za0 := ha
  obtain ⟨na, xa, aa, ca, rfl, sa, ea, la⟩ := ha
  obtain ⟨W0, hW0⟩ : ∃ W0, w.alloc (duo (.bool na) (.slice aa xa.length ca)) = W0 := ⟨_, rfl⟩
  obtain ⟨b0, sz0⟩ := alloc1 w (duo (.bool na) (.slice aa xa.length ca))
  rw [hW0] at b0 sz0
  have pa : Duo W0 (w.heap.size) (.bool na) (.slice aa xa.length ca) := by rw [← hW0]; exact duo_at (by simp)
  have Pa := hid pa
  have ia0 := pa.c0
  have ia1 := pa.c1
  have Za := hid (za0.now b0)
  have Sa := hid (sa.now b0)
  have EW := hid hW0
  have G := hid b0
  clear b0 hW0 za0 sa pa 
  clear ea
  have key : Hid (∀ n (xs : List Int), Canon xs → (xs = [] → n = false) → iv n xs = A → (n = true ∧ cmpI A 0 = -1) ∨ (n = false ∧ (0 : Int) < xs.length ∧ cmpI A 0 = 1) ∨ (n = false ∧ ¬ (0 : Int) < xs.length ∧ cmpI A 0 = 0)) := fun n xs hc hn e => by
    have hv := val_nonneg hc.1
    have h0 : xs ≠ [] → val xs ≠ 0 := fun q e => q (canon_zero hc e)
    cases n
    · rw [iv_pos] at e
      by_cases q : xs = []
      · subst q; exact .inr (.inr ⟨rfl, by simp, by rw [← e]; simp [val, cmpI]⟩)
      · have := h0 q
        exact .inr (.inl ⟨rfl, by have := List.length_pos_iff.2 q; omega, cmpI_gt (by omega)⟩)
    · rw [iv_neg] at e
      by_cases q : xs = []
      · exact absurd (hn q) (by simp)
      · have := h0 q
        exact .inl ⟨rfl, cmpI_lt (by omega)⟩
  go_enter Try.func10, Try.ntmps10
  go_wp2_with fail
  rw [EW.out]
  clear ia0 ia1
  refine (rleast_z Za.out hk).mono ?_
  rintro e w1 ⟨r, rfl, m1, b⟩
  obtain ⟨n1, x1, a1, q1, rfl, -, t1, t2, t3, -⟩ := m1
  have KK := hid (key.out n1 x1 t1 t2 t3)
  have B1 := hid (below_step (below_step G.out b) (alloc1 w1 (duo (.bool n1) (.slice a1 x1.length q1))).1)
  clear b t1 t2 t3 key
  rcases KK.out with ⟨rfl, e⟩ | ⟨rfl, hp, e⟩ | ⟨rfl, hp, e⟩
  all_goals
    have HE := hid e
    clear e KK
    go_wp2
    go_ret
    exact ⟨by rw [HE.out]; rfl, B1.out⟩

set_option maxHeartbeats 3200000 in
set_option maxRecDepth 100000 in
theorem rcmpAbs_z {w : World} {va vb : Value} {A B : Int} {ka kb : Nat} (ha : Zi w va A ka) (hb : Zi w vb B kb) (hk : ka ≤ 1099511627776) (hl : kb ≤ 1099511627776) :
    Calls Try.prog 34 #[va, vb] w (fun e w' => e = .returned (.int .i64 (cmpI (A.natAbs : Int) (B.natAbs : Int))) ∧ Below w.heap.size w w') := by
  have za0 := ha
  obtain ⟨na, xa, aa, ca, rfl, sa, ea, la⟩ := ha
  have zb0 := hb
  obtain ⟨nb, xb, ab, cb, rfl, sb, eb, lb⟩ := hb
  obtain ⟨W0, hW0⟩ : ∃ W0, (w.alloc (duo (.bool na) (.slice aa xa.length ca))).alloc (duo (.bool nb) (.slice ab xb.length cb)) = W0 := ⟨_, rfl⟩
  obtain ⟨b0, sz0⟩ := alloc2 w (duo (.bool na) (.slice aa xa.length ca)) (duo (.bool nb) (.slice ab xb.length cb))
  rw [hW0] at b0 sz0
  have pa : Duo W0 (w.heap.size) (.bool na) (.slice aa xa.length ca) := by rw [← hW0]; exact duo_late (duo_at (by simp)) _
  have pb : Duo W0 (w.heap.size + 1) (.bool nb) (.slice ab xb.length cb) := by rw [← hW0]; exact duo_at (by simp)
  have Pa := hid pa
  have ia0 := pa.c0
  have ia1 := pa.c1
  have Za := hid (za0.now b0)
  have Sa := hid (sa.now b0)
  have Pb := hid pb
  have ib0 := pb.c0
  have ib1 := pb.c1
  have Zb := hid (zb0.now b0)
  have Sb := hid (sb.now b0)
  have EW := hid hW0
  have G := hid b0
  clear b0 hW0 za0 sa pa zb0 sb pb 
  have HC := hid (rcmp_any Sa.out Sb.out (by omega) (by omega))
  have ga := iv_abs Sa.out.1 ea
  have gb := iv_abs Sb.out.1 eb
  rw [ga, gb] at HC
  clear ga gb
  clear ea eb
  generalize cmpI (A.natAbs : Int) (B.natAbs : Int) = C at *
  go_enter Try.func34, Try.ntmps34
  go_wp2_with fail
  rw [EW.out]
  clear ia0 ia1 ib0 ib1
  refine HC.out.mono ?_
  rintro e w1 ⟨rfl, b⟩
  have B1 := hid (below_step G.out b)
  clear b HC
  go_wp2
  go_ret
  exact ⟨rfl, B1.out⟩

set_option maxHeartbeats 3200000 in
set_option maxRecDepth 100000 in
theorem rcmp_z {w : World} {va vb : Value} {A B : Int} {ka kb : Nat} (ha : Zi w va A ka) (hb : Zi w vb B kb) (hk : ka ≤ 1099511627776) (hl : kb ≤ 1099511627776) :
    Calls Try.prog 28 #[va, vb] w (fun e w' => e = .returned (.int .i64 (cmpI A B)) ∧ Below w.heap.size w w') := by
  have za0 := ha
  obtain ⟨na, xa, aa, ca, rfl, sa, ea, la⟩ := ha
  have zb0 := hb
  obtain ⟨nb, xb, ab, cb, rfl, sb, eb, lb⟩ := hb
  obtain ⟨W0, hW0⟩ : ∃ W0, (w.alloc (duo (.bool na) (.slice aa xa.length ca))).alloc (duo (.bool nb) (.slice ab xb.length cb)) = W0 := ⟨_, rfl⟩
  obtain ⟨b0, sz0⟩ := alloc2 w (duo (.bool na) (.slice aa xa.length ca)) (duo (.bool nb) (.slice ab xb.length cb))
  rw [hW0] at b0 sz0
  have pa : Duo W0 (w.heap.size) (.bool na) (.slice aa xa.length ca) := by rw [← hW0]; exact duo_late (duo_at (by simp)) _
  have pb : Duo W0 (w.heap.size + 1) (.bool nb) (.slice ab xb.length cb) := by rw [← hW0]; exact duo_at (by simp)
  have Pa := hid pa
  have ia0 := pa.c0
  have ia1 := pa.c1
  have Za := hid (za0.now b0)
  have Sa := hid (sa.now b0)
  have Pb := hid pb
  have ib0 := pb.c0
  have ib1 := pb.c1
  have Zb := hid (zb0.now b0)
  have Sb := hid (sb.now b0)
  have EW := hid hW0
  have G := hid b0
  clear b0 hW0 za0 sa pa zb0 sb pb 
  clear ea eb
  have H1 : Hid (∀ w', Below W0.heap.size W0 w' → _) := fun w' h => rsign_z (Za.out.now h) hk
  have H2 : Hid (∀ w', Below W0.heap.size W0 w' → _) := fun w' h => rsign_z (Zb.out.now h) hl
  have H3 : Hid (∀ w', Below W0.heap.size W0 w' → _) := fun w' h => rcmpAbs_z (Za.out.now h) (Zb.out.now h) hk hl
  have bd := cmpI_bound A 0
  have bd2 := cmpI_bound (A.natAbs : Int) (B.natAbs : Int)
  have HS : Hid ((cmpI A 0 = cmpI B 0 → cmpI A 0 * cmpI (A.natAbs : Int) (B.natAbs : Int) = cmpI A B) ∧ (cmpI A 0 < cmpI B 0 → cmpI A B = -1) ∧ (cmpI B 0 < cmpI A 0 → cmpI A B = 1)) := by
    unfold Hid cmpI
    refine ⟨?_, ?_, ?_⟩ <;> intro h <;> (repeat' split at h) <;> (repeat' split) <;> omega
  generalize cmpI A 0 = S at *
  generalize cmpI B 0 = T at *
  generalize cmpI (A.natAbs : Int) (B.natAbs : Int) = U at *
  generalize cmpI A B = R at *
  go_enter Try.func28, Try.ntmps28
  go_wp2_with fail
  rw [EW.out]
  clear ia0 ia1 ib0 ib1
  refine (H1.out W0 (Below.refl _ _)).mono ?_
  rintro e w1 ⟨rfl, b⟩
  have B1 := hid b
  replace Pa := hid (Pa.out.step b)
  have ia0 := Pa.out.c0
  have ia1 := Pa.out.c1
  replace Pb := hid (Pb.out.step b)
  have ib0 := Pb.out.c0
  have ib1 := Pb.out.c1
  replace G := hid (below_step G.out b)
  clear b
  go_wp2_with fail
  clear ia0 ia1 ib0 ib1
  refine (H2.out w1 B1.out).mono ?_
  rintro e w2 ⟨rfl, b⟩
  have B2 := hid (below_step B1.out b)
  replace Pa := hid (Pa.out.step b)
  have ia0 := Pa.out.c0
  have ia1 := Pa.out.c1
  replace Pb := hid (Pb.out.step b)
  have ib0 := Pb.out.c0
  have ib1 := Pb.out.c1
  replace G := hid (below_step G.out b)
  clear b
  rcases (show S = T ∨ S < T ∨ T < S by omega) with h | h | h
  · have hne : (S != T) = false := by simp [h]
    have HR := hid (HS.out.1 h)
    have hm : IntKind.i64.wrap (S * U) = R := by
      rw [HR.out, wrap_is] <;> rw [← HR.out]
      all_goals (obtain ⟨q1, q2⟩ := bd; obtain ⟨q3, q4⟩ := bd2; rcases (show S = -1 ∨ S = 0 ∨ S = 1 by omega) with e | e | e <;> rw [e] <;> omega)
    clear h HS
    go_wp2_with fail
    clear ia0 ia1 ib0 ib1
    refine (H3.out w2 B2.out).mono ?_
    rintro e w3 ⟨rfl, b⟩
    have B3 := hid (below_step G.out b)
    clear b
    go_wp2
    go_ret
    exact ⟨by first | rfl | rw [hm], B3.out⟩
  · have hne : (S != T) = true := by simp; omega
    have HR := hid (HS.out.2.1 h)
    clear HS
    go_wp2
    go_ret
    exact ⟨by rw [HR.out]; rfl, G.out⟩
  · have hne : (S != T) = true := by simp; omega
    have h' : ¬ S < T := by omega
    have HR := hid (HS.out.2.2 h)
    clear HS
    go_wp2
    go_ret
    exact ⟨by rw [HR.out]; rfl, G.out⟩

end Go.Proofs.Ytkikiddoiigbjaa
