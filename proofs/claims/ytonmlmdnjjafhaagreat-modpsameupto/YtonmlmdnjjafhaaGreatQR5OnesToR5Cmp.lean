/-
  QR5OnesToR5Cmp: R5Ones, R5Cmp, joined.
-/
import Derived.Test.YtonmlmdnjjafhaaGreatQROrderToRDigits
import Derived.Test.YtonmlmdnjjafhaaGreatQRWordsToRMul

/- R5Ones -/
namespace Go.Proofs.YtonmlmdnjjafhaaGreat
open Go.RowKit
set_option linter.unusedVariables false

set_option maxHeartbeats 3200000 in
set_option maxRecDepth 100000 in
theorem rleast_z {w : World} {va : Value} {A : Int} {ka : Nat} (ha : Zi w va A ka) (hk : ka ≤ 1099511627776) :
    Calls Tryz.prog 43 #[va] w (GivesZ w A ka) := by
  have za0 := ha
  obtain ⟨na, xa, aa, ca, rfl, sa, ea, la⟩ := ha
  obtain ⟨W0, hW0⟩ : ∃ W0, (w.alloc (duo (.bool na) (.slice aa xa.length ca))).alloc zbox = W0 := ⟨_, rfl⟩
  obtain ⟨b0, sz0⟩ := alloc2 w (duo (.bool na) (.slice aa xa.length ca)) zbox
  rw [hW0] at b0 sz0
  have pa : Duo W0 (w.heap.size) (.bool na) (.slice aa xa.length ca) := by rw [← hW0]; exact duo_late (duo_at (by simp)) _
  have r0 : Duo W0 (w.heap.size + 1) (.bool false) (.slice none 0 0) := by rw [← hW0]; exact duo_at (by simp)
  have Pa := hid pa
  have ia0 := pa.c0
  have ia1 := pa.c1
  have Za := hid (za0.now b0)
  have Sa := hid (sa.now b0)
  have R0 := hid r0
  have EW := hid hW0
  have G := hid b0
  clear b0 hW0 za0 sa pa r0
  have EV : Hid (iv na xa = A) := by
    unfold Hid
    have hx := Sa.out.1
    exact ea
  clear ea
  have HL : Hid (Calls Tryz.prog 65 #[.bool na, .slice aa xa.length ca] W0 (GivesZ W0 A xa.length)) := by
    unfold Hid
    have q := rmade (n := na) Sa.out (by omega)
    rw [EV.out] at q
    exact q
  clear EV
  go_enter Tryz.func43, Tryz.ntmps43
  go_wp2_with fail
  rw [EW.out]
  clear ia0 ia1
  refine (HL.out).mono ?_
  rintro e w1 ⟨r, rfl, m1, b⟩
  obtain ⟨n1, x1, a1, q1, rfl, -, -, -, -, -⟩ := id m1
  replace R0 := hid (R0.out.step b)
  replace G := hid (below_step G.out b)
  have Z1 := hid (m1.more la)
  clear b m1
  have y00 := R0.out.c0
  have y01 := R0.out.c1
  have f00 := R0.out.fz 0
  have f01 := R0.out.fz 1
  go_wp2
  exact bodyPost_ret (zback Tryz.results43 (R0.out.set _ _) _ (by rfl)) rfl (gz_end (B := W0.heap.size) Z1.out G.out (by omega) (by omega))

set_option maxHeartbeats 3200000 in
set_option maxRecDepth 100000 in
theorem rabs_z {w : World} {va : Value} {A : Int} {ka : Nat} (ha : Zi w va A ka) (hk : ka ≤ 1099511627776) :
    Calls Tryz.prog 91 #[va] w (GivesZ w (A.natAbs : Int) ka) := by
  have za0 := ha
  obtain ⟨na, xa, aa, ca, rfl, sa, ea, la⟩ := ha
  obtain ⟨W0, hW0⟩ : ∃ W0, (w.alloc (duo (.bool na) (.slice aa xa.length ca))).alloc zbox = W0 := ⟨_, rfl⟩
  obtain ⟨b0, sz0⟩ := alloc2 w (duo (.bool na) (.slice aa xa.length ca)) zbox
  rw [hW0] at b0 sz0
  have pa : Duo W0 (w.heap.size) (.bool na) (.slice aa xa.length ca) := by rw [← hW0]; exact duo_late (duo_at (by simp)) _
  have r0 : Duo W0 (w.heap.size + 1) (.bool false) (.slice none 0 0) := by rw [← hW0]; exact duo_at (by simp)
  have Pa := hid pa
  have ia0 := pa.c0
  have ia1 := pa.c1
  have Za := hid (za0.now b0)
  have Sa := hid (sa.now b0)
  have R0 := hid r0
  have EW := hid hW0
  have G := hid b0
  clear b0 hW0 za0 sa pa r0
  have EV : Hid (iv false xa = (A.natAbs : Int)) := by
    unfold Hid
    have hx := Sa.out.1
    rw [iv_pos]; exact iv_abs hx ea
  clear ea
  have HL : Hid (Calls Tryz.prog 65 #[.bool false, .slice aa xa.length ca] W0 (GivesZ W0 (A.natAbs : Int) xa.length)) := by
    unfold Hid
    have q := rmade (n := false) Sa.out (by omega)
    rw [EV.out] at q
    exact q
  clear EV
  go_enter Tryz.func91, Tryz.ntmps91
  go_wp2_with fail
  rw [EW.out]
  clear ia0 ia1
  refine (HL.out).mono ?_
  rintro e w1 ⟨r, rfl, m1, b⟩
  obtain ⟨n1, x1, a1, q1, rfl, -, -, -, -, -⟩ := id m1
  replace R0 := hid (R0.out.step b)
  replace G := hid (below_step G.out b)
  have Z1 := hid (m1.more la)
  clear b m1
  have y00 := R0.out.c0
  have y01 := R0.out.c1
  have f00 := R0.out.fz 0
  have f01 := R0.out.fz 1
  go_wp2
  exact bodyPost_ret (zback Tryz.results91 (R0.out.set _ _) _ (by rfl)) rfl (gz_end (B := W0.heap.size) Z1.out G.out (by omega) (by omega))

set_option maxHeartbeats 3200000 in
set_option maxRecDepth 100000 in
theorem rof_z {n : Int} (h0 : -9223372036854775808 ≤ n) (h1 : n ≤ 9223372036854775807) (w : World) :
    Calls Tryz.prog 90 #[.int .i64 n] w (GivesZ w n 1) := by
  by_cases hn : n < 0
  · skip
    obtain ⟨x, hx⟩ : ∃ x, (-n) = x := ⟨_, rfl⟩
    have bx : 0 ≤ x ∧ x ≤ 18446744073709551615 := by omega
    have e1 : IntKind.u64.wrap (wrap64 (-n)) = x := by rw [IntKind.wrap_u64]; unfold wrap64; omega
    have EV : iv true [x] = n := by simp [iv, val]; omega
    obtain ⟨W0, hW0⟩ : ∃ W0, (w.alloc zbox).alloc (.cells #[.int .u64 x] 25) = W0 := ⟨_, rfl⟩
    obtain ⟨b0, sz0⟩ := alloc2 w zbox (.cells #[.int .u64 x] 25)
    rw [hW0] at b0 sz0
    have r0 : Duo W0 w.heap.size (.bool false) (.slice none 0 0) := by rw [← hW0]; exact duo_late (duo_at rfl) _
    have hs : Sl W0.heap.size W0 (.slice (some ⟨w.heap.size + 1, 0, none⟩) 1 1) [x] := by
      have := word_one (w.alloc zbox) x bx
      rw [hW0] at this
      simpa using this
    have HL := hid (rmade (n := true) (xs := [x]) hs (by simp))
    rw [EV] at HL
    have R0 := hid r0
    have EW := hid hW0
    have G := hid b0
    have EX := hid hx
    clear hs r0 hW0 b0 bx EV hx
    go_enter Tryz.func90, Tryz.ntmps90
    go_wp2_with fail
    rw [EW.out]
    refine HL.out.mono ?_
    rintro e w1 ⟨r, rfl, m1, b⟩
    obtain ⟨n1, x1, a1, q1, rfl, -, -, -, -, -⟩ := id m1
    replace R0 := hid (R0.out.step b)
    replace G := hid (below_step G.out b)
    have Z1 := hid m1
    clear b m1
    have y00 := R0.out.c0
    have y01 := R0.out.c1
    have f00 := R0.out.fz 0
    have f01 := R0.out.fz 1
    go_wp2
    exact bodyPost_ret (zback Tryz.results90 (R0.out.set _ _) _ (by rfl)) rfl (gz_end (B := W0.heap.size) Z1.out G.out (by omega) (by omega))
  · skip
    have hn' : ¬ n < 0 := hn
    obtain ⟨x, hx⟩ : ∃ x, n = x := ⟨_, rfl⟩
    have bx : 0 ≤ x ∧ x ≤ 18446744073709551615 := by omega
    have e1 : IntKind.u64.wrap n = x := by rw [IntKind.wrap_u64]; omega
    have EV : iv false [x] = n := by simp [iv, val]; omega
    obtain ⟨W0, hW0⟩ : ∃ W0, (w.alloc zbox).alloc (.cells #[.int .u64 x] 25) = W0 := ⟨_, rfl⟩
    obtain ⟨b0, sz0⟩ := alloc2 w zbox (.cells #[.int .u64 x] 25)
    rw [hW0] at b0 sz0
    have r0 : Duo W0 w.heap.size (.bool false) (.slice none 0 0) := by rw [← hW0]; exact duo_late (duo_at rfl) _
    have hs : Sl W0.heap.size W0 (.slice (some ⟨w.heap.size + 1, 0, none⟩) 1 1) [x] := by
      have := word_one (w.alloc zbox) x bx
      rw [hW0] at this
      simpa using this
    have HL := hid (rmade (n := false) (xs := [x]) hs (by simp))
    rw [EV] at HL
    have R0 := hid r0
    have EW := hid hW0
    have G := hid b0
    have EX := hid hx
    clear hs r0 hW0 b0 bx EV hx
    go_enter Tryz.func90, Tryz.ntmps90
    go_wp2_with fail
    rw [EW.out]
    refine HL.out.mono ?_
    rintro e w1 ⟨r, rfl, m1, b⟩
    obtain ⟨n1, x1, a1, q1, rfl, -, -, -, -, -⟩ := id m1
    replace R0 := hid (R0.out.step b)
    replace G := hid (below_step G.out b)
    have Z1 := hid m1
    clear b m1
    have y00 := R0.out.c0
    have y01 := R0.out.c1
    have f00 := R0.out.fz 0
    have f01 := R0.out.fz 1
    go_wp2
    exact bodyPost_ret (zback Tryz.results90 (R0.out.set _ _) _ (by rfl)) rfl (gz_end (B := W0.heap.size) Z1.out G.out (by omega) (by omega))

set_option maxHeartbeats 3200000 in
set_option maxRecDepth 100000 in
theorem rmul_z {w : World} {va vb : Value} {A B : Int} {ka kb : Nat} (ha : Zi w va A ka) (hb : Zi w vb B kb) (hk : ka ≤ 1099511627776) (hl : kb ≤ 1099511627776) :
    Calls Tryz.prog 69 #[va, vb] w (GivesZ w (A * B) (ka + kb)) := by
  have za0 := ha
  obtain ⟨na, xa, aa, ca, rfl, sa, ea, la⟩ := ha
  have zb0 := hb
  obtain ⟨nb, xb, ab, cb, rfl, sb, eb, lb⟩ := hb
  obtain ⟨W0, hW0⟩ : ∃ W0, ((w.alloc (duo (.bool na) (.slice aa xa.length ca))).alloc (duo (.bool nb) (.slice ab xb.length cb))).alloc zbox = W0 := ⟨_, rfl⟩
  obtain ⟨b0, sz0⟩ := alloc3 w (duo (.bool na) (.slice aa xa.length ca)) (duo (.bool nb) (.slice ab xb.length cb)) zbox
  rw [hW0] at b0 sz0
  have pa : Duo W0 (w.heap.size) (.bool na) (.slice aa xa.length ca) := by rw [← hW0]; exact duo_late (duo_late (duo_at (by simp)) _) _
  have pb : Duo W0 (w.heap.size + 1) (.bool nb) (.slice ab xb.length cb) := by rw [← hW0]; exact duo_late (duo_at (by simp)) _
  have r0 : Duo W0 (w.heap.size + 1 + 1) (.bool false) (.slice none 0 0) := by rw [← hW0]; exact duo_at (by simp)
  have Pa := hid pa
  have ia0 := pa.c0
  have ia1 := pa.c1
  have Za := hid (za0.now b0)
  have Sa := hid (sa.now b0)
  have Pb := hid pb
  have ib0 := pb.c0
  have ib1 := pb.c1
  have Zb := hid (zb0.now b0)
  have Sb := hid (sb.now b0)
  have R0 := hid r0
  have EW := hid hW0
  have G := hid b0
  clear b0 hW0 za0 sa pa zb0 sb pb r0
  have HV : Hid (∀ zs, val zs = val xa * val xb → iv (na != nb) zs = A * B) := fun zs e => by
    rw [← ea, ← eb]; cases na <;> cases nb <;> simp [iv, e, Int.mul_neg, Int.neg_mul]
  have HLt := hid (val_mul_lt Sa.out.1 Sb.out.1)
  clear ea eb
  go_enter Tryz.func69, Tryz.ntmps69
  go_wp2_with fail
  rw [EW.out]
  clear ia0 ia1 ib0 ib1
  refine (rmul_any Sa.out Sb.out (by omega) (by omega)).mono ?_
  rintro e w1 ⟨zs, r, rfl, ho, hc, hv, b⟩
  obtain ⟨az, cz, rfl⟩ := ho.form
  have hk1 : zs.length ≤ xa.length + xb.length := canon_len hc (by rw [hv]; exact HLt.out)
  have HM := hid ho.sl
  have lw := b.size
  have EV := hid (HV.out zs hv)
  replace Pa := hid (Pa.out.step b)
  have ia0 := Pa.out.c0
  have ia1 := Pa.out.c1
  replace Pb := hid (Pb.out.step b)
  have ib0 := Pb.out.c0
  have ib1 := Pb.out.c1
  replace R0 := hid (R0.out.step b)
  replace G := hid (below_step G.out b)
  clear b ho hc hv HV HLt
  go_wp2_with fail
  clear ia0 ia1 ib0 ib1
  have HL : Hid (Calls Tryz.prog 65 #[.bool (na != nb), .slice az zs.length cz] w1 (GivesZ w1 (A * B) zs.length)) := by
    unfold Hid
    have q := rmade (n := na != nb) HM.out (by omega)
    rw [EV.out] at q
    exact q
  refine (HL.out).mono ?_
  rintro e w2 ⟨r, rfl, m2, b⟩
  obtain ⟨n2, x2, a2, q2, rfl, -, -, -, -, -⟩ := id m2
  replace R0 := hid (R0.out.step b)
  replace G := hid (below_step G.out b)
  have Z2 := hid ((m2.mono (B' := W0.heap.size) lw).more (l := ka + kb) (by omega))
  clear b m2
  have y00 := R0.out.c0
  have y01 := R0.out.c1
  have f00 := R0.out.fz 0
  have f01 := R0.out.fz 1
  go_wp2
  exact bodyPost_ret (zback Tryz.results69 (R0.out.set _ _) _ (by rfl)) rfl (gz_end (B := W0.heap.size) Z2.out G.out (by omega) (by omega))

end Go.Proofs.YtonmlmdnjjafhaaGreat

/- R5Cmp -/
namespace Go.Proofs.YtonmlmdnjjafhaaGreat
open Go.RowKit
set_option linter.unusedVariables false

set_option maxHeartbeats 3200000 in
set_option maxRecDepth 100000 in
theorem rsign_z {w : World} {va : Value} {A : Int} {ka : Nat} (ha : Zi w va A ka) (hk : ka ≤ 1099511627776) :
    Calls Tryz.prog 89 #[va] w (fun e w' => e = .returned (.int .i64 (cmpI A 0)) ∧ Below w.heap.size w w') := by
  have za0 := ha
  obtain ⟨na, xa, aa, ca, rfl, sa, ea, la⟩ := ha
  obtain ⟨W0, hW0⟩ : ∃ W0, w.alloc (duo (.bool na) (.slice aa xa.length ca)) = W0 := ⟨_, rfl⟩
  obtain ⟨b0, sz0⟩ := alloc1 w (duo (.bool na) (.slice aa xa.length ca))
  rw [hW0] at b0 sz0
  have pa : Duo W0 (w.heap.size) (.bool na) (.slice aa xa.length ca) := by rw [← hW0]; exact duo_at (by simp)
  have Pa := hid pa
  have ia0 := pa.c0
  have ia1 := pa.c1
  have Za := hid (za0.now b0)
  have Sa := hid (sa.now b0)
  have EW := hid hW0
  have G := hid b0
  clear b0 hW0 za0 sa pa 
  clear ea
  have key : Hid (∀ n (xs : List Int), Canon xs → (xs = [] → n = false) → iv n xs = A → (n = true ∧ cmpI A 0 = -1) ∨ (n = false ∧ (0 : Int) < xs.length ∧ cmpI A 0 = 1) ∨ (n = false ∧ ¬ (0 : Int) < xs.length ∧ cmpI A 0 = 0)) := fun n xs hc hn e => by
    have hv := val_nonneg hc.1
    have h0 : xs ≠ [] → val xs ≠ 0 := fun q e => q (canon_zero hc e)
    cases n
    · rw [iv_pos] at e
      by_cases q : xs = []
      · subst q; exact .inr (.inr ⟨rfl, by simp, by rw [← e]; simp [val, cmpI]⟩)
      · have := h0 q
        exact .inr (.inl ⟨rfl, by have := List.length_pos_iff.2 q; omega, cmpI_gt (by omega)⟩)
    · rw [iv_neg] at e
      by_cases q : xs = []
      · exact absurd (hn q) (by simp)
      · have := h0 q
        exact .inl ⟨rfl, cmpI_lt (by omega)⟩
  go_enter Tryz.func89, Tryz.ntmps89
  go_wp2_with fail
  rw [EW.out]
  clear ia0 ia1
  refine (rleast_z Za.out hk).mono ?_
  rintro e w1 ⟨r, rfl, m1, b⟩
  obtain ⟨n1, x1, a1, q1, rfl, -, t1, t2, t3, -⟩ := m1
  have KK := hid (key.out n1 x1 t1 t2 t3)
  have B1 := hid (below_step (below_step G.out b) (alloc1 w1 (duo (.bool n1) (.slice a1 x1.length q1))).1)
  clear b t1 t2 t3 key
  rcases KK.out with ⟨rfl, e⟩ | ⟨rfl, hp, e⟩ | ⟨rfl, hp, e⟩
  all_goals
    have HE := hid e
    clear e KK
    go_wp2
    go_ret
    exact ⟨by rw [HE.out]; rfl, B1.out⟩

end Go.Proofs.YtonmlmdnjjafhaaGreat
