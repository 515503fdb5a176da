/-
  QR5DivToRSub: R5Div, RPure, RPow, RSub, joined.
-/
import Derived.Test.YtonmlmdnjjafhaaGreatQR5OnesToR5Cmp
import Derived.Test.YtonmlmdnjjafhaaGreatQExactToRDivMod
import Derived.Deep.RegionHeld3
import Derived.Test.YtonmlmdnjjafhaaGreatQROrderToRDigits

/- R5Div -/
namespace Go.Proofs.YtonmlmdnjjafhaaGreat
open Go.RowKit
set_option linter.unusedVariables false

set_option maxHeartbeats 3200000 in
set_option maxRecDepth 100000 in
theorem rtrunc_none {w : World} {va vb : Value} {A B : Int} {ka kb : Nat} (ha : Zi w va A ka) (hb : Zi w vb B kb) (hB : B = 0) (hl : kb ≤ 1099511627776) :
    Calls Tryz.prog 88 #[va, vb] w (GivesZ2 4 w 0 0 ka ka) := by
  have za0 := ha
  obtain ⟨na, xa, aa, ca, rfl, sa, ea, la⟩ := ha
  have zb0 := hb
  obtain ⟨nb, xb, ab, cb, rfl, sb, eb, lb⟩ := hb
  obtain ⟨W0, hW0⟩ : ∃ W0, (((w.alloc (duo (.bool na) (.slice aa xa.length ca))).alloc (duo (.bool nb) (.slice ab xb.length cb))).alloc zbox).alloc zbox = W0 := ⟨_, rfl⟩
  obtain ⟨b0, sz0⟩ := alloc4 w (duo (.bool na) (.slice aa xa.length ca)) (duo (.bool nb) (.slice ab xb.length cb)) zbox zbox
  rw [hW0] at b0 sz0
  have pa : Duo W0 (w.heap.size) (.bool na) (.slice aa xa.length ca) := by rw [← hW0]; exact duo_late (duo_late (duo_late (duo_at (by simp)) _) _) _
  have pb : Duo W0 (w.heap.size + 1) (.bool nb) (.slice ab xb.length cb) := by rw [← hW0]; exact duo_late (duo_late (duo_at (by simp)) _) _
  have r0 : Duo W0 (w.heap.size + 1 + 1) (.bool false) (.slice none 0 0) := by rw [← hW0]; exact duo_late (duo_at (by simp)) _
  have r1 : Duo W0 (w.heap.size + 1 + 1 + 1) (.bool false) (.slice none 0 0) := by rw [← hW0]; exact duo_at (by simp)
  have Pa := hid pa
  have ia0 := pa.c0
  have ia1 := pa.c1
  have Za := hid (za0.now b0)
  have Sa := hid (sa.now b0)
  have Pb := hid pb
  have ib0 := pb.c0
  have ib1 := pb.c1
  have Zb := hid (zb0.now b0)
  have Sb := hid (sb.now b0)
  have R0 := hid r0
  have R1 := hid r1
  have EW := hid hW0
  have G := hid b0
  clear b0 hW0 za0 sa pa zb0 sb pb r0 r1
  have HD := hid (rdivMod_zero (v := .slice aa xa.length ca) Sb.out ((wid_of_iv Sb.out.1 eb).2 hB) (by omega))
  have q4 : ((4 : Int) != 0) = true := rfl
  clear ea eb hB
  go_enter Tryz.func88, Tryz.ntmps88
  go_wp2_with fail
  rw [EW.out]
  clear ia0 ia1 ib0 ib1
  refine HD.out.mono ?_
  rintro e w1 ⟨rfl, b⟩
  replace R0 := hid (R0.out.step b)
  replace R1 := hid (R1.out.step b)
  replace G := hid (below_step G.out b)
  clear b HD
  have y00 := R0.out.c0
  have y01 := R0.out.c1
  have f00 := R0.out.fz 0
  have f01 := R0.out.fz 1
  have y10 := R1.out.c0
  have y11 := R1.out.c1
  have f10 := R1.out.fz 0
  have f11 := R1.out.fz 1
  go_wp2
  refine bodyPost_ret (zback2 Tryz.results88 ((R0.out.set _ _).box (by omega) _ _) ((R1.out.box (by omega) _ _).set _ _) _ (by rfl) (by rfl) (by rfl)) rfl ?_
  exact ⟨_, _, rfl, zm_nil _ _ _, zm_nil _ _ _, bset (bset (bset (bset G.out (by omega)) (by omega)) (by omega)) (by omega)⟩

set_option maxHeartbeats 3200000 in
set_option maxRecDepth 100000 in
theorem rtrunc_z {w : World} {va vb : Value} {A B : Int} {ka kb : Nat} (ha : Zi w va A ka) (hb : Zi w vb B kb) (hB : B ≠ 0) (hk : ka ≤ 1099511627776) (hl : kb ≤ 1099511627776) :
    Calls Tryz.prog 88 #[va, vb] w (GivesZ2 0 w (A.tdiv B) (A.tmod B) ka ka) := by
  have za0 := ha
  obtain ⟨na, xa, aa, ca, rfl, sa, ea, la⟩ := ha
  have zb0 := hb
  obtain ⟨nb, xb, ab, cb, rfl, sb, eb, lb⟩ := hb
  obtain ⟨W0, hW0⟩ : ∃ W0, (((w.alloc (duo (.bool na) (.slice aa xa.length ca))).alloc (duo (.bool nb) (.slice ab xb.length cb))).alloc zbox).alloc zbox = W0 := ⟨_, rfl⟩
  obtain ⟨b0, sz0⟩ := alloc4 w (duo (.bool na) (.slice aa xa.length ca)) (duo (.bool nb) (.slice ab xb.length cb)) zbox zbox
  rw [hW0] at b0 sz0
  have pa : Duo W0 (w.heap.size) (.bool na) (.slice aa xa.length ca) := by rw [← hW0]; exact duo_late (duo_late (duo_late (duo_at (by simp)) _) _) _
  have pb : Duo W0 (w.heap.size + 1) (.bool nb) (.slice ab xb.length cb) := by rw [← hW0]; exact duo_late (duo_late (duo_at (by simp)) _) _
  have r0 : Duo W0 (w.heap.size + 1 + 1) (.bool false) (.slice none 0 0) := by rw [← hW0]; exact duo_late (duo_at (by simp)) _
  have r1 : Duo W0 (w.heap.size + 1 + 1 + 1) (.bool false) (.slice none 0 0) := by rw [← hW0]; exact duo_at (by simp)
  have Pa := hid pa
  have ia0 := pa.c0
  have ia1 := pa.c1
  have Za := hid (za0.now b0)
  have Sa := hid (sa.now b0)
  have Pb := hid pb
  have ib0 := pb.c0
  have ib1 := pb.c1
  have Zb := hid (zb0.now b0)
  have Sb := hid (sb.now b0)
  have R0 := hid r0
  have R1 := hid r1
  have EW := hid hW0
  have G := hid b0
  clear b0 hW0 za0 sa pa zb0 sb pb r0 r1
  have HD := hid (rdivMod_any Sa.out Sb.out (fun e => hB ((wid_of_iv Sb.out.1 eb).1 e)) (by omega) (by omega))
  have HV : Hid (∀ qs rs, Canon rs → val xa = val xb * val qs + val rs → val rs < val xb → iv (na != nb) qs = A.tdiv B ∧ iv na rs = A.tmod B) := fun qs rs hr h h1 => by
    rw [← ea, ← eb]
    exact div_iv Sa.out.1 hr.1 h h1
  have q0 : ((0 : Int) != 0) = false := rfl
  clear ea eb hB
  go_enter Tryz.func88, Tryz.ntmps88
  go_wp2_with fail
  rw [EW.out]
  clear ia0 ia1 ib0 ib1
  refine HD.out.mono ?_
  rintro e w1 ⟨qs, rs, q, r, rfl, hoq, hor, hcq, hcr, hv, hlt, hlq, hlr, _, b⟩
  obtain ⟨qa, qc, rfl⟩ := hoq.form
  obtain ⟨ra, rc, rfl⟩ := hor.form
  have MQ := hid hoq.sl
  have MR := hid hor.sl
  have HVV := hid (HV.out qs rs hcr hv hlt)
  have lw := b.size
  replace Pa := hid (Pa.out.step b)
  have ia0 := Pa.out.c0
  have ia1 := Pa.out.c1
  replace Pb := hid (Pb.out.step b)
  have ib0 := Pb.out.c0
  have ib1 := Pb.out.c1
  replace R0 := hid (R0.out.step b)
  replace R1 := hid (R1.out.step b)
  replace G := hid (below_step G.out b)
  have KS : Hid (∀ w', Below w1.heap.size w1 w' → w'.cell? ⟨w.heap.size, 0, none⟩ = some (.bool na) ∧ w'.cell? ⟨w.heap.size + 1, 0, none⟩ = some (.bool nb)) := fun w' h => ⟨(Pa.out.step h).c0, (Pb.out.step h).c0⟩
  have H1 : Hid (∀ w', Below w1.heap.size w1 w' → _) := fun w' h => rmade (n := na != nb) (MQ.out.now h) (by omega)
  rw [HVV.out.1] at H1
  have H2 : Hid (∀ w', Below w1.heap.size w1 w' → _) := fun w' h => rmade (n := na) (MR.out.now h) (by omega)
  rw [HVV.out.2] at H2
  clear hoq hor hv hlt b HD HV ia1 ib1
  go_wp2_with fail
  go_region_held3 (fun w' => w'.cell? ⟨w.heap.size, 0, none⟩ = some (.bool na) ∧ w'.cell? ⟨w.heap.size + 1, 0, none⟩ = some (.bool nb))
    (first
      | ((try dsimp only); refine ⟨?_, ?_⟩ <;> with_reducible (repeat (refine box_ne (by omega) ?_)) <;> with_reducible assumption)
      | (refine KS.out _ ?_; repeat (first | with_reducible exact HP3.out | with_reducible exact HP2.out | with_reducible exact Below.refl _ _ | with_reducible apply Below.drew)))
    (first
      | (have _ := HP2; go_at_call 65; refine (H2.out _ (below_step HP2.out (by repeat (first | exact Below.refl _ _ | apply Below.drew)))).mono ?_; rintro e3 w3 ⟨r3, rfl, m3, b3⟩; have HB3 : Hid (Below w2.heap.size w2 w3) := below_step (w0 := w2) (by repeat (first | exact Below.refl _ _ | apply Below.drew)) b3; have HP3 := hid (below_step HP2.out HB3.out); obtain ⟨c30, c31⟩ := KS.out w3 HP3.out; have Z3 := hid m3; obtain ⟨n3, x3, a3, q3, rfl, -, -, -, -, -⟩ := m3; have RA := hid (R0.out.step HP3.out); have RB := hid (R1.out.step HP3.out); have y0 := RA.out.c0; have y1 := RA.out.c1; have y2 := RB.out.c0; have y3 := RB.out.c1; have f0 := RA.out.fz 0; have f1 := RA.out.fz 1; have f2 := RB.out.fz 0; have f3 := RB.out.fz 1)
      | (go_at_call 65; refine (H1.out _ (by repeat (first | exact Below.refl _ _ | apply Below.drew))).mono ?_; rintro e2 w2 ⟨r2, rfl, m2, b2⟩; have HP2 : Hid (Below w1.heap.size w1 w2) := below_step (w0 := w1) (by repeat (first | exact Below.refl _ _ | apply Below.drew)) b2; obtain ⟨c20, c21⟩ := KS.out w2 HP2.out; have Z2 := hid m2; obtain ⟨n2, x2, a2, q2, rfl, -, -, -, -, -⟩ := m2))
  all_goals go_wp2
  all_goals have le2 := HP2.out.size
  all_goals refine bodyPost_ret (zback2 Tryz.results88 ((RA.out.set _ _).box (by omega) _ _) ((RB.out.box (by omega) _ _).set _ _) _ (by rfl) (by rfl) (by rfl)) rfl ?_
  all_goals exact gz2_end (B := W0.heap.size) (((Z2.out.mono (by first | omega | (simp; omega))).now HB3.out).more (by omega)) ((Z3.out.mono (by first | omega | (simp; omega))).more (by omega)) (below_step G.out HP3.out) (by omega) (by omega) (by omega) (by omega)

end Go.Proofs.YtonmlmdnjjafhaaGreat

/- RPure -/
namespace Go.Proofs.YtonmlmdnjjafhaaGreat
open Go.RowKit

theorem dpw_pow : ∀ k, dpw k = ((2 ^ (16 * k) : Nat) : Int)
  | 0 => rfl
  | k + 1 => by rw [dpw, dpw_pow k, show 16 * (k + 1) = 16 + 16 * k by omega, Nat.pow_add]; unfold dwB; omega
theorem dval_dn {X : List Int} (hX : DF X) : ∃ V : Nat, dval X = (V : Int) ∧ V < 2 ^ (16 * X.length) := by
  have h0 := dval_nonneg hX
  have h1 := dval_lt_pw hX
  rw [dpw_pow] at h1
  obtain ⟨V, hV⟩ := Int.eq_ofNat_of_zero_le h0
  exact ⟨V, hV, by rw [hV] at h1; omega⟩
/-- The number of a list of digits taken apart at one of them. -/
theorem at_digit {X : List Int} (hX : DF X) {i : Nat} (h : i < X.length) {V : Nat} (hV : dval X = (V : Int)) : ∃ A C : Nat, A < 2 ^ (16 * i) ∧ V = A + 2 ^ (16 * i) * ((X.getD i 0).toNat + 65536 * C) ∧ dval (X.take i) = (A : Int) ∧ dval (X.drop (i + 1)) = (C : Int) := by
  obtain ⟨A, hA, hA2⟩ := dval_dn (hX.take i)
  rw [List.length_take, Nat.min_eq_left (by omega)] at hA2
  obtain ⟨C, hC, _⟩ := dval_dn (hX.drop (i + 1))
  have hx := dig_get hX i
  have e := dval_append (X.take i) (X.drop i)
  rw [List.take_append_drop, List.length_take, Nat.min_eq_left (by omega), List.drop_eq_getElem_cons h, dval, hA, hC, hV, dpw_pow] at e
  have hg : X.getD i 0 = X[i] := by simp [h]
  rw [← hg] at e
  refine ⟨A, C, hA2, ?_, hA, hC⟩
  generalize X.getD i 0 = x at *
  obtain ⟨x', rfl⟩ := Int.eq_ofNat_of_zero_le hx.1
  unfold dwB at e
  have : ((2 ^ (16 * i) * (x' + 65536 * C) : Nat) : Int) = ((2 ^ (16 * i) : Nat) : Int) * ((x' : Int) + 65536 * (C : Int)) := by rw [Int.natCast_mul]; rfl
  rw [← this] at e
  simp only [Int.toNat_natCast]
  omega
end Go.Proofs.YtonmlmdnjjafhaaGreat

/- RPow -/
namespace Go.Proofs.YtonmlmdnjjafhaaGreat
open Go.RowKit

/-- What the reference's calls with an error answer, where they answer. -/
def Told2 (w : World) (s : Int) (e : Ending) (w' : World) : Prop := ∃ zs r, e = .returned (.tuple #[r, .int .i64 0]) ∧ Own w.heap.size w' r zs ∧ Canon zs ∧ val zs = s ∧ Below w.heap.size w w'

theorem dpw_add : ∀ a b, dpw (a + b) = dpw a * dpw b
  | 0, b => by simp [dpw]
  | a + 1, b => by rw [show a + 1 + b = a + b + 1 by omega, dpw, dpw, dpw_add a b, Int.mul_assoc]
theorem two_split16 (n : Nat) : ((2 ^ n : Nat) : Int) = dpw (n / 16) * ((2 ^ (n % 16) : Nat) : Int) := by
  rw [dpw_pow, ← Int.natCast_mul, ← Nat.pow_add, show 16 * (n / 16) + n % 16 = n by omega]
theorem pow16_le {p : Nat} (hp : p < 16) : 1 ≤ 2 ^ p ∧ 2 ^ p ≤ 32768 := ⟨Nat.two_pow_pos p, Nat.le_trans (Nat.pow_le_pow_right (by omega) (show p ≤ 15 by omega)) (by decide)⟩

theorem ddrop_div {X : List Int} (hX : DF X) {M : Nat} (hM : M ≤ X.length) {V : Nat} (hV : dval X = (V : Int)) : dval (X.drop M) = ((V / 2 ^ (16 * M) : Nat) : Int) := by
  have e := dval_append (X.take M) (X.drop M)
  rw [List.take_append_drop, List.length_take, Nat.min_eq_left hM, dpw_pow] at e
  obtain ⟨A, hA, hA2⟩ := dval_dn (hX.take M)
  rw [List.length_take, Nat.min_eq_left hM] at hA2
  obtain ⟨C, hC, _⟩ := dval_dn (hX.drop M)
  rw [hA, hC, hV] at e
  rw [hC]
  have e2 : V = A + 2 ^ (16 * M) * C := by rw [← Int.natCast_mul] at e; omega
  rw [e2, Nat.add_mul_div_left _ _ (Nat.two_pow_pos _), Nat.div_eq_of_lt hA2]; simp
theorem div_zero_of {V n l : Nat} (h : V < 2 ^ (16 * l)) (hl : l ≤ n / 16) : V / 2 ^ n = 0 :=
  Nat.div_eq_of_lt (Nat.lt_of_lt_of_le h (Nat.pow_le_pow_right (by omega) (by omega)))
theorem div_twoP {V n : Nat} : V / 2 ^ (16 * (n / 16)) / 2 ^ (n % 16) = V / 2 ^ n := by
  rw [Nat.div_div_eq_div_mul, ← Nat.pow_add, show 16 * (n / 16) + n % 16 = n by omega]

end Go.Proofs.YtonmlmdnjjafhaaGreat

/- RSub -/
namespace Go.Proofs.YtonmlmdnjjafhaaGreat
open Go.RowKit

set_option maxHeartbeats 1600000 in
theorem rsub_no {w : World} {v u : Value} {xs ys : List Int} (h : Sl w.heap.size w v xs) (h' : Sl w.heap.size w u ys) (hlen : xs.length ≤ 1099511627776) (hlen' : ys.length ≤ 1099511627776) (hlt : val xs < val ys) :
    Calls Tryz.prog 67 #[v, u] w fun e w' => e = .returned (.tuple #[.slice none 0 0, .int .i64 3]) ∧ Below w.heap.size w w' := by
  have hneg := cmpI_neg hlt
  go_enter Tryz.func67, Tryz.ntmps67
  go_wp2_with fail
  refine (split_any h (by omega)).mono ?_
  rintro e w1 ⟨X, rx, rfl, hs, hcx, hvx, hlx, hb⟩
  have h1 := h'.now hb
  have HVX := hid hvx
  clear hvx h h'
  go_wp2_with fail
  refine (split_any h1 (by omega)).mono ?_
  rintro e w2 ⟨Y, ry, rfl, hsy, hcy, hvy, hly, hb2⟩
  have hsx := hs.now hb2
  have HVY := hid hvy
  have hb12 := hid (below_step hb hb2)
  clear hvy h1 hs hb hb2
  go_wp2_with fail
  refine (rorder_any hsx hsy hcx hcy).mono ?_
  rintro e w3 ⟨rfl, n, rfl⟩
  rw [HVX.out, HVY.out]
  generalize cmpI (val xs) (val ys) = C at *
  clear hsx hsy hcx hcy hlt
  go_wp2
  go_ret2
  exact ⟨rfl, below_drewN hb12.out n⟩

set_option maxHeartbeats 3200000 in
theorem rsub_yes {w : World} {v u : Value} {xs ys : List Int} (h : Sl w.heap.size w v xs) (h' : Sl w.heap.size w u ys) (hlen : xs.length ≤ 1099511627776) (hlen' : ys.length ≤ 1099511627776) (hge : val ys ≤ val xs) :
    Calls Tryz.prog 67 #[v, u] w (Told2 w (val xs - val ys)) := by
  have hneg := cmpI_nonneg hge
  have HGE := hid hge
  go_enter Tryz.func67, Tryz.ntmps67
  go_wp2_with fail
  refine (split_any h (by omega)).mono ?_
  rintro e w1 ⟨X, rx, rfl, hs, hcx, hvx, hlx, hb⟩
  have h1 := h'.now hb
  have HVX := hid hvx
  clear hvx h h'
  go_wp2_with fail
  refine (split_any h1 (by omega)).mono ?_
  rintro e w2 ⟨Y, ry, rfl, hsy, hcy, hvy, hly, hb2⟩
  have hsx := hs.now hb2
  have HVY := hid hvy
  have hb12 := hid (below_step hb hb2)
  clear hvy h1 hs hb hb2
  go_wp2_with fail
  refine (rorder_any hsx hsy hcx hcy).mono ?_
  rintro e w3 ⟨rfl, n3, rfl⟩
  rw [HVX.out, HVY.out]
  generalize cmpI (val xs) (val ys) = C at *
  have hb13 := hid (below_drewN hb12.out n3)
  have hX : SlI (w2.drewN n3).heap.size (w2.drewN n3) rx X := hsx.now (below_drewN (Below.refl _ _) n3)
  have hY : SlI (w2.drewN n3).heap.size (w2.drewN n3) ry Y := hsy.now (below_drewN (Below.refl _ _) n3)
  have HWW : Hid (Y.length ≤ X.length) := by
    unfold Hid
    by_cases q : X.length < Y.length
    · have := dval_wid_lt hcx.1 hcy.1 (by rw [hcx.2, hcy.2]; exact q)
      rw [HVX.out, HVY.out] at this; omega
    · omega
  clear hsx hsy hge hb12
  generalize w2.drewN n3 = w3 at *
  obtain ⟨hxi, ax, capx, rfl, hlcx, hcmx, hmx⟩ := id hX
  obtain ⟨-, ay, capy, rfl, -, -, -⟩ := id hY
  have HM := hid hmx
  have HY := hid hY
  have HCX := hid hcx.1
  have HCY := hid hcy.1
  clear hX hY hcx hcy hmx hxi
  obtain ⟨n, hn⟩ : ∃ n, n = X.length := ⟨_, rfl⟩
  have hn3 : n ≤ 4398046511104 := by omega
  have HZ := hid (zeros_d n)
  rw [← hn] at hlcx
  rw [← hn]
  have HN := hid hn
  clear hn
  go_wp2_with (at_make; refine wpList_make_ints _ rfl _ _ rfl _ _ n n rfl rfl (by omega) (by omega) (Nat.le_refl _) (by omega) ?_)
  intro w4 hrow hb4 hsz4
  have hhs : w3.heap.size < w4.heap.size := by have := hsz4.out; omega
  have HV0 : Hid (dval (List.replicate n 0) - dpw 0 * 0 = dval (X.take 0) - dval (Y.take 0)) := by unfold Hid; rw [HZ.out.2]; simp [dval]
  clear hsz4
  go_wp2_with fail
  go_loopw [9, 10] (fun c i wr => ∃ (k : Nat) (zs : List Int) (cc : Int), k ≤ n ∧ i = .int .i64 k ∧ c = .int .i64 cc ∧ 0 ≤ cc ∧ cc ≤ 1 ∧ Hid (zs.length = n) ∧ Hid (DF zs) ∧ Hid (∀ j (h : j < zs.length), k ≤ j → zs[j] = 0) ∧
      Hid (dval zs - dpw k * cc = dval (X.take k) - dval (Y.take k)) ∧ RowI wr w3.heap.size (wi zs) ∧ Below w3.heap.size w3 wr ∧ w3.heap.size < wr.heap.size) (fun _ i _ => n - (intOf i).toNat)
  case atStart => exact ⟨0, _, 0, Nat.zero_le _, rfl, rfl, by omega, by omega, (by unfold Hid; simp), HZ.out.1, (fun j h _ => by simp), HV0, hrow, hb4, hhs⟩
  case round =>
    clear HV0 hrow hb4 hhs HZ
    obtain ⟨k, zs, cc, hk, rfl, rfl, hc0, hc1, HL, HD, HZ, HV, hr, hb, hhs⟩ := hrel
    by_cases hkn : k < n
    · have hk1 : k < zs.length := by have := HL.out; omega
      have hkX : k < X.length := by have := HN.out; omega
      have hz0 : zs[k] = 0 := HZ.out k hk1 (Nat.le_refl _)
      have hx := dig_get HCX.out k
      have hy := dig_get HCY.out k
      have HTX := hid (dtake_next X k)
      have HTY := hid (dtake_next Y k)
      have HAY := hid (fun q => at_any (HY.out.below (below_drewN hb q)) k)
      rcases HM.out with e | ⟨b, off, rfl, hbg, hc⟩
      · subst e; simp at hkX
      have cx : wr.cell? ⟨b, off + k, none⟩ = some (.int .i64 (X.getD k 0)) := by
        rw [show X.getD k 0 = X[k] by simp [hkX]]
        exact (hb.cell (p := ⟨b, off + k, none⟩) hbg).trans (hc k hkX)
      have cf : wr.frozen? ⟨w3.heap.size, k, none⟩ = false := hr.frozen _
      have c1 : wr.cell? ⟨w3.heap.size, k, none⟩ = some (.int .i64 zs[k]) := RowI.num (r := []) (by simpa using hr) hk1
      generalize X.getD k 0 = x at *
      generalize Y.getD k 0 = y at *
      obtain ⟨hx0, hx1⟩ := hx
      obtain ⟨hy0, hy1⟩ := hy
      have i0 : (0 : Int) ≤ (k : Int) := by omega
      have i1 : (k : Int) < (n : Int) := by omega
      have hwr1 : IntKind.i64.wrap (x - y) = x - y := wrap_is (by omega) (by omega)
      have hwr2 : IntKind.i64.wrap (x - y - cc) = x - y - cc := wrap_is (by omega) (by omega)
      clear hc hkX
      have fin : ∀ (s d : Int), 0 ≤ s → s ≤ 65535 → 0 ≤ d → d ≤ 1 → s - 65536 * d = x - y - cc → ∀ q, (∃ zs' : List Int, Hid (zs'.length = n) ∧ Hid (DF zs') ∧ Hid (∀ j (h : j < zs'.length), k + 1 ≤ j → zs'[j] = 0) ∧
          Hid (dval zs' - dpw (k + 1) * d = dval (X.take (k + 1)) - dval (Y.take (k + 1))) ∧ RowI ((wr.drewN q).setCell ⟨w3.heap.size, k, none⟩ (.int .i64 s)) w3.heap.size (wi zs') ∧ Below w3.heap.size w3 ((wr.drewN q).setCell ⟨w3.heap.size, k, none⟩ (.int .i64 s)) ∧ w3.heap.size < ((wr.drewN q).setCell ⟨w3.heap.size, k, none⟩ (.int .i64 s)).heap.size) := by
        intro s d hs0 hs1 hd0 hd1 he q
        have HR := RowI.setNum (r := []) (by simpa using (show RowI (wr.drewN q) w3.heap.size (wi zs) from hr)) hk1 s
        refine ⟨zs.set k s, ?_, HD.out.set k (by unfold IsD dwB; omega), fun j h hj => ?_, ?_, by simpa using HR, (below_drewN hb q).setCell (p := ⟨w3.heap.size, k, none⟩) (Nat.le_refl _) _, by simpa using hhs⟩
        · unfold Hid; rw [List.length_set]; exact HL.out
        · rw [List.getElem_set_ne (by omega)]; exact HZ.out j (by simpa using h) (by omega)
        · have q1 := dborrow_step (xs := []) (ysT := dval (Y.take k) - dval (X.take k)) (ysT' := dval (Y.take (k + 1)) - dval (X.take (k + 1))) (p := dpw (k + 1)) (y := y - x) (s := s) (d := d) (c := cc) hk1 (by rw [HV.out]; simp [dval]; omega) (by rw [HTX.out, HTY.out, Int.sub_mul]; omega) (by rw [hz0]; unfold dwB; omega) rfl
          unfold Hid; rw [q1]; simp [dval]; omega
      have FIN := hid fin
      clear fin hr hb HL HD HZ HV hhs
      generalize zs[k] = z at *
      by_cases hsn : x - y - cc < 0
      · go_wp2_with fail
        go_quiet ((go_at_call 84; exact Calls.quiet_of_same (HAY.out _)))
        go_wp2
        obtain ⟨zs', f1, f2, f3, f4, f5, f6, f7⟩ := FIN.out (x - y - cc + 65536) 1 (by omega) (by omega) (by omega) (by omega) (by omega) nq
        go_roundw
        case rel => exact ⟨k + 1, zs', 1, by omega, by go_num, rfl, by omega, by omega, f1, f2, f3, f4, f5, f6, f7⟩
        case measure => simp [intOf]; omega
      · go_wp2_with fail
        go_quiet ((go_at_call 84; exact Calls.quiet_of_same (HAY.out _)))
        go_wp2
        obtain ⟨zs', f1, f2, f3, f4, f5, f6, f7⟩ := FIN.out (x - y - cc) 0 (by omega) (by omega) (by omega) (by omega) (by omega) nq
        go_roundw
        case rel => exact ⟨k + 1, zs', 0, by omega, by go_num, rfl, by omega, by omega, f1, f2, f3, f4, f5, f6, f7⟩
        case measure => simp [intOf]; omega
    · obtain rfl : k = n := by omega
      have hv : dval zs - dpw k * cc = dval X - dval Y := by
        have q := HV.out
        rwa [List.take_of_length_le (by have := HN.out; omega), List.take_of_length_le (by have := HN.out; have := HWW.out; omega)] at q
      have hcc : cc = 0 := by
        have h1 := dval_lt_pw HD.out
        rw [HL.out] at h1
        have h2 := HGE.out
        rw [← HVX.out, ← HVY.out] at h2
        by_cases q : cc = 0
        · exact q
        · have : cc = 1 := by omega
          rw [this] at hv; omega
      have HV' : Hid (dval zs = val xs - val ys) := by unfold Hid; rw [hcc] at hv; rw [← HVX.out, ← HVY.out]; omega
      have hsz := RowI.sl (r := []) (by simpa using hr) (ints_of_df HD.out) (cap := k) (by rw [HL.out]; exact Nat.le_refl _) (by omega) hhs
      rw [HL.out] at hsz
      have HJ := hid (join_any hsz HD.out)
      have HBB := hid (below_step hb13.out hb)
      clear hsz hr hb hv hcc HV HL
      go_wp2_with fail
      refine HJ.out.mono ?_
      rintro e w5 ⟨qs, q, rfl, ho, hcz, hvz, hb5⟩
      have HVZ := hid hvz
      clear hvz
      go_wp2
      go_ret2
      exact ⟨qs, q, rfl, ho.from HBB.out.size, hcz, by rw [HVZ.out, HV'.out], below_step HBB.out hb5⟩
end Go.Proofs.YtonmlmdnjjafhaaGreat
