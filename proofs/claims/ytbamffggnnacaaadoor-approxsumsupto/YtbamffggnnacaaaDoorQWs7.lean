/-
  Ws7: Ratio; Split.
-/
import Derived.Test.YtbamffggnnacaaaDoorQStepsToExact0
import Derived.Test.YtbamffggnnacaaaDoorQWh7ToZStore
namespace Go.Proofs.YtbamffggnnacaaaDoor
open Go.RowKit
set_option linter.unusedVariables false

theorem qbits_zero (b : Nat) : qbits 0 b = 0 := by
  unfold qbits qsize qplace
  by_cases hf : qfar 0 b
  · rw [if_pos hf, if_pos hf]
    unfold qfar at hf
    have h0 : bitLen 0 = 0 := rfl
    rw [h0] at hf ⊢
    have hu : unitOf 1 (((0 : Nat) : Int) - (bitLen b : Int)) = -1074 := by unfold unitOf; rw [bl_one]; omega
    unfold nbits
    rw [if_neg (by omega), if_neg (by rw [bl_one]; omega), hu]
    unfold rnd
    rw [if_neg (by omega)]
    have h4 : 2 ^ 2 ≤ 2 ^ (-1074 - (((0 : Nat) : Int) - (bitLen b : Int))).toNat := Nat.pow_le_pow_right (by omega) (by omega)
    generalize 2 ^ (-1074 - (((0 : Nat) : Int) - (bitLen b : Int))).toNat = P at *
    rw [Nat.div_eq_of_lt (by omega), Nat.mod_eq_of_lt (by omega), if_neg (by omega)]
    rfl
  · rw [if_neg hf, if_neg hf, Nat.zero_mul, Nat.zero_mod, if_pos rfl, if_pos rfl, Nat.zero_div, nbits_zero]
/-- The word of the float64 nearest to a quotient. -/
def rw7 (A Y : Int) : Nat := fw (decide (A < 0) != decide (Y < 0)) (qbits A.natAbs Y.natAbs)
theorem rw7_iv {n m : Bool} {xs ys : List Int} {A Y : Int} (hx : WF xs) (hy : WF ys) (h : iv n xs = A) (h' : iv m ys = Y) (hY : Y ≠ 0) : fw (n != m) (qbits (vn xs) (vn ys)) = rw7 A Y := by
  have vx := val_vn hx
  have vy := val_vn hy
  have ex : vn xs = A.natAbs := by have := iv_abs hx h; omega
  have ey : vn ys = Y.natAbs := by have := iv_abs hy h'; omega
  unfold rw7
  rw [← ex, ← ey]
  rcases iv_sign hy h' with ⟨q1, q2⟩ | ⟨q1, q2, q3⟩ | ⟨q1, q2, q3⟩
  · exact absurd q2 hY
  · rw [q2, decide_eq_true q3]
    rcases iv_sign hx h with ⟨p1, p2⟩ | ⟨p1, p2, p3⟩ | ⟨p1, p2, p3⟩
    · rw [p1, qbits_zero]; unfold fw; simp
    · rw [p2, decide_eq_true p3]
    · rw [p2, decide_eq_false (by omega)]
  · rw [q2, decide_eq_false (show ¬ Y < 0 by omega)]
    rcases iv_sign hx h with ⟨p1, p2⟩ | ⟨p1, p2, p3⟩ | ⟨p1, p2, p3⟩
    · rw [p1, qbits_zero]; unfold fw; simp
    · rw [p2, decide_eq_true p3]
    · rw [p2, decide_eq_false (by omega)]
theorem qplace_bounds {a b x y : Nat} (hb : bitLen b ≤ y) (ha : bitLen a ≤ x) : -(y : Int) - 1200 ≤ qplace a b ∧ qplace a b ≤ x := by
  unfold qplace
  by_cases hf : qfar a b
  · rw [if_pos hf]; omega
  · rw [if_neg hf]
    have : qplaces a b ≤ 1129 := by unfold qfar at hf; unfold qplaces; omega
    split <;> omega
set_option maxHeartbeats 1600000 in
theorem ratio_z {w : World} {va vb : Value} {A Y : Int} {k l : Nat} (ha : Zi w va A k) (hb : Zi w vb Y l) (hY : Y ≠ 0) (hT : Tab w) (hk : k ≤ 16000) (hl : l ≤ 16000) :
    Calls Tryd.prog 22 #[va, vb] w fun e w' => e = .returned (.tuple #[.float .f64 (rw7 A Y), .int .i64 0]) ∧ Below w.heap.size w w' := by
  have hvb := hb
  obtain ⟨n, xs, a, c, rfl, s0, z0, k0⟩ := ha
  obtain ⟨m, ys, b, d, rfl, s1, z1, l0⟩ := hb
  obtain ⟨W0, hW0⟩ : ∃ W0, (w.alloc (duo (.bool n) (.slice a xs.length c))).alloc (duo (.bool m) (.slice b ys.length d)) = W0 := ⟨_, rfl⟩
  obtain ⟨b0, sz0⟩ := alloc2 w (duo (.bool n) (.slice a xs.length c)) (duo (.bool m) (.slice b ys.length d))
  rw [hW0] at b0 sz0
  have pa : Duo W0 w.heap.size (.bool n) (.slice a xs.length c) := by rw [← hW0]; exact duo_late (duo_at rfl) _
  have pb : Duo W0 (w.heap.size + 1) (.bool m) (.slice b ys.length d) := by rw [← hW0]; exact duo_at (by simp)
  have HS := hid (sign_z (hvb.now b0))
  have hy0 : vn ys ≠ 0 := by
    have h1 := iv_abs s1.1 z1
    have h2 := val_vn s1.1
    omega
  have HQ : Hid (∀ w', Below W0.heap.size W0 w' → Calls Tryd.prog 44 #[.slice a xs.length c, .slice b ys.length d] w' (Quot7 w' (vn xs) (vn ys) (xs.length + 20000))) := fun w' h => quotient_any ((s0.now b0).now h) ((s1.now b0).now h) hy0 (by omega) (by omega)
  have hqb := qplace_bounds (bl_upto (vn_lt s1.1)) (bl_upto (vn_lt s0.1))
  have HN : Hid (∀ (w' : World) (u : Value) (zs : List Int), Below W0.heap.size W0 w' → Sl w'.heap.size w' u zs → vn zs = qsize (vn xs) (vn ys) → zs.length ≤ xs.length + 20000 → Calls Tryd.prog 29 #[.bool (n != m), u, .int .i64 (qplace (vn xs) (vn ys))] w' fun e w'' => e = .returned (.float .f64 (rw7 A Y)) ∧ Below w'.heap.size w' w'') := fun w' u zs h1 h2 h3 h4 => by
    have := nearest_any h2 ((hT.now b0).now h1) (by omega) (n := qplace (vn xs) (vn ys)) (by omega) (by omega) (n != m)
    rw [h3] at this
    have e := rw7_iv s0.1 s1.1 z0 z1 hY
    unfold qbits at e
    rw [e] at this
    exact this
  have q0 : (cmpI Y 0 == 0) = false := by
    rw [beq_eq_false_iff_ne]
    unfold cmpI
    split <;> (try split) <;> omega
  have PA := hid pa
  have PB := hid pb
  have B0 := hid b0
  have i0 := pb.c0
  have i1 := pb.c1
  rw [← hW0] at i0 i1
  have EW := hid hW0
  clear s0 s1 z0 z1 pa pb b0 hW0 hvb hT
  generalize cmpI Y 0 = CY at *
  generalize rw7 A Y = R at *
  unfold Quot7 at HQ
  generalize qsize (vn xs) (vn ys) = QS at *
  generalize qplace (vn xs) (vn ys) = QP at *
  go_enter Tryd.func22, Tryd.ntmps22
  go_wp2_with fail
  rw [EW.out]
  clear EW i0 i1
  refine HS.out.mono ?_
  rintro e w1 ⟨rfl, b1⟩
  have B1 := hid b1
  have a0 := (PA.out.below b1 (by omega)).c0
  have a1 := (PA.out.below b1 (by omega)).c1
  have c0 := (PB.out.below b1 (by omega)).c0
  have c1 := (PB.out.below b1 (by omega)).c1
  clear b1
  go_wp2_with fail
  refine (HQ.out _ B1.out).mono ?_
  rintro e w2 ⟨u, zs, rfl, s2, v2, l2, b2⟩
  have B2 := hid (below_step B1.out b2)
  have HN2 := hid (HN.out w2 u zs B2.out s2 v2 l2)
  clear a0 a1 c0 c1 s2 v2 l2 b2 HN HQ
  have a0 := (PA.out.below B2.out (by omega)).c0
  have c0 := (PB.out.below B2.out (by omega)).c0
  go_wp2_with fail
  refine HN2.out.mono ?_
  rintro e w3 ⟨rfl, b3⟩
  have B3 := hid (below_step B0.out (below_step B2.out b3))
  clear b3 HN2 a0 c0
  go_wp2
  go_ret2
  exact ⟨rfl, B3.out⟩

theorem zback3 {f : Func} {s1 s2 s3 : Nat} (hr : f.results = #[ResultVar.cell s1 24, ResultVar.tmp s2, ResultVar.tmp s3]) {W : World} {b : Nat} {x y d e : Value} (h : Duo W b x y) (tmps : Array Value) (ht : tmps[s1]? = some (.pointer (some ⟨b, 0, none⟩))) (hd : tmps[s2]? = some d) (he : tmps[s3]? = some e) :
    (results f tmps).run Tryd.prog W = .ok (.tuple #[.agg #[x, y], d, e]) W := by
  simp [results, hr, go_sem, ht, hd, he, h.c0, h.c1]
/-- An integer, a number and an error. -/
def GivesZn (E n : Int) (w : World) (q : Int) (k : Nat) (e : Ending) (w' : World) : Prop := ∃ rq, e = .returned (.tuple #[rq, .int .i64 n, .int .i64 E]) ∧ Zm w.heap.size w' rq q k ∧ Below w.heap.size w w'
theorem gzn_end {E n : Int} {w W : World} {B b : Nat} {x y : Value} {q : Int} {k : Nat} (h : Zm B W (.agg #[x, y]) q k) (hW : Below w.heap.size w W) (hb : w.heap.size ≤ b) (hB : b < B) :
    GivesZn E n w q k (.returned (.tuple #[.agg #[x, y], .int .i64 n, .int .i64 E])) ((W.setCell ⟨b, 0, none⟩ x).setCell ⟨b, 1, none⟩ y) :=
  ⟨_, rfl, ((h.setLow hB 0 x).setLow hB 1 y).mono (by omega), (hW.setCell (p := ⟨b, 0, none⟩) hb x).setCell (p := ⟨b, 1, none⟩) hb y⟩
set_option maxHeartbeats 1600000 in
theorem split_not {b : Nat} (h : b < 2 ^ 64) (hf : ¬ Fin7 b) (w : World) :
    Calls Tryd.prog 20 #[.float .f64 b] w (GivesZn 3 0 w 0 0) := by
  obtain ⟨W0, hW0⟩ : ∃ W0, w.alloc zbox = W0 := ⟨_, rfl⟩
  have b0 : Below w.heap.size w W0 := by rw [← hW0]; exact (Below.refl _ _).alloc (Nat.le_refl _) _
  have sz0 : W0.heap.size = w.heap.size + 1 := by rw [← hW0]; simp
  have pR : Duo W0 w.heap.size (.bool false) (.slice none 0 0) := by rw [← hW0]; exact duo_at rfl
  have HF := hid (isFinite_any h W0)
  rw [decide_eq_false hf] at HF
  have r0 := pR.c0
  have r1 := pR.c1
  have f0 := pR.fz 0
  have f1 := pR.fz 1
  have EW := hid hW0
  have B0 := hid b0
  have PR := hid pR
  clear hW0 b0 pR hf
  go_enter Tryd.func20, Tryd.ntmps20
  go_wp2_with fail
  rw [EW.out]
  clear EW
  refine HF.out.mono ?_
  rintro e1 w1 ⟨rfl, rfl⟩
  go_wp2
  exact bodyPost_ret (zback3 Tryd.results20 (PR.out.set _ _) _ (by rfl) (by rfl) (by rfl)) rfl (gzn_end (zm_nil _ _ 0) B0.out (Nat.le_refl _) (show w.heap.size < w1.heap.size by omega))
set_option maxHeartbeats 1600000 in
theorem split_zero {b : Nat} (h : b < 2 ^ 64) (hz : rg b = 0) (w : World) :
    Calls Tryd.prog 20 #[.float .f64 b] w (GivesZn 0 0 w 0 0) := by
  obtain ⟨W0, hW0⟩ : ∃ W0, w.alloc zbox = W0 := ⟨_, rfl⟩
  have b0 : Below w.heap.size w W0 := by rw [← hW0]; exact (Below.refl _ _).alloc (Nat.le_refl _) _
  have sz0 : W0.heap.size = w.heap.size + 1 := by rw [← hW0]; simp
  have pR : Duo W0 w.heap.size (.bool false) (.slice none 0 0) := by rw [← hW0]; exact duo_at rfl
  have HF := hid (isFinite_any h W0)
  rw [decide_eq_true (show Fin7 b by unfold Fin7; omega)] at HF
  have ez : (FloatKind.f64.format.order b 0 == some .eq) = true := by
    show (Ieee.double.order b 0 == some .eq) = true
    rw [order_zero_eq, decide_eq_true hz]
  have r0 := pR.c0
  have r1 := pR.c1
  have f0 := pR.fz 0
  have f1 := pR.fz 1
  have EW := hid hW0
  have B0 := hid b0
  have PR := hid pR
  clear hW0 b0 pR hz
  go_enter Tryd.func20, Tryd.ntmps20
  go_wp2_with fail
  rw [EW.out]
  clear EW
  refine HF.out.mono ?_
  rintro e1 w1 ⟨rfl, rfl⟩
  go_wp2
  exact bodyPost_ret (zback3 Tryd.results20 (PR.out.set _ _) _ (by rfl) (by rfl) (by rfl)) rfl (gzn_end (zm_nil _ _ 0) B0.out (Nat.le_refl _) (show w.heap.size < w1.heap.size by omega))
/-- The rung's form is one. -/
theorem rung_one {r e c e' c' : Nat} (h : r = e * 2 ^ 52 + c) (h' : r = e' * 2 ^ 52 + c') (hc : c < 2 ^ 53) (hc' : c' < 2 ^ 53) (h0 : e = 0 ∨ 2 ^ 52 ≤ c) (h0' : e' = 0 ∨ 2 ^ 52 ≤ c') : e = e' ∧ c = c' := by omega
/-- A finite float64 that is not 0: its odd number and its exponent. -/
structure Spl (b : Nat) (n : Int) (m : Nat) : Prop where
  ex : ∃ e c t j : Nat, rg b = e * 2 ^ 52 + c ∧ c < 2 ^ 53 ∧ (e = 0 ∨ 2 ^ 52 ≤ c) ∧ c = 2 ^ t * (2 * j + 1) ∧ n = (e : Int) - 1074 + t ∧ m = 2 * j + 1 ∧ t ≤ 52 ∧ e ≤ 2045 ∧ fv (rg b) = m * 2 ^ (t + e)
theorem spl_ex {b : Nat} (hf : Fin7 b) (h0 : rg b ≠ 0) : ∃ n m, Spl b n m := by
  obtain ⟨e, c, t, j, h1, h2, h3, h4, h5, h6, h7⟩ := split_form h0 hf
  exact ⟨_, _, e, c, t, j, h1, h2, h3, h4, rfl, rfl, h6, h7, h5⟩
theorem mv_none (m : Nat) (k : Nat) : mv (m * 2 ^ k) (-(k : Int)) = m := by
  rw [mv_shift, show (k : Int) + -(k : Int) = 0 by omega]
  unfold mv
  rw [if_neg (by omega)]
  show m * 2 ^ 0 = m
  rw [Nat.pow_zero, Nat.mul_one]
theorem spl_swn {b m : Nat} {n : Int} (h : Spl b n m) : swn b (-n) = if ng b = true then -(m : Int) else (m : Int) := by
  obtain ⟨e, c, t, j, h1, h2, h3, h4, h5, h6, h7, h8, h9⟩ := h.ex
  unfold swn
  have : mv (fv (rg b)) (-n - 1074) = m := by
    rw [h9, show -n - 1074 = -((t + e : Nat) : Int) by omega]
    exact mv_none m (t + e)
  rw [this]
theorem odd_one {c t j t' : Nat} (h : c = 2 ^ t * (2 * j + 1)) (h' : Odd2 c t') : t' = t := by
  obtain ⟨m, hm⟩ := h'
  have key : ∀ a b x y : Nat, a < b → 2 ^ a * (2 * x + 1) ≠ 2 ^ b * (2 * y + 1) := by
    intro a b x y hab e
    obtain ⟨d, rfl⟩ : ∃ d, b = a + 1 + d := ⟨b - a - 1, by omega⟩
    rw [Nat.pow_add, Nat.pow_succ, Nat.mul_assoc, Nat.mul_assoc] at e
    have := Nat.eq_of_mul_eq_mul_left (Nat.two_pow_pos a) e
    omega
  rcases Nat.lt_trichotomy t t' with q | q | q
  · exact absurd (h.symm.trans hm) (key _ _ _ _ q)
  · exact q.symm
  · exact absurd (hm.symm.trans h) (key _ _ _ _ q)
set_option maxHeartbeats 1600000 in
theorem split_some {b m : Nat} {n : Int} (h : b < 2 ^ 64) (hf : Fin7 b) (h0 : rg b ≠ 0) (hs : Spl b n m) {w : World} (hT : Tab w) :
    Calls Tryd.prog 20 #[.float .f64 b] w (GivesZn 0 n w (if ng b = true then -(m : Int) else (m : Int)) 16386) := by
  obtain ⟨W0, hW0⟩ : ∃ W0, w.alloc zbox = W0 := ⟨_, rfl⟩
  have b0 : Below w.heap.size w W0 := by rw [← hW0]; exact (Below.refl _ _).alloc (Nat.le_refl _) _
  have sz0 : W0.heap.size = w.heap.size + 1 := by rw [← hW0]; simp
  have pR : Duo W0 w.heap.size (.bool false) (.slice none 0 0) := by rw [← hW0]; exact duo_at rfl
  have HF := hid (isFinite_any h W0)
  rw [decide_eq_true hf] at HF
  have ez : (FloatKind.f64.format.order b 0 == some .eq) = false := by
    show (Ieee.double.order b 0 == some .eq) = false
    rw [order_zero_eq, decide_eq_false h0]
  have HP := hid (parts_any h W0)
  obtain ⟨e0, c0, t0, j0, g1, g2, g3, g4, g5, g6, g7, g8, g9⟩ := hs.ex
  have HU : Hid (∀ e c : Nat, c < 2 ^ 53 → rg b = e * 2 ^ 52 + c → (e = 0 ∨ 2 ^ 52 ≤ c) → e = e0 ∧ c = c0) := fun e c q1 q2 q3 => rung_one q2 g1 q1 g2 q3 g3
  have HO : Hid (∀ t', Odd2 c0 t' → t' = t0) := fun t' q => odd_one g4 q
  have HW : Hid (∀ w', Calls Tryd.prog 34 #[.float .f64 b, .int .i64 (-n)] w' (GivesZ w' (if ng b = true then -(m : Int) else (m : Int)) 16386)) := fun w' => by
    have := whole_any h hf (n := -n) (by omega) (by omega) w'
    rw [spl_swn hs] at this
    exact this
  have HC0 : Hid (c0 ≠ 0) := fun e => by rw [e] at g4; have := Nat.two_pow_pos t0; have := Nat.mul_ne_zero (show 2 ^ t0 ≠ 0 by omega) (show 2 * j0 + 1 ≠ 0 by omega); omega
  have HG := hid g5
  have HT := hid (hT.now b0)
  have SZ := hid sz0
  have EW := hid hW0
  have B0 := hid b0
  have PR := hid pR
  clear hW0 b0 pR hf hs g1 g3 g4 g5 g6 g9 hT h0 sz0
  generalize (if ng b = true then -(m : Int) else (m : Int)) = Z at *
  go_enter Tryd.func20, Tryd.ntmps20
  go_wp2_with fail
  rw [EW.out]
  clear EW
  refine HF.out.mono ?_
  rintro e1 w1 ⟨rfl, rfl⟩
  go_wp2_with fail
  refine HP.out.mono ?_
  rintro e1 w2 ⟨e, c, rfl, hw1, hc, hrg, h3, h4, h5⟩
  obtain ⟨rfl, rfl⟩ := HU.out e c hc hrg h3
  have b1 : Below w1.heap.size w1 w2 := by rw [hw1]; exact (Below.refl _ _).alloc (Nat.le_refl _) _
  have s1 := word_one w1 c ⟨by omega, by omega⟩
  rw [← hw1] at s1
  have HTw := hid (twos_any s1 (HT.out.now b1))
  have B1 := hid b1
  clear HP hw1 b1 s1 hrg h3 h4 h hc
  go_wp2_with fail
  refine HTw.out.mono ?_
  rintro e2 w3 ⟨r, rfl, ht, rfl⟩
  rcases ht with ⟨z, _⟩ | ⟨t, rfl, ht⟩
  · exact absurd (show c = 0 by simpa [vn] using z) HC0.out
  obtain rfl : t = t0 := HO.out t (by simpa [vn] using ht)
  have hn : (e : Int) - 1074 + (t : Int) = n := by rw [HG.out]
  clear ht HTw HU HO
  go_wp2_with fail
  refine (HW.out _).mono ?_
  rintro e3 w4 ⟨r3, rfl, m3, b3⟩
  obtain ⟨n3, x3, a3, c3, rfl, -⟩ := id m3
  have B3 := hid (below_step B1.out b3)
  have M3 := hid (m3.mono B1.out.size)
  have P3 := hid (PR.out.below B3.out (by have := SZ.out; omega))
  have r0 := P3.out.c0
  have r1 := P3.out.c1
  have f0 := P3.out.fz 0
  have f1 := P3.out.fz 1
  clear m3 b3
  go_wp2
  exact bodyPost_ret (zback3 Tryd.results20 (P3.out.set _ _) _ (by rfl) (by rfl) (by rfl)) rfl (gzn_end M3.out (below_step B0.out B3.out) (Nat.le_refl _) (by have := SZ.out; omega))
end Go.Proofs.YtbamffggnnacaaaDoor
