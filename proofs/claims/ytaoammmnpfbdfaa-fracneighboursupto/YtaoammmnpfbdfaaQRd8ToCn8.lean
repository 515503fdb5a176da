/-
  QRd8ToCn8: Rd8, Cn8, joined.
-/
import Derived.Test.YtaoammmnpfbdfaaQLaw8
import Derived.Test.YtaoammmnpfbdfaaQUn8

/- Rd8 -/
namespace Go.Proofs.Ytaoammmnpfbdfaa
open Go.RowKit
set_option linter.unusedVariables false

theorem den_ne (q : Rat) : (q.den : Int) ≠ 0 := by
  have := q.den_pos
  omega
theorem cross_q {q : Rat} {N D : Int} (hD : D ≠ 0) (e : q = Rat.divInt N D) : q.num * D = N * (q.den : Int) := by
  have h : Rat.divInt q.num (q.den : Int) = Rat.divInt N D := (Rat.num_divInt_den q).trans e
  exact (Rat.divInt_eq_divInt_iff (den_ne q) hD).1 h
theorem zi_zero (w : World) (k : Nat) : Zi w (.agg #[.bool false, .slice none 0 0]) 0 k := (zm_nil w.heap.size w k).zi
theorem nz_mul {a b : Int} (ha : a ≠ 0) (hb : b ≠ 0) : a * b ≠ 0 := Int.mul_ne_zero ha hb
theorem fofq {w : World} {vn vd : Value} {N D : Int} {k : Nat} (hn : Zi w vn N k) (hd : Zi w vd D k) (hk : k ≤ 68719476736) (hD : D ≠ 0) {a : Rat} (ea : a = Rat.divInt N D) :
    Calls Try.prog 9 #[vn, vd] w (GivesF w a k) := by
  rw [ea]
  exact fof_z hn hd hk hD
theorem like8q {w : World} {B0 B1 B2 B3 : Nat} {a0 a1 a2 a3 b0 b1 b2 b3 : Value} {p q : Rat} {k l : Nat} (han : Zm B0 w (.agg #[a0, a1]) p.num k) (had : Zm B1 w (.agg #[a2, a3]) (p.den : Int) k) (hbn : Zm B2 w (.agg #[b0, b1]) q.num l) (hbd : Zm B3 w (.agg #[b2, b3]) (q.den : Int) l) (h : p = q) :
    Calls Try.prog 21 #[.agg #[a0, a1, a2, a3], .agg #[b0, b1, b2, b3]] w fun e w' => e = .returned (.bool true) ∧ Below w.heap.size w w' :=
  like8 han.zc had.zc hbn.zc hbd.zc (by rw [h]) (by rw [h])
end Go.Proofs.Ytaoammmnpfbdfaa

/- Cn8 -/
namespace Go.Proofs.Ytaoammmnpfbdfaa
open Go.RowKit
set_option linter.unusedVariables false

theorem cfr_cons (z : Int) (r : List Int) : cfr (z :: r) = (z * (cfr r).1 + (cfr r).2, (cfr r).1) := rfl
theorem cfr_pos : ∀ {r : List Int}, AllPos r → 1 ≤ (cfr r).1 ∧ 0 ≤ (cfr r).2
  | [], _ => by simp [cfr]
  | z :: r, h => by
    have h0 : 1 ≤ z := h 0 (by simp)
    obtain ⟨h1, h2⟩ := cfr_pos (r := r) (fun j hj => h (j + 1) (by simpa using hj))
    rw [cfr_cons]
    have := Int.mul_le_mul h0 h1 (by decide) (by omega)
    exact ⟨by simp only; omega, by simp only; omega⟩
theorem cfr_den : ∀ {zs : List Int}, Fit zs → 1 ≤ (cfr zs).2
  | [], h => by have := h.1; simp at this
  | z :: r, h => by
    rw [cfr_cons]
    exact (cfr_pos (r := r) (fun j hj => h.2 (j + 1) (by simpa using hj) (by omega))).1
theorem cfr_gcd : ∀ zs : List Int, Int.gcd (cfr zs).1 (cfr zs).2 = 1
  | [] => by decide
  | z :: r => by
    rw [cfr_cons]
    have h := cfr_gcd r
    simp only
    rw [Int.gcd_comm] at h
    rw [Int.add_comm, Int.mul_comm]
    rw [show (cfr r).2 + (cfr r).1 * z = (cfr r).2 + z * (cfr r).1 by rw [Int.mul_comm]]
    rw [Int.gcd_add_mul_right_left]
    exact h
/-- Neighbouring beginnings. -/
theorem cfr_cross : ∀ (r : List Int) (x : Int), (cfr (r ++ [x])).1 * (cfr r).2 - (cfr r).1 * (cfr (r ++ [x])).2 = if r.length % 2 = 0 then -1 else 1
  | [], x => by simp [cfr]
  | z :: r, x => by
    have h := cfr_cross r x
    rw [List.cons_append, cfr_cons, cfr_cons]
    simp only [List.length_cons]
    have e : (z * (cfr (r ++ [x])).1 + (cfr (r ++ [x])).2) * (cfr r).1 - (z * (cfr r).1 + (cfr r).2) * (cfr (r ++ [x])).1 = -((cfr (r ++ [x])).1 * (cfr r).2 - (cfr r).1 * (cfr (r ++ [x])).2) := by grind
    rw [e, h]
    by_cases q : r.length % 2 = 0
    · rw [if_pos q, if_neg (by omega)]; rfl
    · rw [if_neg q, if_pos (by omega)]
theorem pw_add8 (a b : Nat) : pw (a + b) = pw a * pw b := by rw [pw_pow, pw_pow, pw_pow, Nat.mul_add, Int.pow_add]
theorem cfr_size : ∀ {zs : List Int} {ks : List Nat}, ks.length = zs.length → (∀ (j : Nat) (z : Int) (k : Nat), zs[j]? = some z → ks[j]? = some k → (z.natAbs : Int) < pw k) → ((cfr zs).1.natAbs : Int) < pw (ksum ks + 1) ∧ ((cfr zs).2.natAbs : Int) < pw (ksum ks + 1)
  | [], [], _, _ => by
    have e : pw (ksum [] + 1) = 18446744073709551616 := rfl
    rw [e]
    decide
  | z :: r, k :: ks, hl, h => by
    obtain ⟨h1, h2⟩ := cfr_size (zs := r) (ks := ks) (by simpa using hl) (fun j z k hz hk => h (j + 1) z k (by simpa using hz) (by simpa using hk))
    have h0 := h 0 z k rfl rfl
    rw [cfr_cons, ksum_cons, Nat.add_assoc, pw_add8]
    have pp := pw_pos k
    generalize pw (ksum ks + 1) = P at *
    generalize pw k = Z at *
    generalize (cfr r).1 = p at *
    generalize (cfr r).2 = q at *
    refine ⟨?_, ?_⟩
    · simp only
      have a1 : ((z * p + q).natAbs : Int) ≤ (z.natAbs : Int) * (p.natAbs : Int) + (q.natAbs : Int) := by
        have := Int.natAbs_add_le (z * p) q
        rw [Int.natAbs_mul] at this
        exact_mod_cast this
      have a2 : (z.natAbs : Int) * (p.natAbs : Int) ≤ (Z - 1) * (P - 1) := Int.mul_le_mul (by omega) (by omega) (by omega) (by omega)
      have a3 : (Z - 1) * (P - 1) + (P - 1) = Z * P - Z := by grind
      omega
    · simp only
      have a1 : P ≤ Z * P := by
        have := Int.mul_le_mul_of_nonneg_right (show 1 ≤ Z by omega) (show 0 ≤ P by omega)
        omega
      omega
theorem Zc.fit {w : World} {v : Value} {z : Int} {k l : Nat} (h : Zc w v z k) (hz : (z.natAbs : Int) < pw l) : Zc w v z l := by
  obtain ⟨n, zs, a, c, h1, h2, h3, h4, h5, h6⟩ := h
  refine ⟨n, zs, a, c, h1, h2, h3, h4, h5, canon_len h3 ?_⟩
  rw [iv_abs h2.1 h5]
  exact hz
/-- In lowest terms, as a rational number. -/
theorem rat_low {p q : Int} (hq : 1 ≤ q) (hg : Int.gcd p q = 1) : (Rat.divInt p q).num = p ∧ ((Rat.divInt p q).den : Int) = q := by
  obtain ⟨-, h1, h2⟩ := divInt_parts (N := p) (D := q) (by omega) (by omega)
  rw [hg] at h1 h2
  simp only [Int.cast_ofNat_Int, Int.tdiv_one] at h1 h2
  exact ⟨h1.symm, h2.symm⟩
/-- What Unchain answers, as a rational number. -/
def UnF (w : World) (zs : List Int) (e : Ending) (w' : World) : Prop := ∃ r0 r1 r2 r3, e = .returned (.tuple #[.agg #[r0, r1, r2, r3], .int .i64 0]) ∧ Zc w' (.agg #[r0, r1]) (Rat.divInt (cfr zs).1 (cfr zs).2).num 1048577 ∧ Zc w' (.agg #[r2, r3]) ((Rat.divInt (cfr zs).1 (cfr zs).2).den : Int) 1048577 ∧ Below w.heap.size w w'
theorem unchain_f {w : World} {v : Value} {zs : List Int} {ks : List Nat} {k : Nat} (hv : Zl w v zs k) (hk : k ≤ 1048576) (hF : Fit zs) (hl : ks.length = zs.length) (hz : ∀ (j : Nat) (z : Int) (k : Nat), zs[j]? = some z → ks[j]? = some k → (z.natAbs : Int) < pw k) (hs : ksum ks ≤ 1048576) : Calls Try.prog 29 #[v] w (UnF w zs) := by
  refine (unchain_yes hv hF hk).mono ?_
  rintro e w' ⟨r0, r1, r2, r3, rfl, z1, z2, b⟩
  obtain ⟨e1, e2⟩ := rat_low (cfr_den hF) (cfr_gcd zs)
  obtain ⟨s1, s2⟩ := cfr_size hl hz
  have up : pw (ksum ks + 1) ≤ pw 1048577 := pw_up (by omega)
  exact ⟨r0, r1, r2, r3, rfl, by rw [e1]; exact z1.fit (Int.lt_of_lt_of_le s1 up), by rw [e2]; exact z2.fit (Int.lt_of_lt_of_le s2 up), b⟩
set_option maxHeartbeats 3200000 in
set_option maxRecDepth 100000 in
theorem unchain_no {w : World} {v : Value} {zs : List Int} {k : Nat} (hv : Zl w v zs k) (hF : ¬ Fit zs) : Calls Try.prog 29 #[v] w (GivesFE 3 w) := by
  obtain ⟨W0, hW⟩ : ∃ W0, w.alloc (.cells #[.bool false, .slice none 0 0, .bool false, .slice none 0 0] 26) = W0 := ⟨_, rfl⟩
  obtain ⟨b0, sz0⟩ := alloc1 w (.cells #[.bool false, .slice none 0 0, .bool false, .slice none 0 0] 26)
  rw [hW] at b0 sz0
  have PR : Hid (Cel W0 w.heap.size 26 [.bool false, .slice none 0 0, .bool false, .slice none 0 0]) := by unfold Hid; rw [← hW]; exact cel_at rfl
  have HC := hid (isChain8 (hv.now b0))
  have G := hid b0
  have EW := hid hW
  have HF := hid hF
  obtain ⟨a0, c0, rfl, -, -, -⟩ := hv
  clear b0 hW hF
  go_enter Try.func29, Try.ntmps29
  go_wp2_with fail
  rw [EW.out]
  clear EW
  refine HC.out.mono ?_
  rintro e w1 ⟨r, rfl, hr, b1⟩
  obtain rfl : r = false := by
    cases r
    · rfl
    · exact absurd (hr.1 rfl) HF.out
  replace PR := hid (PR.out.step b1)
  replace G := hid (below_step G.out b1)
  clear b1 hr HC
  have c0' := PR.out.at (i := 0) rfl
  have c1' := PR.out.at (i := 1) rfl
  have c2' := PR.out.at (i := 2) rfl
  have c3' := PR.out.at (i := 3) rfl
  have f0 := PR.out.fz 0
  have f1 := PR.out.fz 1
  have f2 := PR.out.fz 2
  have f3 := PR.out.fz 3
  go_wp2
  exact bodyPost_ret (fback Try.results29 (PR.out.put4 _ _ _ _) _ (by rfl) (by rfl)) rfl ⟨rfl, bset (bset (bset (bset G.out (Nat.le_refl _)) (Nat.le_refl _)) (Nat.le_refl _)) (Nat.le_refl _)⟩
end Go.Proofs.Ytaoammmnpfbdfaa
