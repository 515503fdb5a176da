/-
  Asked: what the program answers to a step.
-/
import Derived.Test.YtnbjlpeclaieeaaRCalls
import Derived.Test.YtnbjlpeclaieeaaWakeToCalls
namespace Go.Proofs.Ytnbjlpeclaieeaa
open Go.RowKit
set_option linter.unusedVariables false

/-- The error and the number that a step is to be answered with. -/
def opE (kind n : Int) : Int := if kind = 4 then (if n < 0 then 3 else 0) else if kind = 6 then (if n < 0 then 3 else if 256 < n then 5 else 0) else 0
def opV (kind : Int) (xs ys zs : List Int) (n : Int) (Xs : List (List Int)) : Int :=
  if kind = 1 then val xs * fstW ys else if kind = 2 then val xs * val ys else if kind = 3 then val xs * val ys + val zs
  else if kind = 4 then (if n < 0 then 0 else ((vn xs * vn ys % 2 ^ n.toNat : Nat) : Int)) else if kind = 5 then val xs * val xs
  else if kind = 6 then (if n < 0 then 0 else if 256 < n then 0 else val xs ^ n.toNat) else if kind = 7 then prodv Xs else 0
/-- The answer to a step: its memory is its own. -/
def AnsM (w : World) (E V : Int) (e : Ending) (w' : World) : Prop :=
  ∃ zs r, e = .returned (.tuple #[r, .int .i64 E]) ∧ Mine w.heap.size w' r zs ∧ Canon zs ∧ val zs = V ∧ Below w.heap.size w w'
theorem ansM_nil {w w' : World} {E V : Int} (hV : V = 0) (hb : Below w.heap.size w w') : AnsM w E V (.returned (.tuple #[.slice none 0 0, .int .i64 E])) w' :=
  ⟨[], _, rfl, Mine.nil _ _, canon_nil, hV.symm, hb⟩
theorem AnsM.step {w w1 w' : World} {E V : Int} {e : Ending} (hb : Below w.heap.size w w1) (h : AnsM w1 E V e w') : AnsM w E V e w' := by
  obtain ⟨zs, r, rfl, m1, m2, m3, m4⟩ := h
  exact ⟨zs, r, rfl, m1.mono hb.size, m2, m3, below_step hb m4⟩

theorem mulLow_makes {w : World} {va vb : Value} {xs ys : List Int} (ha : Sl w.heap.size w va xs) (hb : Sl w.heap.size w vb ys) (hl : xs.length + ys.length ≤ 35184372088832) {n : Nat} (hn : n ≤ 9223372036854775807) :
    Calls Try.prog 25 #[va, vb, .int .i64 (n : Int)] w (Makes2 w ((vn xs * vn ys % 2 ^ n : Nat) : Int)) :=
  (mulLow_any ha hb hl hn).mono fun e w' ⟨zs, v, h1, h2, h3, h4, h5, h6⟩ => ⟨zs, v, h1, h2.mine, h3, by rw [val_vn h3.1, h4], h6⟩
set_option maxRecDepth 100000 in
set_option maxHeartbeats 6400000 in
theorem asked_any {w : World} {va vb vc vl : Value} {xs ys zs : List Int} {Xs : List (List Int)} (ha : Sl w.heap.size w va xs) (hb : Sl w.heap.size w vb ys) (hc : Sl w.heap.size w vc zs) (hL : Ls w.heap.size w vl Xs)
    (la : xs.length ≤ 1048576) (lb : ys.length ≤ 1048576) (lc : zs.length ≤ 1048576) (lt : tot Xs ≤ 1048576) (kind : Int) {n : Int} (hn0 : -9223372036854775808 ≤ n) (hn : n ≤ 9223372036854775807) :
    Calls Try.prog 8 #[.agg #[.int .i64 kind, va, vb, vc, .int .i64 n, vl]] w (AnsM w (opE kind n) (opV kind xs ys zs n Xs)) := by
  have WA := hid ha.1
  have WB := hid hb.1
  have FW := hid (fst_is hb.1)
  have KB := hid ((Below.refl w.heap.size w).alloc (Nat.le_refl _) (.cells #[.int .i64 kind, va, vb, vc, .int .i64 n, vl] 25))
  have HA := hid (ha.now KB.out)
  have HB := hid (hb.now KB.out)
  have HC := hid (hc.now KB.out)
  have HLs := hid (hL.now KB.out)
  obtain ⟨aa, ca, rfl⟩ : ∃ a c, va = .slice a xs.length c := by obtain ⟨_, a, c, e, _⟩ := ha; exact ⟨a, c, e⟩
  obtain ⟨ab, cb, rfl⟩ : ∃ a c, vb = .slice a ys.length c := by obtain ⟨_, a, c, e, _⟩ := hb; exact ⟨a, c, e⟩
  obtain ⟨ac, cc, rfl⟩ : ∃ a c, vc = .slice a zs.length c := by obtain ⟨_, a, c, e, _⟩ := hc; exact ⟨a, c, e⟩
  obtain ⟨al, cl, rfl⟩ : ∃ a c, vl = .slice a Xs.length c := by obtain ⟨a, c, e, _⟩ := hL; exact ⟨a, c, e⟩
  clear ha hb hc hL
  by_cases k1 : kind = 1
  · subst k1
    rw [show opE 1 n = 0 from rfl, show opV 1 xs ys zs n Xs = val xs * fstW ys from rfl]
    have q1 : ((1 : Int) == 1) = true := by decide
    go_enter Try.func8, Try.ntmps8
    go_wp2_with fail
    refine (first_any HB.out).mono ?_
    rintro e w1 ⟨rfl, k1⟩
    have HA1 := hid (HA.out.now k1)
    have KB1 := hid (below_step KB.out k1)
    have o1 : w1.cell? ⟨w.heap.size, 1, none⟩ = some (.slice aa xs.length ca) := (k1.cell (p := ⟨w.heap.size, 1, none⟩) (by simp)).trans (by simp)
    clear k1
    go_wp2_with fail
    refine (word_any HA1.out FW.out (by omega)).mono ?_
    rintro e w2 hm
    have hm2 := hm.step KB1.out
    obtain ⟨qs, r, rfl, m1, m2, m3, m4⟩ := hm2
    clear hm
    go_wp2
    go_ret2
    exact ⟨qs, r, rfl, m1, m2, m3, m4⟩
  by_cases k2 : kind = 2
  · subst k2
    rw [show opE 2 n = 0 from rfl, show opV 2 xs ys zs n Xs = val xs * val ys from rfl]
    have q1 : ((2 : Int) == 1) = false := by decide
    have q2 : ((2 : Int) == 2) = true := by decide
    go_enter Try.func8, Try.ntmps8
    go_wp2_with fail
    refine (mul_any HA.out HB.out (by omega)).mono ?_
    rintro e w2 hm
    have hm2 := hm.step KB.out
    obtain ⟨qs, r, rfl, m1, m2, m3, m4⟩ := hm2
    clear hm
    go_wp2
    go_ret2
    exact ⟨qs, r, rfl, m1, m2, m3, m4⟩
  by_cases k3 : kind = 3
  · subst k3
    rw [show opE 3 n = 0 from rfl, show opV 3 xs ys zs n Xs = val xs * val ys + val zs from rfl]
    have q1 : ((3 : Int) == 1) = false := by decide
    have q2 : ((3 : Int) == 2) = false := by decide
    have q3 : ((3 : Int) == 3) = true := by decide
    go_enter Try.func8, Try.ntmps8
    go_wp2_with fail
    refine (mulAdd_any HA.out HB.out HC.out (by omega) (by omega)).mono ?_
    rintro e w2 hm
    have hm2 := hm.step KB.out
    obtain ⟨qs, r, rfl, m1, m2, m3, m4⟩ := hm2
    clear hm
    go_wp2
    go_ret2
    exact ⟨qs, r, rfl, m1, m2, m3, m4⟩
  by_cases k5 : kind = 5
  · subst k5
    rw [show opE 5 n = 0 from rfl, show opV 5 xs ys zs n Xs = val xs * val xs from rfl]
    have q1 : ((5 : Int) == 1) = false := by decide
    have q2 : ((5 : Int) == 2) = false := by decide
    have q3 : ((5 : Int) == 3) = false := by decide
    have q4 : ((5 : Int) == 4) = false := by decide
    have q5 : ((5 : Int) == 5) = true := by decide
    go_enter Try.func8, Try.ntmps8
    go_wp2_with fail
    refine (square_any HA.out (by omega)).mono ?_
    rintro e w2 hm
    have hm2 := hm.step KB.out
    obtain ⟨qs, r, rfl, m1, m2, m3, m4⟩ := hm2
    clear hm
    go_wp2
    go_ret2
    exact ⟨qs, r, rfl, m1, m2, m3, m4⟩
  by_cases k7 : kind = 7
  · subst k7
    rw [show opE 7 n = 0 from rfl, show opV 7 xs ys zs n Xs = prodv Xs from rfl]
    have q1 : ((7 : Int) == 1) = false := by decide
    have q2 : ((7 : Int) == 2) = false := by decide
    have q3 : ((7 : Int) == 3) = false := by decide
    have q4 : ((7 : Int) == 4) = false := by decide
    have q5 : ((7 : Int) == 5) = false := by decide
    have q6 : ((7 : Int) == 6) = false := by decide
    have q7 : ((7 : Int) == 7) = true := by decide
    go_enter Try.func8, Try.ntmps8
    go_wp2_with fail
    refine (prod_any HLs.out (by omega)).mono ?_
    rintro e w2 hm
    have hm2 := hm.step KB.out
    obtain ⟨qs, r, rfl, m1, m2, m3, m4⟩ := hm2
    clear hm
    go_wp2
    go_ret2
    exact ⟨qs, r, rfl, m1, m2, m3, m4⟩
  by_cases k4 : kind = 4
  · subst k4
    have q1 : ((4 : Int) == 1) = false := by decide
    have q2 : ((4 : Int) == 2) = false := by decide
    have q3 : ((4 : Int) == 3) = false := by decide
    have q4 : ((4 : Int) == 4) = true := by decide
    by_cases hneg : n < 0
    · rw [show opE 4 n = 3 by simp [opE, hneg], show opV 4 xs ys zs n Xs = 0 by simp [opV, hneg]]
      go_enter Try.func8, Try.ntmps8
      go_wp2_with fail
      refine (mulLow_neg _ _ _ hneg).mono ?_
      rintro e w2 ⟨rfl, hw2⟩
      have KB2 := below_step KB.out hw2
      go_wp2
      go_ret2
      exact ansM_nil rfl KB2
    · obtain ⟨N, rfl⟩ := Int.eq_ofNat_of_zero_le (show 0 ≤ n by omega)
      rw [show opE 4 (N : Int) = 0 by simp [opE, hneg], show opV 4 xs ys zs (N : Int) Xs = ((vn xs * vn ys % 2 ^ N : Nat) : Int) by simp [opV, hneg]]
      go_enter Try.func8, Try.ntmps8
      go_wp2_with fail
      refine (mulLow_makes HA.out HB.out (by omega) (show N ≤ 9223372036854775807 by omega)).mono ?_
      rintro e w2 ⟨qs, r, rfl, m1, m2, m3, m4⟩
      have HM1 := hid (m1.mono KB.out.size)
      have hb2 := hid (below_step KB.out m4)
      clear m1 m4
      go_wp2
      go_ret2
      exact ⟨qs, r, rfl, HM1.out, m2, m3, hb2.out⟩
  by_cases k6 : kind = 6
  · subst k6
    have q1 : ((6 : Int) == 1) = false := by decide
    have q2 : ((6 : Int) == 2) = false := by decide
    have q3 : ((6 : Int) == 3) = false := by decide
    have q4 : ((6 : Int) == 4) = false := by decide
    have q5 : ((6 : Int) == 5) = false := by decide
    have q6 : ((6 : Int) == 6) = true := by decide
    by_cases hneg : n < 0
    · rw [show opE 6 n = 3 by simp [opE, hneg], show opV 6 xs ys zs n Xs = 0 by simp [opV, hneg]]
      go_enter Try.func8, Try.ntmps8
      go_wp2_with fail
      refine (pow_neg _ _ hneg).mono ?_
      rintro e w2 ⟨rfl, hw2⟩
      subst hw2
      go_wp2
      go_ret2
      exact ansM_nil rfl KB.out
    · by_cases hbig : 256 < n
      · rw [show opE 6 n = 5 by simp [opE, hneg, hbig], show opV 6 xs ys zs n Xs = 0 by simp [opV, hneg, hbig]]
        go_enter Try.func8, Try.ntmps8
        go_wp2_with fail
        refine (pow_big _ _ hbig).mono ?_
        rintro e w2 ⟨rfl, hw2⟩
        subst hw2
        go_wp2
        go_ret2
        exact ansM_nil rfl KB.out
      · obtain ⟨N, rfl⟩ := Int.eq_ofNat_of_zero_le (show 0 ≤ n by omega)
        rw [show opE 6 (N : Int) = 0 by simp [opE, hneg, hbig], show opV 6 xs ys zs (N : Int) Xs = val xs ^ N by simp [opV, hneg, hbig]]
        go_enter Try.func8, Try.ntmps8
        go_wp2_with fail
        refine (pow_some HA.out (by omega) (show N ≤ 256 by omega)).mono ?_
        rintro e w2 ⟨qs, r, rfl, m1, m2, m3, m4⟩
        have HM1 := hid (m1.mono KB.out.size)
        have hb2 := hid (below_step KB.out m4)
        clear m1 m4
        go_wp2
        go_ret2
        exact ⟨qs, r, rfl, HM1.out, m2, m3, hb2.out⟩
  rw [show opE kind n = 0 by simp [opE, k4, k6], show opV kind xs ys zs n Xs = 0 by simp [opV, k1, k2, k3, k4, k5, k6, k7]]
  have q1 : (kind == 1) = false := by rw [beq_eq_false_iff_ne]; exact k1
  have q2 : (kind == 2) = false := by rw [beq_eq_false_iff_ne]; exact k2
  have q3 : (kind == 3) = false := by rw [beq_eq_false_iff_ne]; exact k3
  have q4 : (kind == 4) = false := by rw [beq_eq_false_iff_ne]; exact k4
  have q5 : (kind == 5) = false := by rw [beq_eq_false_iff_ne]; exact k5
  have q6 : (kind == 6) = false := by rw [beq_eq_false_iff_ne]; exact k6
  have q7 : (kind == 7) = false := by rw [beq_eq_false_iff_ne]; exact k7
  clear k1 k2 k3 k4 k5 k6 k7
  go_enter Try.func8, Try.ntmps8
  go_wp2
  go_ret2
  exact ansM_nil rfl KB.out
end Go.Proofs.Ytnbjlpeclaieeaa
