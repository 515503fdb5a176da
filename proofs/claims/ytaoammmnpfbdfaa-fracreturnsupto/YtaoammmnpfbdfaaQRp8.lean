/-
  Rp8: Recover in numbers: the fraction at which the reckoning ends.
-/
import Derived.Test.YtaoammmnpfbdfaaQWords
namespace Go.Proofs.Ytaoammmnpfbdfaa
set_option linter.unusedVariables false

/-- Where the reckoning of Recover stands: before, rest, with how often r was taken for each. -/
structure Eu (m r K before rest tb t s : Int) : Prop where
  c1 : ∃ u, rest = r * t + u * m
  c0 : ∃ u, before = r * tb + u * m
  det : before * t - rest * tb = s * m
  sg : s = 1 ∨ s = -1
  tp : 0 < s * t
  bp : s * tb ≤ 0
  r0 : 0 ≤ rest
  lt : rest < before
  bk : K < before
theorem Eu.first {m r K : Int} (hm : 0 < m) (hK : K < m) : Eu m r K m (r % m) 0 1 1 := by
  refine ⟨⟨-(r / m), ?_⟩, ⟨1, by simp⟩, by simp, .inl rfl, by decide, by decide, Int.emod_nonneg _ (by omega), Int.emod_lt_of_pos _ hm, hK⟩
  have := Int.emod_add_mul_ediv r m
  rw [Int.mul_one, Int.neg_mul, Int.mul_comm (r / m) m]
  omega
theorem Eu.next {m r K before rest tb t s : Int} (h : Eu m r K before rest tb t s) (hK : 0 ≤ K) (hr : K < rest) :
    Eu m r K rest (before.tmod rest) t (tb - before.tdiv rest * t) (-s) := by
  have rp : 0 < rest := by omega
  have q1 : 1 ≤ before.tdiv rest := by
    rw [Int.tdiv_eq_ediv_of_nonneg (by have := h.lt; omega)]
    exact (Int.le_ediv_iff_mul_le rp).2 (by have := h.lt; omega)
  have e := Int.mul_tdiv_add_tmod before rest
  have m0 : 0 ≤ before.tmod rest := Int.tmod_nonneg _ (by have := h.lt; omega)
  have ml : before.tmod rest < rest := Int.tmod_lt_of_pos _ rp
  generalize before.tdiv rest = q at *
  generalize before.tmod rest = p at *
  obtain ⟨u1, c1⟩ := h.c1
  obtain ⟨u0, c0⟩ := h.c0
  refine ⟨⟨u0 - q * u1, ?_⟩, ⟨u1, c1⟩, ?_, ?_, ?_, ?_, m0, ml, hr⟩
  · have : p = before - rest * q := by omega
    rw [this, c0, c1]; grind
  · have : p = before - rest * q := by omega
    rw [this]
    have := h.det
    grind
  · have := h.sg; omega
  · have e1 : -s * (tb - q * t) = -(s * tb) + q * (s * t) := by grind
    rw [e1]
    have := h.bp
    have := h.tp
    have : 0 < q * (s * t) := Int.mul_pos (by omega) h.tp
    omega
  · have := h.tp
    rw [Int.neg_mul]; omega
theorem Eu.small {m r K before rest tb t s : Int} (h : Eu m r K before rest tb t s) (hK : 0 ≤ K) : (t.natAbs : Int) ≤ m ∧ before ≤ m ∧ (0 < rest → (tb.natAbs : Int) ≤ m) := by
  have hb : 1 ≤ before := by have := h.bk; omega
  have d := h.det
  have t1 := h.tp
  have t0 := h.bp
  have r0 := h.r0
  have e : before * (s * t) + rest * (-(s * tb)) = m := by
    rcases h.sg with rfl | rfl
    · grind
    · grind
  have a1 : 0 ≤ rest * (-(s * tb)) := Int.mul_nonneg r0 (by omega)
  have a2 : s * t ≤ before * (s * t) := by
    have := Int.mul_le_mul_of_nonneg_right hb (Int.le_of_lt t1)
    omega
  have a3 : before ≤ before * (s * t) := by
    have := Int.mul_le_mul_of_nonneg_left (show 1 ≤ s * t by omega) (show 0 ≤ before by omega)
    omega
  have ta : (t.natAbs : Int) = s * t := by rcases h.sg with rfl | rfl <;> omega
  have tba : (tb.natAbs : Int) = -(s * tb) := by rcases h.sg with rfl | rfl <;> omega
  refine ⟨by omega, by omega, fun hr => ?_⟩
  have : -(s * tb) ≤ rest * (-(s * tb)) := by
    have := Int.mul_le_mul_of_nonneg_right (show 1 ≤ rest by omega) (show 0 ≤ -(s * tb) by omega)
    omega
  have : 0 ≤ before * (s * t) := Int.mul_nonneg (by omega) (by omega)
  omega
theorem abs_mul_le {a b K : Int} (ha : (a.natAbs : Int) ≤ K) (hb : (b.natAbs : Int) ≤ K) : ((a * b).natAbs : Int) ≤ K * K := by
  rw [Int.natAbs_mul]
  push_cast
  exact Int.mul_le_mul ha hb (by omega) (by omega)
/-- The fraction n/d whose residue is r is the one at which the reckoning ends. -/
theorem Eu.done {m r K before rest tb t s n d : Int} (h : Eu m r K before rest tb t s) (hK : 0 ≤ K) (hm : 2 * (K * K) < m) (hr : rest ≤ K) (hn : (n.natAbs : Int) ≤ K) (hd : 0 < d) (hdK : d ≤ K) (hc : Int.gcd n d = 1) (hres : m ∣ n - r * d) :
    (t.natAbs : Int) = d ∧ n * t = rest * d := by
  have m0 : 0 < m := by have := Int.mul_nonneg hK hK; omega
  have r0 := h.r0
  obtain ⟨w, hw⟩ := hres
  obtain ⟨u1, c1⟩ := h.c1
  obtain ⟨u0, c0⟩ := h.c0
  have hn' : n = r * d + m * w := by omega
  have dt := h.det
  have X : n * t - rest * d = m * (w * t - u1 * d) := by rw [hn', c1]; grind
  have Y : before * d - n * tb = m * (u0 * d - w * tb) := by rw [hn', c0]; grind
  generalize w * t - u1 * d = al at X
  generalize u0 * d - w * tb = be at Y
  have N : m * (s * n) = m * (al * before + be * rest) := by
    have : m * (al * before + be * rest) = (n * t - rest * d) * before + (before * d - n * tb) * rest := by rw [X, Y]; grind
    rw [this]
    have : (n * t - rest * d) * before + (before * d - n * tb) * rest = n * (before * t - rest * tb) := by grind
    rw [this, dt]; grind
  have D : m * (s * d) = m * (al * tb + be * t) := by
    have : m * (al * tb + be * t) = (n * t - rest * d) * tb + (before * d - n * tb) * t := by rw [X, Y]; grind
    rw [this]
    have : (n * t - rest * d) * tb + (before * d - n * tb) * t = d * (before * t - rest * tb) := by grind
    rw [this, dt]; grind
  have N' := Int.eq_of_mul_eq_mul_left (by omega) N
  have D' := Int.eq_of_mul_eq_mul_left (by omega) D
  have bk := h.bk
  have tp := h.tp
  have bp := h.bp
  have ta : (t.natAbs : Int) = s * t := by rcases h.sg with rfl | rfl <;> omega
  have a0 : al = 0 := by
    refine Classical.byContradiction fun hal => ?_
    have tk : K < (t.natAbs : Int) := by
      refine Classical.byContradiction fun hle => ?_
      have b1 := abs_mul_le hn (show (t.natAbs : Int) ≤ K by omega)
      have b2 := abs_mul_le (show (rest.natAbs : Int) ≤ K by omega) (show (d.natAbs : Int) ≤ K by omega)
      have b3 : ((m * al).natAbs : Int) < m := by
        rw [← X]
        omega
      rw [Int.natAbs_mul] at b3
      push_cast at b3
      have : m * 1 ≤ (m.natAbs : Int) * (al.natAbs : Int) := Int.mul_le_mul (by omega) (by omega) (by omega) (by omega)
      omega
    -- s d = al tb + be t, s n = al before + be rest
    have hs : (s * n).natAbs = n.natAbs := by rcases h.sg with rfl | rfl <;> simp
    have D2 : d = al * (s * tb) + be * (s * t) := by
      have : s * (s * d) = s * (al * tb + be * t) := by rw [D']
      rcases h.sg with rfl | rfl <;> grind
    have p1 : 0 < al → before ≤ al * before := fun h1 => by
      have := Int.mul_le_mul_of_nonneg_right (show 1 ≤ al by omega) (show 0 ≤ before by omega)
      omega
    have p2 : al < 0 → al * before ≤ -before := fun h1 => by
      have := Int.mul_le_mul_of_nonneg_right (show 1 ≤ -al by omega) (show 0 ≤ before by omega)
      rw [Int.neg_mul] at this
      omega
    have q1 : 0 ≤ be → 0 ≤ be * rest := fun h1 => Int.mul_nonneg h1 r0
    have q2 : be ≤ 0 → be * rest ≤ 0 := fun h1 => Int.mul_nonpos_of_nonpos_of_nonneg h1 r0
    have q3 : 0 < be → s * t ≤ be * (s * t) := fun h1 => by
      have := Int.mul_le_mul_of_nonneg_right (show 1 ≤ be by omega) (show 0 ≤ s * t by omega)
      omega
    have q4 : be < 0 → be * (s * t) < 0 := fun h1 => Int.mul_neg_of_neg_of_pos h1 tp
    have q5 : 0 < al → al * (s * tb) ≤ 0 := fun h1 => Int.mul_nonpos_of_nonneg_of_nonpos (by omega) bp
    have q6 : al < 0 → 0 ≤ al * (s * tb) := fun h1 => Int.mul_nonneg_of_nonpos_of_nonpos (by omega) bp
    rcases Int.lt_or_gt_of_ne hal with h1 | h1
    · have := p2 h1
      have := q6 h1
      by_cases hb : 0 < be
      · have := q3 hb; omega
      · have := q2 (by omega); omega
    · have := p1 h1
      have := q5 h1
      by_cases hb : be < 0
      · have := q4 hb; omega
      · have := q1 (by omega); omega
  subst a0
  have X0 : n * t = rest * d := by rw [Int.mul_zero] at X; omega
  refine ⟨?_, X0⟩
  -- s d = be t, s n = be rest; be divides both n and d
  simp only [Int.zero_mul, Int.zero_add] at N' D'
  have bd : be ∣ d := by
    have : be ∣ s * d := ⟨t, D'⟩
    rcases h.sg with rfl | rfl <;> simpa using this
  have bn : be ∣ n := by
    have : be ∣ s * n := ⟨rest, N'⟩
    rcases h.sg with rfl | rfl <;> simpa using this
  have b1 : be.natAbs = 1 := by
    have : (be.natAbs : Int) ∣ (Int.gcd n d : Int) := Int.dvd_coe_gcd (Int.natAbs_dvd.2 bn) (Int.natAbs_dvd.2 bd)
    rw [hc] at this
    have := Int.natAbs_dvd_natAbs.2 this
    simpa using this
  rcases Int.natAbs_eq be with hb | hb <;> rw [b1] at hb <;> subst hb <;> rcases h.sg with rfl | rfl <;> omega
end Go.Proofs.Ytaoammmnpfbdfaa
