/-
  QExtPureToCrtLPure: ExtPure, Gcd6, Ext6, Lm6, CrtPure, TailA, Crt6, CrtLPure, joined.
-/
import Derived.Test.YtplldfnldaehiaaQTailToGcdAll
import Derived.Deep.LoopGhost

/- ExtPure -/
namespace Go.Proofs.Ytplldfnldaehiaa
open Go.RowKit
set_option linter.unusedVariables false

/-- What Ext answers. -/
structure ExtV (A B g x y : Int) : Prop where
  gcd : g = (Int.gcd A B : Int)
  lin : A * x + B * y = g
  rng : B ≠ 0 → 0 ≤ x ∧ x * g < (B.natAbs : Int)
  zero : B = 0 → x = cmpI A 0 ∧ y = 0

/-- What stands at the head of Ext's loop. -/
structure ExtI (A B a b x0 y0 x1 y1 : Int) : Prop where
  ea : a = A * x0 + B * y0
  eb : b = A * x1 + B * y1
  det : x0 * y1 - x1 * y0 = 1 ∨ x0 * y1 - x1 * y0 = -1
  g : Int.gcd a b = Int.gcd A B
  bx : x1.natAbs * a.natAbs + x0.natAbs * b.natAbs ≤ B.natAbs
  by' : y1.natAbs * a.natAbs + y0.natAbs * b.natAbs ≤ A.natAbs
  cx0 : x0.natAbs ≤ max 1 B.natAbs
  cx1 : x1.natAbs ≤ max 1 B.natAbs
  cy0 : y0.natAbs ≤ max 1 A.natAbs
  cy1 : y1.natAbs ≤ max 1 A.natAbs
  zz : B = 0 → x0 = 1 ∧ y0 = 0 ∧ x1 = 0
theorem gcd_tmod (a b : Int) : Int.gcd b (a.tmod b) = Int.gcd a b := by
  unfold Int.gcd
  rw [Int.natAbs_tmod, Nat.gcd_comm a.natAbs b.natAbs]
  exact (Nat.gcd_rec b.natAbs a.natAbs ▸ Nat.gcd_comm _ _)
theorem natAbs_split (a b : Int) : a.natAbs = (a.tdiv b).natAbs * b.natAbs + (a.tmod b).natAbs := by
  rw [Int.natAbs_tmod, Int.natAbs_tdiv]
  exact (Nat.div_add_mod' a.natAbs b.natAbs).symm
theorem mul_natAbs_le {x q y : Int} : (x - q * y).natAbs ≤ x.natAbs + q.natAbs * y.natAbs := by
  have := Int.natAbs_sub_le x (q * y)
  rwa [Int.natAbs_mul] at this
theorem step_bound {x0 x1 q a b r B : Nat} {n : Nat} (hn : n ≤ x0 + q * x1) (ha : a = q * b + r) (h : x1 * a + x0 * b ≤ B) : n * b + x1 * r ≤ B := by
  have h1 : n * b ≤ (x0 + q * x1) * b := Nat.mul_le_mul_right b hn
  have h2 : (x0 + q * x1) * b + x1 * r = x1 * a + x0 * b := by
    subst ha
    simp only [Nat.add_mul, Nat.mul_add]
    have : q * x1 * b = x1 * (q * b) := by rw [Nat.mul_comm q x1, Nat.mul_assoc]
    omega
  omega
theorem le_of_mul_add {n b m B : Nat} (hb : b ≠ 0) (h : n * b + m ≤ B) : n ≤ B := by
  have : n * 1 ≤ n * b := Nat.mul_le_mul_left n (by omega)
  omega
theorem ExtI.step {A B a b x0 y0 x1 y1 : Int} (h : ExtI A B a b x0 y0 x1 y1) (hb : b ≠ 0) :
    ExtI A B b (a.tmod b) x1 y1 (x0 - a.tdiv b * x1) (y0 - a.tdiv b * y1) ∧ (a.tmod b).natAbs < b.natAbs := by
  obtain ⟨ea, eb, det, g, bx, by', cx0, cx1, cy0, cy1, zz⟩ := h
  have hd := (tmod_small (z := a) hb).2.2.2
  have hs := natAbs_split a b
  have hbn : b.natAbs ≠ 0 := by omega
  have nx := step_bound (mul_natAbs_le (x := x0) (q := a.tdiv b) (y := x1)) hs bx
  have ny := step_bound (mul_natAbs_le (x := y0) (q := a.tdiv b) (y := y1)) hs by'
  refine ⟨⟨eb, ?_, ?_, (gcd_tmod a b).trans g, nx, ny, cx1, ?_, cy1, ?_, ?_⟩, ?_⟩
  · generalize a.tdiv b = q at *
    generalize a.tmod b = r at *
    have : r = a - q * b := by omega
    rw [this, ea, eb]
    grind
  · generalize a.tdiv b = q at *
    rcases det with d | d
    · exact .inr (by grind)
    · exact .inl (by grind)
  · exact Nat.le_trans (le_of_mul_add hbn nx) (Nat.le_max_right _ _)
  · exact Nat.le_trans (le_of_mul_add hbn ny) (Nat.le_max_right _ _)
  · intro e
    obtain ⟨q1, q2, _⟩ := zz e
    subst e
    rw [q1] at bx
    simp at bx
    omega
  · rw [Int.natAbs_tmod]
    exact Nat.mod_lt _ (by omega)
/-- Where the loop ends. -/
theorem ExtI.last {A B a x0 y0 x1 y1 : Int} (h : ExtI A B a 0 x0 y0 x1 y1) :
    (a.natAbs : Int) = (Int.gcd A B : Int) ∧ a.natAbs * x1.natAbs = B.natAbs ∧ A * x1 + B * y1 = 0 ∧ A * (x0 * cmpI a 0) + B * (y0 * cmpI a 0) = (a.natAbs : Int) := by
  obtain ⟨ea, eb, det, g, bx, by', cx0, cx1, cy0, cy1, zz⟩ := h
  refine ⟨?_, ?_, by omega, ?_⟩
  · rw [← g]; simp
  · have e : a * x1 = -(B * (x0 * y1 - x1 * y0)) := by rw [ea]; grind
    rw [← Int.natAbs_mul, e]
    rcases det with d | d <;> rw [d] <;> simp
  · rw [show A * (x0 * cmpI a 0) + B * (y0 * cmpI a 0) = (A * x0 + B * y0) * cmpI a 0 by grind, ← ea, Int.mul_comm]
    exact sgn_abs a
/-- The divisor 0 of the last step: the number itself. -/
theorem ExtI.none {A a x0 y0 x1 y1 : Int} (h : ExtI A 0 a 0 x0 y0 x1 y1) : ExtV A 0 (a.natAbs : Int) (x0 * cmpI a 0) (y0 * cmpI a 0) := by
  obtain ⟨l1, l2, l3, l4⟩ := h.last
  obtain ⟨q1, q2, _⟩ := h.zz rfl
  have ea := h.ea
  refine ⟨l1, l4, fun e => absurd rfl e, fun _ => ?_⟩
  subst q1 q2
  have : a = A := by omega
  subst this
  simp
theorem ExtI.some {A B a x0 y0 x1 y1 : Int} (h : ExtI A B a 0 x0 y0 x1 y1) (hB : B ≠ 0) : x1 ≠ 0 ∧ ∀ t l : Int, t * x1 + l = x0 * cmpI a 0 → 0 ≤ l → l < (x1.natAbs : Int) → ExtV A B (a.natAbs : Int) l (y0 * cmpI a 0 - t * y1) := by
  obtain ⟨l1, l2, l3, l4⟩ := h.last
  have hx : x1 ≠ 0 := fun e => by subst e; simp at l2; omega
  refine ⟨hx, fun t l ht h0 hl => ⟨l1, ?_, fun _ => ⟨h0, ?_⟩, fun e => absurd e hB⟩⟩
  · rw [← l4, ← ht]
    have e : A * l + B * (y0 * cmpI a 0 - t * y1) = A * (t * x1 + l) + B * (y0 * cmpI a 0) - t * (A * x1 + B * y1) := by grind
    rw [e, l3]
    omega
  · have ha : 0 < a.natAbs := Nat.pos_of_ne_zero (fun e => by rw [e] at l2; simp at l2; omega)
    have e : (B.natAbs : Int) = (x1.natAbs : Int) * (a.natAbs : Int) := by rw [← l2]; push_cast; exact Int.mul_comm _ _
    rw [e]
    exact Int.mul_lt_mul_of_pos_right hl (by omega)
/-- The second multiplier is small, too. -/
theorem ExtV.small {A B g x y : Int} (h : ExtV A B g x y) : x.natAbs ≤ max 1 B.natAbs ∧ y.natAbs ≤ max 1 A.natAbs ∧ (A ≠ 0 → B ≠ 0 → y.natAbs * g.natAbs ≤ A.natAbs) := by
  obtain ⟨hg, hl, hr, hz⟩ := h
  have bc := cmpI_bound A 0
  by_cases hB : B = 0
  · obtain ⟨q1, q2⟩ := hz hB
    subst q1 q2
    exact ⟨by omega, by simp, fun _ e => absurd hB e⟩
  · obtain ⟨x0, xg⟩ := hr hB
    have gB : g.natAbs ∣ B.natAbs := by rw [hg]; exact Nat.gcd_dvd_right _ _
    have gA : g.natAbs ∣ A.natAbs := by rw [hg]; exact Nat.gcd_dvd_left _ _
    have g0 : 0 < g := by
      have : 0 < Int.gcd A B := Int.gcd_pos_of_ne_zero_right A hB
      omega
    have x1 : x.natAbs ≤ B.natAbs := by
      have : x * 1 ≤ x * g := Int.mul_le_mul_of_nonneg_left (by omega) x0
      omega
    refine ⟨by omega, ?_⟩
    obtain ⟨u, hu⟩ := gA
    obtain ⟨v, hv⟩ := gB
    have hv0 : 0 < v := Nat.pos_of_ne_zero (fun e => by rw [e] at hv; simp at hv; omega)
    have gn : 0 < g.natAbs := by omega
    have xv : x.natAbs + 1 ≤ v := by
      have h1 : x.natAbs * g.natAbs < g.natAbs * v := by
        rw [← hv, ← Int.natAbs_mul]
        have := Int.mul_nonneg x0 (Int.le_of_lt g0)
        omega
      rw [Nat.mul_comm g.natAbs v] at h1
      exact Nat.lt_of_mul_lt_mul_right h1
    have e : B.natAbs * y.natAbs ≤ g.natAbs + A.natAbs * x.natAbs := by
      have : B * y = g - A * x := by omega
      rw [← Int.natAbs_mul, this, ← Int.natAbs_mul]
      exact Int.natAbs_sub_le _ _
    -- v |y| <= 1 + u |x| <= 1 + u (v - 1)
    have e2 : v * y.natAbs ≤ 1 + u * x.natAbs := by
      rw [hv, hu, Nat.mul_assoc, Nat.mul_assoc] at e
      have e3 : g.natAbs * (v * y.natAbs) ≤ g.natAbs * (1 + u * x.natAbs) := by rw [Nat.mul_add, Nat.mul_one]; exact e
      exact Nat.le_of_mul_le_mul_left e3 gn
    have e4 : u * x.natAbs + u ≤ u * v := by
      have := Nat.mul_le_mul_left u xv
      rw [Nat.mul_add, Nat.mul_one] at this
      exact this
    by_cases hA : A = 0
    · have u0 : u = 0 := by
        rcases Nat.mul_eq_zero.1 (show g.natAbs * u = 0 by rw [← hu, hA]; rfl) with q | q <;> omega
      subst u0
      refine ⟨?_, fun q => absurd hA q⟩
      have : 1 * y.natAbs ≤ v * y.natAbs := Nat.mul_le_mul_right _ hv0
      omega
    · have u1 : 1 ≤ u := Nat.pos_of_ne_zero (fun q => by rw [q] at hu; simp at hu; omega)
      have yu : y.natAbs ≤ u := by
        have : v * y.natAbs ≤ v * u := by rw [Nat.mul_comm v u]; omega
        exact Nat.le_of_mul_le_mul_left this hv0
      have uA : u ≤ A.natAbs := by
        rw [hu]
        have := Nat.mul_le_mul_right u (show 1 ≤ g.natAbs by omega)
        omega
      refine ⟨by omega, fun _ _ => ?_⟩
      rw [hu, Nat.mul_comm]
      exact Nat.mul_le_mul_left _ yu
end Go.Proofs.Ytplldfnldaehiaa

/- Gcd6 -/
namespace Go.Proofs.Ytplldfnldaehiaa
open Go.RowKit
set_option linter.unusedVariables false

/-- The least common multiple. -/
def lcmv (A B : Int) : Int := ((A.tdiv (Int.gcd A B : Int) * B).natAbs : Int)
end Go.Proofs.Ytplldfnldaehiaa

/- Ext6 -/
namespace Go.Proofs.Ytplldfnldaehiaa
open Go.RowKit
set_option linter.unusedVariables false

end Go.Proofs.Ytplldfnldaehiaa

/- Lm6 -/
namespace Go.Proofs.Ytplldfnldaehiaa
open Go.RowKit
set_option linter.unusedVariables false

end Go.Proofs.Ytplldfnldaehiaa

/- CrtPure -/
namespace Go.Proofs.Ytplldfnldaehiaa
open Go.RowKit
set_option linter.unusedVariables false

/-- What Crt answers. -/
structure CrtV (a b c d r m : Int) : Prop where
  em : m = lcmv b d
  lo : 0 ≤ r
  hi : r < m
  d1 : b ∣ r - a
  d2 : d ∣ r - c
end Go.Proofs.Ytplldfnldaehiaa

/- TailA -/
namespace Go.Proofs.Ytplldfnldaehiaa
open Go.RowKit
set_option linter.unusedVariables false

section
variable {P : Program} {ops : Array Oper} {Q : Exit → Act → World → Prop} {md : Region.Mode} {S : World → Prop} {n : Nat}

end
end Go.Proofs.Ytplldfnldaehiaa

/- Crt6 -/
namespace Go.Proofs.Ytplldfnldaehiaa
open Go.RowKit
set_option linter.unusedVariables false

end Go.Proofs.Ytplldfnldaehiaa

/- CrtLPure -/
namespace Go.Proofs.Ytplldfnldaehiaa
open Go.RowKit
set_option linter.unusedVariables false

/-- The least common multiple of all. -/
def lcmL (Ms : List Int) : Int := Ms.foldl lcmv 1
theorem lcmL_next {Ms : List Int} {i : Nat} (h : i < Ms.length) : lcmL (Ms.take (i + 1)) = lcmv (lcmL (Ms.take i)) Ms[i] := by
  unfold lcmL
  rw [List.take_succ_eq_append_getElem h, List.foldl_append]
  rfl
theorem lcmv_dvd (b d : Int) : b ∣ lcmv b d ∧ d ∣ lcmv b d := by
  unfold lcmv
  refine ⟨Int.dvd_natAbs.2 ?_, Int.dvd_natAbs.2 ⟨b.tdiv (Int.gcd b d : Int), Int.mul_comm _ _⟩⟩
  obtain ⟨u, hu⟩ : (Int.gcd b d : Int) ∣ b := Int.gcd_dvd_left ..
  obtain ⟨v, hv⟩ : (Int.gcd b d : Int) ∣ d := Int.gcd_dvd_right ..
  generalize (Int.gcd b d : Int) = g at *
  by_cases h : g = 0
  · subst h; subst hu; simp
  · rw [hu, Int.mul_tdiv_cancel_left _ h, hv]
    exact ⟨v, by grind⟩
theorem lcmv_pos {b d : Int} (hb : b ≠ 0) (hd : d ≠ 0) : 0 < lcmv b d := by
  have h0 : 0 ≤ lcmv b d := by unfold lcmv; omega
  have hn : lcmv b d ≠ 0 := fun e => by
    unfold lcmv at e
    have e2 : b.tdiv (Int.gcd b d : Int) * d = 0 := by omega
    rcases Int.mul_eq_zero.1 e2 with q | q
    · obtain ⟨u, hu⟩ : (Int.gcd b d : Int) ∣ b := Int.gcd_dvd_left ..
      have hg : (Int.gcd b d : Int) ≠ 0 := by
        have := Int.gcd_pos_of_ne_zero_right b hd
        omega
      generalize (Int.gcd b d : Int) = g at *
      rw [hu, Int.mul_tdiv_cancel_left _ hg] at q
      rw [q] at hu
      simp at hu
      exact hb hu
    · exact hd q
  omega
structure CrtL (Rs Ms : List Int) (r m : Int) : Prop where
  em : m = lcmL Ms
  pos : 0 < m
  lo : 0 ≤ r
  hi : r < m
  dm : ∀ j (h : j < Ms.length), Ms[j] ∣ m
  dr : ∀ j (h : j < Ms.length) (h' : j < Rs.length), Ms[j] ∣ r - Rs[j]
theorem CrtL.next {Rs Ms : List Int} {r m r' m' : Int} {i : Nat} (h : CrtL (Rs.take i) (Ms.take i) r m) (hr : i < Rs.length) (hm : i < Ms.length) (h0 : Ms[i] ≠ 0) (hv : CrtV r m Rs[i] Ms[i] r' m') : CrtL (Rs.take (i + 1)) (Ms.take (i + 1)) r' m' := by
  obtain ⟨e1, e2, e3, e4, e5, e6⟩ := h
  have hd := lcmv_dvd m Ms[i]
  rw [← hv.em] at hd
  refine ⟨by rw [lcmL_next hm, ← e1, hv.em], ?_, hv.lo, hv.hi, fun j hj => ?_, fun j hj hj' => ?_⟩
  · rw [hv.em]; exact lcmv_pos (by omega) h0
  · rw [List.getElem_take]
    simp at hj
    by_cases q : j < i
    · have := e5 j (by simp; omega)
      rw [List.getElem_take] at this
      exact Int.dvd_trans this hd.1
    · obtain rfl : j = i := by omega
      exact hd.2
  · rw [List.getElem_take, List.getElem_take]
    simp at hj hj'
    by_cases q : j < i
    · have h1 := e6 j (by simp; omega) (by simp; omega)
      have h2 := e5 j (by simp; omega)
      rw [List.getElem_take] at h1 h2
      rw [List.getElem_take] at h1
      have h3 := Int.dvd_trans h2 hv.d1
      have := Int.dvd_add h3 h1
      rwa [show r' - r + (r - Rs[j]) = r' - Rs[j] by omega] at this
    · obtain rfl : j = i := by omega
      exact hv.d2
/-- A list of integers below block B. -/
def ZlB (B : Nat) (w : World) (v : Value) (zs : List Int) (k : Nat) : Prop :=
  ∃ a c, v = .slice a zs.length c ∧ zs.length ≤ c ∧ zs.length ≤ 1048576 ∧ (zs = [] ∨ ∃ b off, a = some ⟨b, off, none⟩ ∧ b < B ∧ B ≤ w.heap.size ∧ ∀ j (h : j < zs.length), ∃ x y, w.cell? ⟨b, off + 2 * j, none⟩ = some x ∧ w.cell? ⟨b, off + 2 * j + 1, none⟩ = some y ∧ Zi w (.agg #[x, y]) zs[j] k)
theorem ZlB.now {B : Nat} {w w' : World} {v : Value} {zs : List Int} {k : Nat} (h : ZlB B w v zs k) (hb : Below w.heap.size w w') : ZlB B w' v zs k := by
  obtain ⟨a, c, h1, h2, h3, h4⟩ := h
  refine ⟨a, c, h1, h2, h3, ?_⟩
  rcases h4 with h4 | ⟨b, off, h5, h6, h6', h7⟩
  · exact .inl h4
  · refine .inr ⟨b, off, h5, h6, Nat.le_trans h6' hb.size, fun j hj => ?_⟩
    obtain ⟨x, y, q1, q2, q3⟩ := h7 j hj
    exact ⟨x, y, (hb.cell (p := ⟨b, off + 2 * j, none⟩) (Nat.lt_of_lt_of_le h6 h6')).trans q1, (hb.cell (p := ⟨b, off + 2 * j + 1, none⟩) (Nat.lt_of_lt_of_le h6 h6')).trans q2, q3.now hb⟩
theorem ZlB.box {B : Nat} {w : World} {v : Value} {zs : List Int} {k : Nat} (h : ZlB B w v zs k) {b' : Nat} {n : Bool} {a' : Option Addr} {l' c' : Nat} (d : Duo w b' (.bool n) (.slice a' l' c')) (hB : B ≤ b') (x y : Value) : ZlB B ((w.setCell ⟨b', 0, none⟩ x).setCell ⟨b', 1, none⟩ y) v zs k := by
  obtain ⟨a, c, h1, h2, h3, h4⟩ := h
  refine ⟨a, c, h1, h2, h3, ?_⟩
  rcases h4 with h4 | ⟨b, off, h5, h6, h6', h7⟩
  · exact .inl h4
  · refine .inr ⟨b, off, h5, h6, by simpa using h6', fun j hj => ?_⟩
    obtain ⟨x0, y0, q1, q2, q3⟩ := h7 j hj
    exact ⟨x0, y0, box_ne (by omega) (box_ne (by omega) q1), box_ne (by omega) (box_ne (by omega) q2), q3.wk (d.wk x y)⟩
theorem ZlB.at {B : Nat} {w : World} {b off l c : Nat} {zs : List Int} {k : Nat} (h : ZlB B w (.slice (some ⟨b, off, none⟩) l c) zs k) {i : Nat} (hi : i < zs.length) : ∃ n, ∃ xs : List Int, ∃ a c, w.cell? ⟨b, off + i * 2, none⟩ = some (.bool n) ∧ w.cell? ⟨b, off + i * 2 + 1, none⟩ = some (.slice a xs.length c) ∧ Zi w (.agg #[.bool n, .slice a xs.length c]) zs[i] k := by
  obtain ⟨a', c', h1, h2, h3, h4⟩ := h
  rcases h4 with h4 | ⟨b', off', h5, h6, h6', h7⟩
  · subst h4; simp at hi
  · simp only [Value.slice.injEq] at h1
    obtain ⟨rfl, -, -⟩ := h1
    simp only [Option.some.injEq, Addr.mk.injEq, and_true] at h5
    obtain ⟨rfl, rfl⟩ := h5
    obtain ⟨x, y, q1, q2, q3⟩ := h7 i hi
    obtain ⟨n, xs, a, c, rfl, rfl⟩ := q3.comp
    rw [Nat.mul_comm 2 i] at q1 q2
    exact ⟨n, xs, a, c, q1, q2, q3⟩
theorem ZlB.form {B : Nat} {w : World} {v : Value} {zs : List Int} {k : Nat} (h : ZlB B w v zs k) : ∃ a c, v = .slice a zs.length c ∧ zs.length ≤ c ∧ zs.length ≤ 1048576 ∧ (zs ≠ [] → ∃ b off, a = some ⟨b, off, none⟩ ∧ b < B) := by
  obtain ⟨a, c, h1, h2, h3, h4⟩ := h
  refine ⟨a, c, h1, h2, h3, fun hne => ?_⟩
  rcases h4 with h4 | ⟨b, off, h5, h6, _⟩
  · exact absurd h4 hne
  · exact ⟨b, off, h5, h6⟩
end Go.Proofs.Ytplldfnldaehiaa
