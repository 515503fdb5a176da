/-
  QCrtPureToCrt6: CrtPure, TailA, Crt6, joined.
-/
import Derived.Test.YtaoammmnpfbdfaaQExtPureToGcd6
import Derived.Test.YtaoammmnpfbdfaaQLm6
import Derived.Test.YtaoammmnpfbdfaaQTail
import Derived.Test.YtaoammmnpfbdfaaQZMetToMWord

/- CrtPure -/
namespace Go.Proofs.Ytaoammmnpfbdfaa
open Go.RowKit
set_option linter.unusedVariables false

/-- What Crt answers. -/
structure CrtV (a b c d r m : Int) : Prop where
  em : m = lcmv b d
  lo : 0 ≤ r
  hi : r < m
  d1 : b ∣ r - a
  d2 : d ∣ r - c
/-- The steps of Crt. -/
structure CrtS (a b c d g x : Int) : Prop where
  g0 : g ≠ 0
  st : (c - a).tmod g = 0
  ro : d.tmod g = 0
  rn : d.tdiv g ≠ 0
  rl : (d.tdiv g).natAbs ≤ d.natAbs
  mn : ((b * d.tdiv g).natAbs : Int) ≠ 0
  v : CrtV a b c d (((((c - a).tdiv g * x) % d.tdiv g) * b + a) % ((b * d.tdiv g).natAbs : Int)) ((b * d.tdiv g).natAbs : Int)
theorem natAbs_dvd_mul {b v : Int} : b ∣ ((b * v).natAbs : Int) := Int.dvd_natAbs.2 ⟨v, rfl⟩
theorem crtS {a b c d g x y : Int} (hb : b ≠ 0) (hd : d ≠ 0) (h : ExtV (b % d) d g x y) (hdv : (Int.gcd b d : Int) ∣ c - a) : CrtS a b c d g x := by
  obtain ⟨h1, h2, -, -⟩ := h
  rw [gcd_emod] at h1
  have gb : g ∣ b := by rw [h1]; exact Int.gcd_dvd_left ..
  have gd : g ∣ d := by rw [h1]; exact Int.gcd_dvd_right ..
  have gc : g ∣ c - a := by rw [h1]; exact hdv
  have g0 : g ≠ 0 := fun e => by subst e; exact hd (Int.zero_dvd.1 gd)
  have hl : lcmv b d = ((b.tdiv g * d).natAbs : Int) := by unfold lcmv; rw [← h1]
  obtain ⟨u, hu⟩ := gb
  obtain ⟨v, hv⟩ := gd
  obtain ⟨t, ht⟩ := gc
  have ev : d.tdiv g = v := by rw [hv, Int.mul_tdiv_cancel_left _ g0]
  have eu : b.tdiv g = u := by rw [hu, Int.mul_tdiv_cancel_left _ g0]
  have et : (c - a).tdiv g = t := by rw [ht, Int.mul_tdiv_cancel_left _ g0]
  have v0 : v ≠ 0 := fun e => by rw [e] at hv; simp at hv; exact hd hv
  have bv : b * v ≠ 0 := Int.mul_ne_zero hb v0
  rw [eu] at hl
  have em : ((b * v).natAbs : Int) = lcmv b d := by rw [hl]; congr 2; rw [hu, hv]; grind
  have mn : ((b * v).natAbs : Int) ≠ 0 := by omega
  refine ⟨g0, Int.tmod_eq_zero_of_dvd ⟨t, ht⟩, Int.tmod_eq_zero_of_dvd ⟨v, hv⟩, by rw [ev]; exact v0, tdiv_natAbs_le _ _, by rw [ev]; exact mn, ?_⟩
  rw [ev, et]
  refine ⟨em, Int.emod_nonneg _ mn, ?_, ?_, ?_⟩
  · have := Int.emod_lt ((t * x % v) * b + a) mn
    omega
  · have e := Int.emod_def ((t * x % v) * b + a) ((b * v).natAbs : Int)
    obtain ⟨q, hq⟩ := natAbs_dvd_mul (b := b) (v := v)
    rw [e]
    refine ⟨t * x % v - q * (((t * x % v) * b + a) / ((b * v).natAbs : Int)), ?_⟩
    generalize (((t * x % v) * b + a) / ((b * v).natAbs : Int)) = Q
    generalize t * x % v = T
    rw [hq]
    grind
  · have e := Int.emod_def ((t * x % v) * b + a) ((b * v).natAbs : Int)
    have e2 := Int.emod_def (t * x) v
    have e3 : b % d = b - d * (b / d) := Int.emod_def b d
    obtain ⟨q, hq⟩ := natAbs_dvd_mul (b := d) (v := u)
    have e4 : ((b * v).natAbs : Int) = ((d * u).natAbs : Int) := by congr 2; rw [hu, hv]; grind
    rw [e, e4, hq]
    generalize (((t * x % v) * b + a) / (d * q)) = Q
    rw [e2]
    generalize t * x / v = Q2
    rw [e3] at h2
    generalize b / d = Q3 at h2
    have hc : c = a + g * t := by omega
    -- (t x - v Q2) b + a - d q Q - c = t (b x - g) - d u Q2 - d q Q
    have h5 : b * x - g = d * (Q3 * x - y) := by grind
    refine ⟨t * (Q3 * x - y) - u * Q2 - q * Q, ?_⟩
    have h6 : v * b = d * u := by rw [hu, hv]; grind
    have h7 : (t * x - v * Q2) * b + a - d * q * Q - c = t * (b * x - g) - Q2 * (v * b) - d * q * Q := by rw [hc]; grind
    rw [h7, h5, h6]
    grind
end Go.Proofs.Ytaoammmnpfbdfaa

/- TailA -/
namespace Go.Proofs.Ytaoammmnpfbdfaa
open Go.RowKit
set_option linter.unusedVariables false

section
variable {P : Program} {ops : Array Oper} {Q : Exit → Act → World → Prop} {md : Region.Mode} {S : World → Prop} {n : Nat}

theorem wpAnyT_firstA {i : Nat} {oi : Oper} {v : Value} (hi : ops[i]? = some oi) (hsel : ∀ (j : Nat) (o : Oper) cs b, ops[j]? = some o → o.op ≠ .select cs b)
    (hQ : ∀ c a w, Q (.panic c) (a.put oi.dst v) w → Q (.panic c) a w)
    (hn : ops.size ≤ n) :
    ∀ (fuel : Nat) (listed : Array Bool) (a : Act) (w : World),
      (∀ j oj, ops[j]? = some oj → j ≠ i → listed.getD j true = false → (∀ e ∈ oj.after, Region.binds md e = true → e.on ≠ i) → oi.apart ops oj = true) →
      i ∈ Region.ready md ops listed → YieldsIf P ops S oi v a → S w →
      wpAnyT P md ops Q S n fuel (listed.setIfInBounds i true) (a.put oi.dst v) w → wpAnyT P md ops Q S n (fuel + 1) listed a w := by
  intro fuel
  induction fuel with
  | zero =>
    intro listed a w _ hr hy hS H
    refine ⟨fun h => (by rw [h] at hr; cases hr), fun j hj => ?_⟩
    by_cases hji : j = i
    · subst hji; exact hy.wpOp hi hS ⟨fun _ => hS, H⟩
    · have := ready_mono hj hji
      rw [H.1] at this
      cases this
  | succ fuel ih =>
    intro listed a w hfree hr hy hS H
    refine ⟨fun h => (by rw [h] at hr; cases hr), fun j hj => ?_⟩
    have hjn : j < n := by
      obtain ⟨_, oj, hoj, _⟩ := mem_ready.1 hj
      exact Nat.lt_of_lt_of_le (Array.getElem?_eq_some_iff.1 hoj).1 hn
    by_cases hji : j = i
    · subst hji; exact hy.wpOp hi hS ⟨fun _ => hS, H⟩
    · have h1 := H.2 j (ready_mono hj hji)
      obtain ⟨hjun, oj, hoj, hall⟩ := mem_ready.1 hj
      have hnot : ∀ e ∈ oj.after, Region.binds md e = true → e.on ≠ i := fun e he hb heq => by
        have h1 := hall e he hb
        have h0 := (mem_ready.1 hr).1
        rw [heq] at h1
        rcases Nat.lt_or_ge i listed.size with h' | h'
        · simp [h'] at h0 h1; rw [h0] at h1; cases h1
        · simp [Array.getElem?_eq_none h'] at h1
      have h2 := wpOp_putIf hoj (hfree j oj hoj hji hjun hnot) (fun cs b => hsel i oi cs b hi) (fun cs b => hsel j oj cs b hoj) hQ hy h1
      have hfree' : ∀ k ok, ops[k]? = some ok → k ≠ i → (listed.setIfInBounds j true).getD k true = false →
          (∀ e ∈ ok.after, Region.binds md e = true → e.on ≠ i) → oi.apart ops ok = true := fun k ok hk hki hun hno => by
        refine hfree k ok hk hki ?_ hno
        by_cases hjk : j = k
        · subst hjk; exact hjun
        · rw [getD_set_ne true hjk] at hun; exact hun
      refine wpOp_mono (fun a' w' h3 => ⟨fun _ => h3.2.1 hjn, ih (listed.setIfInBounds j true) a' w' hfree' (ready_mono hr (Ne.symm hji)) h3.1 (h3.2.1 hjn) ?_⟩) h2
      rw [Array.setIfInBounds_comm _ _ hji]
      exact h3.2.2

theorem wpAnyT_takeA {i : Nat} {oi : Oper} {v : Value} {fuel : Nat} {listed : Array Bool} {a : Act} {w : World} (hi : ops[i]? = some oi)
    (hok : (Region.noSelect ops && Region.free md ops listed i && (Region.ready md ops listed).contains i && decide (ops.size ≤ n)) = true)
    (hQ : ∀ c a w, Q (.panic c) (a.put oi.dst v) w → Q (.panic c) a w) (hy : YieldsIf P ops S oi v a) (hS : S w)
    (h : wpAnyT P md ops Q S n fuel (listed.setIfInBounds i true) (a.put oi.dst v) w) : wpAnyT P md ops Q S n (fuel + 1) listed a w := by
  simp only [Bool.and_eq_true, decide_eq_true_eq] at hok
  obtain ⟨⟨⟨h1, h2⟩, h3⟩, h4⟩ := hok
  exact wpAnyT_firstA hi (Region.noSelect_spec h1) hQ h4 fuel listed a w (Region.free_spec hi h2) (by simpa using h3) hy hS h
end
end Go.Proofs.Ytaoammmnpfbdfaa

/- Crt6 -/
namespace Go.Proofs.Ytaoammmnpfbdfaa
open Go.RowKit
set_option linter.unusedVariables false

theorem alloc6 (w : World) (o1 o2 o3 o4 o5 o6 : Obj) : Below w.heap.size w ((((((w.alloc o1).alloc o2).alloc o3).alloc o4).alloc o5).alloc o6) ∧ ((((((w.alloc o1).alloc o2).alloc o3).alloc o4).alloc o5).alloc o6).heap.size = w.heap.size + 1 + 1 + 1 + 1 + 1 + 1 := ⟨((((((Below.refl _ _).alloc (Nat.le_refl _) _).alloc (by simp) _).alloc (by simp; omega) _).alloc (by simp; omega) _).alloc (by simp; omega) _).alloc (by simp; omega) _, by simp⟩
theorem crt_fit {b d v : Int} {kb kd : Nat} (hb : (b.natAbs : Int) < pw kb) (hd : (d.natAbs : Int) < pw kd) (hv : v.natAbs ≤ d.natAbs) : ((((b * v).natAbs : Int)).natAbs : Int) < pw (kb + kd) := by
  rw [pw_plus]
  have h1 := pw_pos kb
  have h2 := pw_pos kd
  have e : ((((b * v).natAbs : Int)).natAbs : Int) = (b.natAbs : Int) * (v.natAbs : Int) := by rw [Int.natAbs_natCast, Int.natAbs_mul]; push_cast; rfl
  rw [e]
  have h3 : (b.natAbs : Int) * (v.natAbs : Int) ≤ (b.natAbs : Int) * (d.natAbs : Int) := Int.mul_le_mul_of_nonneg_left (by omega) (by omega)
  have h4 : (b.natAbs : Int) * (d.natAbs : Int) ≤ pw kb * (d.natAbs : Int) := Int.mul_le_mul_of_nonneg_right (by omega) (by omega)
  have h5 : pw kb * (d.natAbs : Int) < pw kb * pw kd := Int.mul_lt_mul_of_pos_left hd h1
  omega
/-- What Crt answers where the remainders go together. -/
def Crted (w : World) (A B S T : Int) (k : Nat) (e : Ending) (w' : World) : Prop := ∃ r m, CrtV A B S T r m ∧ GivesZ2 0 w r m k k e w'

end Go.Proofs.Ytaoammmnpfbdfaa
