/-
  QWp8ToFresh: Wp8, Square, Fresh, joined.
-/
import Derived.Test.YtaoammmnpfbdfaaQZModToZDivs
import Derived.Test.YtaoammmnpfbdfaaQRq8ToMWord
import Derived.Test.YtaoammmnpfbdfaaQMulAll
import Derived.Test.YtaoammmnpfbdfaaQLen2ToByWord
import Derived.Laws.AppendOwn
import Derived.Laws.AppendOwnNone

/- Wp8 -/
namespace Go.Proofs.Ytaoammmnpfbdfaa
open Go.RowKit
set_option linter.unusedVariables false

theorem fl_spec {A B : Int} (hB : B ≠ 0) : fdv A B * B + fmd A B = A ∧ (0 < B → 0 ≤ fmd A B ∧ fmd A B < B) ∧ (B < 0 → B < fmd A B ∧ fmd A B ≤ 0) := by
  have d := divs (A := A) hB
  have f3 := d.f3
  have f2 := d.f2
  rw [sgn_prod] at f3
  refine ⟨d.f1, fun h => ⟨?_, ?_⟩, fun h => ⟨?_, ?_⟩⟩ <;> omega
/-- The integer nearest to A/B. -/
def Nr (A B m : Int) : Prop := 2 * ((A - m * B).natAbs : Int) ≤ (B.natAbs : Int) ∧ (2 * ((A - m * B).natAbs : Int) = (B.natAbs : Int) → m % 2 = 0)
theorem near_up {A B : Int} (hB : B ≠ 0) (h : (B.natAbs : Int) < ((fmd A B + fmd A B).natAbs : Int)) : Nr A B (fdv A B + 1) := by
  obtain ⟨e, p, n⟩ := fl_spec (A := A) hB
  have e' : A - (fdv A B + 1) * B = fmd A B - B := by rw [Int.add_mul, Int.one_mul]; omega
  unfold Nr
  rw [e']
  refine ⟨?_, fun h' => ?_⟩ <;> rcases Int.lt_or_gt_of_ne hB with b | b
  · have := n b; omega
  · have := p b; omega
  · have := n b; omega
  · have := p b; omega
theorem near_tie_odd {A B : Int} (hB : B ≠ 0) (h : ((fmd A B + fmd A B).natAbs : Int) = (B.natAbs : Int)) (ho : (fdv A B).natAbs % 2 = 1) : Nr A B (fdv A B + 1) := by
  obtain ⟨e, p, n⟩ := fl_spec (A := A) hB
  have e' : A - (fdv A B + 1) * B = fmd A B - B := by rw [Int.add_mul, Int.one_mul]; omega
  unfold Nr
  rw [e']
  refine ⟨?_, fun h' => by omega⟩
  rcases Int.lt_or_gt_of_ne hB with b | b
  · have := n b; omega
  · have := p b; omega
theorem near_stay {A B : Int} (hB : B ≠ 0) (h : ((fmd A B + fmd A B).natAbs : Int) < (B.natAbs : Int) ∨ ((fmd A B + fmd A B).natAbs : Int) = (B.natAbs : Int) ∧ (fdv A B).natAbs % 2 = 0) : Nr A B (fdv A B) := by
  obtain ⟨e, p, n⟩ := fl_spec (A := A) hB
  have e' : A - fdv A B * B = fmd A B := by omega
  unfold Nr
  rw [e']
  refine ⟨?_, fun h' => ?_⟩ <;> omega
theorem sgn_one : cmpI 1 0 = 1 := by decide
theorem sgn_two : cmpI 2 0 = 1 := by decide
/-- Cmp of the floor, and of the floor and 1. -/
theorem cmp_floor {N D : Int} (hD : D ≠ 0) : ¬ 0 < cmpI 1 0 * cmpI D 0 * cmpI (fdv N D * D) (N * 1) := by
  obtain ⟨e, p, n⟩ := fl_spec (A := N) hD
  rw [sgn_one, Int.one_mul, Int.mul_one]
  rcases Int.lt_or_gt_of_ne hD with b | b
  · have := n b
    rw [cmpI_lt b]
    rcases cmp_cases (fdv N D * D) N with ⟨_, h⟩ | ⟨_, h⟩ | ⟨_, h⟩ <;> rw [h] <;> omega
  · have := p b
    rw [cmpI_gt b]
    rcases cmp_cases (fdv N D * D) N with ⟨_, h⟩ | ⟨_, h⟩ | ⟨_, h⟩ <;> rw [h] <;> omega
theorem cmp_above {N D : Int} (hD : D ≠ 0) : 0 < cmpI 1 0 * cmpI D 0 * cmpI ((fdv N D + 1) * D) (N * 1) := by
  obtain ⟨e, p, n⟩ := fl_spec (A := N) hD
  rw [sgn_one, Int.one_mul, Int.mul_one, Int.add_mul, Int.one_mul]
  rcases Int.lt_or_gt_of_ne hD with b | b
  · have := n b
    rw [cmpI_lt b, cmpI_lt (by omega)]
    decide
  · have := p b
    rw [cmpI_gt b, cmpI_gt (by omega)]
    decide
/-- The gap. -/
theorem cmp_gap {N D m : Int} {g : Rat} (hD : D ≠ 0) (hm : Nr N D m) (hg : g.num * D = (N - m * D) * (g.den : Int)) :
    ¬ 0 < cmpI (g.den : Int) 0 * cmpI 2 0 * cmpI ((g.num.natAbs : Int) * 2) (1 * (g.den : Int)) ∧ (cmpI (g.den : Int) 0 * cmpI 2 0 * cmpI ((g.num.natAbs : Int) * 2) (1 * (g.den : Int)) = 0 → m % 2 = 0) := by
  have d0 : 0 < (g.den : Int) := by have := g.den_pos; omega
  obtain ⟨h1, h2⟩ := hm
  have ea : (g.num.natAbs : Int) * (D.natAbs : Int) = ((N - m * D).natAbs : Int) * (g.den : Int) := by
    have := congrArg Int.natAbs hg
    rw [Int.natAbs_mul, Int.natAbs_mul, Int.natAbs_natCast] at this
    exact_mod_cast this
  rw [sgn_two, cmpI_gt d0, Int.one_mul, Int.one_mul, Int.one_mul]
  have Dp : 0 < (D.natAbs : Int) := by omega
  generalize (g.num.natAbs : Int) = x at *
  generalize ((N - m * D).natAbs : Int) = y at *
  generalize (D.natAbs : Int) = z at *
  generalize (g.den : Int) = d at *
  have k1 : x * 2 ≤ d := by
    refine Int.le_of_mul_le_mul_right ?_ Dp
    have e1 : x * 2 * z = 2 * y * d := by grind
    rw [e1]
    have := Int.mul_le_mul_of_nonneg_right h1 (Int.le_of_lt d0)
    rw [Int.mul_comm d z]
    exact this
  refine ⟨?_, fun h => h2 ?_⟩
  · rcases cmp_cases (x * 2) d with ⟨_, h⟩ | ⟨_, h⟩ | ⟨_, h⟩ <;> rw [h] <;> omega
  · have e0 : x * 2 = d := cmpI_zero h
    have : 2 * y * d = z * d := by
      have : 2 * y * d = 2 * (y * d) := by grind
      rw [this, ← ea, ← e0]
      grind
    exact Int.eq_of_mul_eq_mul_right (by omega) this
/-- A whole number more makes the floor that much more. -/
theorem floor_more {N D K : Int} {f : Rat} (hD : D ≠ 0) (hf : f.num * D = (N + K * D) * (f.den : Int)) : fdv f.num (f.den : Int) = fdv N D + K := by
  have d0 : 0 < (f.den : Int) := by have := f.den_pos; omega
  obtain ⟨e, p, n⟩ := fl_spec (A := N) hD
  obtain ⟨e', p', -⟩ := fl_spec (A := f.num) (B := (f.den : Int)) (by omega)
  obtain ⟨r0, r1⟩ := p' d0
  generalize fdv f.num (f.den : Int) = q' at *
  generalize fmd f.num (f.den : Int) = r' at *
  generalize fdv N D = q at *
  generalize fmd N D = r at *
  generalize (f.den : Int) = d at *
  generalize f.num = x at *
  subst e e'
  have h1 : (q + K - q') * (D * d) = r' * D - r * d := by grind
  rcases Int.lt_or_gt_of_ne hD with b | b
  · obtain ⟨s0, s1⟩ := n b
    have a1 : r' * D ≤ 0 := Int.mul_nonpos_of_nonneg_of_nonpos r0 (by omega)
    have a2 : d * D < r' * D := Int.mul_lt_mul_of_neg_right r1 b
    have a3 : r * d ≤ 0 := Int.mul_nonpos_of_nonpos_of_nonneg s1 (by omega)
    have a4 : D * d < r * d := Int.mul_lt_mul_of_pos_right s0 d0
    have a5 : d * D = D * d := Int.mul_comm _ _
    have Dd : D * d < 0 := Int.mul_neg_of_neg_of_pos b d0
    have z : q + K - q' = 0 := by
      refine Classical.byContradiction fun hz => ?_
      rcases Int.lt_or_gt_of_ne hz with c | c
      · have := Int.mul_le_mul_of_nonpos_right (show q + K - q' ≤ -1 by omega) (Int.le_of_lt Dd)
        omega
      · have := Int.mul_le_mul_of_nonpos_right (show 1 ≤ q + K - q' by omega) (Int.le_of_lt Dd)
        omega
    omega
  · obtain ⟨s0, s1⟩ := p b
    have a1 : 0 ≤ r' * D := Int.mul_nonneg r0 (by omega)
    have a2 : r' * D < d * D := Int.mul_lt_mul_of_pos_right r1 b
    have a3 : 0 ≤ r * d := Int.mul_nonneg s0 (by omega)
    have a4 : r * d < D * d := Int.mul_lt_mul_of_pos_right s1 d0
    have a5 : d * D = D * d := Int.mul_comm _ _
    have Dd : 0 < D * d := Int.mul_pos b d0
    have z : q + K - q' = 0 := by
      refine Classical.byContradiction fun hz => ?_
      rcases Int.lt_or_gt_of_ne hz with c | c
      · have := Int.mul_le_mul_of_nonneg_right (show q + K - q' ≤ -1 by omega) (Int.le_of_lt Dd)
        omega
      · have := Int.mul_le_mul_of_nonneg_right (show 1 ≤ q + K - q' by omega) (Int.le_of_lt Dd)
        omega
    omega
end Go.Proofs.Ytaoammmnpfbdfaa

/- Square -/
namespace Go.Proofs.Ytaoammmnpfbdfaa
open Go.RowKit
set_option linter.unusedVariables false

theorem square_any {w : World} {va : Value} {xs : List Int} (ha : Sl w.heap.size w va xs) (hl : xs.length + xs.length ≤ 35184372088832) :
    Calls Try.prog 88 #[va] w (Makes w (val xs * val xs)) := by
  have HM := hid (mul_any ha ha hl)
  clear ha
  go_enter Try.func88, Try.ntmps88
  go_wp2_with fail
  refine HM.out.mono ?_
  rintro e w1 ⟨zs, r, rfl, m1, m2, m3, m4⟩
  go_wp2
  go_ret
  exact ⟨zs, r, rfl, m1, m2, m3, m4⟩
theorem square_now {w : World} {va : Value} {xs : List Int} (ha : Sl w.heap.size w va xs) (hl : xs.length + xs.length ≤ 35184372088832) :
    Calls Try.prog 88 #[va] w (Gives w (val xs * val xs) (xs.length + xs.length)) := (square_any ha hl).mono fun _ _ h => h.gives (val_mul_lt ha.1 ha.1)
end Go.Proofs.Ytaoammmnpfbdfaa

/- Fresh -/
namespace Go.Proofs.Ytaoammmnpfbdfaa
open Go.RowKit
set_option linter.unusedVariables false

theorem mine_of_owns {B : Nat} {w : World} {v : Value} {xs : List Int} (hw : WF xs) (hl : xs.length ≤ 35184372088832) (h : w.ownsRow B 52 1 v xs.length (ws xs)) : Mine B w v xs := by
  obtain ⟨_, ⟨h1, h2⟩ | ⟨g, cap, cur, h1, h2, h3, h4, h5, h6, h7⟩⟩ := h
  · exact ⟨hw, .inl ⟨h1, List.eq_nil_of_length_eq_zero h2⟩⟩
  · rw [Nat.mul_one] at h6 h7
    refine ⟨hw, .inr ⟨g, cur.toList.drop xs.length, cap, h2, hl, h4, ?_, h1, ?_⟩⟩
    · have e : cur.toList.length = cur.size := Array.length_toList
      exact .inr ⟨by rw [List.length_drop, e]; omega, h5⟩
    · unfold Row
      rw [← h7, List.take_append_drop, Array.toArray_toList]
      exact h3

theorem wpList_append_fresh (w : World) {ops : Array Oper} {rest : List Oper} {o : Oper} {a : Act} {Q : Exit → Act → World → Prop}
    (hg : o.guard = none) (s x : Operand) (hop : o.op = Op.call { callee := Callee.builtin Builtin.append, args := #[s, x], argTypes := #[22, 22] })
    (g : Nat) (v : Value) (xs : List Int) (hs : a.eval s = .slice (some ⟨g, 0, none⟩) 0 0) (hrow : Row w g []) (hx : a.eval x = v) (B : Nat) (hsl : Sl B w v xs) (hnil : v = .slice none 0 0 ∨ ∃ ad n c, v = .slice (some ad) n c) (hmx : xs.length ≤ 17592186044416)
    (hK : ∀ v' w', Hid (Mine g w' v' xs) → Below g w w' → wpList Try.prog ops Q rest (a.put o.dst v') w') :
    wpList Try.prog ops Q (o :: rest) a w := by
  obtain ⟨i, hi, hz, hsz, hb⟩ := info_parts Try.infoW
  have hown : w.ownsRow g 52 1 (.slice (some ⟨g, 0, none⟩) 0 0) 0 [] :=
    ⟨by simp, .inr ⟨g, 0, #[], rfl, Nat.le_refl _, hrow, Nat.le_refl _, Nat.zero_le _, by simp, by simp⟩⟩
  obtain ⟨hw, ad, cap, rfl, hlc, hcm, hm⟩ := hsl
  rcases hnil with e | ⟨ad', n', c', e⟩
  · simp only [Value.slice.injEq] at e
    obtain ⟨rfl, e2, rfl⟩ := e
    obtain rfl : xs = [] := List.eq_nil_of_length_eq_zero e2
    refine wpList_append_own_none hg s x 22 hop g 52 i 1 Try.underlying22 hi _ 0 [] hs hown hx ?_
    exact hK _ w (mine_of_owns WF.nil (by simp) hown) (Below.refl _ _)
  · simp only [Value.slice.injEq] at e
    obtain ⟨rfl, rfl, rfl⟩ := e
    refine wpList_append_own w hg s x 22 hop g 52 i (.int .u64 0) 1 8 Try.underlying22 hi hz hsz hb rfl (by omega) _ 0 [] hs hown ad' xs.length cap (ws xs) hx (by rw [length_ws]; omega) ?_ ?_ (by unfold maxLen; omega) (by omega) (Nat.le_of_lt hrow.lt) ?_
    · intro j u hj
      have hj' : j < xs.length := by
        have := (List.getElem?_eq_some_iff.1 hj).1
        simpa [length_ws] using this
      rcases hm with rfl | ⟨b, off, h1, h2, h3⟩
      · simp at hj'
      · simp only [Option.some.injEq] at h1
        subst h1
        have e : (⟨b, off, none⟩ : Addr).add j = ⟨b, off + j, none⟩ := by unfold Addr.add; split <;> simp_all
        rw [e, h3 j hj', ← hj]
        simp [ws, hj']
    · intro u hu
      simp only [ws, List.mem_map] at hu
      obtain ⟨y, _, rfl⟩ := hu
      rfl
    · intro v' w' ho hgr _
      rw [Nat.zero_add, List.nil_append] at ho
      exact hK v' w' (mine_of_owns hw hcm ho) ((Below.refl _ _).grown hgr (Nat.le_of_lt hrow.lt) (fun k hk => by simp [Value.ownBlock] at hk; omega))
end Go.Proofs.Ytaoammmnpfbdfaa
