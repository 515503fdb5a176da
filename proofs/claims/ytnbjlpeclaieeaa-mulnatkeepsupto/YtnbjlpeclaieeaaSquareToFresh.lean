/-
  SquareToFresh: Square, Fresh, joined.
-/
import Derived.Test.YtnbjlpeclaieeaaMulAllToSteps
import Derived.Test.YtnbjlpeclaieeaaLen2ToTrim
import Derived.Laws.AppendOwn
import Derived.Laws.AppendOwnNone

/- Square -/
namespace Go.Proofs.Ytnbjlpeclaieeaa
open Go.RowKit
set_option linter.unusedVariables false

theorem square_any {w : World} {va : Value} {xs : List Int} (ha : Sl w.heap.size w va xs) (hl : xs.length + xs.length ≤ 35184372088832) :
    Calls Try.prog 26 #[va] w (Makes w (val xs * val xs)) := by
  have HM := hid (mul_any ha ha hl)
  clear ha
  go_enter Try.func26, Try.ntmps26
  go_wp2_with fail
  refine HM.out.mono ?_
  rintro e w1 ⟨zs, r, rfl, m1, m2, m3, m4⟩
  go_wp2
  go_ret
  exact ⟨zs, r, rfl, m1, m2, m3, m4⟩
theorem square_now {w : World} {va : Value} {xs : List Int} (ha : Sl w.heap.size w va xs) (hl : xs.length + xs.length ≤ 35184372088832) :
    Calls Try.prog 26 #[va] w (Gives w (val xs * val xs) (xs.length + xs.length)) := (square_any ha hl).mono fun _ _ h => h.gives (val_mul_lt ha.1 ha.1)
end Go.Proofs.Ytnbjlpeclaieeaa

/- Fresh -/
namespace Go.Proofs.Ytnbjlpeclaieeaa
open Go.RowKit
set_option linter.unusedVariables false

theorem mine_of_owns {B : Nat} {w : World} {v : Value} {xs : List Int} (hw : WF xs) (hl : xs.length ≤ 35184372088832) (h : w.ownsRow B 32 1 v xs.length (ws xs)) : Mine B w v xs := by
  obtain ⟨_, ⟨h1, h2⟩ | ⟨g, cap, cur, h1, h2, h3, h4, h5, h6, h7⟩⟩ := h
  · exact ⟨hw, .inl ⟨h1, List.eq_nil_of_length_eq_zero h2⟩⟩
  · rw [Nat.mul_one] at h6 h7
    refine ⟨hw, .inr ⟨g, cur.toList.drop xs.length, cap, h2, hl, h4, ?_, h1, ?_⟩⟩
    · have e : cur.toList.length = cur.size := Array.length_toList
      exact .inr ⟨by rw [List.length_drop, e]; omega, h5⟩
    · unfold Row
      rw [← h7, List.take_append_drop, Array.toArray_toList]
      exact h3

theorem wpList_append_fresh (w : World) {ops : Array Oper} {rest : List Oper} {o : Oper} {a : Act} {Q : Exit → Act → World → Prop}
    (hg : o.guard = none) (s x : Operand) (hop : o.op = Op.call { callee := Callee.builtin Builtin.append, args := #[s, x], argTypes := #[22, 22] })
    (g : Nat) (v : Value) (xs : List Int) (hs : a.eval s = .slice (some ⟨g, 0, none⟩) 0 0) (hrow : Row w g []) (hx : a.eval x = v) (B : Nat) (hsl : Sl B w v xs) (hnil : v = .slice none 0 0 ∨ ∃ ad n c, v = .slice (some ad) n c) (hmx : xs.length ≤ 17592186044416)
    (hK : ∀ v' w', Hid (Mine g w' v' xs) → Below g w w' → wpList Try.prog ops Q rest (a.put o.dst v') w') :
    wpList Try.prog ops Q (o :: rest) a w := by
  obtain ⟨i, hi, hz, hsz, hb⟩ := info_parts Try.infoW
  have hown : w.ownsRow g 32 1 (.slice (some ⟨g, 0, none⟩) 0 0) 0 [] :=
    ⟨by simp, .inr ⟨g, 0, #[], rfl, Nat.le_refl _, hrow, Nat.le_refl _, Nat.zero_le _, by simp, by simp⟩⟩
  obtain ⟨hw, ad, cap, rfl, hlc, hcm, hm⟩ := hsl
  rcases hnil with e | ⟨ad', n', c', e⟩
  · simp only [Value.slice.injEq] at e
    obtain ⟨rfl, e2, rfl⟩ := e
    obtain rfl : xs = [] := List.eq_nil_of_length_eq_zero e2
    refine wpList_append_own_none hg s x 22 hop g 32 i 1 Try.underlying22 hi _ 0 [] hs hown hx ?_
    exact hK _ w (mine_of_owns WF.nil (by simp) hown) (Below.refl _ _)
  · simp only [Value.slice.injEq] at e
    obtain ⟨rfl, rfl, rfl⟩ := e
    refine wpList_append_own w hg s x 22 hop g 32 i (.int .u64 0) 1 8 Try.underlying22 hi hz hsz hb rfl (by omega) _ 0 [] hs hown ad' xs.length cap (ws xs) hx (by rw [length_ws]; omega) ?_ ?_ (by unfold maxLen; omega) (by omega) (Nat.le_of_lt hrow.lt) ?_
    · intro j u hj
      have hj' : j < xs.length := by
        have := (List.getElem?_eq_some_iff.1 hj).1
        simpa [length_ws] using this
      rcases hm with rfl | ⟨b, off, h1, h2, h3⟩
      · simp at hj'
      · simp only [Option.some.injEq] at h1
        subst h1
        have e : (⟨b, off, none⟩ : Addr).add j = ⟨b, off + j, none⟩ := by unfold Addr.add; split <;> simp_all
        rw [e, h3 j hj', ← hj]
        simp [ws, hj']
    · intro u hu
      simp only [ws, List.mem_map] at hu
      obtain ⟨y, _, rfl⟩ := hu
      rfl
    · intro v' w' ho hgr _
      rw [Nat.zero_add, List.nil_append] at ho
      exact hK v' w' (mine_of_owns hw hcm ho) ((Below.refl _ _).grown hgr (Nat.le_of_lt hrow.lt) (fun k hk => by simp [Value.ownBlock] at hk; omega))
end Go.Proofs.Ytnbjlpeclaieeaa
