/-
  Far: a list appended to an empty one, whatever has come between; as one step of a region that draws its order.
-/
import Derived.Test.YtnbjlpeclaieeaaSquareToFresh
import Derived.Test.YtnbjlpeclaieeaaOpenToBulk
import Derived.Deep.RegionLaw
import Derived.Deep.RegionHeldLaw
namespace Go.Proofs.Ytnbjlpeclaieeaa
open Go.RowKit
set_option linter.unusedVariables false

/-- A slice that holds zs; where it holds anything, at the head of a row from block B on. -/
def Far (B : Nat) (w : World) (v : Value) (zs : List Int) : Prop :=
  WF zs ∧ Formed v ∧ ∃ a cap, v = .slice a zs.length cap ∧ zs.length ≤ cap ∧ zs.length ≤ 35184372088832 ∧ (zs = [] ∨ ∃ g r, B ≤ g ∧ a = some ⟨g, 0, none⟩ ∧ Row w g (ws zs ++ r))
theorem Far.sl {B : Nat} {w : World} {v : Value} {zs : List Int} (h : Far B w v zs) : Sl w.heap.size w v zs := by
  obtain ⟨hw, _, a, cap, h1, h2, h3, h4⟩ := h
  refine ⟨hw, a, cap, h1, h2, h3, ?_⟩
  rcases h4 with e | ⟨g, r, _, h5, h6⟩
  · exact .inl e
  · exact .inr ⟨g, 0, h5, h6.lt, fun j hj => by rw [Nat.zero_add]; exact h6.word hj⟩
theorem Far.formed {B : Nat} {w : World} {v : Value} {zs : List Int} (h : Far B w v zs) : Formed v := h.2.1
theorem Far.form {B : Nat} {w : World} {v : Value} {zs : List Int} (h : Far B w v zs) : ∃ a cap, v = .slice a zs.length cap := by obtain ⟨_, _, a, cap, h1, _⟩ := h; exact ⟨a, cap, h1⟩
theorem Far.mono {B B' : Nat} {w : World} {v : Value} {zs : List Int} (h : Far B w v zs) (hB : B' ≤ B) : Far B' w v zs := by
  obtain ⟨hw, hf, a, cap, h1, h2, h3, h4⟩ := h
  refine ⟨hw, hf, a, cap, h1, h2, h3, ?_⟩
  rcases h4 with e | ⟨g, r, h5, h6⟩
  · exact .inl e
  · exact .inr ⟨g, r, by omega, h6⟩
theorem Far.keep {B : Nat} {w w' : World} {v : Value} {zs : List Int} (h : Far B w v zs) (hk : ∀ g, B ≤ g → g < w.heap.size → w'.heap[g]? = w.heap[g]?) : Far B w' v zs := by
  obtain ⟨hw, hf, a, cap, h1, h2, h3, h4⟩ := h
  refine ⟨hw, hf, a, cap, h1, h2, h3, ?_⟩
  rcases h4 with e | ⟨g, r, h5, h6, h7⟩
  · exact .inl e
  · exact .inr ⟨g, r, h5, h6, (hk g h5 h7.lt).trans h7⟩
theorem Far.now {B : Nat} {w w' : World} {v : Value} {zs : List Int} (h : Far B w v zs) (hb : Below w.heap.size w w') : Far B w' v zs := h.keep fun g _ hg => hb.block g hg
theorem Far.later {B : Nat} {w : World} {v : Value} {zs : List Int} (h : Far B w v zs) (o : Obj) : Far B (w.alloc o) v zs := h.now ((Below.refl _ _).alloc (Nat.le_refl _) o)
theorem Far.set {B g j : Nat} {w : World} {v u : Value} {zs : List Int} (h : Far B w v zs) (hg : g < B) : Far B (w.setCell ⟨g, j, none⟩ u) v zs :=
  h.keep fun k hk _ => Below.heap_setCell w _ u k (fun e => by subst e; exact absurd hg (by omega))

theorem run_append_empty (w : World) (ty : TypeId) (g : Nat) {B : Nat} {v : Value} {xs : List Int} (hsl : Sl B w v xs) (hf : Formed v) (hmx : xs.length ≤ 17592186044416) :
    ∃ v' w', (Builtin.append_ #[22, 22] ty #[.slice (some ⟨g, 0, none⟩) 0 0, v]).run Try.prog w = .ok v' w' ∧ Far w.heap.size w' v' xs ∧ Below w.heap.size w w' := by
  obtain ⟨i, hi, hz, hsz, hb⟩ := info_parts Try.infoW
  have ht := Try.underlying22
  obtain ⟨hw, ad, cap, rfl, hlc, hcm, hm⟩ := hsl
  rcases hf with e | ⟨ad', n', c', e⟩
  · simp only [Value.slice.injEq] at e
    obtain ⟨rfl, e2, rfl⟩ := e
    obtain rfl : xs = [] := List.eq_nil_of_length_eq_zero e2
    refine ⟨.slice (some ⟨g, 0, none⟩) 0 0, w, ?_, ⟨WF.nil, .inr ⟨_, _, _, rfl⟩, _, 0, rfl, Nat.le_refl _, Nat.zero_le _, .inl rfl⟩, Below.refl _ _⟩
    simp [Builtin.append_, run_underlying ht, sizeOf, typeInfo, hi, Builtin.lenOf, Builtin.firstCells, storeCells]
  · simp only [Value.slice.injEq] at e
    obtain ⟨rfl, _, _⟩ := e
    by_cases h0 : xs = []
    · subst h0
      refine ⟨.slice (some ⟨g, 0, none⟩) 0 0, w, ?_, ⟨WF.nil, .inr ⟨_, _, _, rfl⟩, _, 0, rfl, Nat.le_refl _, Nat.zero_le _, .inl rfl⟩, Below.refl _ _⟩
      simp [Builtin.append_, run_underlying ht, sizeOf, typeInfo, hi, Builtin.lenOf, Builtin.firstCells, loadCells, loadCellsFrom, storeCells]
    · have hpos : 0 < xs.length := by cases xs with
        | nil => exact absurd rfl h0
        | cons x r => simp
      have hnews : ∀ j u, (ws xs)[j]? = some u → w.cell? (ad'.add j) = some u := fun j u hj => by
        have hj' : j < xs.length := by
          have := (List.getElem?_eq_some_iff.1 hj).1
          simpa [length_ws] using this
        rcases hm with e | ⟨b, off, h1, h2, h3⟩
        · exact absurd e h0
        · simp only [Option.some.injEq] at h1
          subst h1
          have e : (⟨b, off, none⟩ : Addr).add j = ⟨b, off + j, none⟩ := by unfold Addr.add; split <;> simp_all
          rw [e, h3 j hj', ← hj]
          simp [ws, hj']
      have hfit : Builtin.nextslicecap (0 + xs.length) 0 * i.bytes ≤ 281474976710656 := by
        unfold Builtin.nextslicecap
        rw [if_pos (by omega), hb]
        omega
      have hr := run_append_grow (P := Try.prog) w 22 ty 32 i (.int .u64 0) ht hi hz ⟨g, 0, none⟩ 0 0 [] (by simp) (fun j v hj => by simp at hj) ad' xs.length cap (ws xs) (by rw [length_ws, hsz]; omega) hnews (by omega) (by omega) hfit
      have hge := grownCap_ge w (0 + xs.length) 0 32
      refine ⟨_, _, hr, ⟨hw, .inr ⟨_, _, _, rfl⟩, _, grownCap w (0 + xs.length) 0 32, by rw [Nat.zero_add], by omega, hcm, .inr ⟨w.heap.size, (Builtin.zeroCells (Value.int .u64 0).cells (grownCap w (0 + xs.length) 0 32 - (0 + xs.length))).toList, Nat.le_refl _, rfl, ?_⟩⟩, ?_⟩
      · have := heap_alloc_new w.drew (.cells (([] : List Value).toArray ++ (ws xs).toArray ++ Builtin.zeroCells (Value.int .u64 0).cells (grownCap w (0 + xs.length) 0 32 - (0 + xs.length))) 32)
        unfold Row
        refine Eq.trans this ?_
        simp
      · exact ((Below.refl w.heap.size w).drew).alloc (Nat.le_refl _) _

theorem step_append_empty {ops : Array Oper} {o : Oper} {a : Act} {w : World} {K : Act → World → Prop} {Q : Exit → Act → World → Prop} {E : Prop} (hgd : o.guard = none) (s x : Operand)
    (hop : o.op = Op.call { callee := Callee.builtin Builtin.append, args := #[s, x], argTypes := #[22, 22] })
    (g : Nat) (v : Value) (xs : List Int) (hs : a.eval s = .slice (some ⟨g, 0, none⟩) 0 0) (hx : a.eval x = v) (hsl : Sl w.heap.size w v xs) (hf : Formed v) (hmx : xs.length ≤ 17592186044416)
    (hK : ∀ v' w', Hid (Far w.heap.size w' v' xs) → Hid (Below w.heap.size w w') → K (a.put o.dst v') w') :
    if Region.wanted o (yielded ops a.tmps) = true then Oper.wp Try.prog o a w K Q else E := by
  have hw : Region.wanted o (yielded ops a.tmps) = true := by simp [Region.wanted, hgd]
  rw [if_pos hw]
  obtain ⟨v', w', hr, h1, h2⟩ := run_append_empty w o.type g hsl hf hmx
  unfold Oper.wp execOp
  simp only [hop, resolve, invoke, builtin, Sem.run_bind, Sem.run_pure, Result.andThen_ok, List.map_toArray, List.map_cons, List.map_nil, hs, hx, hr]
  exact hK v' w' h1 h2
end Go.Proofs.Ytnbjlpeclaieeaa
