/-
  QExt6ToRf11: Ext6, Lm6, CrtPure, TailA, Crt6, CrtLPure, OpenZ, OpenV8, Fit8, Chain8, IsChain8, Bw8, TailX, Round8, Rf11, joined.
-/
import Derived.Test.YtcceoildbnoliaaGreatQTailToMWord
import Derived.Test.YtcceoildbnoliaaGreatQExtPure
import Derived.Deep.LoopGhost
import Derived.Test.YtcceoildbnoliaaGreatQGcd6
import Derived.Test.YtcceoildbnoliaaGreatQMulAllToOnes
import Derived.Test.YtcceoildbnoliaaGreatQWordsToCarry
import Derived.ChangeSame
import Derived.Test.YtcceoildbnoliaaGreatQAlikeToShift
import Derived.Deep.Slices
import Derived.Test.YtcceoildbnoliaaGreatQZOnesToZCmp
import Derived.RangeFuncNested
import Derived.RangeFuncBound
import Derived.RangeFuncCalls
import Derived.RangeFuncLeaves
import Derived.RangeFuncBox
import Derived.Shelf.Abstract
import Derived.Shelf.RegionOpen
import Derived.WalkKit
import Derived.OwnWalkIn
import Derived.TacticsInMore
import Derived.LoopNIn
import Derived.LoopIn

/- Ext6 -/
namespace Go.Proofs.YtcceoildbnoliaaGreat
open Go.RowKit
set_option linter.unusedVariables false

theorem fits {z : Int} {k : Nat} {B : Int} (h : z.natAbs ≤ max 1 B.natAbs) (hB : (B.natAbs : Int) < pw k) (h1 : 1 < pw k) : (z.natAbs : Int) < pw k := by omega
end Go.Proofs.YtcceoildbnoliaaGreat

/- Lm6 -/
namespace Go.Proofs.YtcceoildbnoliaaGreat
open Go.RowKit
set_option linter.unusedVariables false

end Go.Proofs.YtcceoildbnoliaaGreat

/- CrtPure -/
namespace Go.Proofs.YtcceoildbnoliaaGreat
open Go.RowKit
set_option linter.unusedVariables false

end Go.Proofs.YtcceoildbnoliaaGreat

/- TailA -/
namespace Go.Proofs.YtcceoildbnoliaaGreat
open Go.RowKit
set_option linter.unusedVariables false

section
variable {P : Program} {ops : Array Oper} {Q : Exit → Act → World → Prop} {md : Region.Mode} {S : World → Prop} {n : Nat}

end
end Go.Proofs.YtcceoildbnoliaaGreat

/- Crt6 -/
namespace Go.Proofs.YtcceoildbnoliaaGreat
open Go.RowKit
set_option linter.unusedVariables false

end Go.Proofs.YtcceoildbnoliaaGreat

/- CrtLPure -/
namespace Go.Proofs.YtcceoildbnoliaaGreat
open Go.RowKit
set_option linter.unusedVariables false

end Go.Proofs.YtcceoildbnoliaaGreat

/- OpenZ -/
namespace Go.Proofs.YtcceoildbnoliaaGreat
open Go.ChangeShapes Go.WideShapes Go.ChangeAt Go.RowKit
set_option linter.unusedVariables false

theorem Tryz.cellsZ : Tryz.prog.cellsOf 45 = 2 := by kernel_rfl
theorem Tryz.cellsZb : Tryz.prog.cellsOf 4 = 1 := by kernel_rfl
theorem Tryz.cellsZs : Tryz.prog.cellsOf 43 = 1 := by kernel_rfl
theorem trod_struct2 {H : Type} {enc : TypeId × Value → H} {P : Program} {w : World} {base : Nat} {spare : Nat → Bool} {held : Bool} {t : TypeId} {f0 f1 : Field} {fuel : Nat} {cs : List Value} {x : DataW H × List MemPlace} (ht : P.underlying t = some (.struct #[f0, f1]))
    (h : DataW.trod enc P w base spare held fuel t cs = some x) :
    ∃ y0 y1 n, x.1 = .agg [y0.1, y1.1] ∧ cs.length = P.cellsOf t ∧ DataW.trod enc P w base spare held n f0.type ((cs.drop f0.offset).take (P.cellsOf f0.type)) = some y0 ∧ DataW.trod enc P w base spare held n f1.type ((cs.drop f1.offset).take (P.cellsOf f1.type)) = some y1 := by
  obtain ⟨xs, n, _, rfl, hl, hlen, hf⟩ := DataW.trod_struct ht h
  match xs, hlen with
  | [y0, y1], _ => exact ⟨y0, y1, n, by simp, hl, by simpa using hf 0 f0 rfl, by simpa using hf 1 f1 rfl⟩
end Go.Proofs.YtcceoildbnoliaaGreat

/- OpenV8 -/
namespace Go.Proofs.YtcceoildbnoliaaGreat
open Go.ChangeShapes Go.WideShapes Go.ChangeAt Go.RowKit
set_option linter.unusedVariables false

/-- A list of integers in whatever form; the j-th has at most ks[j] words. -/
def Zw (w : World) (v : Value) (zs : List Int) (ks : List Nat) : Prop :=
  ks.length = zs.length ∧ ∃ a c, v = .slice a zs.length c ∧ zs.length ≤ c ∧ zs.length ≤ 1048576 ∧ (zs = [] ∨ ∃ b off, a = some ⟨b, off, none⟩ ∧ b < w.heap.size ∧ ∀ j z k, zs[j]? = some z → ks[j]? = some k → ∃ x y, w.cell? ⟨b, off + 2 * j, none⟩ = some x ∧ w.cell? ⟨b, off + 2 * j + 1, none⟩ = some y ∧ Zi w (.agg #[x, y]) z k)
def ksum (ks : List Nat) : Nat := ks.foldr (· + ·) 0
theorem ksum_cons (k : Nat) (ks : List Nat) : ksum (k :: ks) = k + ksum ks := rfl
theorem ksum_bulk {H : Type} {D : Nat → DataW H} {q : Nat → Nat} : ∀ l : List Nat, (∀ i ∈ l, q i + 1 ≤ Rows.uptoBulk (D i)) → ksum (l.map q) + l.length ≤ Rows.uptoBulkAll (l.map D)
  | [], _ => by simp [ksum]
  | i :: r, h => by
    have h1 := h i (by simp)
    have h2 := ksum_bulk r (fun j hj => h j (by simp [hj]))
    simp only [List.map_cons, ksum_cons, Rows.uptoBulkAll, List.length_cons]
    omega
set_option maxRecDepth 100000 in
/-- One integer, read, its words and one at most its bulk. -/
theorem open_int3 {H : Type} {enc : TypeId × Value → H} {W : World} {fuel : Nat} {cs : List Value} {x : DataW H × List MemPlace}
    (hf : DataW.trod enc Tryz.prog W 0 (fun _ => true) true fuel 45 cs = some x) (hb : Rows.uptoBulk x.1 ≤ 1048576) :
    ∃ x0 x1 z k, cs = [x0, x1] ∧ Zi W (.agg #[x0, x1]) z k ∧ k + 1 ≤ Rows.uptoBulk x.1 := by
  obtain ⟨y0, y1, n, hx, hl, t0, t1⟩ := trod_struct2 Tryz.underlying45 hf
  rw [Tryz.cellsZ] at hl
  rw [hx] at hb ⊢
  simp only [Rows.uptoBulk, Rows.uptoBulkAll] at hb ⊢
  obtain ⟨c0, c1, rfl⟩ : ∃ c0 c1, cs = [c0, c1] := by
    match cs, hl with
    | [c0, c1], _ => exact ⟨c0, c1, rfl⟩
  simp only [Tryz.cellsZb, Tryz.cellsZs, List.drop_zero, List.drop_succ_cons, List.take_succ_cons, List.take_zero] at t0 t1
  obtain ⟨k, e0, _⟩ := DataW.trod_bool Tryz.underlying4 t0
  obtain ⟨xs, sx, lx, fx⟩ := open_words3 t1 (by omega)
  simp only [List.cons.injEq, and_true] at e0
  subst e0
  obtain ⟨a, c, rfl⟩ : ∃ a c, c1 = .slice a xs.length c := by obtain ⟨_, a, c, e, _⟩ := sx; exact ⟨a, c, e⟩
  have := bulk_pos y0.1
  exact ⟨_, _, iv k xs, xs.length, rfl, ⟨k, xs, a, c, rfl, sx, rfl, Nat.le_refl _⟩, by omega⟩
set_option maxRecDepth 100000 in
theorem open_ints1 {H : Type} {enc : TypeId × Value → H} {W : World} {fuel : Nat} {v : Value} {y : DataW H × List MemPlace}
    (hf : DataW.trod enc Tryz.prog W 0 (fun _ => true) true fuel 33 [v] = some y) (hb : Rows.uptoBulk y.1 ≤ 1048576) :
    ∃ zs ks, Zw W v zs ks ∧ zs.length + ksum ks + 1 ≤ Rows.uptoBulk y.1 := by
  rcases Deep.open_slice Tryz.underlying33 hf with ⟨hcs, _⟩ | ⟨x, len, cap, m, n, D, Pl, hcs, _, hl, hm, hmm, hx, hel⟩
  · simp only [List.cons.injEq, and_true] at hcs
    subst hcs
    exact ⟨[], [], ⟨rfl, none, 0, rfl, Nat.le_refl _, Nat.zero_le _, .inl rfl⟩, bulk_pos _⟩
  · simp only [List.cons.injEq, and_true] at hcs
    subst hcs
    simp only [if_true] at hmm
    subst hmm
    rw [hx] at hb ⊢
    simp only [Rows.uptoBulk] at hb ⊢
    have e1 := bulk_len ((List.range len).map D)
    simp only [List.length_map, List.length_range] at e1
    rw [Tryz.cellsZ] at hel
    obtain ⟨q, hq⟩ := Deep.choose_lt (α := Value × Value × Int × Nat) (n := len) (p := fun i q => W.cells? 0 (x.add (i * 2)) 2 = some [q.1, q.2.1] ∧ Zi W (.agg #[q.1, q.2.1]) q.2.2.1 q.2.2.2 ∧ q.2.2.2 + 1 ≤ Rows.uptoBulk (D i)) (fun i hi => by
        obtain ⟨cs', h1, h2⟩ := hel i (by omega)
        have hbi : Rows.uptoBulk (D i) ≤ 1048576 := by
          have := bulk_in (List.mem_map_of_mem (f := D) (List.mem_range.2 hi))
          omega
        obtain ⟨x0, x1, z, k, rfl, s1, s2⟩ := open_int3 (x := (D i, Pl i)) h2 hbi
        exact ⟨(x0, x1, z, k), h1, s1, s2⟩)
    have ht := ksum_bulk (D := D) (q := fun i => (q i).2.2.2) (List.range len) (fun i hi => (hq i (List.mem_range.1 hi)).2.2)
    simp only [List.length_range] at ht
    refine ⟨(List.range len).map fun i => (q i).2.2.1, (List.range len).map fun i => (q i).2.2.2, ⟨by simp, some x, m, by simp, by simpa using hl, by simp; omega, ?_⟩, by simp; omega⟩
    by_cases he : len = 0
    · exact .inl (by simp [he])
    · obtain ⟨b, off, spot⟩ := x
      have hc := (World.cells?_some (hq 0 (by omega)).1).2.2 0 (by omega)
      rw [Deep.add_add] at hc
      simp only [Nat.zero_mul, Nat.add_zero, List.getElem?_cons_zero] at hc
      have hspot : spot = none := by simpa [Addr.add] using World.cell?_spot hc
      subst hspot
      refine .inr ⟨b, off, rfl, ?_, fun j z k hz hk => ?_⟩
      · have := World.block_lt_of_cell? W _ hc
        simpa [Addr.add] using this
      · have hj : j < len := by
          have := (List.getElem?_eq_some_iff.1 hz).1
          simpa using this
        have ea : ∀ j, (⟨b, off, none⟩ : Addr).add j = ⟨b, off + j, none⟩ := fun j => by unfold Addr.add; split <;> simp_all
        have k0 := (World.cells?_some (hq j hj).1).2.2 0 (by omega)
        have k1 := (World.cells?_some (hq j hj).1).2.2 1 (by omega)
        rw [Deep.add_add, ea] at k0 k1
        simp only [Nat.add_zero, List.getElem?_cons_zero, List.getElem?_cons_succ] at k0 k1
        simp only [List.getElem?_map, List.getElem?_range hj, Option.map_some, Option.some.injEq] at hz hk
        subst hz hk
        refine ⟨(q j).1, (q j).2.1, ?_, ?_, (hq j hj).2.1⟩
        · rw [Nat.mul_comm 2 j]; exact k0
        · rw [Nat.mul_comm 2 j, Nat.add_assoc]; exact k1
theorem open_ints {H : Type} {enc : TypeId × Value → H} {W : World} {a : Option Addr} {len cap : Nat} {d : DataW H} {p : List MemPlace}
    (h0 : DataW.Trod enc Tryz.prog W 0 (fun _ => true) true 33 (.slice a len cap) d p) (hb : Rows.uptoBulk d ≤ 1048576) :
    ∃ zs ks, Zw W (.slice a len cap) zs ks ∧ zs.length + ksum ks ≤ 1048576 := by
  obtain ⟨fuel, hf⟩ := h0
  obtain ⟨zs, ks, h1, h2⟩ := open_ints1 (y := (d, p)) hf hb
  have h2' : zs.length + ksum ks + 1 ≤ Rows.uptoBulk d := h2
  exact ⟨zs, ks, h1, by omega⟩
end Go.Proofs.YtcceoildbnoliaaGreat

/- Fit8 -/
namespace Go.Proofs.YtcceoildbnoliaaGreat
open Go.RowKit
set_option linter.unusedVariables false

end Go.Proofs.YtcceoildbnoliaaGreat

/- Chain8 -/
namespace Go.Proofs.YtcceoildbnoliaaGreat
open Go.RowKit
set_option linter.unusedVariables false

end Go.Proofs.YtcceoildbnoliaaGreat

/- IsChain8 -/
namespace Go.Proofs.YtcceoildbnoliaaGreat
open Go.RowKit
set_option linter.unusedVariables false

end Go.Proofs.YtcceoildbnoliaaGreat

/- Bw8 -/
namespace Go.Proofs.YtcceoildbnoliaaGreat
open Go.RowKit Go.Shelf
set_option linter.unusedVariables false
attribute [local go_sem] Oper.semAt_some

end Go.Proofs.YtcceoildbnoliaaGreat

/- TailX -/
namespace Go.Proofs.YtcceoildbnoliaaGreat
open Go.RowKit
set_option linter.unusedVariables false

section
variable {P : Program} {ops : Array Oper} {Q : Exit → Act → World → Prop} {md : Region.Mode} {S : World → Prop} {X : List Nat}

def wpAnyX (P : Program) (md : Region.Mode) (ops : Array Oper) (Q : Exit → Act → World → Prop) (S : World → Prop) (X : List Nat) : Nat → Array Bool → Act → World → Prop
  | 0, listed, a, w => Region.ready md ops listed = [] ∧ Q .normal a w
  | fuel + 1, listed, a, w =>
    (Region.ready md ops listed = [] → Q .normal a w) ∧
    ∀ i ∈ Region.ready md ops listed, wpOp P ops Q i (fun a' w' => (X.contains i = false → S w → S w') ∧ wpAnyX P md ops Q S X fuel (listed.setIfInBounds i true) a' w') a w

theorem wpAny_of_X : ∀ (fuel : Nat) (listed : Array Bool) (a : Act) (w : World), wpAnyX P md ops Q S X fuel listed a w → wpAny P md ops Q fuel listed a w
  | 0, _, _, _, h => h
  | fuel + 1, _, _, _, h => ⟨h.1, fun i hi => wpOp_mono (fun a' w' h' => wpAny_of_X fuel _ a' w' h'.2) (h.2 i hi)⟩

/-- S' is what the value rests on: S, or nothing. -/
theorem wpAnyX_first {S' : World → Prop} {i : Nat} {oi : Oper} {v : Value} (hi : ops[i]? = some oi) (hsel : ∀ (j : Nat) (o : Oper) cs b, ops[j]? = some o → o.op ≠ .select cs b)
    (hQ : ∀ c a w, Q (.panic c) (a.put oi.dst v) w → Q (.panic c) a w)
    (hX : ∀ (j : Nat) (w w' : World), (∀ oj, ops[j]? = some oj → ∀ e ∈ oj.after, Region.binds md e = true → e.on ≠ i) → ((X.contains j = false → S w → S w') → S' w → S' w')) :
    ∀ (fuel : Nat) (listed : Array Bool) (a : Act) (w : World),
      (∀ j oj, ops[j]? = some oj → j ≠ i → listed.getD j true = false → (∀ e ∈ oj.after, Region.binds md e = true → e.on ≠ i) → oi.apart ops oj = true) →
      i ∈ Region.ready md ops listed → YieldsIf P ops S' oi v a → S' w →
      wpAnyX P md ops Q S X fuel (listed.setIfInBounds i true) (a.put oi.dst v) w → wpAnyX P md ops Q S X (fuel + 1) listed a w := by
  intro fuel
  induction fuel with
  | zero =>
    intro listed a w _ hr hy hS H
    refine ⟨fun h => (by rw [h] at hr; cases hr), fun j hj => ?_⟩
    by_cases hji : j = i
    · subst hji; exact hy.wpOp hi hS ⟨fun _ h => h, H⟩
    · have := ready_mono hj hji
      rw [H.1] at this
      cases this
  | succ fuel ih =>
    intro listed a w hfree hr hy hS H
    refine ⟨fun h => (by rw [h] at hr; cases hr), fun j hj => ?_⟩
    by_cases hji : j = i
    · subst hji; exact hy.wpOp hi hS ⟨fun _ h => h, H⟩
    · have h1 := H.2 j (ready_mono hj hji)
      obtain ⟨hjun, oj, hoj, hall⟩ := mem_ready.1 hj
      have hnot : ∀ e ∈ oj.after, Region.binds md e = true → e.on ≠ i := fun e he hb heq => by
        have h1 := hall e he hb
        have h0 := (mem_ready.1 hr).1
        rw [heq] at h1
        rcases Nat.lt_or_ge i listed.size with h' | h'
        · simp [h'] at h0 h1; rw [h0] at h1; cases h1
        · simp [Array.getElem?_eq_none h'] at h1
      have h2 := wpOp_putIf hoj (hfree j oj hoj hji hjun hnot) (fun cs b => hsel i oi cs b hi) (fun cs b => hsel j oj cs b hoj) hQ hy h1
      have hfree' : ∀ k ok, ops[k]? = some ok → k ≠ i → (listed.setIfInBounds j true).getD k true = false →
          (∀ e ∈ ok.after, Region.binds md e = true → e.on ≠ i) → oi.apart ops ok = true := fun k ok hk hki hun hno => by
        refine hfree k ok hk hki ?_ hno
        by_cases hjk : j = k
        · subst hjk; exact hjun
        · rw [getD_set_ne true hjk] at hun; exact hun
      refine wpOp_mono (fun a' w' h3 => ⟨h3.2.1, ih (listed.setIfInBounds j true) a' w' hfree' (ready_mono hr (Ne.symm hji)) h3.1 (hX j w w' (fun o' ho' => by rw [hoj] at ho'; cases ho'; exact hnot) h3.2.1 hS) ?_⟩) h2
      rw [Array.setIfInBounds_comm _ _ hji]
      exact h3.2.2
/-- A value that rests on no memory. -/
theorem wpAnyX_pure {i : Nat} {oi : Oper} {v : Value} {fuel : Nat} {listed : Array Bool} {a : Act} {w : World} (hi : ops[i]? = some oi)
    (hok : (Region.noSelect ops && Region.free md ops listed i && (Region.ready md ops listed).contains i) = true)
    (hQ : ∀ c a w, Q (.panic c) (a.put oi.dst v) w → Q (.panic c) a w) (hy : YieldsIf P ops (fun _ => True) oi v a)
    (h : wpAnyX P md ops Q S X fuel (listed.setIfInBounds i true) (a.put oi.dst v) w) : wpAnyX P md ops Q S X (fuel + 1) listed a w := by
  simp only [Bool.and_eq_true] at hok
  obtain ⟨⟨h1, h2⟩, h3⟩ := hok
  exact wpAnyX_first (S' := fun _ => True) hi (Region.noSelect_spec h1) hQ (fun _ _ _ _ _ _ => trivial) fuel listed a w (Region.free_spec hi h2) (by simpa using h3) hy trivial h
theorem wpAnyX_one {i : Nat} {o : Oper} {fuel : Nat} {listed : Array Bool} {a : Act} {w : World} (hr : Region.ready md ops listed = [i]) (ho : ops[i]? = some o)
    (h : ∀ K' : Act → World → Prop, Shut (∀ a' w', (X.contains i = false → S w → S w') → wpAnyX P md ops Q S X fuel (listed.setIfInBounds i true) a' w' → K' a' w') → if Region.wanted o (yielded ops a.tmps) = true then Oper.wp P o a w K' Q else K' (a.put o.dst undef) w) :
    wpAnyX P md ops Q S X (fuel + 1) listed a w := by
  refine ⟨fun h0 => (by rw [hr] at h0; cases h0), fun j hj => ?_⟩
  rw [hr] at hj
  obtain rfl := List.mem_singleton.1 hj
  exact wpOp_step ho (fun K' hK => h K' (fun a' w' hS hW => hK a' w' ⟨hS, hW⟩))
theorem wpAnyX_done {listed : Array Bool} {a : Act} {w : World} (hr : Region.ready md ops listed = []) (h : Q .normal a w) :
    ∀ fuel, wpAnyX P md ops Q S X fuel listed a w
  | 0 => ⟨hr, h⟩
  | _ + 1 => ⟨fun _ => h, by rw [hr]; simp⟩
theorem wp_region_X (S : World → Prop) (X : List Nat) {id : Nat} {a : Act} {w : World} (hm : P.follows .mixedOrders = true)
    (h : wpAnyX P .any ops Q S X ops.size (Array.replicate ops.size false) a w.drew) : (Code.region id ops true).wp P Q a w :=
  wp_region_any hm (wpAny_of_X _ _ _ _ h)
end
end Go.Proofs.YtcceoildbnoliaaGreat

/- Round8 -/
namespace Go.Proofs.YtcceoildbnoliaaGreat
open Go.RowKit Go.Shelf
set_option linter.unusedVariables false

end Go.Proofs.YtcceoildbnoliaaGreat

/- Rf11 -/
namespace Go.Proofs.YtcceoildbnoliaaGreat
open Go.RowKit Go.Shelf
set_option linter.unusedVariables false

end Go.Proofs.YtcceoildbnoliaaGreat
