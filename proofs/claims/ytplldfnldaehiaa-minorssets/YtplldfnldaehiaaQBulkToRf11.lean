/-
  QBulkToRf11: Bulk, OpenZ, OpenV8, Fit8, Chain8, IsChain8, Bw8, TailX, Round8, Rf11, joined.
-/
import Derived.Test.YtplldfnldaehiaaRows
import Derived.Test.YtplldfnldaehiaaQOpenToTimes
import Derived.Test.YtplldfnldaehiaaQMulAllToOnes
import Derived.ChangeSame
import Derived.Test.YtplldfnldaehiaaQAlikeToShift
import Derived.Deep.Slices
import Derived.Test.YtplldfnldaehiaaQExtPureToCrtLPure
import Derived.Test.YtplldfnldaehiaaQZOnesToZCmp
import Derived.Test.YtplldfnldaehiaaQTailToGcdAll
import Derived.Deep.LoopGhost
import Derived.RangeFuncNested
import Derived.RangeFuncBound
import Derived.RangeFuncCalls
import Derived.RangeFuncLeaves
import Derived.RangeFuncBox
import Derived.Shelf.Abstract
import Derived.Shelf.RegionOpen
import Derived.WalkKit
import Derived.OwnWalkIn
import Derived.TacticsInMore
import Derived.LoopNIn
import Derived.LoopIn

/- Bulk -/
namespace Go.Proofs.Ytplldfnldaehiaa
open Go.ChangeShapes Go.WideShapes Go.ChangeAt Go.RowKit

end Go.Proofs.Ytplldfnldaehiaa

/- OpenZ -/
namespace Go.Proofs.Ytplldfnldaehiaa
open Go.ChangeShapes Go.WideShapes Go.ChangeAt Go.RowKit
set_option linter.unusedVariables false

end Go.Proofs.Ytplldfnldaehiaa

/- OpenV8 -/
namespace Go.Proofs.Ytplldfnldaehiaa
open Go.ChangeShapes Go.WideShapes Go.ChangeAt Go.RowKit
set_option linter.unusedVariables false

/-- A list of integers in whatever form; the j-th has at most ks[j] words. -/
def Zw (w : World) (v : Value) (zs : List Int) (ks : List Nat) : Prop :=
  ks.length = zs.length ∧ ∃ a c, v = .slice a zs.length c ∧ zs.length ≤ c ∧ zs.length ≤ 1048576 ∧ (zs = [] ∨ ∃ b off, a = some ⟨b, off, none⟩ ∧ b < w.heap.size ∧ ∀ j z k, zs[j]? = some z → ks[j]? = some k → ∃ x y, w.cell? ⟨b, off + 2 * j, none⟩ = some x ∧ w.cell? ⟨b, off + 2 * j + 1, none⟩ = some y ∧ Zi w (.agg #[x, y]) z k)
def ksum (ks : List Nat) : Nat := ks.foldr (· + ·) 0
theorem ksum_cons (k : Nat) (ks : List Nat) : ksum (k :: ks) = k + ksum ks := rfl
theorem ksum_le : ∀ {ks : List Nat} {j k : Nat}, ks[j]? = some k → k ≤ ksum ks
  | [], j, k, h => by simp at h
  | x :: r, 0, k, h => by
    simp only [List.getElem?_cons_zero, Option.some.injEq] at h
    rw [ksum_cons]
    omega
  | x :: r, j + 1, k, h => by
    simp only [List.getElem?_cons_succ] at h
    have := ksum_le h
    rw [ksum_cons]
    omega
theorem Zw.now {w w' : World} {v : Value} {zs : List Int} {ks : List Nat} (h : Zw w v zs ks) (hb : Below w.heap.size w w') : Zw w' v zs ks := by
  obtain ⟨h0, a, c, h1, h2, h3, h4⟩ := h
  refine ⟨h0, a, c, h1, h2, h3, ?_⟩
  rcases h4 with h4 | ⟨b, off, h5, h6, h7⟩
  · exact .inl h4
  · refine .inr ⟨b, off, h5, Nat.lt_of_lt_of_le h6 hb.size, fun j z k hz hk => ?_⟩
    obtain ⟨x, y, q1, q2, q3⟩ := h7 j z k hz hk
    exact ⟨x, y, (hb.cell (p := ⟨b, off + 2 * j, none⟩) h6).trans q1, (hb.cell (p := ⟨b, off + 2 * j + 1, none⟩) h6).trans q2, q3.now hb⟩
/-- One bound for all. -/
theorem Zw.zl {w : World} {v : Value} {zs : List Int} {ks : List Nat} {K : Nat} (h : Zw w v zs ks) (hK : ksum ks ≤ K) : Zl w v zs K := by
  obtain ⟨h0, a, c, h1, h2, h3, h4⟩ := h
  refine ⟨a, c, h1, h2, h3, ?_⟩
  rcases h4 with h4 | ⟨b, off, h5, h6, h7⟩
  · exact .inl h4
  · refine .inr ⟨b, off, h5, h6, fun j hj => ?_⟩
    have hk : ks[j]? = some ks[j] := List.getElem?_eq_getElem (by omega)
    obtain ⟨x, y, q1, q2, q3⟩ := h7 j _ _ (List.getElem?_eq_getElem hj) hk
    exact ⟨x, y, q1, q2, q3.more (Nat.le_trans (ksum_le hk) hK)⟩
end Go.Proofs.Ytplldfnldaehiaa

/- Fit8 -/
namespace Go.Proofs.Ytplldfnldaehiaa
open Go.RowKit
set_option linter.unusedVariables false

end Go.Proofs.Ytplldfnldaehiaa

/- Chain8 -/
namespace Go.Proofs.Ytplldfnldaehiaa
open Go.RowKit
set_option linter.unusedVariables false

end Go.Proofs.Ytplldfnldaehiaa

/- IsChain8 -/
namespace Go.Proofs.Ytplldfnldaehiaa
open Go.RowKit
set_option linter.unusedVariables false

end Go.Proofs.Ytplldfnldaehiaa

/- Bw8 -/
namespace Go.Proofs.Ytplldfnldaehiaa
open Go.RowKit Go.Shelf
set_option linter.unusedVariables false
attribute [local go_sem] Oper.semAt_some

/-- What a round keeps: what lay below N, and the block of the list's value. -/
def KpU (N Bs : Nat) (W W' : World) : Prop := Below N W W' ∧ W'.heap[Bs]? = W.heap[Bs]?
theorem KpU.trans {N Bs : Nat} {A B C : World} (h : KpU N Bs A B) (k : KpU N Bs B C) : KpU N Bs A C := ⟨h.1.trans k.1, k.2.trans h.2⟩
theorem KpU.refl (N Bs : Nat) (W : World) : KpU N Bs W W := ⟨Below.refl _ _, rfl⟩
theorem KpU.box {N Bs : Nat} {A B : World} (h : KpU N Bs A B) {v : Value} (hc : A.cell? ⟨Bs, 0, none⟩ = some v) : B.cell? ⟨Bs, 0, none⟩ = some v := (World.cell?_of_block h.2).trans hc
theorem KpU.put {N Bs : Nat} {w : World} (hN : N ≤ w.heap.size) (hB : Bs < w.heap.size) (W : World) (l : Nat) (o o' : Obj) (hl : w.heap.size ≤ l) (h : W.heap[l]? = some o) (h1 : o.isCells = false) (h2 : o.isWalk = false) : KpU N Bs W (W.putObj l o') :=
  ⟨belowK_b hN W l o o' hl h h1 h2, (belowK_b (n₀ := w.heap.size) (Nat.le_refl _) W l o o' hl h h1 h2).block Bs hB⟩
end Go.Proofs.Ytplldfnldaehiaa

/- TailX -/
namespace Go.Proofs.Ytplldfnldaehiaa
open Go.RowKit
set_option linter.unusedVariables false

section
variable {P : Program} {ops : Array Oper} {Q : Exit → Act → World → Prop} {md : Region.Mode} {S : World → Prop} {X : List Nat}

end
end Go.Proofs.Ytplldfnldaehiaa

/- Round8 -/
namespace Go.Proofs.Ytplldfnldaehiaa
open Go.RowKit Go.Shelf
set_option linter.unusedVariables false

theorem rows_in {n : Nat} {P : Program} {row : String} {args : Array Value} {w : World} {R : Value → World → Prop} (l : Nat) (h : Rows P row args w R) : RowsIn (Fence.wide.inRound l) n P row args w R :=
  fun c cs _ => let ⟨v, w', r, s⟩ := h c cs; ⟨v, w', r, stepsIn_wide.2 s⟩
theorem op_round {P : Program} {l n : Nat} {o : Oper} {a : Act} {w : World} {K : Act → World → Prop} {Q : Exit → Act → World → Prop} (hno : ∀ c, o.op ≠ .defer c) (h : o.wp P a w K Q) : o.wpIn (Fence.wide.inRound l) n P a w K Q := by
  refine ⟨fun _ _ => trivial, ?_⟩
  rw [Fence.inRound_round, Oper.semAt_some l a.eval o hno]
  unfold Oper.wp at h
  generalize (execOp a.eval o).run P w = r at *
  cases r with
  | ok x w' =>
    cases x <;> simp only [Oper.upon, Oper.uponIn] at h ⊢
    all_goals first
      | exact h
      | exact ⟨fun e => (by cases e), CallsIn.inRound l (callsIn_wide.2 h)⟩
      | exact ⟨fun e => (by cases e), rows_in l h⟩
      | exact h.elim
  | halt x w' => cases x <;> simp only [Oper.upon, Oper.uponIn] at h ⊢ <;> first | exact h | exact h.elim
theorem any_round {P : Program} {l n : Nat} {md : Region.Mode} {ops : Array Oper} {Q : Exit → Act → World → Prop} (hno : ∀ (i : Nat) (o : Oper), ops[i]? = some o → ∀ c, o.op ≠ .defer c) (hL : ¬ LetsOut Q) :
    ∀ fuel listed a w, wpAny P md ops Q fuel listed a w → wpAnyIn (Fence.wide.inRound l) n P md ops Q fuel listed a w
  | 0, listed, a, w, h => h
  | fuel + 1, listed, a, w, h => by
    refine ⟨h.1, fun i hi => ?_⟩
    have q := h.2 i hi
    unfold wpOp at q
    unfold wpOpIn
    cases ho : ops[i]? with
    | none => rw [ho] at q; exact any_round hno hL fuel _ _ _ q
    | some o =>
      rw [ho] at q
      simp only at q ⊢
      by_cases hw : Region.wanted o (yielded ops a.tmps) = true
      · rw [if_pos hw] at q ⊢
        rcases q with q | ⟨_, q⟩
        · exact Oper.wpIn_mono (fun a w => any_round hno hL fuel _ a w) (op_round (hno i o ho) q)
        · exact absurd q hL
      · rw [if_neg hw] at q ⊢
        exact ⟨fun _ _ => trivial, any_round hno hL fuel _ _ _ q⟩
theorem region_round {P : Program} {l n id : Nat} {ops : Array Oper} {Q : Exit → Act → World → Prop} {a : Act} {w : World} (hm : P.follows .mixedOrders = true) (hno : ∀ (i : Nat) (o : Oper), ops[i]? = some o → ∀ c, o.op ≠ .defer c) (hL : ¬ LetsOut Q)
    (h : wpAny P .any ops Q ops.size (Array.replicate ops.size false) a w.drew) : (Code.region id ops true).wpIn (Fence.wide.inRound l) n P Q a w :=
  wpIn_region_any hm (any_round hno hL _ _ _ _ h)
end Go.Proofs.Ytplldfnldaehiaa

/- Rf11 -/
namespace Go.Proofs.Ytplldfnldaehiaa
open Go.RowKit Go.Shelf
set_option linter.unusedVariables false

theorem grown_of {A B : World} (h : Below A.heap.size A B) : A.grownBy B none := ⟨h.os, h.tape, h.output, h.size, fun k hk _ => h.block k hk⟩
/-- J: what holds between rounds in the state s; At: what the iterator knows of what it hands out; nx: the state behind it. -/
theorem rangeW {σ α : Type} {P : Program} {n : Nat} {g : Operand} {ps : Array Tmp} {assign body : Code} {Q : Exit → Act → World → Prop} {a : Act} {w : World}
    (h1 : 1 ≤ n) {gf : Nat} {lb : Array Value} (hg : a.eval g = .func (.func gf) #[] lb) (eg : ∀ args w, (callFunc gf args).run P w = .ok (.enter gf args) w)
    (enc : α → Array Value) (hps : ∀ x, (enc x).size = ps.size)
    (J : σ → World → Prop) (hJ : OwnFrom w.heap.size J) (At : σ → α → World → Prop) (hAt : ∀ s x, OwnFrom w.heap.size (fun (_ : Unit) W => At s x W)) (nx : σ → α → σ)
    (Kp : σ → World → World → Prop) (hKt : ∀ {s : σ} {A B C : World}, Kp s A B → Kp s B C → Kp s A C) (hKb : ∀ (s : σ) (W : World) (l : Nat) (o o' : Obj), w.heap.size ≤ l → W.heap[l]? = some o → o.isCells = false → Kp s W (W.putObj l o'))
    (Ini Fin : σ → Prop) (h0 : ∀ s, Ini s → J s w)
    (hit : ∀ (l : Nat) (J' : σ → World → Prop) (W : World), Below w.heap.size w W → (∀ s X, J' s X → J s X) → (∀ s A B, J' s A → Below A.heap.size A B → J' s B) → (∀ s, Ini s → J' s W) →
      (∀ s x X, J' s X → At s x X → YieldAt Fence.wide (n - 1 - 1) P l (enc x) X fun e Y => e = .returned (.bool true) ∧ J' (nx s x) Y ∧ Kp s X Y) →
      CallsIn Fence.wide (n - 1) P gf (#[.func (.yield l) #[] #[]] ++ lb) W fun e Y => (∃ v, e = .returned v) ∧ ∃ s, Fin s ∧ J' s Y)
    (a₁ : α → Act) (hassign : ∀ (l : Nat) (x : α) (W : World) (K : Act → World → Prop), K (a₁ x) W →
      assign.wpIn (Fence.wide.inRound l) (n - 1 - 1) P (Exit.then K (fun _ _ _ => False)) { tmps := (ps.zip (enc x)).foldl (fun t (p, v) => t.setIfInBounds p v) a.tmps, defers := [] } W)
    (hbody : ∀ (l : Nat) (s : σ) (x : α) (W : World), J s W → At s x W → body.wpIn (Fence.wide.inRound l) (n - 1 - 1) P (fun e _ Y => e = .normal ∧ KeepsFrom w.heap.size W Y ∧ J (nx s x) Y ∧ Kp s W Y) (a₁ x) W)
    (hdone : ∀ (D : Nat) (s : σ) (W : World), w.heap.size ≤ D → Fin s → J s W → W.heap[D]? = some (.deferred (some [])) → Q .normal { a with defers := { target := .collected D, args := #[] } :: a.defers } W) :
    (Code.rangeFunc g ps assign body).wpIn Fence.wide n P Q a w := by
  refine wpIn_rangeFunc fun fn hfn => ?_
  obtain ⟨R, hR⟩ : ∃ R : LoopState → Option Code → Loop, R = fun st pe => { state := st, pending := pe, fn, tmps := a.tmps, params := ps, assign, body, defers := w.heap.size } := ⟨_, rfl⟩
  obtain ⟨W1, hW1⟩ : ∃ W1, (w.alloc (.deferred (some []))).alloc (.loop (R .ready none)) = W1 := ⟨_, rfl⟩
  have bw : Below w.heap.size w W1 := by rw [← hW1]; exact (((Below.refl _ w).alloc (Nat.le_refl _) _).alloc (by simp) _)
  have hL : W1.heap[w.heap.size + 1]? = some (.loop (R .ready none)) := by
    rw [← hW1]
    have := World.alloc_heap_new (w.alloc (.deferred (some []))) (.loop (R .ready none))
    rwa [World.size_alloc] at this
  have hD : W1.heap[w.heap.size]? = some (.deferred (some [])) := by
    rw [← hW1]
    exact (Below.heap_alloc _ _ _ (by simp)).trans (World.alloc_heap_new w _)
  refine ⟨w.heap.size + 1, [{ target := .collected w.heap.size, args := #[] }], W1, { target := .fn (.func gf) lb, args := #[.func (.yield (w.heap.size + 1)) #[] #[]] }, W1, gf, #[.func (.yield (w.heap.size + 1)) #[] #[]] ++ lb, W1, ?_, ?_, fun _ _ => trivial, ?_, fun _ => h1, ?_⟩
  · rw [← hW1, hR]; exact run_enterLoop_outer _ _ _ _ _
  · simp only [resolve, hg]
    simp [go_sem]
  · simp [invoke, go_sem, eg]
  · refine (hit (w.heap.size + 1) (fun s W => J s W ∧ W.heap[w.heap.size + 1]? = some (.loop (R .ready none)) ∧ W.heap[w.heap.size]? = some (.deferred (some []))) W1 bw (fun s X h => h.1)
      (fun s A B h b => ⟨hJ s A B none h.1 (grown_of b) (fun r e => by cases e), (b.block _ (Array.getElem?_eq_some_iff.1 h.2.1).1).trans h.2.1, (b.block _ (Array.getElem?_eq_some_iff.1 h.2.2).1).trans h.2.2⟩)
      (fun s hs => ⟨hJ s w W1 none (h0 s hs) (grown_of bw) (fun r e => by cases e), hL, hD⟩) ?_).mono ?_
    · rintro s x X ⟨hj, hl, hk⟩ hat
      have hlt : w.heap.size + 1 < X.heap.size := (Array.getElem?_eq_some_iff.1 hl).1
      have hy := run_yield (P := P) (args := enc x) hl (by rw [hR]; exact hps x)
      rw [hR] at hy
      refine ⟨fn, _, assign, body, hy, roundIn_of_wpIn hfn (hassign _ x X _ ?_)⟩
      clear hy
      refine ⟨_, run_beginRound hl (by rw [hR]), ?_⟩
      obtain ⟨X2, hX2⟩ : ∃ X2, X.putObj (w.heap.size + 1) (.loop { R .ready none with state := .busy }) = X2 := ⟨_, rfl⟩
      have hl2 : X2.heap[w.heap.size + 1]? = some (.loop { R .ready none with state := .busy }) := by rw [← hX2]; exact World.putObj_heap_same hlt
      have hk2 : X2.heap[w.heap.size]? = some (.deferred (some [])) := by rw [← hX2]; exact (World.putObj_heap_other (by omega)).trans hk
      have hj2 : J s X2 := by rw [← hX2]; exact hJ.putObj _ hj (by omega) hl rfl
      have ha2 : At s x X2 := by rw [← hX2]; exact (hAt s x).putObj (s := ()) _ hat (by omega) hl rfl
      have hp2 : Kp s X X2 := by rw [← hX2]; exact hKb s _ _ _ _ (by omega) hl rfl
      rw [hX2]
      refine wpIn_mono (hbody _ s x X2 hj2 ha2) ?_
      rintro e a3 X3 ⟨rfl, q1, q2, q3⟩
      have hl3 := q1.same _ _ (by omega) hl2 rfl
      have hr := run_endRound (P := P) none hl3
      refine ⟨_, _, hr, rfl, ⟨hJ.putObj _ q2 (by omega) hl3 rfl, ?_, ?_⟩, hKt (hKt hp2 q3) (hKb s _ _ _ _ (by omega) hl3 rfl)⟩
      · have := World.putObj_heap_same (w := X3) (r := w.heap.size + 1) (o := .loop { { R .ready none with state := .busy } with state := .ready, pending := none }) (Array.getElem?_eq_some_iff.1 hl3).1
        rw [hR] at this ⊢
        exact this
      · exact (World.putObj_heap_other (by omega)).trans (q1.same _ _ (Nat.le_refl _) hk2 rfl)
    · rintro e Y ⟨⟨v, rfl⟩, s, hf, hj, hl, hk⟩
      have hr := run_endLoop (P := P) hl (by rw [hR]; simp)
      refine ⟨_, _, hr, ?_⟩
      rw [hR]
      exact hdone _ s _ (Nat.le_refl _) hf (hJ.putObj _ hj (by omega) hl rfl) ((World.putObj_heap_other (by omega)).trans hk)
end Go.Proofs.Ytplldfnldaehiaa
