/-
 QRn14ToCz14: Rn14, It14, Cz14, joined.
-/
import Derived.Test.YtakkmpkkoecnhaaGreatQExtPureToTy9
import Derived.RangeFuncNested
import Derived.Test.YtakkmpkkoecnhaaGreatQEachM11ToPr12
import Derived.Test.YtakkmpkkoecnhaaGreatQSq14ToIx14
import Derived.Sort.LoopGhostIn
import Derived.Test.YtakkmpkkoecnhaaGreatQFil9ToTail

set_option maxRecDepth 100000
set_option maxHeartbeats 6400000
set_option linter.unusedVariables false
set_option linter.unusedSimpArgs false
namespace Go.Proofs.YtakkmpkkoecnhaaGreat
open Go.RowKit Go.Shelf
theorem zyI {σ α : Type} {P : Program} {n : Nat} {g : Operand} {ps : Array Tmp} {assign body : Code} {Q : Exit → Act → World → Prop} {a : Act} {w : World}
  (h1 : 1 ≤ n) {gf : Nat} {lb : Array Value} (hg : a.eval g = .func (.func gf) #[] lb) (eg : ∀ args w, (callFunc gf args).run P w = .ok (.enter gf args) w)
  (enc : α → Array Value) (hps : ∀ x, (enc x).size = ps.size)
  (J : σ → World → Prop) (hJ : OwnFrom w.heap.size J) (At : σ → α → World → Prop) (hAt : ∀ s x, OwnFrom w.heap.size (fun (_ : Unit) W => At s x W)) (nx : σ → α → σ)
  (Kp : σ → World → World → Prop) (hKt : ∀ {s : σ} {A B C : World}, Kp s A B → Kp s B C → Kp s A C) (hKb : ∀ (s : σ) (W : World) (l : Nat) (o o' : Obj), w.heap.size ≤ l → W.heap[l]? = some o → o.isCells = false → Kp s W (W.putObj l o'))
  (Mn : σ → Nat → World → Prop) (hJs : ∀ s A B gs, J s A → w.heap.size ≤ gs → Mn s gs A → zPA (· = gs) A B → J s B) (Ini Fin : σ → Prop) (h0 : ∀ s, Ini s → J s w)
  (hit : ∀ (l : Nat) (J' : σ → World → Prop) (W : World), Below w.heap.size w W → (∀ s X, J' s X → J s X) → (∀ s A B, J' s A → Below A.heap.size A B → J' s B) → (∀ s A B gs, J' s A → W.heap.size ≤ gs → Mn s gs A → zPA (· = gs) A B → J' s B) → (∀ s, Ini s → J' s W) →
   (∀ s x X, J' s X → At s x X → YieldAt Fence.wide (n - 1 - 1) P l (enc x) X fun e Y => e = .returned (.bool true) ∧ J' (nx s x) Y ∧ Kp s X Y) →
   CallsIn Fence.wide (n - 1) P gf (#[.func (.yield l) #[] #[]] ++ lb) W fun e Y => (∃ v, e = .returned v) ∧ ∃ s, Fin s ∧ J' s Y)
  (Ax : α → Act → World → Prop) (hAx : ∀ x a', OwnFrom w.heap.size (fun (_ : Unit) W => Ax x a' W))
  (hassign : ∀ (l : Nat) (s : σ) (x : α) (W : World) (K : Act → World → Prop), J s W → At s x W → (∀ a' W', KeepsFrom w.heap.size W W' → Kp s W W' → J s W' → At s x W' → Ax x a' W' → K a' W') →
   assign.wpIn (Fence.wide.inRound l) (n - 1 - 1) P (Exit.then K (fun _ _ _ => False)) { tmps := (ps.zip (enc x)).foldl (fun t (p, v) => t.setIfInBounds p v) a.tmps, defers := [] } W)
  (hbody : ∀ (l : Nat) (s : σ) (x : α) (a' : Act) (W : World), w.heap.size ≤ l → (∃ r, W.heap[l]? = some (.loop r)) → J s W → At s x W → Ax x a' W → body.wpIn (Fence.wide.inRound l) (n - 1 - 1) P (fun e _ Y => e = .normal ∧ KeepsFrom w.heap.size W Y ∧ J (nx s x) Y ∧ Kp s W Y) a' W)
  (hdone : ∀ (D : Nat) (s : σ) (W : World), w.heap.size ≤ D → Fin s → J s W → W.heap[D]? = some (.deferred (some [])) → Q .normal { a with defers := { target := .collected D, args := #[] } :: a.defers } W) :
  (Code.rangeFunc g ps assign body).wpIn Fence.wide n P Q a w := by
 refine wpIn_rangeFunc fun fn hfn => ?_
 obtain ⟨R, hR⟩ : ∃ R : LoopState → Option Code → Loop, R = fun st pe => { state := st, pending := pe, fn, tmps := a.tmps, params := ps, assign, body, defers := w.heap.size } := ⟨_, rfl⟩
 obtain ⟨W1, hW1⟩ : ∃ W1, (w.alloc (.deferred (some []))).alloc (.loop (R .ready none)) = W1 := ⟨_, rfl⟩
 have bw : Below w.heap.size w W1 := by rw [← hW1]; exact (((Below.refl _ w).alloc (Nat.le_refl _) _).alloc (by simp) _)
 have hL : W1.heap[w.heap.size + 1]? = some (.loop (R .ready none)) := by
  rw [← hW1]; have := World.alloc_heap_new (w.alloc (.deferred (some []))) (.loop (R .ready none))
  rwa [World.size_alloc] at this
 have sW1 : W1.heap.size = w.heap.size + 2 := by rw [← hW1]; simp
 have hD : W1.heap[w.heap.size]? = some (.deferred (some [])) := by
  rw [← hW1]; exact (Below.heap_alloc _ _ _ (by simp)).trans (World.alloc_heap_new w _)
 refine ⟨w.heap.size + 1, [{ target := .collected w.heap.size, args := #[] }], W1, { target := .fn (.func gf) lb, args := #[.func (.yield (w.heap.size + 1)) #[] #[]] }, W1, gf, #[.func (.yield (w.heap.size + 1)) #[] #[]] ++ lb, W1, ?_, ?_, fun _ _ => trivial, ?_, fun _ => h1, ?_⟩
 ·rw [← hW1, hR]; exact run_enterLoop_outer _ _ _ _ _
 ·simp only [resolve, hg]
  simp [go_sem]
 ·simp [invoke, go_sem, eg]
 ·refine (hit (w.heap.size + 1) (fun s W => J s W ∧ W.heap[w.heap.size + 1]? = some (.loop (R .ready none)) ∧ W.heap[w.heap.size]? = some (.deferred (some []))) W1 bw (fun s X h => h.1)
   (fun s A B h b => ⟨hJ s A B none h.1 (zSC b) (fun r e => by cases e), (b.block _ (Array.getElem?_eq_some_iff.1 h.2.1).1).trans h.2.1, (b.block _ (Array.getElem?_eq_some_iff.1 h.2.2).1).trans h.2.2⟩)
   (fun s A B gs h h1 h2 t => ⟨hJs s A B gs h.1 (by omega) h2 t, (t.block _ (Array.getElem?_eq_some_iff.1 h.2.1).1 (by omega)).trans h.2.1, (t.block _ (Array.getElem?_eq_some_iff.1 h.2.2).1 (by omega)).trans h.2.2⟩)
   (fun s hs => ⟨hJ s w W1 none (h0 s hs) (zSC bw) (fun r e => by cases e), hL, hD⟩) ?_).mono ?_
  ·rintro s x X ⟨hj, hl, hk⟩ hat
   have hy := run_yield (P := P) (args := enc x) hl (by rw [hR]; exact hps x); rw [hR] at hy; refine ⟨fn, _, assign, body, hy, roundIn_of_wpIn hfn (hassign _ s x X _ hj hat fun a' X' qk qp qj qa qx => ?_)⟩; clear hy; have hl' := qk.same _ _ (by omega) hl rfl; have hk' := qk.same _ _ (Nat.le_refl _) hk rfl; have hlt : w.heap.size + 1 < X'.heap.size := (Array.getElem?_eq_some_iff.1 hl').1; refine ⟨_, run_beginRound hl' (by rw [hR]), ?_⟩; obtain ⟨X2, hX2⟩ : ∃ X2, X'.putObj (w.heap.size + 1) (.loop { R .ready none with state := .busy }) = X2 := ⟨_, rfl⟩
   have hl2 : X2.heap[w.heap.size + 1]? = some (.loop { R .ready none with state := .busy }) := by rw [← hX2]; exact World.putObj_heap_same hlt
   have hk2 : X2.heap[w.heap.size]? = some (.deferred (some [])) := by rw [← hX2]; exact (World.putObj_heap_other (by omega)).trans hk'
   have hj2 : J s X2 := by rw [← hX2]; exact hJ.putObj _ qj (by omega) hl' rfl
   have ha2 : At s x X2 := by rw [← hX2]; exact (hAt s x).putObj (s := ()) _ qa (by omega) hl' rfl
   have hx2 : Ax x a' X2 := by rw [← hX2]; exact (hAx x a').putObj (s := ()) _ qx (by omega) hl' rfl
   have hp2 : Kp s X X2 := by rw [← hX2]; exact hKt qp (hKb s _ _ _ _ (by omega) hl' rfl)
   rw [hX2]; refine wpIn_mono (hbody _ s x a' X2 (by omega) ⟨_, hl2⟩ hj2 ha2 hx2) ?_; rintro e a3 X3 ⟨rfl, q1, q2, q3⟩; have hl3 := q1.same _ _ (by omega) hl2 rfl; have hr := run_endRound (P := P) none hl3; refine ⟨_, _, hr, rfl, ⟨hJ.putObj _ q2 (by omega) hl3 rfl, ?_, ?_⟩, hKt (hKt hp2 q3) (hKb s _ _ _ _ (by omega) hl3 rfl)⟩
   ·have := World.putObj_heap_same (w := X3) (r := w.heap.size + 1) (o := .loop { { R .ready none with state := .busy } with state := .ready, pending := none }) (Array.getElem?_eq_some_iff.1 hl3).1
    rw [hR] at this ⊢; exact this
   ·exact (World.putObj_heap_other (by omega)).trans (q1.same _ _ (Nat.le_refl _) hk2 rfl)
  ·rintro e Y ⟨⟨v, rfl⟩, s, hf, hj, hl, hk⟩
   have hr := run_endLoop (P := P) hl (by rw [hR]; simp); refine ⟨_, _, hr, ?_⟩; rw [hR]; exact hdone _ s _ (Nat.le_refl _) hf (hJ.putObj _ hj (by omega) hl rfl) ((World.putObj_heap_other (by omega)).trans hk)
theorem rangeN {σ α : Type} {P : Program} {n : Nat} {g : Operand} {ps : Array Tmp} {assign body : Code} {Q : Exit → Act → World → Prop} {a : Act} {w : World}
  {l₀ : Nat} {r₀ : Loop} (hl₀ : w.heap[l₀]? = some (.loop r₀))
  (h1 : 1 ≤ n) {gf : Nat} {lb : Array Value} (hg : a.eval g = .func (.func gf) #[] lb) (eg : ∀ args w, (callFunc gf args).run P w = .ok (.enter gf args) w)
  (enc : α → Array Value) (hps : ∀ x, (enc x).size = ps.size)
  (J : σ → World → Prop) (hJ : OwnFrom w.heap.size J) (At : σ → α → World → Prop) (hAt : ∀ s x, OwnFrom w.heap.size (fun (_ : Unit) W => At s x W)) (nx : σ → α → σ)
  (Kp : σ → World → World → Prop) (hKt : ∀ {s : σ} {A B C : World}, Kp s A B → Kp s B C → Kp s A C) (hKb : ∀ (s : σ) (W : World) (l : Nat) (o o' : Obj), w.heap.size ≤ l → W.heap[l]? = some o → o.isCells = false → Kp s W (W.putObj l o'))
  (Mn : σ → Nat → World → Prop) (hJs : ∀ s A B gs, J s A → w.heap.size ≤ gs → Mn s gs A → zPA (· = gs) A B → J s B) (Ini Fin : σ → Prop) (h0 : ∀ s, Ini s → J s w)
  (hit : ∀ (l : Nat) (J' : σ → World → Prop) (W : World), Below w.heap.size w W → (∀ s X, J' s X → J s X) → (∀ s A B, J' s A → Below A.heap.size A B → J' s B) → (∀ s A B gs, J' s A → W.heap.size ≤ gs → Mn s gs A → zPA (· = gs) A B → J' s B) → (∀ s, Ini s → J' s W) →
   (∀ s x X, J' s X → At s x X → YieldAt Fence.wide (n - 1 - 1) P l (enc x) X fun e Y => e = .returned (.bool true) ∧ J' (nx s x) Y ∧ Kp s X Y) →
   CallsIn Fence.wide (n - 1) P gf (#[.func (.yield l) #[] #[]] ++ lb) W fun e Y => (∃ v, e = .returned v) ∧ ∃ s, Fin s ∧ J' s Y)
  (a₁ : α → Act) (hassign : ∀ (l : Nat) (x : α) (W : World) (K : Act → World → Prop), K (a₁ x) W →
   assign.wpIn (Fence.wide.inRound l) (n - 1 - 1) P (Exit.then K (fun _ _ _ => False)) { tmps := (ps.zip (enc x)).foldl (fun t (p, v) => t.setIfInBounds p v) a.tmps, defers := [] } W)
  (hbody : ∀ (l : Nat) (s : σ) (x : α) (W : World), J s W → At s x W → body.wpIn (Fence.wide.inRound l) (n - 1 - 1) P (fun e _ Y => e = .normal ∧ KeepsFrom w.heap.size W Y ∧ J (nx s x) Y ∧ Kp s W Y) (a₁ x) W)
  (hdone : ∀ (s : σ) (W : World), Fin s → J s W → Q .normal a W) :
  (Code.rangeFunc g ps assign body).wpIn (Fence.wide.inRound l₀) n P Q a w := by
 refine wpIn_rangeFunc fun fn hfn => ?_
 obtain ⟨R, hR⟩ : ∃ R : LoopState → Option Code → Loop, R = fun st pe => { state := st, pending := pe, fn, tmps := a.tmps, params := ps, assign, body, defers := r₀.defers } := ⟨_, rfl⟩
 obtain ⟨W1, hW1⟩ : ∃ W1, w.alloc (.loop (R .ready none)) = W1 := ⟨_, rfl⟩
 have bw : Below w.heap.size w W1 := by rw [← hW1]; exact (Below.refl _ w).alloc (Nat.le_refl _) _
 have hL : W1.heap[w.heap.size]? = some (.loop (R .ready none)) := by rw [← hW1]; exact World.alloc_heap_new w _
 have sW1 : W1.heap.size = w.heap.size + 1 := by rw [← hW1]; simp
 refine ⟨w.heap.size, [], W1, { target := .fn (.func gf) lb, args := #[.func (.yield w.heap.size) #[] #[]] }, W1, gf, #[.func (.yield w.heap.size) #[] #[]] ++ lb, W1, ?_, ?_, fun _ _ => trivial, ?_, fun _ => h1, ?_⟩
 ·rw [← hW1, hR]; exact run_enterLoop_inner hl₀ _ _ _ _ _
 ·simp only [resolve, hg]
  simp [go_sem]
 ·simp [invoke, go_sem, eg]
 ·refine CallsIn.mono (hit w.heap.size (fun s W => J s W ∧ W.heap[w.heap.size]? = some (.loop (R .ready none))) W1 bw (fun s X h => h.1)
   (fun s A B h b => ⟨hJ s A B none h.1 (zSC b) (fun r e => by cases e), (b.block _ (Array.getElem?_eq_some_iff.1 h.2).1).trans h.2⟩)
   (fun s A B gs h h1 h2 t => ⟨hJs s A B gs h.1 (by omega) h2 t, (t.block _ (Array.getElem?_eq_some_iff.1 h.2).1 (by omega)).trans h.2⟩)
   (fun s hs => ⟨hJ s w W1 none (h0 s hs) (zSC bw) (fun r e => by cases e), hL⟩) ?_) ?_
  ·rintro s x X ⟨hj, hl⟩ hat
   have hlt : w.heap.size < X.heap.size := (Array.getElem?_eq_some_iff.1 hl).1; have hy := run_yield (P := P) (args := enc x) hl (by rw [hR]; exact hps x); rw [hR] at hy; refine ⟨fn, _, assign, body, hy, roundIn_of_wpIn (F := Fence.wide.inRound l₀) hfn (hassign _ x X _ ?_)⟩; clear hy; refine ⟨_, run_beginRound hl (by rw [hR]), ?_⟩; obtain ⟨X2, hX2⟩ : ∃ X2, X.putObj w.heap.size (.loop { R .ready none with state := .busy }) = X2 := ⟨_, rfl⟩
   have hl2 : X2.heap[w.heap.size]? = some (.loop { R .ready none with state := .busy }) := by rw [← hX2]; exact World.putObj_heap_same hlt
   have hj2 : J s X2 := by rw [← hX2]; exact hJ.putObj _ hj (Nat.le_refl _) hl rfl
   have ha2 : At s x X2 := by rw [← hX2]; exact (hAt s x).putObj (s := ()) _ hat (Nat.le_refl _) hl rfl
   have hp2 : Kp s X X2 := by rw [← hX2]; exact hKb s _ _ _ _ (Nat.le_refl _) hl rfl
   rw [hX2]; refine wpIn_mono (hbody _ s x X2 hj2 ha2) ?_; rintro e a3 X3 ⟨rfl, q1, q2, q3⟩; have hl3 := q1.same _ _ (Nat.le_refl _) hl2 rfl; have hr := run_endRound (P := P) none hl3; refine ⟨_, _, hr, rfl, ⟨hJ.putObj _ q2 (Nat.le_refl _) hl3 rfl, ?_⟩, hKt (hKt hp2 q3) (hKb s _ _ _ _ (Nat.le_refl _) hl3 rfl)⟩; have := World.putObj_heap_same (w := X3) (r := w.heap.size) (o := .loop { { R .ready none with state := .busy } with state := .ready, pending := none }) (Array.getElem?_eq_some_iff.1 hl3).1; rw [hR] at this ⊢; exact this
  ·rintro e Y ⟨⟨v, rfl⟩, s, hf, hj, hl⟩
   have hr := run_endLoop (P := P) hl (by rw [hR]; simp); refine ⟨_, _, hr, ?_⟩; rw [hR]; exact hdone s _ hf (hJ.putObj _ hj (Nat.le_refl _) hl rfl)
attribute [local go_sem] Oper.semAt_some
theorem zxI {n : Nat} : ∀ {L : List (List Nat)}, Run n L → ∀ t, t < L.length → nxt n (L.getD t []) = if t + 1 < L.length then some (L.getD (t + 1) []) else none
 | [x], h, 0, _ => h
 | [x], _, t + 1, ht => by simp at ht
 | x :: y :: r, h, 0, _ => by
  rw [if_pos (by simp)]; exact h.1
 | x :: y :: r, h, t + 1, ht => by
  have := zxI (L := y :: r) h.2 t (by simpa using ht); have e : ((x :: y :: r).length = (y :: r).length + 1) := rfl; rw [e]
  by_cases q : t + 1 < (y :: r).length
  ·rw [if_pos q] at this
   rw [if_pos (by omega)]; exact this
  ·rw [if_neg q] at this
   rw [if_neg (by omega)]; exact this
abbrev zbA (n k : Nat) : List (List Nat) := lx n k n
theorem sts_run {n k : Nat} (h : k ≤ n) {t : Nat} (ht : t < (zbA n k).length) : nxt n ((zbA n k).getD t []) = if t + 1 < (zbA n k).length then some ((zbA n k).getD (t + 1) []) else none := by
 obtain ⟨R, e, hR⟩ := zuG n n k (Nat.le_refl _) h; have hr : Run n (zbA n k) := by rw [show zbA n k = _ from e]; exact hR
 exact zxI hr t ht
theorem zUF {n k : Nat} (h : k ≤ n) : (zbA n k).getD 0 [] = List.range k ∧ 0 < (zbA n k).length := by
 obtain ⟨R, e, hR⟩ := zuG n n k (Nat.le_refl _) h; rw [show zbA n k = _ from e, Nat.sub_self, seqN_range]; exact ⟨rfl, by simp⟩
theorem zDG {n k t : Nat} (ht : t < (zbA n k).length) : ((zbA n k).getD t []).length = k ∧ ((zbA n k).getD t []).Pairwise (· < ·) ∧ ∀ x ∈ (zbA n k).getD t [], x < n := by
 have hm : (zbA n k).getD t [] ∈ lx n k n := by
  rw [List.getD_eq_getElem?_getD, List.getElem?_eq_getElem ht]; exact List.getElem_mem _
 obtain ⟨h1, h2, h3⟩ := (zbE n n k _ (Nat.le_refl _)).1 hm; exact ⟨h1, h2, fun x hx => (h3 x hx).2⟩
theorem owns_mono14 {B : Nat} {w : World} {v : Value} {l : List Nat} (h : Ivs B w v l) : Ivs 0 w v l := by
 obtain ⟨q1, q2 | ⟨g, cap, cur, q2, q3, q4⟩⟩ := h
 ·exact ⟨q1, .inl q2⟩
 ·exact ⟨q1, .inr ⟨g, cap, cur, q2, Nat.zero_le _, q4⟩⟩
def AtS (n k : Nat) (s : Nat × Nat) (x : Value) (X : World) : Prop := s.2 < (zbA n k).length ∧ s.1 ≤ X.heap.size ∧ Ivs 0 X x ((zbA n k).getD s.2 [])
def SiH (J : Nat × Nat → World → Prop) (n k gs B bn bk gk : Nat) (s5 : Value) (wr : World) : Prop :=
 ∃ t : Nat, s5 = .bool (decide (t < (zbA n k).length)) ∧ t ≤ (zbA n k).length ∧ gk = (zbA n k).length - t ∧ J (B, t) wr ∧ (t < (zbA n k).length → Cel wr gs 3 (wf k (nf ((zbA n k).getD t [])))) ∧ wr.cell? ⟨bn, 0, none⟩ = some (.int .i64 (n : Int)) ∧ wr.cell? ⟨bk, 0, none⟩ = some (.int .i64 (k : Int)) ∧ B ≤ wr.heap.size
theorem zlA {g : Nat} {A B : World} (h : zPA (· = g) A B) {p : Addr} {v : Value} (hp : A.cell? p = some v) (hne : p.block ≠ g) : B.cell? p = some v := by
 obtain ⟨o, q1, q2⟩ := zoB hp; exact (World.cell?_of_block (h.block _ (Array.getElem?_eq_some_iff.1 q1).1 hne)).trans hp
theorem zkG {S : Nat → Prop} {l nn bn bk n k : Nat} {W : World} (hnn : 1 ≤ nn) (hn : n ≤ 64) (hk : k ≤ n) (J : Nat × Nat → World → Prop)
  (hcn : W.cell? ⟨bn, 0, none⟩ = some (.int .i64 (n : Int))) (hck : W.cell? ⟨bk, 0, none⟩ = some (.int .i64 (k : Int))) (hSn : ¬ S bn) (hSk : ¬ S bk)
  (hJb : ∀ s A B, J s A → Below A.heap.size A B → J s B) (hJs : ∀ s A B gs, J s A → W.heap.size ≤ gs → (gs < s.1 ∧ ∃ L, A.heap[gs]? = some (.cells L 3 (0, 0))) → zPA (· = gs) A B → J s B) (h0 : ∀ B, W.heap.size ≤ B → J (B, 0) W) (hSB : ∀ b, S b → b < W.heap.size)
  (hY : ∀ s x X, J s X → AtS n k s x X → YieldAt Fence.wide (nn - 1) Tryz.prog l #[x] X fun e Y => e = .returned (.bool true) ∧ J (s.1, s.2 + 1) Y ∧ KpL S s.1 X Y) :
  CallsIn Fence.wide nn Tryz.prog 117 #[.func (.yield l) #[] #[], .pointer (some ⟨bn, 0, none⟩), .pointer (some ⟨bk, 0, none⟩)] W fun e Y => (∃ v, e = .returned v) ∧ ∃ s, s.2 = (zbA n k).length ∧ J s Y := by
 have HFP := hid (zIC (w := W) (k := k) (by omega)); have HJB := hid hJb; have HJS := hid hJs; have H0 := hid h0; have HY := hid hY; have HSB := hid hSB; have HSN := hid hSn; have HSK := hid hSk; have hbnW : bn < W.heap.size := by
  obtain ⟨o, q1, q2⟩ := zoB hcn; exact (Array.getElem?_eq_some_iff.1 q1).1
 have hbkW : bk < W.heap.size := by
  obtain ⟨o, q1, q2⟩ := zoB hck; exact (Array.getElem?_eq_some_iff.1 q1).1
 have x0 := hcn; have x1 := hck; have q1 : ¬ (64 : Int) < (n : Int) := by omega
 have q2 : ¬ (k : Int) < 0 := by omega
 have q3 : ¬ (n : Int) < (k : Int) := by omega
 have q1d : decide ((64 : Int) < (n : Int)) = false := decide_eq_false q1; have q2d : decide ((k : Int) < 0) = false := decide_eq_false q2; have q3d : decide ((n : Int) < (k : Int)) = false := decide_eq_false q3; clear hJb hJs h0 hY hSB hSn hSk hcn hck; refine callsIn_of_wp Tryz.func117 rfl trivial ?_ rfl; simp only [Tryz.ntmps117, List.size_toArray, List.length_cons, List.length_nil, Nat.reduceAdd, Nat.reduceSub, Array.replicate_succ, Array.replicate_zero, List.push_toArray, List.append_toArray, List.nil_append, List.cons_append]; gi_wp2_with fail; refine ⟨trivial, (callsIn_wide.2 HFP.out).mono ?_⟩; rintro e W2 ⟨rfl, hcel, b⟩; obtain ⟨gs, hgs⟩ : ∃ gs, W.heap.size = gs := ⟨_, rfl⟩
 obtain ⟨B, hB⟩ : ∃ B, W2.heap.size = B := ⟨_, rfl⟩
 have hgB : gs < B := by
  have := hcel.blk; omega
 have HI0 : Hid (SiH J n k gs B bn bk (zbA n k).length (.bool true) W2) := by
  refine ⟨0, by rw [decide_eq_true (zUF hk).2], Nat.zero_le _, rfl, HJB.out _ _ _ (H0.out B (by rw [← hB]; exact b.size)) b, fun _ => ?_, cnow b x0, cnow b x1, by omega⟩; rw [(zUF hk).1, ← hgs, zgA (G := fun t => (t : Int)) fun t ht => by simp [nf, ht]]; exact hcel
 have HGB := hid hgB; have EGS := hid hgs; rw [hgs]; clear HFP hcel b x0 x1 hB hgs H0 q1d q2d q3d q1 q2 q3; gi_wp2_with fail
 gi_loopg [5] (zbA n k).length (fun gk s5 wr => SiH J n k gs B bn bk gk s5 wr)
 case atStart => exact HI0.out
 case round =>
  clear HI0; obtain ⟨t, rfl, htl, hgk, hj, hc, y0, y1, hBs⟩ := hrel; have JJ := hid hj; have HG := hid hgk; clear hj hgk
  by_cases hlt : t < (zbA n k).length
  ·obtain ⟨ll, hll⟩ : ∃ ll, (zbA n k).getD t [] = ll := ⟨_, rfl⟩
   obtain ⟨m1, m2, m3⟩ := zDG hlt; have CC := hid (hc hlt); rw [hll] at CC m1 m2 m3; have HCL := hid (clone_any CC.out m1 (by omega)); have HLL := hid hll; have HM1 := hid m1; have HM3 := hid m3; have HLT := hid hlt; have HNX := hid (sts_run hk hlt); rw [hll] at HNX; have Y0 := hid y0; have Y1 := hid y1; rw [decide_eq_true hlt]; clear hc m1 m2 m3 hll y0 y1 hlt; gi_wp2_with fail; refine ⟨trivial, (callsIn_wide.2 HCL.out).mono ?_⟩; rintro e w2 ⟨v, rfl, hin, b⟩; have hy := HY.out (B, t) v w2 (HJB.out _ _ _ JJ.out b) ⟨HLT.out, Nat.le_trans hBs b.size, by rw [HLL.out]; exact owns_mono14 hin⟩; obtain ⟨fn, tmps, assign, body, hy, hR⟩ := hy; have CC2 := hid (CC.out.step b); have Y02 := hid (cnow b Y0.out); have Y12 := hid (cnow b Y1.out); have hsz := b.size; clear HCL JJ b hin CC Y0 Y1; gi_wp2; refine hR.mono ?_; rintro e W4 ⟨rfl, hj4, hk4⟩; have hgW := HGB.out; have CC4 : Hid (Cel W4 gs 3 (wf k (nf ll))) := hk4.2 gs _ hgW (fun q => by have := HSB.out _ q; have := EGS.out; omega) CC2.out rfl; have y0 := hk4.cell Y02.out (show bn < B by have := EGS.out; omega) HSN.out; have y1 := hk4.cell Y12.out (show bk < B by have := EGS.out; omega) HSK.out; have HST := hid (step_any CC4.out HM1.out (by omega) hn (fun t ht => HM3.out _ (zXA (by rw [HM1.out]; exact ht)))); have Y04 := hid y0; have Y14 := hid y1; have J4 := hid hj4; have hsz4 := hk4.1; clear hR hy hj4 hk4 CC2 Y02 Y12; gi_wp2_with fail; refine ⟨trivial, (callsIn_wide.2 HST.out).mono ?_⟩; rintro e w5 (⟨hnx, rfl, hw5⟩ | ⟨l', hnx, rfl, hc5, ht5⟩)
   ·rw [hw5]
    have hend : t + 1 = (zbA n k).length := by
     have h1 := HNX.out; rw [hnx] at h1
     by_cases q : t + 1 < (zbA n k).length
     ·rw [if_pos q] at h1; cases h1
     ·have := HLT.out; omega
    have HN1 : Hid (SiH J n k gs B bn bk ((zbA n k).length - (t + 1)) (.bool false) W4) := ⟨t + 1, by rw [decide_eq_false (by omega)], by omega, rfl, J4.out, fun q => by omega, Y04.out, Y14.out, by omega⟩
    have HMM : Hid ((zbA n k).length - (t + 1) < gk) := by unfold Hid; rw [HG.out]; have := HLT.out; omega
    clear HST hw5 hnx hend J4 y0 y1 Y04 Y14; gi_wp2; gi_roundg ((zbA n k).length - (t + 1))
    case rel => exact HN1.out
    case measure => exact HMM.out
   ·have hmore : t + 1 < (zbA n k).length ∧ l' = (zbA n k).getD (t + 1) [] := by
     have h1 := HNX.out; rw [hnx] at h1
     by_cases q : t + 1 < (zbA n k).length
     ·rw [if_pos q, Option.some.injEq] at h1; exact ⟨q, h1⟩
     ·rw [if_neg q] at h1; cases h1
    have HN1 : Hid (SiH J n k gs B bn bk ((zbA n k).length - (t + 1)) (.bool true) w5) := ⟨t + 1, by rw [decide_eq_true hmore.1], by omega, rfl, HJS.out _ _ _ gs J4.out (by rw [EGS.out]; exact Nat.le_refl _) ⟨HGB.out, _, CC4.out⟩ ht5, fun _ => by rw [← hmore.2]; exact hc5, zlA ht5 Y04.out (by have := EGS.out; show bn ≠ gs; omega), zlA ht5 Y14.out (by have := EGS.out; show bk ≠ gs; omega), by have := ht5.size; omega⟩
    have HMM : Hid ((zbA n k).length - (t + 1) < gk) := by unfold Hid; rw [HG.out]; have := HLT.out; omega
    clear HST hc5 ht5 hnx hmore J4 y0 y1 Y04 Y14; gi_wp2; gi_roundg ((zbA n k).length - (t + 1))
    case rel => exact HN1.out
    case measure => exact HMM.out
  ·rw [decide_eq_false hlt]
   obtain rfl : t = (zbA n k).length := by omega
   have FIN : Hid ((∃ v, Ending.returned (.tuple #[]) = .returned v) ∧ ∃ s, s.2 = (zbA n k).length ∧ J s wr) := ⟨⟨_, rfl⟩, (B, (zbA n k).length), rfl, JJ.out⟩
   clear JJ HG hc y0 y1; gi_wp2; go_end0; exact FIN.out
end Go.Proofs.YtakkmpkkoecnhaaGreat
namespace Go.Proofs.YtakkmpkkoecnhaaGreat
open Go.RowKit
theorem zgD : ∀ d k, cho d k + cho d (k + 1) ≤ 2 ^ d
 | 0, 0 => by simp [cho]
 | 0, k + 1 => by simp [cho]
 | d + 1, 0 => by
  have : cho d 0 + cho d 1 ≤ 2 ^ d := zgD d 0
  show 1 + (cho d 0 + cho d 1) ≤ 2 ^ (d + 1)
  have h := Nat.two_pow_pos d; rw [Nat.pow_succ]; omega
 | d + 1, k + 1 => by
  have h1 := zgD d k; have h2 := zgD d (k + 1)
  show (cho d k + cho d (k + 1)) + (cho d (k + 1) + cho d (k + 1 + 1)) ≤ 2 ^ (d + 1)
  rw [Nat.pow_succ]; omega
def wu (k : Nat) (F : Nat → Int) : List Value := (List.range k).map fun t => .int .u64 (F t)
theorem zRF {k i : Nat} {F : Nat → Int} (hi : i < k) : (wu k F)[i]? = some (.int .u64 (F i)) := by simp [wu, hi]
theorem zaD {k : Nat} {F G : Nat → Int} (h : ∀ t, t < k → F t = G t) : wu k F = wu k G := List.map_congr_left fun t ht => by rw [h t (by simpa using ht)]
theorem zoI {k i : Nat} {F : Nat → Int} (hi : i < k) (z : Int) : (wu k F).set i (.int .u64 z) = wu k (upF F i z) := by
 apply List.ext_getElem?
 intro t
 by_cases q : t < k
 ·by_cases e : t = i
  ·subst e
   rw [List.getElem?_set_self (by simpa [wu] using hi), zRF q]; simp [upF]
  ·rw [List.getElem?_set_ne (by omega), zRF q, zRF q]; simp [upF, e]
 ·rw [List.getElem?_eq_none (by simp [wu]; omega), List.getElem?_eq_none (by simp [wu]; omega)]
theorem madeCells_uf (m : Nat) : madeCells (Value.int .u64 0).cells m = (wu m fun _ => 0).toArray := by
 apply Array.ext
 ·simp [size_madeCells, wu]
 ·intro i h1 h2
  simp [madeCells, wu, Value.cells, Nat.mod_one]
theorem Tryz.infoU14 : (Tryz.prog.info? 70).map (fun i => (i.zero, i.size, i.bytes)) = some (some (.int .u64 0), 1, 8) := by kernel_rfl
theorem wpList_make_uf (w : World) {ops : Array Oper} {rest : List Oper} {o : Oper} {a : Act} {Q : Exit → Act → World → Prop}
  (hg : o.guard = none) (l c : Operand) (hop : o.op = Op.makeSlice 27 l c)
  (L C : Int) (n m : Nat) (hl : a.eval l = .int .i64 L) (hc : a.eval c = .int .i64 C) (hL : L = (n : Int)) (hC : C = (m : Int)) (hnm : n ≤ m) (hm : m ≤ 2000000)
  (hK : ∀ w', Hid (Cel w' w.heap.size 70 (wu m fun _ => 0)) → Hid (Below w.heap.size w w') → Hid (w'.heap.size = w.heap.size + 1) → wpList Tryz.prog ops Q rest (a.put o.dst (.slice (some ⟨w.heap.size, 0, none⟩) n m)) w') :
  wpList Tryz.prog ops Q (o :: rest) a w := by
 refine wpList_plain hg fun K hK' => ?_
 obtain ⟨i, hi, hz, hs, hb⟩ := info_parts Tryz.infoU14; have hrun := run_make (P := Tryz.prog) w 27 70 i (.int .u64 0) Tryz.underlying27 hi hz .i64 .i64 n m (by omega) (by omega) (by rw [hb]; omega) (by omega); subst hL; subst hC; rw [hs, Nat.mul_one, Int.toNat_natCast, Int.toNat_natCast, madeCells_uf] at hrun; unfold Oper.wp; simp [execOp, hop, hl, hc, hrun, Result.andThen]; refine hK' _ _ (hK _ ?_ ((Below.refl _ _).alloc (Nat.le_refl _) _) ?_)
 ·unfold Hid Cel; exact heap_alloc_new w _
 ·unfold Hid; simp
def chF (t i j : Nat) : Int := if i < j then (cho (t + 1) j : Nat) else (cho t j : Nat)
def CoH (w : World) (g n k gk : Nat) (s : Value) (wx : World) : Prop := ∃ t : Nat, s = .int .i64 (t : Int) ∧ t ≤ n ∧ gk = n - t ∧ Cel wx g 70 (wu (k + 1) fun j => (cho t j : Nat)) ∧ Below w.heap.size w wx
def CiH (w : World) (g t k gk : Nat) (s : Value) (wx : World) : Prop := ∃ i : Nat, s = .int .i64 (i : Int) ∧ i ≤ k ∧ gk = i ∧ Cel wx g 70 (wu (k + 1) (chF t i)) ∧ Below w.heap.size w wx
theorem chF_put {t i j : Nat} : upF (chF t (i + 1)) (i + 1) ((cho t (i + 1) + cho t i : Nat) : Int) j = chF t i j := by
 unfold upF chF
 by_cases e : j = i + 1
 ·subst e
  rw [if_pos rfl, if_pos (by omega)]
  show _ = ((cho t i + cho t (i + 1) : Nat) : Int)
  rw [Nat.add_comm]
 ·rw [if_neg e]
  by_cases q : i + 1 < j
  ·rw [if_pos q, if_pos (by omega)]
  ·rw [if_neg q, if_neg (by omega)]
theorem zJH : ∀ d, cho d 0 = 1
 | 0 => rfl
 | _ + 1 => rfl
theorem chF_end {t j : Nat} : chF t 0 j = (cho (t + 1) j : Nat) := by
 unfold chF
 by_cases q : 0 < j
 ·rw [if_pos q]
 ·have : j = 0 := by omega
  subst this; rw [if_neg q, zJH, zJH]
theorem choose_any {w : World} {n k : Nat} (hn : n ≤ 64) (hk : k ≤ n) : Calls Tryz.prog 46 #[.int .i64 (n : Int), .int .i64 (k : Int)] w fun e w' => e = .returned (.int .u64 (cho n k : Nat)) ∧ Below w.heap.size w w' := by
 have q1 : ¬ (k : Int) < 0 := by omega
 have q2 : ¬ (n : Int) < (k : Int) := by omega
 have q1d : decide ((k : Int) < 0) = false := decide_eq_false q1; have q2d : decide ((n : Int) < (k : Int)) = false := decide_eq_false q2; have hw := zQA (i := k) (by omega); go_enter Tryz.func46, Tryz.ntmps46; go_wp2_with (at_make; refine wpList_make_uf _ rfl _ _ rfl _ _ (k + 1) (k + 1) rfl rfl rfl rfl (Nat.le_refl _) (by omega) ?_)
 intro w1 hrow hb1 hsz1; obtain ⟨g, hgg⟩ : ∃ g, w.heap.size = g := ⟨_, rfl⟩
 have EGG := hid hgg; rw [hgg] at hrow; have e0 := hrow.out.at (zRF (i := 0) (by omega)); have e1 := hrow.out.fz 0; have h0k : (0 : Int) < (k : Int) + 1 := by omega
 have H0 : Hid (CoH w g n k n (.int .i64 0) (w1.setCell ⟨g, 0, none⟩ (.int .u64 1))) := by
  refine ⟨0, rfl, Nat.zero_le _, rfl, ?_, bset hb1.out (by omega)⟩; have := hrow.out.set 0 (.int .u64 1); rw [zoI (by omega), zaD (G := fun j => (cho 0 j : Nat)) fun j hj => ?_] at this
  ·exact this
  ·match j with
   | 0 => rfl
   | j + 1 => simp [upF, cho]
 rw [hgg]; clear hrow hb1 hsz1 q1 q2 q1d q2d hgg; go_wp2_with fail; clear e0 e1
 go_loopg [20] n (fun gk s20 wx => CoH w g n k gk s20 wx)
 case atStart => exact H0.out
 case round =>
  clear H0; obtain ⟨t, rfl, htn, hgk, hc, hb⟩ := hrel; have CC := hid hc; have BB := hid hb; have HG := hid hgk; clear hc hb hgk
  by_cases hlt : t < n
  ·have hlt' : (t : Int) < (n : Int) := by omega
   have hwt := zQA (i := t) (by omega); have HMM : Hid (n - (t + 1) < gk) := by unfold Hid; rw [HG.out]; omega
   have H1 : Hid (CiH w g t k k (.int .i64 (k : Int)) wr) := ⟨k, rfl, Nat.le_refl _, rfl, by
    have := CC.out; rw [zaD (G := chF t k) fun j hj => by unfold chF; rw [if_neg (by omega)]] at this; exact this, BB.out⟩
   clear HG CC BB; go_wp2_with fail
   go_loopg [6] k (fun gk s6 wx => CiH w g t k gk s6 wx)
   case atStart => exact H1.out
   case round =>
    clear H1; obtain ⟨i, rfl, hik, hgk, hc, hb⟩ := hrel; have CC := hid hc; have BB := hid hb; have HG := hid hgk; clear hc hb hgk
    by_cases hi : 0 < i
    ·obtain ⟨i, rfl⟩ : ∃ j, i = j + 1 := ⟨i - 1, by omega⟩
     have hi' : (0 : Int) < ((i + 1 : Nat) : Int) := by omega
     have hws : IntKind.i64.wrap (((i + 1 : Nat) : Int) - 1) = (i : Int) := by rw [zVA] <;> omega
     have hws2 : IntKind.i64.wrap ((i : Int) + 1 - 1) = (i : Int) := by rw [zVA] <;> omega
     have c0 := CC.out.at (zRF (i := i + 1) (by omega)); have c1 := CC.out.at (zRF (i := i) (by omega)); have c2 := CC.out.fz (i + 1); have b1 : cho t i + cho t (i + 1) ≤ 9223372036854775808 := by
      have h1 := zgD t i; have h2 : 2 ^ t ≤ 2 ^ 63 := Nat.pow_le_pow_right (by omega) (by omega); omega
     have E0 : chF t (i + 1) (i + 1) = ((cho t (i + 1) : Nat) : Int) := if_neg (by omega); have E1 : chF t (i + 1) i = ((cho t i : Nat) : Int) := if_neg (by omega); rw [E0] at c0; rw [E1] at c1; have HN1 : Hid (∀ wx, Below wr.heap.size wr wx → CiH w g t k i (.int .i64 (i : Int)) (wx.setCell ⟨g, i + 1, none⟩ (.int .u64 ((cho t (i + 1) + cho t i : Nat) : Int)))) := fun wx hb => ⟨i, rfl, by omega, rfl, by
      have := (CC.out.step hb).set (i + 1) (.int .u64 ((cho t (i + 1) + cho t i : Nat) : Int)); rw [zoI (by omega), zaD fun j _ => chF_put] at this; exact this, bset (zAA BB.out hb) (by have := EGG.out; omega)⟩
     have HM2 : Hid (i < gk) := by unfold Hid; rw [HG.out]; omega
     have CX := hid CC.out; obtain ⟨ca, hca⟩ : ∃ ca, cho t (i + 1) = ca := ⟨_, rfl⟩
     obtain ⟨cb, hcb⟩ : ∃ cb, cho t i = cb := ⟨_, rfl⟩
     rw [hca] at c0 b1 HN1; rw [hcb] at c1 b1 HN1; have hwu : IntKind.u64.wrap ((ca : Int) + (cb : Int)) = ((ca + cb : Nat) : Int) := by rw [IntKind.wrap_u64]; omega
     obtain ⟨i1, hi1⟩ : ∃ i1, i + 1 = i1 := ⟨_, rfl⟩
     obtain ⟨cs, hcs⟩ : ∃ cs, ca + cb = cs := ⟨_, rfl⟩
     rw [hcs] at hwu HN1; rw [hi1] at hws c0 c2 HN1 hi' ⊢; have hik1 : (i1 : Int) < (k : Int) + 1 := by omega
     have hik0 : (i : Int) < (k : Int) + 1 := by omega
     clear HG CC BB hca hcb E0 E1 b1 hcs hws2; go_wp2_with fail; have KB : Hid (∀ w', Below wr.heap.size wr w' → w'.cell? ⟨g, i1, none⟩ = some (.int .u64 (ca : Int)) ∧ w'.cell? ⟨g, i, none⟩ = some (.int .u64 (cb : Int))) := fun w' h => ⟨cnow h c0, cnow h c1⟩
     refine zEA (fun w' => w'.cell? ⟨g, i1, none⟩ = some (.int .u64 (ca : Int)) ∧ w'.cell? ⟨g, i, none⟩ = some (.int .u64 (cb : Int))) 11 (by kernel_rfl) ?_; obtain ⟨D1, hD⟩ : ∃ D1, wr.drew = D1 := ⟨_, rfl⟩
     have GB : Hid (Below wr.heap.size wr D1) := by unfold Hid; rw [← hD]; exact (Below.refl _ _).drew
     rw [hD]; clear hD; refine zCA [(0, (.slice (some ⟨g, 0, none⟩) (k + 1) (k + 1))), (1, (.int .i64 (i1 : Int))), (2, (.pointer (some ⟨g, i1, none⟩))), (3, (.int .u64 (ca : Int))), (4, (.slice (some ⟨g, 0, none⟩) (k + 1) (k + 1))), (5, (.int .i64 (i1 : Int))), (6, (.int .i64 (i : Int))), (7, (.pointer (some ⟨g, i, none⟩))), (8, (.int .u64 (cb : Int))), (9, (.int .u64 (cs : Int))), (10, (.pointer (some ⟨g, i1, none⟩)))] 11 ?_ (KB.out _ GB.out) ?_
     ·simp only [zMA, gA9, g09, g19, Act.put, sI9, s09, s19]; (repeat' (first | exact trivial | refine And.intro (Or.inl ⟨by rfl, ?_⟩) ?_)) <;> (intro w hSw; (try dsimp only at hSw); go_simp)
     simp only [actV, gA9, g09, g19, Act.put, sI9, s09, s19]; refine zBA (i := 11) (o := ⟨none, .store 70 (.tmp 37) (.tmp 36), 0, "sets.go:62", #[⟨10, .data⟩, ⟨9, .data⟩, ⟨0, .phase⟩, ⟨1, .phase⟩, ⟨2, .phase⟩, ⟨3, .phase⟩, ⟨4, .phase⟩, ⟨5, .phase⟩, ⟨6, .phase⟩, ⟨7, .phase⟩, ⟨8, .phase⟩, ⟨9, .phase⟩], none⟩) (by kernel_rfl) rfl (fun K hK => ?_); have h0 := (CX.out.step GB.out).at (zRF (i := i1) (by omega)); have h1 := (CX.out.step GB.out).fz i1; go_simp; clear h0 h1; obtain ⟨V2, hW⟩ : ∃ V2, (D1.setCell ⟨g, i1, none⟩ (.int .u64 (cs : Int))) = V2 := ⟨_, rfl⟩
     have HN2 : Hid (CiH w g t k i (.int .i64 (i : Int)) V2) := by unfold Hid; rw [← hW]; exact HN1.out _ GB.out
     rw [hW]; clear hW; refine hK.out _ _ (fun h => absurd h (by decide)) ?_; clear hK
     try simp only [Act.put]
     refine zDA (by kernel_rfl) ?_ _; clear GB KB HN1 c0 c1 c2 CX; go_wp2_with fail; go_roundg i
     case rel => exact HN2.out
     case measure => exact HM2.out
    ·have hi' : ¬ (0 : Int) < (i : Int) := by omega
     obtain rfl : i = 0 := by omega
     have HN1 : Hid (CoH w g n k (n - (t + 1)) (.int .i64 ((t + 1 : Nat) : Int)) wr) := ⟨t + 1, rfl, by omega, rfl, by
      have := CC.out; rw [zaD fun j _ => chF_end] at this; exact this, BB.out⟩
     clear HG CC BB; go_wp2_with fail; go_roundg (n - (t + 1))
     case rel => exact HN1.out
     case measure => exact HMM.out
  ·have hlt' : ¬ (t : Int) < (n : Int) := by omega
   obtain rfl : t = n := by omega
   have c0 := CC.out.at (zRF (i := k) (by omega)); have hkk : (k : Int) < (k : Int) + 1 := by omega
   clear HG CC; go_wp2; go_ret; exact ⟨rfl, BB.out⟩
def zVJ (w : World) (n k : Nat) (e : Ending) (w' : World) : Prop := ∃ bn bk, e = .returned (.func (.func 117) #[] #[.pointer (some ⟨bn, 0, none⟩), .pointer (some ⟨bk, 0, none⟩)]) ∧ Cel w' bn 3 [.int .i64 (n : Int)] ∧ Cel w' bk 3 [.int .i64 (k : Int)] ∧ w.heap.size ≤ bn ∧ w.heap.size ≤ bk ∧ Below w.heap.size w w'
theorem zjG {w : World} {n k : Nat} : Calls Tryz.prog 82 #[.int .i64 (n : Int), .int .i64 (k : Int)] w (zVJ w n k) := by
 have b0 := (ziA w (.cells #[.int .i64 (n : Int)] 3) (.cells #[.int .i64 (k : Int)] 3)).1; have FIN : Hid (zVJ w n k (.returned (.func (.func 117) #[] #[.pointer (some ⟨w.heap.size, 0, none⟩), .pointer (some ⟨w.heap.size + 1, 0, none⟩)])) ((w.alloc (.cells #[.int .i64 (n : Int)] 3)).alloc (.cells #[.int .i64 (k : Int)] 3))) := by
  refine ⟨_, _, rfl, (Cel.new w 3 [.int .i64 (n : Int)]).step ((Below.refl _ _).alloc (Nat.le_refl _) _), ?_, Nat.le_refl _, by omega, b0⟩; have := Cel.new (w.alloc (.cells #[.int .i64 (n : Int)] 3)) 3 [.int .i64 (k : Int)]
  simpa using this
 clear b0; go_enter Tryz.func82, Tryz.ntmps82; go_wp2; go_ret; exact FIN.out
end Go.Proofs.YtakkmpkkoecnhaaGreat
