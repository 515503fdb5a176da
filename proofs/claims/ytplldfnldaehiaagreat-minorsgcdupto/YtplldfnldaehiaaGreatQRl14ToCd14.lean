/-
 QRl14ToCd14: Rl14, Rm14, Tg14, Cd14, joined.
-/
import Derived.Test.YtplldfnldaehiaaGreatQRn14ToIt14
import Derived.Test.YtplldfnldaehiaaGreatQTa14ToDm14
import Derived.Test.YtplldfnldaehiaaGreatQMi14ToCj14
import Derived.Test.YtplldfnldaehiaaGreatQExtPureToRf11

set_option maxRecDepth 100000
set_option maxHeartbeats 6400000
set_option linter.unusedVariables false
set_option linter.unusedSimpArgs false
namespace Go.Proofs.YtplldfnldaehiaaGreat
open Go.RowKit Go.Shelf
theorem rangeL {σ α : Type} {P : Program} {n : Nat} {g : Operand} {ps : Array Tmp} {assign body : Code} {Q : Exit → Act → World → Prop} {a : Act} {w : World}
  (h1 : 1 ≤ n) {gf : Nat} {lb : Array Value} (hg : a.eval g = .func (.func gf) #[] lb) (eg : ∀ args w, (callFunc gf args).run P w = .ok (.enter gf args) w)
  (enc : α → Array Value) (hps : ∀ x, (enc x).size = ps.size)
  (J : σ → World → Prop) (hJ : OwnFrom w.heap.size J) (At : σ → α → World → Prop) (hAt : ∀ s x, OwnFrom w.heap.size (fun (_ : Unit) W => At s x W)) (nx : σ → α → σ)
  (Kp : σ → World → World → Prop) (hKt : ∀ {s : σ} {A B C : World}, Kp s A B → Kp s B C → Kp s A C) (hKb : ∀ (s : σ) (W : World) (l : Nat) (o o' : Obj), w.heap.size ≤ l → W.heap[l]? = some o → o.isCells = false → Kp s W (W.putObj l o'))
  (Mn : σ → Nat → World → Prop) (hJs : ∀ s A B gs, J s A → w.heap.size ≤ gs → Mn s gs A → zNA (· = gs) A B → J s B) (Ini Fin : σ → Prop) (h0 : ∀ s, Ini s → J s w)
  (Jx : Code → World → Prop) (hJx : ∀ c, OwnFrom w.heap.size (fun (_ : Unit) W => Jx c W))
  (hit : ∀ (l : Nat) (J' : σ → World → Prop) (Jy : World → Prop) (W : World), Below w.heap.size w W → (∀ s X, J' s X → J s X) → (∀ s A B, J' s A → Below A.heap.size A B → J' s B) → (∀ s A B gs, J' s A → W.heap.size ≤ gs → Mn s gs A → zNA (· = gs) A B → J' s B) → (∀ s, Ini s → J' s W) →
   (∀ s x X, J' s X → At s x X → YieldAt Fence.wide (n - 1 - 1) P l (enc x) X fun e Y => (e = .returned (.bool true) ∧ J' (nx s x) Y ∧ Kp s X Y) ∨ (e = .returned (.bool false) ∧ Jy Y)) →
   CallsIn Fence.wide (n - 1) P gf (#[.func (.yield l) #[] #[]] ++ lb) W fun e Y => (∃ v, e = .returned v) ∧ ((∃ s, Fin s ∧ J' s Y) ∨ Jy Y))
  (Ax : α → Act → World → Prop) (hAx : ∀ x a', OwnFrom w.heap.size (fun (_ : Unit) W => Ax x a' W))
  (hassign : ∀ (l : Nat) (s : σ) (x : α) (W : World) (K : Act → World → Prop), J s W → At s x W → (∀ a' W', KeepsFrom w.heap.size W W' → Kp s W W' → J s W' → At s x W' → Ax x a' W' → K a' W') →
   assign.wpIn (Fence.wide.inRound l) (n - 1 - 1) P (Exit.then K (fun _ _ _ => False)) { tmps := (ps.zip (enc x)).foldl (fun t (p, v) => t.setIfInBounds p v) a.tmps, defers := [] } W)
  (hbody : ∀ (l : Nat) (s : σ) (x : α) (a' : Act) (W : World), w.heap.size ≤ l → (∃ r, W.heap[l]? = some (.loop r)) → J s W → At s x W → Ax x a' W → body.wpIn (Fence.wide.inRound l) (n - 1 - 1) P (fun e _ Y => (e = .normal ∧ KeepsFrom w.heap.size W Y ∧ J (nx s x) Y ∧ Kp s W Y) ∨ (∃ c, (e = .ret ∧ c = .ret ∨ ∃ id, e = .exit id ∧ c = .exit id) ∧ KeepsFrom w.heap.size W Y ∧ Jx c Y)) a' W)
  (hdone : ∀ (D : Nat) (s : σ) (W : World), w.heap.size ≤ D → Fin s → J s W → W.heap[D]? = some (.deferred (some [])) → Q .normal { a with defers := { target := .collected D, args := #[] } :: a.defers } W)
  (hstop : ∀ (D : Nat) (c : Code) (W : World), w.heap.size ≤ D → Jx c W → W.heap[D]? = some (.deferred (some [])) → c.wpIn Fence.wide n P Q { a with defers := { target := .collected D, args := #[] } :: a.defers } W) :
  (Code.rangeFunc g ps assign body).wpIn Fence.wide n P Q a w := by
 refine wpIn_rangeFunc fun fn hfn => ?_
 obtain ⟨R, hR⟩ : ∃ R : LoopState → Option Code → Loop, R = fun st pe => { state := st, pending := pe, fn, tmps := a.tmps, params := ps, assign, body, defers := w.heap.size } := ⟨_, rfl⟩
 obtain ⟨W1, hW1⟩ : ∃ W1, (w.alloc (.deferred (some []))).alloc (.loop (R .ready none)) = W1 := ⟨_, rfl⟩
 have bw : Below w.heap.size w W1 := by rw [← hW1]; exact (((Below.refl _ w).alloc (Nat.le_refl _) _).alloc (by simp) _)
 have hL : W1.heap[w.heap.size + 1]? = some (.loop (R .ready none)) := by
  rw [← hW1]; have := World.alloc_heap_new (w.alloc (.deferred (some []))) (.loop (R .ready none))
  rwa [World.size_alloc] at this
 have sW1 : W1.heap.size = w.heap.size + 2 := by rw [← hW1]; simp
 have hD : W1.heap[w.heap.size]? = some (.deferred (some [])) := by
  rw [← hW1]; exact (Below.heap_alloc _ _ _ (by simp)).trans (World.alloc_heap_new w _)
 refine ⟨w.heap.size + 1, [{ target := .collected w.heap.size, args := #[] }], W1, { target := .fn (.func gf) lb, args := #[.func (.yield (w.heap.size + 1)) #[] #[]] }, W1, gf, #[.func (.yield (w.heap.size + 1)) #[] #[]] ++ lb, W1, ?_, ?_, fun _ _ => trivial, ?_, fun _ => h1, ?_⟩
 ·rw [← hW1, hR]; exact run_enterLoop_outer _ _ _ _ _
 ·simp only [resolve, hg]
  simp [go_sem]
 ·simp [invoke, go_sem, eg]
 ·refine (hit (w.heap.size + 1) (fun s W => J s W ∧ W.heap[w.heap.size + 1]? = some (.loop (R .ready none)) ∧ W.heap[w.heap.size]? = some (.deferred (some []))) (fun W => ∃ c, Jx c W ∧ W.heap[w.heap.size + 1]? = some (.loop (R .done (some c))) ∧ W.heap[w.heap.size]? = some (.deferred (some []))) W1 bw (fun s X h => h.1)
   (fun s A B h b => ⟨hJ s A B none h.1 (zBB b) (fun r e => by cases e), (b.block _ (Array.getElem?_eq_some_iff.1 h.2.1).1).trans h.2.1, (b.block _ (Array.getElem?_eq_some_iff.1 h.2.2).1).trans h.2.2⟩)
   (fun s A B gs h h1 h2 t => ⟨hJs s A B gs h.1 (by omega) h2 t, (t.block _ (Array.getElem?_eq_some_iff.1 h.2.1).1 (by omega)).trans h.2.1, (t.block _ (Array.getElem?_eq_some_iff.1 h.2.2).1 (by omega)).trans h.2.2⟩)
   (fun s hs => ⟨hJ s w W1 none (h0 s hs) (zBB bw) (fun r e => by cases e), hL, hD⟩) ?_).mono ?_
  ·rintro s x X ⟨hj, hl, hk⟩ hat
   have hy := run_yield (P := P) (args := enc x) hl (by rw [hR]; exact hps x); rw [hR] at hy; refine ⟨fn, _, assign, body, hy, roundIn_of_wpIn hfn (hassign _ s x X _ hj hat fun a' X' qk qp qj qa qx => ?_)⟩; clear hy; have hl' := qk.same _ _ (by omega) hl rfl; have hk' := qk.same _ _ (Nat.le_refl _) hk rfl; have hlt : w.heap.size + 1 < X'.heap.size := (Array.getElem?_eq_some_iff.1 hl').1; refine ⟨_, run_beginRound hl' (by rw [hR]), ?_⟩; obtain ⟨X2, hX2⟩ : ∃ X2, X'.putObj (w.heap.size + 1) (.loop { R .ready none with state := .busy }) = X2 := ⟨_, rfl⟩
   have hl2 : X2.heap[w.heap.size + 1]? = some (.loop { R .ready none with state := .busy }) := by rw [← hX2]; exact World.putObj_heap_same hlt
   have hk2 : X2.heap[w.heap.size]? = some (.deferred (some [])) := by rw [← hX2]; exact (World.putObj_heap_other (by omega)).trans hk'
   have hj2 : J s X2 := by rw [← hX2]; exact hJ.putObj _ qj (by omega) hl' rfl
   have ha2 : At s x X2 := by rw [← hX2]; exact (hAt s x).putObj (s := ()) _ qa (by omega) hl' rfl
   have hx2 : Ax x a' X2 := by rw [← hX2]; exact (hAx x a').putObj (s := ()) _ qx (by omega) hl' rfl
   have hp2 : Kp s X X2 := by rw [← hX2]; exact hKt qp (hKb s _ _ _ _ (by omega) hl' rfl)
   rw [hX2]; refine wpIn_mono (hbody _ s x a' X2 (by omega) ⟨_, hl2⟩ hj2 ha2 hx2) ?_; rintro e a3 X3 (⟨rfl, q1, q2, q3⟩ | ⟨c, hc, q1, q2⟩)
   ·have hl3 := q1.same _ _ (by omega) hl2 rfl
    have hr := run_endRound (P := P) none hl3; refine ⟨_, _, hr, .inl ⟨rfl, ⟨hJ.putObj _ q2 (by omega) hl3 rfl, ?_, ?_⟩, hKt (hKt hp2 q3) (hKb s _ _ _ _ (by omega) hl3 rfl)⟩⟩
    ·have := World.putObj_heap_same (w := X3) (r := w.heap.size + 1) (o := .loop { { R .ready none with state := .busy } with state := .ready, pending := none }) (Array.getElem?_eq_some_iff.1 hl3).1
     rw [hR] at this ⊢; exact this
    ·exact (World.putObj_heap_other (by omega)).trans (q1.same _ _ (Nat.le_refl _) hk2 rfl)
   ·have hl3 := q1.same _ _ (by omega) hl2 rfl
    have hr := run_endRound (P := P) (some c) hl3; have h1 := World.putObj_heap_same (w := X3) (r := w.heap.size + 1) (o := .loop { { R .ready none with state := .busy } with state := .done, pending := some c }) (Array.getElem?_eq_some_iff.1 hl3).1; have h2 := (World.putObj_heap_other (w := X3) (r := w.heap.size + 1) (k := w.heap.size) (o := .loop { { R .ready none with state := .busy } with state := .done, pending := some c }) (by omega)).trans (q1.same _ _ (Nat.le_refl _) hk2 rfl); have hq := (hJx c).putObj (s := ()) (.loop { { R .ready none with state := .busy } with state := .done, pending := some c }) q2 (show w.heap.size ≤ w.heap.size + 1 by omega) hl3 rfl; have hfin : ∃ v w', (Instr.endRound (w.heap.size + 1) (some c)).run P X3 = .ok v w' ∧ ((Ending.returned v = .returned (.bool true) ∧ (J (nx s x) w' ∧ w'.heap[w.heap.size + 1]? = some (.loop (R .ready none)) ∧ w'.heap[w.heap.size]? = some (.deferred (some []))) ∧ Kp s X w') ∨ (Ending.returned v = .returned (.bool false) ∧ ∃ c, Jx c w' ∧ w'.heap[w.heap.size + 1]? = some (.loop (R .done (some c))) ∧ w'.heap[w.heap.size]? = some (.deferred (some [])))) := by
     refine ⟨_, _, hr, .inr ⟨rfl, c, hq, ?_, h2⟩⟩; rw [hR] at h1 ⊢; exact h1
    rcases hc with ⟨rfl, rfl⟩ | ⟨id, rfl, rfl⟩
    ·exact hfin
    ·exact hfin
  ·rintro e Y ⟨⟨v, rfl⟩, ⟨s, hf, hj, hl, hk⟩ | ⟨c, hj, hl, hk⟩⟩
   ·have hr := run_endLoop (P := P) hl (by rw [hR]; simp)
    refine ⟨_, _, hr, ?_⟩; rw [hR]; exact hdone _ s _ (Nat.le_refl _) hf (hJ.putObj _ hj (by omega) hl rfl) ((World.putObj_heap_other (by omega)).trans hk)
   ·have hr := run_endLoop (P := P) hl (by rw [hR]; simp)
    refine ⟨_, _, hr, ?_⟩; rw [hR]; exact hstop _ c _ (Nat.le_refl _) ((hJx c).putObj (s := ()) _ hj (by omega) hl rfl) ((World.putObj_heap_other (by omega)).trans hk)
theorem rangeM {σ α : Type} {P : Program} {n : Nat} {g : Operand} {ps : Array Tmp} {assign body : Code} {Q : Exit → Act → World → Prop} {a : Act} {w : World}
  {l₀ : Nat} {r₀ : Loop} (hl₀ : w.heap[l₀]? = some (.loop r₀))
  (h1 : 1 ≤ n) {gf : Nat} {lb : Array Value} (hg : a.eval g = .func (.func gf) #[] lb) (eg : ∀ args w, (callFunc gf args).run P w = .ok (.enter gf args) w)
  (enc : α → Array Value) (hps : ∀ x, (enc x).size = ps.size)
  (J : σ → World → Prop) (hJ : OwnFrom w.heap.size J) (At : σ → α → World → Prop) (hAt : ∀ s x, OwnFrom w.heap.size (fun (_ : Unit) W => At s x W)) (nx : σ → α → σ)
  (Kp : σ → World → World → Prop) (hKt : ∀ {s : σ} {A B C : World}, Kp s A B → Kp s B C → Kp s A C) (hKb : ∀ (s : σ) (W : World) (l : Nat) (o o' : Obj), w.heap.size ≤ l → W.heap[l]? = some o → o.isCells = false → Kp s W (W.putObj l o'))
  (Mn : σ → Nat → World → Prop) (hJs : ∀ s A B gs, J s A → w.heap.size ≤ gs → Mn s gs A → zNA (· = gs) A B → J s B) (Ini Fin : σ → Prop) (h0 : ∀ s, Ini s → J s w)
  (Jx : Code → World → Prop) (hJx : ∀ c, OwnFrom w.heap.size (fun (_ : Unit) W => Jx c W))
  (hit : ∀ (l : Nat) (J' : σ → World → Prop) (Jy : World → Prop) (W : World), Below w.heap.size w W → (∀ s X, J' s X → J s X) → (∀ s A B, J' s A → Below A.heap.size A B → J' s B) → (∀ s A B gs, J' s A → W.heap.size ≤ gs → Mn s gs A → zNA (· = gs) A B → J' s B) → (∀ s, Ini s → J' s W) →
   (∀ s x X, J' s X → At s x X → YieldAt Fence.wide (n - 1 - 1) P l (enc x) X fun e Y => (e = .returned (.bool true) ∧ J' (nx s x) Y ∧ Kp s X Y) ∨ (e = .returned (.bool false) ∧ Jy Y)) →
   CallsIn Fence.wide (n - 1) P gf (#[.func (.yield l) #[] #[]] ++ lb) W fun e Y => (∃ v, e = .returned v) ∧ ((∃ s, Fin s ∧ J' s Y) ∨ Jy Y))
  (a₁ : α → Act) (hassign : ∀ (l : Nat) (x : α) (W : World) (K : Act → World → Prop), K (a₁ x) W →
   assign.wpIn (Fence.wide.inRound l) (n - 1 - 1) P (Exit.then K (fun _ _ _ => False)) { tmps := (ps.zip (enc x)).foldl (fun t (p, v) => t.setIfInBounds p v) a.tmps, defers := [] } W)
  (hbody : ∀ (l : Nat) (s : σ) (x : α) (W : World), J s W → At s x W → body.wpIn (Fence.wide.inRound l) (n - 1 - 1) P (fun e _ Y => (e = .normal ∧ KeepsFrom w.heap.size W Y ∧ J (nx s x) Y ∧ Kp s W Y) ∨ (∃ c, (e = .ret ∧ c = .ret ∨ ∃ id, e = .exit id ∧ c = .exit id) ∧ KeepsFrom w.heap.size W Y ∧ Jx c Y)) (a₁ x) W)
  (hdone : ∀ (s : σ) (W : World), Fin s → J s W → Q .normal a W)
  (hstop : ∀ (c : Code) (W : World), Jx c W → c.wpIn (Fence.wide.inRound l₀) n P Q a W) :
  (Code.rangeFunc g ps assign body).wpIn (Fence.wide.inRound l₀) n P Q a w := by
 refine wpIn_rangeFunc fun fn hfn => ?_
 obtain ⟨R, hR⟩ : ∃ R : LoopState → Option Code → Loop, R = fun st pe => { state := st, pending := pe, fn, tmps := a.tmps, params := ps, assign, body, defers := r₀.defers } := ⟨_, rfl⟩
 obtain ⟨W1, hW1⟩ : ∃ W1, w.alloc (.loop (R .ready none)) = W1 := ⟨_, rfl⟩
 have bw : Below w.heap.size w W1 := by rw [← hW1]; exact (Below.refl _ w).alloc (Nat.le_refl _) _
 have hL : W1.heap[w.heap.size]? = some (.loop (R .ready none)) := by rw [← hW1]; exact World.alloc_heap_new w _
 have sW1 : W1.heap.size = w.heap.size + 1 := by rw [← hW1]; simp
 refine ⟨w.heap.size, [], W1, { target := .fn (.func gf) lb, args := #[.func (.yield w.heap.size) #[] #[]] }, W1, gf, #[.func (.yield w.heap.size) #[] #[]] ++ lb, W1, ?_, ?_, fun _ _ => trivial, ?_, fun _ => h1, ?_⟩
 ·rw [← hW1, hR]; exact run_enterLoop_inner hl₀ _ _ _ _ _
 ·simp only [resolve, hg]
  simp [go_sem]
 ·simp [invoke, go_sem, eg]
 ·refine CallsIn.mono (hit w.heap.size (fun s W => J s W ∧ W.heap[w.heap.size]? = some (.loop (R .ready none))) (fun W => ∃ c, Jx c W ∧ W.heap[w.heap.size]? = some (.loop (R .done (some c)))) W1 bw (fun s X h => h.1)
   (fun s A B h b => ⟨hJ s A B none h.1 (zBB b) (fun r e => by cases e), (b.block _ (Array.getElem?_eq_some_iff.1 h.2).1).trans h.2⟩)
   (fun s A B gs h h1 h2 t => ⟨hJs s A B gs h.1 (by omega) h2 t, (t.block _ (Array.getElem?_eq_some_iff.1 h.2).1 (by omega)).trans h.2⟩)
   (fun s hs => ⟨hJ s w W1 none (h0 s hs) (zBB bw) (fun r e => by cases e), hL⟩) ?_) ?_
  ·rintro s x X ⟨hj, hl⟩ hat
   have hlt : w.heap.size < X.heap.size := (Array.getElem?_eq_some_iff.1 hl).1; have hy := run_yield (P := P) (args := enc x) hl (by rw [hR]; exact hps x); rw [hR] at hy; refine ⟨fn, _, assign, body, hy, roundIn_of_wpIn (F := Fence.wide.inRound l₀) hfn (hassign _ x X _ ?_)⟩; clear hy; refine ⟨_, run_beginRound hl (by rw [hR]), ?_⟩; obtain ⟨X2, hX2⟩ : ∃ X2, X.putObj w.heap.size (.loop { R .ready none with state := .busy }) = X2 := ⟨_, rfl⟩
   have hl2 : X2.heap[w.heap.size]? = some (.loop { R .ready none with state := .busy }) := by rw [← hX2]; exact World.putObj_heap_same hlt
   have hj2 : J s X2 := by rw [← hX2]; exact hJ.putObj _ hj (Nat.le_refl _) hl rfl
   have ha2 : At s x X2 := by rw [← hX2]; exact (hAt s x).putObj (s := ()) _ hat (Nat.le_refl _) hl rfl
   have hp2 : Kp s X X2 := by rw [← hX2]; exact hKb s _ _ _ _ (Nat.le_refl _) hl rfl
   rw [hX2]; refine wpIn_mono (hbody _ s x X2 hj2 ha2) ?_; rintro e a3 X3 (⟨rfl, q1, q2, q3⟩ | ⟨c, hc, q1, q2⟩)
   ·have hl3 := q1.same _ _ (Nat.le_refl _) hl2 rfl
    have hr := run_endRound (P := P) none hl3; refine ⟨_, _, hr, .inl ⟨rfl, ⟨hJ.putObj _ q2 (Nat.le_refl _) hl3 rfl, ?_⟩, hKt (hKt hp2 q3) (hKb s _ _ _ _ (Nat.le_refl _) hl3 rfl)⟩⟩; have := World.putObj_heap_same (w := X3) (r := w.heap.size) (o := .loop { { R .ready none with state := .busy } with state := .ready, pending := none }) (Array.getElem?_eq_some_iff.1 hl3).1; rw [hR] at this ⊢; exact this
   ·have hl3 := q1.same _ _ (Nat.le_refl _) hl2 rfl
    have hr := run_endRound (P := P) (some c) hl3; have h1 := World.putObj_heap_same (w := X3) (r := w.heap.size) (o := .loop { { R .ready none with state := .busy } with state := .done, pending := some c }) (Array.getElem?_eq_some_iff.1 hl3).1; have hq := (hJx c).putObj (s := ()) (.loop { { R .ready none with state := .busy } with state := .done, pending := some c }) q2 (Nat.le_refl _) hl3 rfl; have hfin : ∃ v w', (Instr.endRound w.heap.size (some c)).run P X3 = .ok v w' ∧ ((Ending.returned v = .returned (.bool true) ∧ (J (nx s x) w' ∧ w'.heap[w.heap.size]? = some (.loop (R .ready none))) ∧ Kp s X w') ∨ (Ending.returned v = .returned (.bool false) ∧ ∃ c, Jx c w' ∧ w'.heap[w.heap.size]? = some (.loop (R .done (some c))))) := by
     refine ⟨_, _, hr, .inr ⟨rfl, c, hq, ?_⟩⟩; rw [hR] at h1 ⊢; exact h1
    rcases hc with ⟨rfl, rfl⟩ | ⟨id, rfl, rfl⟩
    ·exact hfin
    ·exact hfin
  ·rintro e Y ⟨⟨v, rfl⟩, ⟨s, hf, hj, hl⟩ | ⟨c, hj, hl⟩⟩
   ·have hr := run_endLoop (P := P) hl (by rw [hR]; simp)
    refine ⟨_, _, hr, ?_⟩; rw [hR]; exact hdone s _ hf (hJ.putObj _ hj (Nat.le_refl _) hl rfl)
   ·have hr := run_endLoop (P := P) hl (by rw [hR]; simp)
    refine ⟨_, _, hr, ?_⟩; rw [hR]; exact hstop c _ ((hJx c).putObj (s := ()) _ hj (Nat.le_refl _) hl rfl)
end Go.Proofs.YtplldfnldaehiaaGreat
namespace Go.Proofs.YtplldfnldaehiaaGreat
open Go.RowKit
def TabG (A : Nat → Nat → Int) (w : World) (m n KW : Nat) (v : Value) (w' : World) : Prop :=
 ∃ (bt ga gb go : Nat) (bs os : List Nat) (F : Nat → Nat → Int) (d : Int) (rk : Nat), v = .pointer (some ⟨bt, 0, none⟩) ∧ w.heap.size ≤ bt ∧ TabM w' bt ga gb go m n bs os F d rk KW ∧ Tbl A m n (gd bs) (gd os) F d ∧
  (∀ (s : Nat) (rows cols : Nat → Nat), rk < s → s ≤ min m n → (∀ a, a < s → rows a < m) → (∀ a, a < s → cols a < n) → det s (fun a b => A (rows a) (cols b)) = 0) ∧ w.heap.size ≤ ga ∧ w.heap.size ≤ gb ∧ w.heap.size ≤ go
theorem tableFor_g {w : World} {va : Value} {m n k : Nat} {zs : List Int} {kk : Int} (ha : Mx w va m n zs k) (hk : k ≤ 4000000000) (h0 : -1 ≤ kk) (h1 : kk ≤ m) (h2 : kk ≤ n) :
  Calls Tryz.prog 43 #[va, .int .i64 kk] w fun e w' => ∃ v, e = .returned v ∧ TabG (en n zs) w m n (64 * k + 7) v w' ∧ Below w.heap.size w w' := by
 have M0 := ha; obtain ⟨aa, ca, rfl, hm64, hn64⟩ := ha.form; have HZA : Hid (∀ z ∈ zs, (z.natAbs : Int) < pw k) := by obtain ⟨_, _, _, _, h, _⟩ := ha; exact h.lt
 obtain ⟨la, hla⟩ : ∃ la, m * n = la := ⟨_, rfl⟩
 rw [hla] at M0 ⊢; obtain ⟨W0, hW⟩ : ∃ W0, w.alloc (matO m n (.slice aa la ca)) = W0 := ⟨_, rfl⟩
 obtain ⟨b0, sz0⟩ := alo1 w (matO m n (.slice aa la ca)); rw [hW] at b0 sz0; have PM : Hid (Cel W0 w.heap.size 24 (matc m n (.slice aa la ca))) := by unfold Hid; rw [← hW]; exact Cel.new w _ _
 have HT := hid (zqD (KW := 64 * k + 7) (M0.now b0) (by omega) (by omega)); have G := hid b0; have EW := hid hW; have HKK := hid hk; clear ha M0 b0 hW hla hk; go_enter Tryz.func43, Tryz.ntmps43; go_wp2_with fail; rw [EW.out]; clear EW; refine HT.out.mono ?_; rintro e w1 ⟨bt, ga, gb, go, rfl, g1, g2, g3, g4, htm, b⟩; have TM := hid htm; replace PM := hid (PM.out.step b); replace G := hid (below_step G.out b); have a0 := PM.out.at (i := 0) rfl; have a1 := PM.out.at (i := 1) rfl; have q1 : IntKind.i64.wrap ((m : Int) - kk) = (m : Int) - kk := by rw [zKA] <;> omega
 have q2 : IntKind.i64.wrap ((m : Int) - kk + (n : Int)) = (m : Int) - kk + (n : Int) := by rw [zKA] <;> omega
 have q3 : IntKind.i64.wrap ((m : Int) - kk + (n : Int) - kk) = (m : Int) - kk + (n : Int) - kk := by rw [zKA] <;> omega
 have SG : Hid (∀ c, S14 bt ga gb go c → w.heap.size ≤ c) := fun c hc => by rcases hc with e | e | e | e <;> subst e <;> omega
 have hbt : w.heap.size ≤ bt := by omega
 clear HT htm b g1 g2 g3 g4
 by_cases hc : (m : Int) - kk + (n : Int) - kk < kk
 ·have hc2 : decide ((m : Int) - kk + (n : Int) - kk < kk) = true := decide_eq_true hc
  have HS := hid (zfE (A := en n zs) TM.out (ztE _ m n) (by omega) (fun f => zIF HZA.out hm64) (by have := HKK.out; omega)); go_wp2_with fail; refine HS.out.mono ?_; rintro e w2 ⟨rfl, bs, os, F, d, rk, htm, hst, hth⟩; have FIN : Hid (∃ v, Ending.returned (Value.pointer (some ⟨bt, 0, none⟩)) = .returned v ∧ TabG (en n zs) w m n (64 * k + 7) v w2 ∧ Below w.heap.size w w2) := by
   refine ⟨_, rfl, ⟨bt, ga, gb, go, bs, os, F, d, rk, rfl, hbt, htm, hst.tb, fun s rows cols h1 _ h3 h4 => ?_, SG.out ga (by simp [S14]), SG.out gb (by simp [S14]), SG.out go (by simp [S14])⟩, zLI G.out hth SG.out⟩; refine hst.tb.rank0 (P := (List.range m).filter fun r => decide (bs.getD r 0 < n)) (fun i hi hf => ?_) (fun i j hi hj h5 h6 => hst.lo i hi h5 j hj h6) h3 h4 (by rw [← hst.cnt]; exact h1); rw [List.mem_filter]; exact ⟨by simpa using hi, by simpa using hf⟩
  clear HS htm hst hth TM; go_wp2; go_ret; exact FIN.out
 ·have hc2 : decide ((m : Int) - kk + (n : Int) - kk < kk) = false := decide_eq_false hc
  have FIN : Hid (∃ v, Ending.returned (Value.pointer (some ⟨bt, 0, none⟩)) = .returned v ∧ TabG (en n zs) w m n (64 * k + 7) v w1 ∧ Below w.heap.size w w1) := ⟨_, rfl, ⟨bt, ga, gb, go, _, _, _, _, _, rfl, hbt, TM.out, (ztE _ m n).tb, fun s rows cols h1 h2 _ _ => by omega, SG.out ga (by simp [S14]), SG.out gb (by simp [S14]), SG.out go (by simp [S14])⟩, G.out⟩
  clear TM; go_wp2; go_ret; exact FIN.out
open Go.RowKit Go.Shelf
def gcs (l : List Int) : Int := l.foldl (fun g z => ((Int.gcd g z : Nat) : Int)) 0
theorem zCI (l : List Int) (z : Int) : gcs (l ++ [z]) = ((Int.gcd (gcs l) z : Nat) : Int) := by simp [gcs]
theorem zlE : ∀ l : List Int, l.foldl (fun g z => ((Int.gcd g z : Nat) : Int)) 1 = 1
 | [] => rfl
 | z :: l => by
  rw [List.foldl_cons, show ((Int.gcd 1 z : Nat) : Int) = 1 by simp]; exact zlE l
theorem gcs_one {l : List Int} (h : gcs l = 1) (r : List Int) : gcs (l ++ r) = 1 := by
 unfold gcs at *; rw [List.foldl_append, h, zlE]
theorem zJF (A : Nat → Nat → Int) (m n k C t u : Nat) : ∀ d, ∃ r, cpL A m n k C t (u + d) = cpL A m n k C t u ++ r
 | 0 => ⟨[], by simp⟩
 | d + 1 => by
  obtain ⟨r, h⟩ := zJF A m n k C t u d; refine ⟨r ++ [cpE A m n k t (u + d)], ?_⟩; rw [← List.append_assoc, ← h, zRG]
  rfl
theorem zGH (A : Nat → Nat → Int) (m n k C t : Nat) : ∀ d, ∃ r, cpL A m n k C (t + d) 0 = cpL A m n k C t 0 ++ r
 | 0 => ⟨[], by simp⟩
 | d + 1 => by
  obtain ⟨r, h⟩ := zGH A m n k C t d; obtain ⟨r', h'⟩ := zJF A m n k C (t + d) 0 C; rw [Nat.zero_add, zTE, h] at h'; exact ⟨r ++ r', by rw [← List.append_assoc, ← h']; rfl⟩
theorem gcs_all {A : Nat → Nat → Int} {m n k C R t u : Nat} (hu : u ≤ C) (ht : t < R) (h : gcs (cpL A m n k C t u) = 1) : gcs (cpL A m n k C R 0) = 1 := by
 obtain ⟨r1, h1⟩ := zJF A m n k C t u (C - u); obtain ⟨r2, h2⟩ := zGH A m n k C (t + 1) (R - (t + 1)); rw [show u + (C - u) = C by omega, zTE] at h1; rw [show t + 1 + (R - (t + 1)) = R by omega, h1, List.append_assoc] at h2; rw [h2]; exact gcs_one h _
theorem zuF {z : Int} : cmpI z 1 = 0 ↔ z = 1 := by unfold cmpI; split <;> (try split) <;> omega
theorem zgE {S : Nat → Prop} {l nn bn bk n k : Nat} {W : World} (hnn : 1 ≤ nn) (hn : n ≤ 64) (hk : k ≤ n) (J : Nat × Nat → World → Prop)
  (hcn : W.cell? ⟨bn, 0, none⟩ = some (.int .i64 (n : Int))) (hck : W.cell? ⟨bk, 0, none⟩ = some (.int .i64 (k : Int))) (hSn : ¬ S bn) (hSk : ¬ S bk)
  (hJb : ∀ s A B, J s A → Below A.heap.size A B → J s B) (hJs : ∀ s A B gs, J s A → W.heap.size ≤ gs → (gs < s.1 ∧ ∃ L, A.heap[gs]? = some (.cells L 3 (0, 0))) → zNA (· = gs) A B → J s B) (h0 : ∀ B, W.heap.size ≤ B → J (B, 0) W) (hSB : ∀ b, S b → b < W.heap.size)
  (Jx : World → Prop) (hY : ∀ s x X, J s X → AtS n k s x X → YieldAt Fence.wide (nn - 1) Tryz.prog l #[x] X fun e Y => (e = .returned (.bool true) ∧ J (s.1, s.2 + 1) Y ∧ KpL S s.1 X Y) ∨ (e = .returned (.bool false) ∧ Jx Y)) :
  CallsIn Fence.wide nn Tryz.prog 74 #[.func (.yield l) #[] #[], .pointer (some ⟨bn, 0, none⟩), .pointer (some ⟨bk, 0, none⟩)] W fun e Y => (∃ v, e = .returned v) ∧ ((∃ s, s.2 = (zVA n k).length ∧ J s Y) ∨ Jx Y) :=
 zVF hnn hn hk J hcn hck hSn hSk hJb (fun s A B gs h h1 h2 t => hJs s A B gs h h1 h2.2 t) h0 hSB Jx fun s x X h1 h2 => hY s x X h1 ⟨h2.1, h2.2.1, zvD h2.2.2⟩
structure CdJ (w w3 : World) (ga br bg b1 : Nat) (o1 o2 : Value) (zsT : List Int) (z : Int) (KW : Nat) (W : World) : Prop where
 ty : Ty 37 w3 W
 arr : AZ W ga zsT KW
 one : Duo W b1 o1 o2
 r : Duo W br (.bool false) (.slice none 0 0)
 g : ∃ n a l c, Duo W bg (.bool n) (.slice a l c) ∧ Zm w.heap.size W (.agg #[.bool n, .slice a l c]) z KW
 bw : Below w.heap.size w W
def CdX (w : World) (br KW : Nat) (c : Code) (W : World) : Prop := c = .ret ∧ ∃ n a l c', Duo W br (.bool n) (.slice a l c') ∧ Zm w.heap.size W (.agg #[.bool n, .slice a l c']) 1 KW ∧ Below w.heap.size w W
section
variable {w w3 : World} {ga br bg b1 KW B : Nat} {o1 o2 : Value} {zsT : List Int} {z : Int} {W W' : World}
theorem Duo.kc14 {b : Nat} {x y : Value} (h : Duo W b x y) (hk : Kc W W') : Duo W' b x y := hk.cel (L := [x, y]) h
theorem Duo.tyi14 {b : Nat} {x y : Value} (h : Duo W b x y) (ht : Ty 3 W W') : Duo W' b x y := Cel.ty13 (L := [x, y]) h ht (by decide)
theorem AZ.kc14 {g k : Nat} {zs : List Int} (h : AZ W g zs k) (hk : Kc W W') : AZ W' g zs k := by
 obtain ⟨ps, h1, h2⟩ := h; exact ⟨ps, ⟨hk.cel h1.1, h1.2⟩, h2.kc14 hk⟩
theorem CdJ.kc (h : CdJ w w3 ga br bg b1 o1 o2 zsT z KW W) (hk : Kc W W') (hb : Below w.heap.size w W') : CdJ w w3 ga br bg b1 o1 o2 zsT z KW W' := by
 obtain ⟨n, a, l, c, h1, h2⟩ := h.g; exact ⟨h.ty.kc14 hk, h.arr.kc14 hk, h.one.kc14 hk, h.r.kc14 hk, ⟨n, a, l, c, h1.kc14 hk, h2.kc hk⟩, hb⟩
theorem CdJ.now (h : CdJ w w3 ga br bg b1 o1 o2 zsT z KW W) (hb : Below W.heap.size W W') : CdJ w w3 ga br bg b1 o1 o2 zsT z KW W' := h.kc (zmB hb) (below_step h.bw hb)
theorem CdJ.tou (h : CdJ w w3 ga br bg b1 o1 o2 zsT z KW W) {g : Nat} {L : Array Value} (hg : w3.heap.size ≤ g) (hL : W.heap[g]? = some (.cells L 3 (0, 0))) (ht : zNA (· = g) W W') (h0 : w.heap.size ≤ w3.heap.size) : CdJ w w3 ga br bg b1 o1 o2 zsT z KW W' := by
 have hty := ht.tyg hL; obtain ⟨n, a, l, c, h1, h2⟩ := h.g; refine ⟨⟨Nat.le_trans h.ty.1 ht.size, fun b L' T' fr e hne => ?_⟩, h.arr.ty hty (by decide) (by decide), h.one.tyi14 hty, h.r.tyi14 hty, ⟨n, a, l, c, h1.tyi14 hty, h2.ty hty (by decide)⟩, ?_⟩
 ·have e1 := h.ty.2 b L' T' fr e hne
  have hb := (Array.getElem?_eq_some_iff.1 e).1; exact (ht.block b (Array.getElem?_eq_some_iff.1 e1).1 (by omega)).trans e1
 ·exact h.bw.trans ⟨ht.os, ht.tape, ht.output, ht.size, fun c hc => ht.block c (Nat.lt_of_lt_of_le hc h.bw.size) (by omega)⟩
theorem CdJ.put (h : CdJ w w3 ga br bg b1 o1 o2 zsT z KW W) (hne : bg ≠ ga ∧ bg ≠ b1 ∧ bg ≠ br) (hw : w.heap.size ≤ bg) {n : Bool} {a : Option Addr} {l c : Nat} {z' : Int} (hz : Zm w.heap.size W (.agg #[.bool n, .slice a l c]) z' KW) :
  CdJ w w3 ga br bg b1 o1 o2 zsT z' KW ((W.setCell ⟨bg, 0, none⟩ (.bool n)).setCell ⟨bg, 1, none⟩ (.slice a l c)) := by
 obtain ⟨n0, a0, l0, c0, h1, h2⟩ := h.g; have ty := h1.ty13 (.bool n) (.slice a l c); obtain ⟨ps, p1, p2⟩ := h.arr; exact ⟨h.ty.trans ty, ⟨ps, (p1.ne hne.1).ne hne.1, p2.ty ty (by decide)⟩, (h.one.ne hne.2.1).ne hne.2.1, (h.r.ne hne.2.2).ne hne.2.2, ⟨n, a, l, c, h1.set _ _, hz.ty ty (by decide)⟩, bset (bset h.bw hw) hw⟩
theorem put_keeps14 {x y u u' : Value} {B0 B' : Nat} (d : Duo W bg x y) : KeepsFrom B0 W ((W.setCell ⟨bg, 0, none⟩ u).setCell ⟨bg, 1, none⟩ u') ∧ KpL (· = bg) B' W ((W.setCell ⟨bg, 0, none⟩ u).setCell ⟨bg, 1, none⟩ u') := by
 refine ⟨((KeepsOthers.setCell W ⟨bg, 0, none⟩ u).trans (KeepsOthers.setCell _ ⟨bg, 1, none⟩ u')).from _, by simp, fun b o h1 h2 e q => ?_⟩; exact (Below.heap_setCell _ _ _ b (fun r => h2 (by simpa using r))).trans ((Below.heap_setCell _ _ _ b (fun r => h2 (by simpa using r))).trans e)
theorem CdX.own (hB : w.heap.size ≤ B) (c : Code) : OwnFrom B (fun (_ : Unit) W => CdX w br KW c W) := fun _ W W' row hs hg hr => by
 obtain ⟨h1, n, a, l, c', h2, h3, h4⟩ := hs; have hk := zfA hg fun r e => (hr r e).2
 exact ⟨h1, n, a, l, c', h2.kc14 hk, h3.kc hk, h4.grown hg h4.size (fun k e => Nat.le_trans hB (hr k e).1)⟩
end
def CDo (w w3 : World) (ga br bg b1 : Nat) (o1 o2 : Value) (zsT : List Int) (A : Nat → Nat → Int) (m n k R C KW : Nat) (s : Nat × Nat) (W : World) : Prop :=
 w3.heap.size ≤ s.1 ∧ s.2 ≤ R ∧ CdJ w w3 ga br bg b1 o1 o2 zsT (gcs (cpL A m n k C s.2 0)) KW W
theorem CDo.own {w w3 : World} {ga br bg b1 m n k R C KW B : Nat} {o1 o2 : Value} {zsT : List Int} {A : Nat → Nat → Int} (hB : w.heap.size ≤ B) : OwnFrom B (CDo w w3 ga br bg b1 o1 o2 zsT A m n k R C KW) := fun s W W' row hs hg hr => by
 obtain ⟨h1, h2, h3⟩ := hs; exact ⟨h1, h2, h3.kc (zfA hg fun r e => (hr r e).2) (h3.bw.grown hg h3.bw.size (fun k e => Nat.le_trans hB (hr k e).1))⟩
def CDi (w w3 Wr wi : World) (ga br bg b1 brow : Nat) (o1 o2 : Value) (zsT : List Int) (A : Nat → Nat → Int) (m n k C KW B1 t : Nat) (rv : Value) (rows : List Nat) (s : Nat × Nat) (W : World) : Prop :=
 wi.heap.size ≤ s.1 ∧ s.2 ≤ C ∧ Cel W brow 34 [rv] ∧ Ivs 0 W rv rows ∧ KeepsFrom w3.heap.size Wr W ∧ KpL (· = bg) B1 Wr W ∧ CdJ w w3 ga br bg b1 o1 o2 zsT (gcs (cpL A m n k C t s.2)) KW W
section
variable {w w3 Wr wi : World} {ga br bg b1 brow m n k C KW B1 t B : Nat} {o1 o2 : Value} {zsT : List Int} {A : Nat → Nat → Int} {rv : Value} {rows : List Nat}
theorem CDi.own (hB : w.heap.size ≤ B) (hr0 : Wr.heap.size ≤ B) : OwnFrom B (CDi w w3 Wr wi ga br bg b1 brow o1 o2 zsT A m n k C KW B1 t rv rows) := fun s W W' row hs hg hr => by
 obtain ⟨h1, h2, h3, h4, h5, h6, h7⟩ := hs; have hk := zfA hg fun r e => (hr r e).2
 exact ⟨h1, h2, hk.cel h3, h4.kc14 hk, ownFrom_keepsFrom (β := Unit) hr0 () W W' row h5 hg hr, h6.kc14 hk, h7.kc hk (h7.bw.grown hg h7.bw.size (fun k e => Nat.le_trans hB (hr k e).1))⟩
theorem CDi.tou {s : Nat × Nat} {X Y : World} (h : CDi w w3 Wr wi ga br bg b1 brow o1 o2 zsT A m n k C KW B1 t rv rows s X) {g : Nat} {L : Array Value} (hg : wi.heap.size ≤ g) (hL : X.heap[g]? = some (.cells L 3 (0, 0))) (ht : zNA (· = g) X Y) (h0 : w.heap.size ≤ w3.heap.size) (h3 : w3.heap.size ≤ wi.heap.size) (hrv : ∀ b, rv.ownBlock = some b → b < wi.heap.size) (hB1 : B1 ≤ wi.heap.size) : CDi w w3 Wr wi ga br bg b1 brow o1 o2 zsT A m n k C KW B1 t rv rows s Y := by
 obtain ⟨q1, q2, q3, q4, q5, q6, q7⟩ := h; have hty := ht.tyg hL; refine ⟨q1, q2, q3.ty13 hty (by decide), q4.keep fun b L' hb e => ?_, ⟨Nat.le_trans q5.1 ht.size, fun j o hj e ho => ?_⟩, ⟨Nat.le_trans q6.1 ht.size, fun b o h1 h2 e q => ?_⟩, q7.tou (by omega) hL ht h0⟩
 ·have := hrv b hb
  exact (ht.block b (Array.getElem?_eq_some_iff.1 e).1 (by omega)).trans e
 ·have e1 := q5.2 j o hj e ho
  refine (ht.block j (Array.getElem?_eq_some_iff.1 e1).1 (fun q => ?_)).trans e1; subst q; rw [hL, Option.some.injEq] at e1; subst e1; cases ho
 ·have e1 := q6.2 b o h1 h2 e q
  exact (ht.block b (Array.getElem?_eq_some_iff.1 e1).1 (by omega)).trans e1
end
theorem TabM.tyI14 {w w' : World} {bt ga gb go m n : Nat} {bs os : List Nat} {F : Nat → Nat → Int} {d : Int} {rk k : Nat} (h : TabM w bt ga gb go m n bs os F d rk k) (ht : Ty 37 w w') (ha : AZ w' ga (zF m n F) k) : TabM w' bt ga gb go m n bs os F d rk k := by
 obtain ⟨ab, cb, nd, ad, ld, cd, q1, q2, q3, q4⟩ := h.box; exact ⟨⟨ab, cb, nd, ad, ld, cd, q1.ty13 ht (by decide), q2.ty ht (by decide), q3, fun q => ⟨(q4 q).1, (q4 q).2.choose, (q4 q).2.choose_spec.ty13 ht (by decide)⟩⟩, ha, h.oth.ty13 ht (by decide), h.ne, h.lb, h.lo, h.hm, h.hn, h.rk64⟩
end Go.Proofs.YtplldfnldaehiaaGreat
