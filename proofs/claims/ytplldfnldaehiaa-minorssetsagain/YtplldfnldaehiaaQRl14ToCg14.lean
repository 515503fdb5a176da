/-
  QRl14ToCg14: Rl14, Cg14, joined.
-/
import Derived.Test.YtplldfnldaehiaaQRn14ToIt14
import Derived.Test.YtplldfnldaehiaaQSr13
import Derived.Test.YtplldfnldaehiaaQEachM11ToLn11
import Derived.Test.YtplldfnldaehiaaQTy9ToChkN9

/- Rl14 -/
namespace Go.Proofs.Ytplldfnldaehiaa
open Go.RowKit Go.Shelf
set_option linter.unusedVariables false

/-- As rangeH, where a round may leave the loop by a break or a return: then Jx c holds, c the jump that is left. -/
theorem rangeL {σ α : Type} {P : Program} {n : Nat} {g : Operand} {ps : Array Tmp} {assign body : Code} {Q : Exit → Act → World → Prop} {a : Act} {w : World}
    (h1 : 1 ≤ n) {gf : Nat} {lb : Array Value} (hg : a.eval g = .func (.func gf) #[] lb) (eg : ∀ args w, (callFunc gf args).run P w = .ok (.enter gf args) w)
    (enc : α → Array Value) (hps : ∀ x, (enc x).size = ps.size)
    (J : σ → World → Prop) (hJ : OwnFrom w.heap.size J) (At : σ → α → World → Prop) (hAt : ∀ s x, OwnFrom w.heap.size (fun (_ : Unit) W => At s x W)) (nx : σ → α → σ)
    (Kp : σ → World → World → Prop) (hKt : ∀ {s : σ} {A B C : World}, Kp s A B → Kp s B C → Kp s A C) (hKb : ∀ (s : σ) (W : World) (l : Nat) (o o' : Obj), w.heap.size ≤ l → W.heap[l]? = some o → o.isCells = false → Kp s W (W.putObj l o'))
    (Mn : σ → Nat → World → Prop) (hJs : ∀ s A B gs, J s A → w.heap.size ≤ gs → Mn s gs A → Touch (· = gs) A B → J s B) (Ini Fin : σ → Prop) (h0 : ∀ s, Ini s → J s w)
    (Jx : Code → World → Prop) (hJx : ∀ c, OwnFrom w.heap.size (fun (_ : Unit) W => Jx c W))
    (hit : ∀ (l : Nat) (J' : σ → World → Prop) (Jy : World → Prop) (W : World), Below w.heap.size w W → (∀ s X, J' s X → J s X) → (∀ s A B, J' s A → Below A.heap.size A B → J' s B) → (∀ s A B gs, J' s A → W.heap.size ≤ gs → Mn s gs A → Touch (· = gs) A B → J' s B) → (∀ s, Ini s → J' s W) →
      (∀ s x X, J' s X → At s x X → YieldAt Fence.wide (n - 1 - 1) P l (enc x) X fun e Y => (e = .returned (.bool true) ∧ J' (nx s x) Y ∧ Kp s X Y) ∨ (e = .returned (.bool false) ∧ Jy Y)) →
      CallsIn Fence.wide (n - 1) P gf (#[.func (.yield l) #[] #[]] ++ lb) W fun e Y => (∃ v, e = .returned v) ∧ ((∃ s, Fin s ∧ J' s Y) ∨ Jy Y))
    (Ax : α → Act → World → Prop) (hAx : ∀ x a', OwnFrom w.heap.size (fun (_ : Unit) W => Ax x a' W))
    (hassign : ∀ (l : Nat) (s : σ) (x : α) (W : World) (K : Act → World → Prop), J s W → At s x W → (∀ a' W', KeepsFrom w.heap.size W W' → Kp s W W' → J s W' → At s x W' → Ax x a' W' → K a' W') →
      assign.wpIn (Fence.wide.inRound l) (n - 1 - 1) P (Exit.then K (fun _ _ _ => False)) { tmps := (ps.zip (enc x)).foldl (fun t (p, v) => t.setIfInBounds p v) a.tmps, defers := [] } W)
    (hbody : ∀ (l : Nat) (s : σ) (x : α) (a' : Act) (W : World), w.heap.size ≤ l → (∃ r, W.heap[l]? = some (.loop r)) → J s W → At s x W → Ax x a' W → body.wpIn (Fence.wide.inRound l) (n - 1 - 1) P (fun e _ Y => (e = .normal ∧ KeepsFrom w.heap.size W Y ∧ J (nx s x) Y ∧ Kp s W Y) ∨ (∃ c, (e = .ret ∧ c = .ret ∨ ∃ id, e = .exit id ∧ c = .exit id) ∧ KeepsFrom w.heap.size W Y ∧ Jx c Y)) a' W)
    (hdone : ∀ (D : Nat) (s : σ) (W : World), w.heap.size ≤ D → Fin s → J s W → W.heap[D]? = some (.deferred (some [])) → Q .normal { a with defers := { target := .collected D, args := #[] } :: a.defers } W)
    (hstop : ∀ (D : Nat) (c : Code) (W : World), w.heap.size ≤ D → Jx c W → W.heap[D]? = some (.deferred (some [])) → c.wpIn Fence.wide n P Q { a with defers := { target := .collected D, args := #[] } :: a.defers } W) :
    (Code.rangeFunc g ps assign body).wpIn Fence.wide n P Q a w := by
  refine wpIn_rangeFunc fun fn hfn => ?_
  obtain ⟨R, hR⟩ : ∃ R : LoopState → Option Code → Loop, R = fun st pe => { state := st, pending := pe, fn, tmps := a.tmps, params := ps, assign, body, defers := w.heap.size } := ⟨_, rfl⟩
  obtain ⟨W1, hW1⟩ : ∃ W1, (w.alloc (.deferred (some []))).alloc (.loop (R .ready none)) = W1 := ⟨_, rfl⟩
  have bw : Below w.heap.size w W1 := by rw [← hW1]; exact (((Below.refl _ w).alloc (Nat.le_refl _) _).alloc (by simp) _)
  have hL : W1.heap[w.heap.size + 1]? = some (.loop (R .ready none)) := by
    rw [← hW1]
    have := World.alloc_heap_new (w.alloc (.deferred (some []))) (.loop (R .ready none))
    rwa [World.size_alloc] at this
  have sW1 : W1.heap.size = w.heap.size + 2 := by rw [← hW1]; simp
  have hD : W1.heap[w.heap.size]? = some (.deferred (some [])) := by
    rw [← hW1]
    exact (Below.heap_alloc _ _ _ (by simp)).trans (World.alloc_heap_new w _)
  refine ⟨w.heap.size + 1, [{ target := .collected w.heap.size, args := #[] }], W1, { target := .fn (.func gf) lb, args := #[.func (.yield (w.heap.size + 1)) #[] #[]] }, W1, gf, #[.func (.yield (w.heap.size + 1)) #[] #[]] ++ lb, W1, ?_, ?_, fun _ _ => trivial, ?_, fun _ => h1, ?_⟩
  · rw [← hW1, hR]; exact run_enterLoop_outer _ _ _ _ _
  · simp only [resolve, hg]
    simp [go_sem]
  · simp [invoke, go_sem, eg]
  · refine (hit (w.heap.size + 1) (fun s W => J s W ∧ W.heap[w.heap.size + 1]? = some (.loop (R .ready none)) ∧ W.heap[w.heap.size]? = some (.deferred (some []))) (fun W => ∃ c, Jx c W ∧ W.heap[w.heap.size + 1]? = some (.loop (R .done (some c))) ∧ W.heap[w.heap.size]? = some (.deferred (some []))) W1 bw (fun s X h => h.1)
      (fun s A B h b => ⟨hJ s A B none h.1 (grown_of b) (fun r e => by cases e), (b.block _ (Array.getElem?_eq_some_iff.1 h.2.1).1).trans h.2.1, (b.block _ (Array.getElem?_eq_some_iff.1 h.2.2).1).trans h.2.2⟩)
      (fun s A B gs h h1 h2 t => ⟨hJs s A B gs h.1 (by omega) h2 t, (t.block _ (Array.getElem?_eq_some_iff.1 h.2.1).1 (by omega)).trans h.2.1, (t.block _ (Array.getElem?_eq_some_iff.1 h.2.2).1 (by omega)).trans h.2.2⟩)
      (fun s hs => ⟨hJ s w W1 none (h0 s hs) (grown_of bw) (fun r e => by cases e), hL, hD⟩) ?_).mono ?_
    · rintro s x X ⟨hj, hl, hk⟩ hat
      have hy := run_yield (P := P) (args := enc x) hl (by rw [hR]; exact hps x)
      rw [hR] at hy
      refine ⟨fn, _, assign, body, hy, roundIn_of_wpIn hfn (hassign _ s x X _ hj hat fun a' X' qk qp qj qa qx => ?_)⟩
      clear hy
      have hl' := qk.same _ _ (by omega) hl rfl
      have hk' := qk.same _ _ (Nat.le_refl _) hk rfl
      have hlt : w.heap.size + 1 < X'.heap.size := (Array.getElem?_eq_some_iff.1 hl').1
      refine ⟨_, run_beginRound hl' (by rw [hR]), ?_⟩
      obtain ⟨X2, hX2⟩ : ∃ X2, X'.putObj (w.heap.size + 1) (.loop { R .ready none with state := .busy }) = X2 := ⟨_, rfl⟩
      have hl2 : X2.heap[w.heap.size + 1]? = some (.loop { R .ready none with state := .busy }) := by rw [← hX2]; exact World.putObj_heap_same hlt
      have hk2 : X2.heap[w.heap.size]? = some (.deferred (some [])) := by rw [← hX2]; exact (World.putObj_heap_other (by omega)).trans hk'
      have hj2 : J s X2 := by rw [← hX2]; exact hJ.putObj _ qj (by omega) hl' rfl
      have ha2 : At s x X2 := by rw [← hX2]; exact (hAt s x).putObj (s := ()) _ qa (by omega) hl' rfl
      have hx2 : Ax x a' X2 := by rw [← hX2]; exact (hAx x a').putObj (s := ()) _ qx (by omega) hl' rfl
      have hp2 : Kp s X X2 := by rw [← hX2]; exact hKt qp (hKb s _ _ _ _ (by omega) hl' rfl)
      rw [hX2]
      refine wpIn_mono (hbody _ s x a' X2 (by omega) ⟨_, hl2⟩ hj2 ha2 hx2) ?_
      rintro e a3 X3 (⟨rfl, q1, q2, q3⟩ | ⟨c, hc, q1, q2⟩)
      · have hl3 := q1.same _ _ (by omega) hl2 rfl
        have hr := run_endRound (P := P) none hl3
        refine ⟨_, _, hr, .inl ⟨rfl, ⟨hJ.putObj _ q2 (by omega) hl3 rfl, ?_, ?_⟩, hKt (hKt hp2 q3) (hKb s _ _ _ _ (by omega) hl3 rfl)⟩⟩
        · have := World.putObj_heap_same (w := X3) (r := w.heap.size + 1) (o := .loop { { R .ready none with state := .busy } with state := .ready, pending := none }) (Array.getElem?_eq_some_iff.1 hl3).1
          rw [hR] at this ⊢
          exact this
        · exact (World.putObj_heap_other (by omega)).trans (q1.same _ _ (Nat.le_refl _) hk2 rfl)
      · have hl3 := q1.same _ _ (by omega) hl2 rfl
        have hr := run_endRound (P := P) (some c) hl3
        have h1 := World.putObj_heap_same (w := X3) (r := w.heap.size + 1) (o := .loop { { R .ready none with state := .busy } with state := .done, pending := some c }) (Array.getElem?_eq_some_iff.1 hl3).1
        have h2 := (World.putObj_heap_other (w := X3) (r := w.heap.size + 1) (k := w.heap.size) (o := .loop { { R .ready none with state := .busy } with state := .done, pending := some c }) (by omega)).trans (q1.same _ _ (Nat.le_refl _) hk2 rfl)
        have hq := (hJx c).putObj (s := ()) (.loop { { R .ready none with state := .busy } with state := .done, pending := some c }) q2 (show w.heap.size ≤ w.heap.size + 1 by omega) hl3 rfl
        have hfin : ∃ v w', (Instr.endRound (w.heap.size + 1) (some c)).run P X3 = .ok v w' ∧ ((Ending.returned v = .returned (.bool true) ∧ (J (nx s x) w' ∧ w'.heap[w.heap.size + 1]? = some (.loop (R .ready none)) ∧ w'.heap[w.heap.size]? = some (.deferred (some []))) ∧ Kp s X w') ∨ (Ending.returned v = .returned (.bool false) ∧ ∃ c, Jx c w' ∧ w'.heap[w.heap.size + 1]? = some (.loop (R .done (some c))) ∧ w'.heap[w.heap.size]? = some (.deferred (some [])))) := by
          refine ⟨_, _, hr, .inr ⟨rfl, c, hq, ?_, h2⟩⟩
          rw [hR] at h1 ⊢
          exact h1
        rcases hc with ⟨rfl, rfl⟩ | ⟨id, rfl, rfl⟩
        · exact hfin
        · exact hfin
    · rintro e Y ⟨⟨v, rfl⟩, ⟨s, hf, hj, hl, hk⟩ | ⟨c, hj, hl, hk⟩⟩
      · have hr := run_endLoop (P := P) hl (by rw [hR]; simp)
        refine ⟨_, _, hr, ?_⟩
        rw [hR]
        exact hdone _ s _ (Nat.le_refl _) hf (hJ.putObj _ hj (by omega) hl rfl) ((World.putObj_heap_other (by omega)).trans hk)
      · have hr := run_endLoop (P := P) hl (by rw [hR]; simp)
        refine ⟨_, _, hr, ?_⟩
        rw [hR]
        exact hstop _ c _ (Nat.le_refl _) ((hJx c).putObj (s := ()) _ hj (by omega) hl rfl) ((World.putObj_heap_other (by omega)).trans hk)
end Go.Proofs.Ytplldfnldaehiaa

/- Cg14 -/
namespace Go.Proofs.Ytplldfnldaehiaa
open Go.RowKit Go.Shelf
set_option linter.unusedVariables false

theorem Touch.tyg {T : TypeId} {g : Nat} {A B : World} {L : Array Value} {fr : Nat × Nat} (h : Touch (· = g) A B) (hg : A.heap[g]? = some (.cells L T fr)) : Ty T A B := ⟨h.size, fun b L' T' fr' e hne => by
  refine (h.block b (Array.getElem?_eq_some_iff.1 e).1 (fun q => ?_)).trans e
  subst q
  rw [hg, Option.some.injEq, Obj.cells.injEq] at e
  exact hne e.2.1.symm⟩
theorem Ivs.kc14 {B : Nat} {w w' : World} {v : Value} {l : List Nat} (h : Ivs B w v l) (hk : Kc w w') : Ivs B w' v l := h.keep fun b L _ e => hk.2 b _ e rfl
theorem Ty.kc14 {T : TypeId} {a w w' : World} (h : Ty T a w) (hk : Kc w w') : Ty T a w' := ⟨Nat.le_trans h.1 hk.1, fun b L T' fr e hne => hk.2 b _ (h.2 b L T' fr e hne) rfl⟩
theorem KpL.kc14 {S : Nat → Prop} {B : Nat} {X Y Z : World} (h : KpL S B X Y) (hk : Kc Y Z) : KpL S B X Z := ⟨Nat.le_trans h.1 hk.1, fun b o h1 h2 e q => hk.2 b o (h.2 b o h1 h2 e q) q⟩
end Go.Proofs.Ytplldfnldaehiaa
