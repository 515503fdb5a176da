/-
  QRound8ToPure9: Round8, Rf11, Pure9, joined.
-/
import Derived.Test.YtlhbcdapinacgaaGreatQTailAToTailX
import Derived.Test.YtlhbcdapinacgaaGreatQLaw9ToMWord

/- Round8 -/
namespace Go.Proofs.YtlhbcdapinacgaaGreat
open Go.RowKit Go.Shelf
set_option linter.unusedVariables false

theorem rows_in {n : Nat} {P : Program} {row : String} {args : Array Value} {w : World} {R : Value → World → Prop} (l : Nat) (h : Rows P row args w R) : RowsIn (Fence.wide.inRound l) n P row args w R :=
  fun c cs _ => let ⟨v, w', r, s⟩ := h c cs; ⟨v, w', r, stepsIn_wide.2 s⟩
theorem op_round {P : Program} {l n : Nat} {o : Oper} {a : Act} {w : World} {K : Act → World → Prop} {Q : Exit → Act → World → Prop} (hno : ∀ c, o.op ≠ .defer c) (h : o.wp P a w K Q) : o.wpIn (Fence.wide.inRound l) n P a w K Q := by
  refine ⟨fun _ _ => trivial, ?_⟩
  rw [Fence.inRound_round, Oper.semAt_some l a.eval o hno]
  unfold Oper.wp at h
  generalize (execOp a.eval o).run P w = r at *
  cases r with
  | ok x w' =>
    cases x <;> simp only [Oper.upon, Oper.uponIn] at h ⊢
    all_goals first
      | exact h
      | exact ⟨fun e => (by cases e), CallsIn.inRound l (callsIn_wide.2 h)⟩
      | exact ⟨fun e => (by cases e), rows_in l h⟩
      | exact h.elim
  | halt x w' => cases x <;> simp only [Oper.upon, Oper.uponIn] at h ⊢ <;> first | exact h | exact h.elim
theorem any_round {P : Program} {l n : Nat} {md : Region.Mode} {ops : Array Oper} {Q : Exit → Act → World → Prop} (hno : ∀ (i : Nat) (o : Oper), ops[i]? = some o → ∀ c, o.op ≠ .defer c) (hL : ¬ LetsOut Q) :
    ∀ fuel listed a w, wpAny P md ops Q fuel listed a w → wpAnyIn (Fence.wide.inRound l) n P md ops Q fuel listed a w
  | 0, listed, a, w, h => h
  | fuel + 1, listed, a, w, h => by
    refine ⟨h.1, fun i hi => ?_⟩
    have q := h.2 i hi
    unfold wpOp at q
    unfold wpOpIn
    cases ho : ops[i]? with
    | none => rw [ho] at q; exact any_round hno hL fuel _ _ _ q
    | some o =>
      rw [ho] at q
      simp only at q ⊢
      by_cases hw : Region.wanted o (yielded ops a.tmps) = true
      · rw [if_pos hw] at q ⊢
        rcases q with q | ⟨_, q⟩
        · exact Oper.wpIn_mono (fun a w => any_round hno hL fuel _ a w) (op_round (hno i o ho) q)
        · exact absurd q hL
      · rw [if_neg hw] at q ⊢
        exact ⟨fun _ _ => trivial, any_round hno hL fuel _ _ _ q⟩
theorem region_round {P : Program} {l n id : Nat} {ops : Array Oper} {Q : Exit → Act → World → Prop} {a : Act} {w : World} (hm : P.follows .mixedOrders = true) (hno : ∀ (i : Nat) (o : Oper), ops[i]? = some o → ∀ c, o.op ≠ .defer c) (hL : ¬ LetsOut Q)
    (h : wpAny P .any ops Q ops.size (Array.replicate ops.size false) a w.drew) : (Code.region id ops true).wpIn (Fence.wide.inRound l) n P Q a w :=
  wpIn_region_any hm (any_round hno hL _ _ _ _ h)
end Go.Proofs.YtlhbcdapinacgaaGreat

/- Rf11 -/
namespace Go.Proofs.YtlhbcdapinacgaaGreat
open Go.RowKit Go.Shelf
set_option linter.unusedVariables false

theorem grown_of {A B : World} (h : Below A.heap.size A B) : A.grownBy B none := ⟨h.os, h.tape, h.output, h.size, fun k hk _ => h.block k hk⟩
/-- J: what holds between rounds in the state s; At: what the iterator knows of what it hands out; nx: the state behind it. -/
theorem rangeW {σ α : Type} {P : Program} {n : Nat} {g : Operand} {ps : Array Tmp} {assign body : Code} {Q : Exit → Act → World → Prop} {a : Act} {w : World}
    (h1 : 1 ≤ n) {gf : Nat} {lb : Array Value} (hg : a.eval g = .func (.func gf) #[] lb) (eg : ∀ args w, (callFunc gf args).run P w = .ok (.enter gf args) w)
    (enc : α → Array Value) (hps : ∀ x, (enc x).size = ps.size)
    (J : σ → World → Prop) (hJ : OwnFrom w.heap.size J) (At : σ → α → World → Prop) (hAt : ∀ s x, OwnFrom w.heap.size (fun (_ : Unit) W => At s x W)) (nx : σ → α → σ)
    (Kp : σ → World → World → Prop) (hKt : ∀ {s : σ} {A B C : World}, Kp s A B → Kp s B C → Kp s A C) (hKb : ∀ (s : σ) (W : World) (l : Nat) (o o' : Obj), w.heap.size ≤ l → W.heap[l]? = some o → o.isCells = false → Kp s W (W.putObj l o'))
    (Ini Fin : σ → Prop) (h0 : ∀ s, Ini s → J s w)
    (hit : ∀ (l : Nat) (J' : σ → World → Prop) (W : World), Below w.heap.size w W → (∀ s X, J' s X → J s X) → (∀ s A B, J' s A → Below A.heap.size A B → J' s B) → (∀ s, Ini s → J' s W) →
      (∀ s x X, J' s X → At s x X → YieldAt Fence.wide (n - 1 - 1) P l (enc x) X fun e Y => e = .returned (.bool true) ∧ J' (nx s x) Y ∧ Kp s X Y) →
      CallsIn Fence.wide (n - 1) P gf (#[.func (.yield l) #[] #[]] ++ lb) W fun e Y => (∃ v, e = .returned v) ∧ ∃ s, Fin s ∧ J' s Y)
    (a₁ : α → Act) (hassign : ∀ (l : Nat) (x : α) (W : World) (K : Act → World → Prop), K (a₁ x) W →
      assign.wpIn (Fence.wide.inRound l) (n - 1 - 1) P (Exit.then K (fun _ _ _ => False)) { tmps := (ps.zip (enc x)).foldl (fun t (p, v) => t.setIfInBounds p v) a.tmps, defers := [] } W)
    (hbody : ∀ (l : Nat) (s : σ) (x : α) (W : World), J s W → At s x W → body.wpIn (Fence.wide.inRound l) (n - 1 - 1) P (fun e _ Y => e = .normal ∧ KeepsFrom w.heap.size W Y ∧ J (nx s x) Y ∧ Kp s W Y) (a₁ x) W)
    (hdone : ∀ (D : Nat) (s : σ) (W : World), w.heap.size ≤ D → Fin s → J s W → W.heap[D]? = some (.deferred (some [])) → Q .normal { a with defers := { target := .collected D, args := #[] } :: a.defers } W) :
    (Code.rangeFunc g ps assign body).wpIn Fence.wide n P Q a w := by
  refine wpIn_rangeFunc fun fn hfn => ?_
  obtain ⟨R, hR⟩ : ∃ R : LoopState → Option Code → Loop, R = fun st pe => { state := st, pending := pe, fn, tmps := a.tmps, params := ps, assign, body, defers := w.heap.size } := ⟨_, rfl⟩
  obtain ⟨W1, hW1⟩ : ∃ W1, (w.alloc (.deferred (some []))).alloc (.loop (R .ready none)) = W1 := ⟨_, rfl⟩
  have bw : Below w.heap.size w W1 := by rw [← hW1]; exact (((Below.refl _ w).alloc (Nat.le_refl _) _).alloc (by simp) _)
  have hL : W1.heap[w.heap.size + 1]? = some (.loop (R .ready none)) := by
    rw [← hW1]
    have := World.alloc_heap_new (w.alloc (.deferred (some []))) (.loop (R .ready none))
    rwa [World.size_alloc] at this
  have hD : W1.heap[w.heap.size]? = some (.deferred (some [])) := by
    rw [← hW1]
    exact (Below.heap_alloc _ _ _ (by simp)).trans (World.alloc_heap_new w _)
  refine ⟨w.heap.size + 1, [{ target := .collected w.heap.size, args := #[] }], W1, { target := .fn (.func gf) lb, args := #[.func (.yield (w.heap.size + 1)) #[] #[]] }, W1, gf, #[.func (.yield (w.heap.size + 1)) #[] #[]] ++ lb, W1, ?_, ?_, fun _ _ => trivial, ?_, fun _ => h1, ?_⟩
  · rw [← hW1, hR]; exact run_enterLoop_outer _ _ _ _ _
  · simp only [resolve, hg]
    simp [go_sem]
  · simp [invoke, go_sem, eg]
  · refine (hit (w.heap.size + 1) (fun s W => J s W ∧ W.heap[w.heap.size + 1]? = some (.loop (R .ready none)) ∧ W.heap[w.heap.size]? = some (.deferred (some []))) W1 bw (fun s X h => h.1)
      (fun s A B h b => ⟨hJ s A B none h.1 (grown_of b) (fun r e => by cases e), (b.block _ (Array.getElem?_eq_some_iff.1 h.2.1).1).trans h.2.1, (b.block _ (Array.getElem?_eq_some_iff.1 h.2.2).1).trans h.2.2⟩)
      (fun s hs => ⟨hJ s w W1 none (h0 s hs) (grown_of bw) (fun r e => by cases e), hL, hD⟩) ?_).mono ?_
    · rintro s x X ⟨hj, hl, hk⟩ hat
      have hlt : w.heap.size + 1 < X.heap.size := (Array.getElem?_eq_some_iff.1 hl).1
      have hy := run_yield (P := P) (args := enc x) hl (by rw [hR]; exact hps x)
      rw [hR] at hy
      refine ⟨fn, _, assign, body, hy, roundIn_of_wpIn hfn (hassign _ x X _ ?_)⟩
      clear hy
      refine ⟨_, run_beginRound hl (by rw [hR]), ?_⟩
      obtain ⟨X2, hX2⟩ : ∃ X2, X.putObj (w.heap.size + 1) (.loop { R .ready none with state := .busy }) = X2 := ⟨_, rfl⟩
      have hl2 : X2.heap[w.heap.size + 1]? = some (.loop { R .ready none with state := .busy }) := by rw [← hX2]; exact World.putObj_heap_same hlt
      have hk2 : X2.heap[w.heap.size]? = some (.deferred (some [])) := by rw [← hX2]; exact (World.putObj_heap_other (by omega)).trans hk
      have hj2 : J s X2 := by rw [← hX2]; exact hJ.putObj _ hj (by omega) hl rfl
      have ha2 : At s x X2 := by rw [← hX2]; exact (hAt s x).putObj (s := ()) _ hat (by omega) hl rfl
      have hp2 : Kp s X X2 := by rw [← hX2]; exact hKb s _ _ _ _ (by omega) hl rfl
      rw [hX2]
      refine wpIn_mono (hbody _ s x X2 hj2 ha2) ?_
      rintro e a3 X3 ⟨rfl, q1, q2, q3⟩
      have hl3 := q1.same _ _ (by omega) hl2 rfl
      have hr := run_endRound (P := P) none hl3
      refine ⟨_, _, hr, rfl, ⟨hJ.putObj _ q2 (by omega) hl3 rfl, ?_, ?_⟩, hKt (hKt hp2 q3) (hKb s _ _ _ _ (by omega) hl3 rfl)⟩
      · have := World.putObj_heap_same (w := X3) (r := w.heap.size + 1) (o := .loop { { R .ready none with state := .busy } with state := .ready, pending := none }) (Array.getElem?_eq_some_iff.1 hl3).1
        rw [hR] at this ⊢
        exact this
      · exact (World.putObj_heap_other (by omega)).trans (q1.same _ _ (Nat.le_refl _) hk2 rfl)
    · rintro e Y ⟨⟨v, rfl⟩, s, hf, hj, hl, hk⟩
      have hr := run_endLoop (P := P) hl (by rw [hR]; simp)
      refine ⟨_, _, hr, ?_⟩
      rw [hR]
      exact hdone _ s _ (Nat.le_refl _) hf (hJ.putObj _ hj (by omega) hl rfl) ((World.putObj_heap_other (by omega)).trans hk)
end Go.Proofs.YtlhbcdapinacgaaGreat

/- Pure9 -/
namespace Go.Proofs.YtlhbcdapinacgaaGreat
set_option linter.unusedVariables false

def sumN (n : Nat) (f : Nat → Int) : Int := zsum ((List.range n).map f)
theorem sumN_zero (f : Nat → Int) : sumN 0 f = 0 := rfl
theorem sumN_succ (n : Nat) (f : Nat → Int) : sumN (n + 1) f = sumN n f + f n := by
  unfold sumN
  rw [List.range_succ, List.map_append, zsum_append]
  simp [zsum]
theorem sumN_congr {n : Nat} {f g : Nat → Int} (h : ∀ t, t < n → f t = g t) : sumN n f = sumN n g := by
  induction n with
  | zero => rfl
  | succ n ih => rw [sumN_succ, sumN_succ, ih (fun t ht => h t (by omega)), h n (by omega)]
theorem sumN_add (n : Nat) (f g : Nat → Int) : sumN n (fun t => f t + g t) = sumN n f + sumN n g := by
  induction n with
  | zero => rfl
  | succ n ih => rw [sumN_succ, sumN_succ, sumN_succ, ih]; omega
theorem sumN_mul_left (n : Nat) (x : Int) (f : Nat → Int) : sumN n (fun t => x * f t) = x * sumN n f := by
  induction n with
  | zero => simp [sumN_zero]
  | succ n ih => rw [sumN_succ, sumN_succ, ih, Int.mul_add]
theorem sumN_mul_right (n : Nat) (x : Int) (f : Nat → Int) : sumN n (fun t => f t * x) = sumN n f * x := by
  induction n with
  | zero => simp [sumN_zero]
  | succ n ih => rw [sumN_succ, sumN_succ, ih, Int.add_mul]
theorem sumN_none (n : Nat) : sumN n (fun _ => 0) = 0 := by
  induction n with
  | zero => rfl
  | succ n ih => rw [sumN_succ, ih]; rfl
theorem sumN_swap (n m : Nat) (f : Nat → Nat → Int) : sumN n (fun s => sumN m (fun t => f s t)) = sumN m (fun t => sumN n (fun s => f s t)) := by
  induction n with
  | zero => simp [sumN_zero, sumN_none]
  | succ n ih =>
    rw [sumN_succ, ih, ← sumN_add]
    exact sumN_congr (fun t _ => (sumN_succ n _).symm)
theorem sumN_one {n i : Nat} (h : i < n) (f : Nat → Int) : sumN n (fun t => if t = i then f t else 0) = f i := by
  induction n with
  | zero => omega
  | succ n ih =>
    rw [sumN_succ]
    by_cases q : i = n
    · subst q
      rw [if_pos rfl, sumN_congr (g := fun _ => 0) (fun t ht => if_neg (by omega)), sumN_none]
      omega
    · rw [ih (by omega), if_neg (by omega)]
      omega
theorem flat_getD {α : Type} {c j : Nat} {d : α} (hj : j < c) : ∀ {L : List (List α)} {i : Nat}, (∀ x ∈ L, x.length = c) → i < L.length → L.flatten.getD (i * c + j) d = (L.getD i []).getD j d
  | [], i, _, h => by simp at h
  | a :: L, 0, hL, _ => by
    have ha : a.length = c := hL a (by simp)
    simp only [List.flatten_cons, Nat.zero_mul, Nat.zero_add, List.getD_cons_zero]
    rw [List.getD_eq_getElem?_getD, List.getD_eq_getElem?_getD, List.getElem?_append_left (by omega)]
  | a :: L, i + 1, hL, h => by
    have ha : a.length = c := hL a (by simp)
    have h2 : (i + 1) * c = i * c + c := by rw [Nat.add_mul, Nat.one_mul]
    have := flat_getD hj (L := L) (i := i) (d := d) (fun x hx => hL x (by simp [hx])) (by simpa using h)
    simp only [List.flatten_cons, List.getD_cons_succ]
    rw [← this, List.getD_eq_getElem?_getD, List.getD_eq_getElem?_getD, List.getElem?_append_right (by omega), show (i + 1) * c + j - a.length = i * c + j by omega]
theorem mat_ext {r c : Nat} {xs ys : List Int} (hx : xs.length = r * c) (hy : ys.length = r * c) (h : ∀ i j, i < r → j < c → xs.getD (i * c + j) 0 = ys.getD (i * c + j) 0) : xs = ys := by
  apply List.ext_getElem
  · omega
  · intro t h1 h2
    have hc : 0 < c := by
      rcases Nat.eq_zero_or_pos c with q | q
      · subst q; simp at hx; omega
      · exact q
    have e := h (t / c) (t % c) (by rw [Nat.div_lt_iff_lt_mul hc]; omega) (Nat.mod_lt _ hc)
    have e2 : t / c * c + t % c = t := by rw [Nat.mul_comm]; exact Nat.div_add_mod t c
    rw [e2] at e
    simpa [h1, h2] using e
theorem dotv_sum {m : Nat} {xs ys : List Int} (hx : xs.length = m) : dotv xs ys = sumN m (fun t => xs.getD t 0 * ys.getD t 0) := by
  unfold dotv sumN
  rw [hx]
theorem prod_at {r m c i j : Nat} {xs ys : List Int} (hx : xs.length = r * m) (hi : i < r) (hj : j < c) : (prodL r m c xs ys).getD (i * c + j) 0 = sumN m (fun t => xs.getD (i * m + t) 0 * ys.getD (t * c + j) 0) := by
  unfold prodL
  rw [flat_getD hj (by intro x hx'; simp only [List.mem_map] at hx'; obtain ⟨row, _, rfl⟩ := hx'; simp [colsL]) (by simp [rowsL]; exact hi)]
  have e1 : ((rowsL r m xs).map fun row => (colsL m c ys 0).map (dotv row)).getD i [] = (colsL m c ys 0).map (dotv ((xs.drop (i * m)).take m)) := by simp [rowsL, hi]
  rw [e1]
  have e2 : ((colsL m c ys 0).map (dotv ((xs.drop (i * m)).take m))).getD j 0 = dotv ((xs.drop (i * m)).take m) (colL c ys 0 m j) := by simp [colsL, hj]
  rw [e2]
  have h5 : (i + 1) * m ≤ r * m := Nat.mul_le_mul_right m hi
  have h6 : (i + 1) * m = i * m + m := by rw [Nat.add_mul, Nat.one_mul]
  rw [dotv_sum (m := m) (by simp; omega)]
  refine sumN_congr (fun t ht => ?_)
  have e3 : ((xs.drop (i * m)).take m).getD t 0 = xs.getD (i * m + t) 0 := by
    rw [List.getD_eq_getElem?_getD, List.getD_eq_getElem?_getD, List.getElem?_take, if_pos ht, List.getElem?_drop]
  have e4 : (colL c ys 0 m j).getD t 0 = ys.getD (t * c + j) 0 := by simp [colL, ht]
  rw [e3, e4]
theorem add_at {n t : Nat} {xs ys : List Int} (ht : t < n) : (addL n xs ys).getD t 0 = xs.getD t 0 + ys.getD t 0 := by simp [addL, ht]
theorem addL_length {n : Nat} {xs ys : List Int} : (addL n xs ys).length = n := by simp [addL]
theorem place_lt {r c i j : Nat} (hi : i < r) (hj : j < c) : i * c + j < r * c := by
  have h5 : (i + 1) * c ≤ r * c := Nat.mul_le_mul_right c hi
  have h6 : (i + 1) * c = i * c + c := by rw [Nat.add_mul, Nat.one_mul]
  omega
theorem place_one {n i t k : Nat} (ht : t < n) (hk : k < n) : i * n + t = k * n + k ↔ i = k ∧ t = k := by
  refine ⟨fun h => ?_, fun ⟨a, b⟩ => by rw [a, b]⟩
  rcases Nat.lt_trichotomy i k with q | q | q
  · have h5 : (i + 1) * n ≤ k * n := Nat.mul_le_mul_right n q
    have h6 : (i + 1) * n = i * n + n := by rw [Nat.add_mul, Nat.one_mul]
    omega
  · subst q
    exact ⟨rfl, by omega⟩
  · have h5 : (k + 1) * n ≤ i * n := Nat.mul_le_mul_right n q
    have h6 : (k + 1) * n = k * n + n := by rw [Nat.add_mul, Nat.one_mul]
    omega
theorem unit_step {n i t : Nat} (hi : i < n) (ht : t < n) : ∀ k, k ≤ n → (unitL n k).getD (i * n + t) 0 = if i = t ∧ i < k then 1 else 0
  | 0, _ => by
    rw [if_neg (by omega)]
    simp [unitL, place_lt hi ht]
  | k + 1, hk => by
    have ih := unit_step hi ht k (by omega)
    rw [unitL, List.getD_eq_getElem?_getD]
    by_cases q : i * n + t = k * n + k
    · have := (place_one ht (by omega)).1 q
      rw [q, List.getElem?_set_self (by rw [unitL_length]; exact place_lt (by omega) (by omega)), if_pos (by omega)]
      rfl
    · rw [List.getElem?_set_ne (by omega), ← List.getD_eq_getElem?_getD, ih]
      have h2 : ¬ (i = k ∧ t = k) := fun h => q ((place_one ht (by omega)).2 h)
      by_cases p : i = t ∧ i < k
      · rw [if_pos p, if_pos (by omega)]
      · rw [if_neg p, if_neg (by omega)]
theorem unit_at {n i t : Nat} (hi : i < n) (ht : t < n) : (unitL n n).getD (i * n + t) 0 = if t = i then 1 else 0 := by
  rw [unit_step hi ht n (Nat.le_refl _)]
  by_cases p : t = i
  · rw [if_pos p, if_pos (by omega)]
  · rw [if_neg p, if_neg (by omega)]
/-- The unit matrix changes nothing. -/
theorem unit_prod {r c : Nat} {xs : List Int} (hx : xs.length = r * c) : prodL r r c (unitL r r) xs = xs := by
  refine mat_ext (r := r) (c := c) prodL_length hx (fun i j hi hj => ?_)
  rw [prod_at (unitL_length _ _) hi hj, ← sumN_one hi (fun t => xs.getD (t * c + j) 0)]
  refine sumN_congr (fun t ht => ?_)
  rw [unit_at hi ht]
  by_cases q : t = i
  · rw [if_pos q, if_pos q, Int.one_mul]
  · rw [if_neg q, if_neg q, Int.zero_mul]
/-- Products go through sums. -/
theorem prod_add {r m c : Nat} {xs ys : List Int} (hx : xs.length = r * m) : prodL r m c xs (addL (m * c) ys ys) = addL (r * c) (prodL r m c xs ys) (prodL r m c xs ys) := by
  refine mat_ext (r := r) (c := c) prodL_length addL_length (fun i j hi hj => ?_)
  rw [prod_at hx hi hj, add_at (place_lt hi hj), prod_at hx hi hj, ← sumN_add]
  refine sumN_congr (fun t ht => ?_)
  rw [add_at (place_lt ht hj), Int.mul_add]
/-- Products go together. -/
theorem prod_assoc {r m c d : Nat} {xs ys zs : List Int} (hx : xs.length = r * m) (hy : ys.length = m * c) : prodL r c d (prodL r m c xs ys) zs = prodL r m d xs (prodL m c d ys zs) := by
  refine mat_ext (r := r) (c := d) prodL_length prodL_length (fun i j hi hj => ?_)
  rw [prod_at prodL_length hi hj, prod_at hx hi hj]
  have e1 : ∀ s, s < c → (prodL r m c xs ys).getD (i * c + s) 0 * zs.getD (s * d + j) 0 = sumN m (fun t => xs.getD (i * m + t) 0 * ys.getD (t * c + s) 0 * zs.getD (s * d + j) 0) := fun s hs => by
    rw [prod_at hx hi hs, sumN_mul_right]
  have e2 : ∀ t, t < m → xs.getD (i * m + t) 0 * (prodL m c d ys zs).getD (t * d + j) 0 = sumN c (fun s => xs.getD (i * m + t) 0 * ys.getD (t * c + s) 0 * zs.getD (s * d + j) 0) := fun t ht => by
    rw [prod_at hy ht hj, ← sumN_mul_left]
    exact sumN_congr (fun s _ => by rw [Int.mul_assoc])
  rw [sumN_congr e1, sumN_congr e2, sumN_swap]
end Go.Proofs.YtlhbcdapinacgaaGreat
