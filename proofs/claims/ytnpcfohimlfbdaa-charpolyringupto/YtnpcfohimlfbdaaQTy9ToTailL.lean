/-
  QTy9ToTailL: Ty9, Fa16, TailL, joined.
-/
import Derived.Test.YtnpcfohimlfbdaaQCat9
import Derived.Test.YtnpcfohimlfbdaaQVa16
import Derived.Test.YtnpcfohimlfbdaaQFil9ToTail

/- Ty9 -/
namespace Go.Proofs.Ytnpcfohimlfbdaa
open Go.RowKit
set_option linter.unusedVariables false

end Go.Proofs.Ytnpcfohimlfbdaa

/- Fa16 -/
namespace Go.Proofs.Ytnpcfohimlfbdaa
open Go.RowKit
set_option linter.unusedVariables false

/-- The words of a pair lie from block B on. -/
def FarP (B : Nat) (p : Value × Value) : Prop := ∀ (a : Option Addr) (l c : Nat), p.2 = .slice a l c → l = 0 ∨ ∃ b off, a = some ⟨b, off, none⟩ ∧ B ≤ b
def FarA (B : Nat) (w : World) (g : Nat) : Prop := ∃ ps, Arr w g ps ∧ ∀ p ∈ ps, FarP B p
theorem Zm.farP {B : Nat} {w : World} {x y : Value} {z : Int} {k : Nat} (h : Zm B w (.agg #[x, y]) z k) : FarP B (x, y) := by
  obtain ⟨n, zs, a, c, e, hm, -⟩ := h
  simp only [Value.agg.injEq, Array.mk.injEq, List.cons.injEq, and_true] at e
  obtain ⟨rfl, rfl⟩ := e
  intro a' l' c' e'
  simp only [Value.slice.injEq] at e'
  obtain ⟨rfl, rfl, rfl⟩ := e'
  obtain ⟨hw, ⟨h1, h2⟩ | ⟨g, r, cap, h1, h2, h3, h4, h5, h6⟩⟩ := hm
  · subst h2; exact .inl rfl
  · simp only [Value.slice.injEq] at h5
    exact .inr ⟨g, 0, h5.1, h1⟩
theorem FarP.mono {B B' : Nat} {p : Value × Value} (h : FarP B p) (hB : B' ≤ B) : FarP B' p := fun a l c e => by
  rcases h a l c e with q | ⟨b, off, q1, q2⟩
  · exact .inl q
  · exact .inr ⟨b, off, q1, by omega⟩
theorem FarA.mono {B B' g : Nat} {w : World} (h : FarA B w g) (hB : B' ≤ B) : FarA B' w g := by
  obtain ⟨ps, h1, h2⟩ := h
  exact ⟨ps, h1, fun p hp => (h2 p hp).mono hB⟩
theorem FarA.step {B g : Nat} {w w' : World} (h : FarA B w g) (hb : Below w.heap.size w w') : FarA B w' g := by
  obtain ⟨ps, h1, h2⟩ := h
  exact ⟨ps, h1.step hb, h2⟩
theorem FarA.start {w : World} {g n : Nat} (h : Arr w g (List.replicate n zpair)) (B : Nat) : FarA B w g :=
  ⟨_, h, fun p hp => by
    rw [List.eq_of_mem_replicate hp]
    intro a l c e
    simp only [zpair, Value.slice.injEq] at e
    exact .inl e.2.1.symm⟩
theorem flat_inj : ∀ {ps qs : List (Value × Value)}, flat ps = flat qs → ps = qs
  | [], [], _ => rfl
  | [], q :: r, h => by simp [flat] at h
  | p :: r, [], h => by simp [flat] at h
  | p :: r, q :: s, h => by
    simp only [flat, List.cons.injEq] at h
    obtain ⟨h1, h2, h3⟩ := h
    rw [flat_inj h3, show p = q from Prod.ext h1 h2]
theorem Arr.uniq {w : World} {g : Nat} {ps qs : List (Value × Value)} (h : Arr w g ps) (h' : Arr w g qs) : ps = qs := by
  have e1 : w.heap[g]? = some (.cells (flat ps).toArray 25 (0, 0)) := h.1
  have e2 : w.heap[g]? = some (.cells (flat qs).toArray 25 (0, 0)) := h'.1
  rw [e1] at e2
  simp only [Option.some.injEq, Obj.cells.injEq, and_true] at e2
  exact flat_inj (by simpa using e2)
theorem FarA.put {B g i k : Nat} {w : World} {zs : List Int} {x y : Value} (h : FarA B w g) (hz : AllZ w g zs k) (hi : i < zs.length) (hI : IsI (x, y)) (hp : FarP B (x, y)) : FarA B ((w.setCell ⟨g, i * 2, none⟩ x).setCell ⟨g, i * 2 + 1, none⟩ y) g := by
  obtain ⟨ps, h1, h2⟩ := h
  obtain ⟨qs, q1, q2, q3⟩ := hz
  obtain rfl := h1.uniq q1
  refine ⟨ps.set i (x, y), h1.put (by omega) hI, fun p hp' => ?_⟩
  rcases List.mem_or_eq_of_mem_set hp' with q | rfl
  · exact h2 p q
  · exact hp
/-- What grows elsewhere leaves it. -/
theorem AllZ.grown {B g k : Nat} {w w' : World} {zs : List Int} {o : Option Nat} (h : AllZ w g zs k) (hf : FarA B w g) (hgr : w.grownBy w' o) (ho : ∀ f, o = some f → f < B) (hg : B ≤ g) : AllZ w' g zs k ∧ FarA B w' g := by
  obtain ⟨ps, h1, h2, h3⟩ := h
  obtain ⟨qs, q1, q2⟩ := hf
  obtain rfl := h1.uniq q1
  have hk : ∀ b, b < w.heap.size → B ≤ b → w'.heap[b]? = w.heap[b]? := fun b hb hB => hgr.block b hb (fun e => by have := ho b e.symm; omega)
  have ha : Arr w' g ps := ⟨(hk g h1.1.blk hg).trans h1.1, h1.2⟩
  refine ⟨⟨ps, ha, h2, fun j p z hp hz => ?_⟩, ps, ha, q2⟩
  obtain ⟨n, xs, a, c, e, hs, e2⟩ := h3 j p z hp hz
  refine ⟨n, xs, a, c, e, ?_, e2⟩
  have hfp := q2 p (List.mem_of_getElem? hp) a xs.length c (by
    simp only [Value.agg.injEq, Array.mk.injEq, List.cons.injEq, and_true] at e
    exact e.2)
  obtain ⟨s1, a', c', s2, s3, s4, s5⟩ := hs
  refine ⟨s1, a', c', s2, s3, s4, ?_⟩
  rcases s5 with s5 | ⟨b, off, s6, s7, s8⟩
  · exact .inl s5
  · refine .inr ⟨b, off, s6, Nat.lt_of_lt_of_le s7 hgr.size, fun j' hj' => ?_⟩
    have hB : B ≤ b := by
      rcases hfp with q | ⟨b2, off2, q, q'⟩
      · omega
      · simp only [Value.slice.injEq] at s2
        rw [s2.1, s6] at q
        simp only [Option.some.injEq, Addr.mk.injEq] at q
        omega
    exact (World.cell?_of_block (a := ⟨b, off + j', none⟩) (hk b s7 hB)).trans (s8 j' hj')
end Go.Proofs.Ytnpcfohimlfbdaa

/- TailL -/
namespace Go.Proofs.Ytnpcfohimlfbdaa
open Go.RowKit
set_option linter.unusedVariables false

def okV (md : Region.Mode) (ops : Array Oper) (n : Nat) : Array Bool → List (Nat × Value) → Bool
  | _, [] => true
  | l, (i, _) :: r => (Region.noSelect ops && Region.free md ops l i && (Region.ready md ops l).contains i && Region.sinkB md ops n && Region.chainB md ops n && decide (n < ops.size) && decide (i < n) && headB md ops n l) && okV md ops n (l.setIfInBounds i true) r
def lisV : Array Bool → List (Nat × Value) → Array Bool
  | l, [] => l
  | l, (i, _) :: r => lisV (l.setIfInBounds i true) r
def actV (ops : Array Oper) : Act → List (Nat × Value) → Act
  | a, [] => a
  | a, (i, v) :: r => match ops[i]? with
    | some o => actV ops (a.put o.dst v) r
    | none => a
def TakesV (P : Program) (ops : Array Oper) (S : World → Prop) : Act → List (Nat × Value) → Prop
  | _, [] => True
  | a, (i, v) :: r => match ops[i]? with
    | some o => YieldsIf P ops S o v a ∧ TakesV P ops S (a.put o.dst v) r
    | none => False
section
variable {P : Program} {ops : Array Oper} {Q : Exit → Act → World → Prop} {md : Region.Mode} {S : World → Prop} {n : Nat}
theorem wpAnyT_takes (hQ : ∀ c d v a w, Q (.panic c) (a.put d v) w → Q (.panic c) a w) : ∀ (vs : List (Nat × Value)) (fuel : Nat) (listed : Array Bool) (a : Act) (w : World), okV md ops n listed vs = true → TakesV P ops S a vs → S w → wpAnyT P md ops Q S n fuel (lisV listed vs) (actV ops a vs) w → wpAnyT P md ops Q S n (fuel + vs.length) listed a w
  | [], fuel, listed, a, w, _, _, _, h => h
  | (i, v) :: r, fuel, listed, a, w, hok, hy, hS, h => by
    rw [okV, Bool.and_eq_true] at hok
    cases e : ops[i]? with
    | none => simp only [TakesV, e] at hy
    | some o =>
      simp only [TakesV, e] at hy
      simp only [actV, e, lisV] at h
      exact wpAnyT_take (fuel := fuel + r.length) e hok.1 (fun c a w hq => hQ c _ _ a w hq) hy.1 hS (wpAnyT_takes hQ r fuel _ _ w hok.2 hy.2 hS h)
theorem wpAnyT_list {fuel : Nat} {listed : Array Bool} {a : Act} {w : World} (vs : List (Nat × Value)) (m : Nat) (hy : TakesV P ops S a vs) (hS : S w)
    (h : wpAnyT P md ops Q S n fuel (lisV listed vs) (actV ops a vs) w) (hm : vs.length = m := by rfl) (hok : okV md ops n listed vs = true := by kernel_rfl) (hQ : ∀ c d v a w, Q (.panic c) (a.put d v) w → Q (.panic c) a w := by (intro _ d _ _ _ h; cases d <;> exact h)) : wpAnyT P md ops Q S n (fuel + m) listed a w := by
  subst hm
  exact wpAnyT_takes hQ vs fuel listed a w hok hy hS h
end
theorem sI9 {α : Type _} (l : List α) (i : Nat) (a : α) : l.toArray.setIfInBounds i a = (l.set i a).toArray := List.setIfInBounds_toArray l i a
theorem s09 {α : Type _} {a b : α} {l : List α} : (a :: l).set 0 b = b :: l := List.set_cons_zero
theorem s19 {α : Type _} {a b : α} {n : Nat} {l : List α} : (a :: l).set (n + 1) b = a :: l.set n b := List.set_cons_succ
theorem g09 {α : Type _} {a : α} {l : List α} : (a :: l)[0]? = some a := List.getElem?_cons_zero
theorem g19 {α : Type _} {a : α} {n : Nat} {l : List α} : (a :: l)[n + 1]? = l[n]? := List.getElem?_cons_succ
theorem gA9 {α : Type _} {l : List α} {n : Nat} : l.toArray[n]? = l[n]? := List.getElem?_toArray
end Go.Proofs.Ytnpcfohimlfbdaa
