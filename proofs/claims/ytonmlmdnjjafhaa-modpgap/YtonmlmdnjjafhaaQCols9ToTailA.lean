/-
  QCols9ToTailA: Cols9, Prod9, Mat9, TailA, joined.
-/
import Derived.Test.YtonmlmdnjjafhaaQEach9ToColsP9
import Derived.Test.YtonmlmdnjjafhaaQFil9ToZFloor

/- Cols9 -/
namespace Go.Proofs.Ytonmlmdnjjafhaa
open Go.RowKit
set_option linter.unusedVariables false

def ColH (w2 : World) (g r c : Nat) (ps : List (Value × Value)) (gk : Nat) (s : Value) (wx : World) : Prop :=
  ∃ i : Nat, s = .int .i64 (i : Int) ∧ i ≤ r ∧ gk = r - i ∧ ∃ vs, ColsI w2 wx g c i 0 ps vs
def ColJ (w2 : World) (g r c i : Nat) (ps : List (Value × Value)) (gk : Nat) (s : Value) (wx : World) : Prop :=
  ∃ j : Nat, s = .int .i64 (j : Int) ∧ j ≤ c ∧ gk = c - j ∧ ∃ vs, ColsI w2 wx g c i j ps vs
theorem piece_at {ps : List (Value × Value)} {r c i j : Nat} (hl : ps.length = r * c) (hi : i < r) (hj : j < c) : ((ps.drop (i * c)).take c)[j]? = some (ps.getD (i * c + j) zpair) ∧ ps.getD (i * c + j) zpair ∈ ps := by
  have h5 : (i + 1) * c ≤ r * c := Nat.mul_le_mul_right c hi
  have h6 : (i + 1) * c = i * c + c := by rw [Nat.add_mul, Nat.one_mul]
  have h7 : i * c + j < ps.length := by omega
  have e : ps.getD (i * c + j) zpair = ps[i * c + j] := by simp [h7]
  rw [e]
  refine ⟨?_, List.getElem_mem h7⟩
  rw [List.getElem?_take, if_pos hj, List.getElem?_drop, List.getElem?_eq_getElem h7]
end Go.Proofs.Ytonmlmdnjjafhaa

/- Prod9 -/
namespace Go.Proofs.Ytonmlmdnjjafhaa
open Go.RowKit
set_option linter.unusedVariables false

def Zcss (w : World) (pss : List (List (Value × Value))) (zss : List (List Int)) (k : Nat) : Prop := pss.length = zss.length ∧ ∀ (j : Nat) (ps : List (Value × Value)), pss[j]? = some ps → Zcs w ps (zss.getD j []) k
theorem Zcs.append {w : World} {ps qs : List (Value × Value)} {zs ys : List Int} {k : Nat} (h : Zcs w ps zs k) (h' : Zcs w qs ys k) : Zcs w (ps ++ qs) (zs ++ ys) k := by
  refine ⟨by simp [h.1, h'.1], fun j p z hp hz => ?_⟩
  by_cases q : j < ps.length
  · rw [List.getElem?_append_left q] at hp
    rw [List.getElem?_append_left (by rw [← h.1]; exact q)] at hz
    exact h.2 j p z hp hz
  · rw [List.getElem?_append_right (by omega)] at hp
    rw [List.getElem?_append_right (by rw [← h.1]; omega), ← h.1] at hz
    exact h'.2 _ p z hp hz
theorem Zcss.flat {w : World} {k : Nat} : ∀ {pss : List (List (Value × Value))} {zss : List (List Int)}, Zcss w pss zss k → Zcs w pss.flatten zss.flatten k
  | [], [], _ => ⟨rfl, fun j p z hp => by simp at hp⟩
  | [], z :: zss, h => by have := h.1; simp at this
  | p :: pss, [], h => by have := h.1; simp at this
  | p :: pss, z :: zss, h => by
    have h1 := h.2 0 p rfl
    have h2 : Zcss w pss zss k := ⟨by have := h.1; simpa using this, fun j ps hp => by simpa using h.2 (j + 1) ps (by simpa using hp)⟩
    simpa using Zcs.append h1 (Zcss.flat h2)
theorem Zcss.now {w w' : World} {pss : List (List (Value × Value))} {zss : List (List Int)} {k : Nat} (h : Zcss w pss zss k) (hb : Below w.heap.size w w') : Zcss w' pss zss k := ⟨h.1, fun j ps hp => (h.2 j ps hp).now hb⟩
theorem Zis.isI {w : World} {ps : List (Value × Value)} {zs : List Int} {k : Nat} (h : Zis w ps zs k) : ∀ p ∈ ps, IsI p := fun p hp => by
  obtain ⟨j, hj, e⟩ := List.getElem_of_mem hp
  have h1 : ps[j]? = some p := by rw [List.getElem?_eq_getElem hj, e]
  have h2 : zs[j]? = some (zs[j]'(by rw [← h.1]; exact hj)) := List.getElem?_eq_getElem _
  exact (h.2 j p _ h1 h2).isI
def Gridded (w : World) (zss : List (List Int)) (k : Nat) (e : Ending) (w' : World) : Prop := ∃ u pss, e = .returned u ∧ Prr w.heap.size w' u pss ∧ Zcss w' pss zss k ∧ Below w.heap.size w w'
theorem filR_grid {w : World} {g n B k : Nat} {zss : List (List Int)} (h : FilR w g n n (fun j u => ∃ ps, Prs B w u ps ∧ Zcs w ps (zss.getD j []) k)) (hl : zss.length = n) (hn : n ≤ 1048576) : ∃ pss, Prr B w (.slice (some ⟨g, 0, none⟩) n n) pss ∧ Zcss w pss zss k := by
  have h0 := h
  obtain ⟨vs, h1, h2, hw, h3⟩ := h
  obtain ⟨q, hq⟩ := Deep.choose_lt (α := List (Value × Value)) (n := n) (p := fun j ps => ∀ u, vs[j]? = some u → Prs B w u ps ∧ Zcs w ps (zss.getD j []) k) (fun j hj => by
    obtain ⟨ps, p1, p2⟩ := h3 j _ hj (List.getElem?_eq_getElem (by omega))
    refine ⟨ps, fun u hu => ?_⟩
    rw [List.getElem?_eq_getElem (by omega), Option.some.injEq] at hu
    rw [← hu]
    exact ⟨p1, p2⟩)
  have key : ∀ j ps, ((List.range n).map q)[j]? = some ps → j < n ∧ ps = q j := fun j ps hp => by
    have hj : j < n := by simpa using (List.getElem?_eq_some_iff.1 hp).1
    rw [List.getElem?_map, List.getElem?_range hj] at hp
    exact ⟨hj, by simpa using hp.symm⟩
  have hv : ∀ j (hj : j < n), vs[j]? = some (vs[j]'(by omega)) := fun j hj => List.getElem?_eq_getElem (by omega)
  refine ⟨(List.range n).map q, ⟨some ⟨g, 0, none⟩, n, by simp, by simp, by simpa using hn, .inr ⟨g, 0, rfl, h1.blk, fun j ps hp => ?_⟩⟩, by simp [hl], fun j ps hp => ?_⟩
  · obtain ⟨hj, rfl⟩ := key j ps hp
    exact ⟨_, by rw [Nat.zero_add]; exact h1.at (hv j hj), (hq j hj _ (hv j hj)).1⟩
  · obtain ⟨hj, rfl⟩ := key j ps hp
    exact (hq j hj _ (hv j hj)).2
def GridH (w : World) (g n k : Nat) (zss : List (List Int)) (gk : Nat) (s : Value) (wx : World) : Prop :=
  ∃ i : Nat, s = .int .i64 (i : Int) ∧ i ≤ n ∧ gk = n - i ∧ FilR wx g n i (fun j u => ∃ ps, Prs (g + 1) wx u ps ∧ Zcs wx ps (zss.getD j []) k) ∧ Below w.heap.size w wx
end Go.Proofs.Ytonmlmdnjjafhaa

/- Mat9 -/
namespace Go.Proofs.Ytonmlmdnjjafhaa
open Go.RowKit
set_option linter.unusedVariables false

/-- A sound matrix with these entries, in whatever form; in least form. -/
def Mx (w : World) (v : Value) (r c : Nat) (zs : List Int) (k : Nat) : Prop := ∃ at_ ps, v = matv r c at_ ∧ Prs 0 w at_ ps ∧ Zis w ps zs k ∧ zs.length = r * c ∧ r ≤ 64 ∧ c ≤ 64
def Mc (w : World) (v : Value) (r c : Nat) (zs : List Int) (k : Nat) : Prop := ∃ at_ ps, v = matv r c at_ ∧ Prs 0 w at_ ps ∧ Zcs w ps zs k ∧ zs.length = r * c ∧ r ≤ 64 ∧ c ≤ 64
theorem Mx.now {w w' : World} {v : Value} {r c : Nat} {zs : List Int} {k : Nat} (h : Mx w v r c zs k) (hb : Below w.heap.size w w') : Mx w' v r c zs k := by
  obtain ⟨a, ps, h1, h2, h3, h4⟩ := h
  exact ⟨a, ps, h1, h2.now hb, h3.now hb, h4⟩
theorem Mc.now {w w' : World} {v : Value} {r c : Nat} {zs : List Int} {k : Nat} (h : Mc w v r c zs k) (hb : Below w.heap.size w w') : Mc w' v r c zs k := by
  obtain ⟨a, ps, h1, h2, h3, h4⟩ := h
  exact ⟨a, ps, h1, h2.now hb, h3.now hb, h4⟩
theorem Mc.mx {w : World} {v : Value} {r c : Nat} {zs : List Int} {k : Nat} (h : Mc w v r c zs k) : Mx w v r c zs k := by
  obtain ⟨a, ps, h1, h2, h3, h4⟩ := h
  exact ⟨a, ps, h1, h2, h3.zis, h4⟩
theorem Mx.form {w : World} {v : Value} {r c : Nat} {zs : List Int} {k : Nat} (h : Mx w v r c zs k) : ∃ a cap, v = matv r c (.slice a (r * c) cap) ∧ r ≤ 64 ∧ c ≤ 64 := by
  obtain ⟨a, ps, h1, h2, h3, h4, h5, h6⟩ := h
  obtain ⟨a0, c0, rfl, -, -, -, -⟩ := h2.form
  rw [h3.1, h4] at h1
  exact ⟨a0, c0, h1, h5, h6⟩
def GivesM (w : World) (r c : Nat) (zs : List Int) (k : Nat) (e : Ending) (w' : World) : Prop := ∃ v, e = .returned v ∧ Mc w' v r c zs k ∧ Below w.heap.size w w'
def prodL (r m c : Nat) (xs ys : List Int) : List Int := ((rowsL r m xs).map fun row => (colsL m c ys 0).map (dotv row)).flatten
theorem ziss_rows {w : World} {ps : List (Value × Value)} {xs : List Int} {k r m : Nat} (h : Zis w ps xs k) : Ziss w (rowsL r m ps) (rowsL r m xs) k := by
  refine ⟨by simp [rowsL], fun j qs hq => ?_⟩
  have hj : j < r := by simpa [rowsL] using (List.getElem?_eq_some_iff.1 hq).1
  rw [rowsL_at hj, Option.some.injEq] at hq
  have e : (rowsL r m xs).getD j [] = (xs.drop (j * m)).take m := by simp [rowsL, hj]
  rw [e, ← hq]
  refine ⟨by simp [h.1], fun t p z hp hz => ?_⟩
  rw [List.getElem?_take] at hp hz
  by_cases q : t < m
  · rw [if_pos q, List.getElem?_drop] at hp hz
    exact h.2 _ p z hp hz
  · rw [if_neg q] at hp; cases hp
theorem ziss_cols {w : World} {ps : List (Value × Value)} {ys : List Int} {k m c : Nat} (h : Zis w ps ys k) (hl : ys.length = m * c) : Ziss w (colsL m c ps zpair) (colsL m c ys 0) k := by
  refine ⟨by simp [colsL], fun j qs hq => ?_⟩
  have hj : j < c := by simpa [colsL] using (List.getElem?_eq_some_iff.1 hq).1
  have e : (colsL m c ys 0).getD j [] = colL c ys 0 m j := by simp [colsL, hj]
  have e2 : qs = colL c ps zpair m j := by simp [colsL, hj] at hq; exact hq.symm
  rw [e, e2]
  refine ⟨by simp [colL_length], fun t p z hp hz => ?_⟩
  have ht : t < m := by simpa [colL] using (List.getElem?_eq_some_iff.1 hp).1
  have h5 : (t + 1) * c ≤ m * c := Nat.mul_le_mul_right c ht
  have h6 : (t + 1) * c = t * c + c := by rw [Nat.add_mul, Nat.one_mul]
  have h7 : t * c + j < ys.length := by omega
  have h8 : t * c + j < ps.length := by rw [h.1]; exact h7
  have e3 : p = ps[t * c + j] := by simp [colL, ht, h8] at hp; exact hp.symm
  have e4 : z = ys[t * c + j] := by simp [colL, ht, h7] at hz; exact hz.symm
  rw [e3, e4]
  exact h.2 _ _ _ (List.getElem?_eq_getElem h8) (List.getElem?_eq_getElem h7)
theorem rows_len {r m : Nat} {xs : List Int} (hl : xs.length = r * m) : ∀ row ∈ rowsL r m xs, row.length = m := by
  intro row hrow
  simp only [rowsL, List.mem_map, List.mem_range] at hrow
  obtain ⟨i, hi, rfl⟩ := hrow
  have h5 : (i + 1) * m ≤ r * m := Nat.mul_le_mul_right m hi
  have h6 : (i + 1) * m = i * m + m := by rw [Nat.add_mul, Nat.one_mul]
  simp
  omega
theorem cols_len {m c : Nat} {ys : List Int} : ∀ col ∈ colsL m c ys 0, col.length = m := by
  intro col hcol
  simp only [colsL, List.mem_map, List.mem_range] at hcol
  obtain ⟨j, hj, rfl⟩ := hcol
  exact colL_length
theorem prodL_length {r m c : Nat} {xs ys : List Int} : (prodL r m c xs ys).length = r * c := by
  have h : ∀ L : List (List Int), (∀ x ∈ L, x.length = c) → L.flatten.length = L.length * c := by
    intro L
    induction L with
    | nil => simp
    | cons a t ih =>
      intro hL
      rw [List.flatten_cons, List.length_append, ih (fun x hx => hL x (by simp [hx])), hL a (by simp), List.length_cons, Nat.add_mul, Nat.one_mul, Nat.add_comm]
  unfold prodL
  rw [h _ (by intro x hx; simp only [List.mem_map] at hx; obtain ⟨row, _, rfl⟩ := hx; simp [colsL])]
  simp [rowsL]
theorem same_of {w : World} {pss : List (List (Value × Value))} {zss : List (List Int)} {k m : Nat} (h : Zcss w pss zss k) (hl : ∀ z ∈ zss, z.length = m) : Same9 m pss := by
  intro ps hps
  obtain ⟨j, hj, e⟩ := List.getElem_of_mem hps
  have h1 : pss[j]? = some ps := by rw [List.getElem?_eq_getElem hj, e]
  have hz := h.2 j ps h1
  have hj2 : j < zss.length := by rw [← h.1]; exact hj
  refine ⟨?_, hz.zis.isI⟩
  rw [hz.1]
  have e2 : zss.getD j [] = zss[j] := by simp [hj2]
  rw [e2]
  exact hl _ (List.getElem_mem hj2)
abbrev matO (r c : Nat) (at_ : Value) : Obj := .cells #[.int .i64 (r : Int), .int .i64 (c : Int), at_] 39
end Go.Proofs.Ytonmlmdnjjafhaa

/- TailA -/
namespace Go.Proofs.Ytonmlmdnjjafhaa
open Go.RowKit
set_option linter.unusedVariables false

section
variable {P : Program} {ops : Array Oper} {Q : Exit → Act → World → Prop} {md : Region.Mode} {S : World → Prop} {n : Nat}

theorem wpAnyT_firstA {i : Nat} {oi : Oper} {v : Value} (hi : ops[i]? = some oi) (hsel : ∀ (j : Nat) (o : Oper) cs b, ops[j]? = some o → o.op ≠ .select cs b)
    (hQ : ∀ c a w, Q (.panic c) (a.put oi.dst v) w → Q (.panic c) a w)
    (hn : ops.size ≤ n) :
    ∀ (fuel : Nat) (listed : Array Bool) (a : Act) (w : World),
      (∀ j oj, ops[j]? = some oj → j ≠ i → listed.getD j true = false → (∀ e ∈ oj.after, Region.binds md e = true → e.on ≠ i) → oi.apart ops oj = true) →
      i ∈ Region.ready md ops listed → YieldsIf P ops S oi v a → S w →
      wpAnyT P md ops Q S n fuel (listed.setIfInBounds i true) (a.put oi.dst v) w → wpAnyT P md ops Q S n (fuel + 1) listed a w := by
  intro fuel
  induction fuel with
  | zero =>
    intro listed a w _ hr hy hS H
    refine ⟨fun h => (by rw [h] at hr; cases hr), fun j hj => ?_⟩
    by_cases hji : j = i
    · subst hji; exact hy.wpOp hi hS ⟨fun _ => hS, H⟩
    · have := ready_mono hj hji
      rw [H.1] at this
      cases this
  | succ fuel ih =>
    intro listed a w hfree hr hy hS H
    refine ⟨fun h => (by rw [h] at hr; cases hr), fun j hj => ?_⟩
    have hjn : j < n := by
      obtain ⟨_, oj, hoj, _⟩ := mem_ready.1 hj
      exact Nat.lt_of_lt_of_le (Array.getElem?_eq_some_iff.1 hoj).1 hn
    by_cases hji : j = i
    · subst hji; exact hy.wpOp hi hS ⟨fun _ => hS, H⟩
    · have h1 := H.2 j (ready_mono hj hji)
      obtain ⟨hjun, oj, hoj, hall⟩ := mem_ready.1 hj
      have hnot : ∀ e ∈ oj.after, Region.binds md e = true → e.on ≠ i := fun e he hb heq => by
        have h1 := hall e he hb
        have h0 := (mem_ready.1 hr).1
        rw [heq] at h1
        rcases Nat.lt_or_ge i listed.size with h' | h'
        · simp [h'] at h0 h1; rw [h0] at h1; cases h1
        · simp [Array.getElem?_eq_none h'] at h1
      have h2 := wpOp_putIf hoj (hfree j oj hoj hji hjun hnot) (fun cs b => hsel i oi cs b hi) (fun cs b => hsel j oj cs b hoj) hQ hy h1
      have hfree' : ∀ k ok, ops[k]? = some ok → k ≠ i → (listed.setIfInBounds j true).getD k true = false →
          (∀ e ∈ ok.after, Region.binds md e = true → e.on ≠ i) → oi.apart ops ok = true := fun k ok hk hki hun hno => by
        refine hfree k ok hk hki ?_ hno
        by_cases hjk : j = k
        · subst hjk; exact hjun
        · rw [getD_set_ne true hjk] at hun; exact hun
      refine wpOp_mono (fun a' w' h3 => ⟨fun _ => h3.2.1 hjn, ih (listed.setIfInBounds j true) a' w' hfree' (ready_mono hr (Ne.symm hji)) h3.1 (h3.2.1 hjn) ?_⟩) h2
      rw [Array.setIfInBounds_comm _ _ hji]
      exact h3.2.2

theorem wpAnyT_takeA {i : Nat} {oi : Oper} {v : Value} {fuel : Nat} {listed : Array Bool} {a : Act} {w : World} (hi : ops[i]? = some oi)
    (hok : (Region.noSelect ops && Region.free md ops listed i && (Region.ready md ops listed).contains i && decide (ops.size ≤ n)) = true)
    (hQ : ∀ c a w, Q (.panic c) (a.put oi.dst v) w → Q (.panic c) a w) (hy : YieldsIf P ops S oi v a) (hS : S w)
    (h : wpAnyT P md ops Q S n fuel (listed.setIfInBounds i true) (a.put oi.dst v) w) : wpAnyT P md ops Q S n (fuel + 1) listed a w := by
  simp only [Bool.and_eq_true, decide_eq_true_eq] at hok
  obtain ⟨⟨⟨h1, h2⟩, h3⟩, h4⟩ := hok
  exact wpAnyT_firstA hi (Region.noSelect_spec h1) hQ h4 fuel listed a w (Region.free_spec hi h2) (by simpa using h3) hy hS h
end
end Go.Proofs.Ytonmlmdnjjafhaa
