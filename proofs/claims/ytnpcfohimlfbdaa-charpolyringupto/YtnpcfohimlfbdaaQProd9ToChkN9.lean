/-
  QProd9ToChkN9: Prod9, Mat9, Chk9, Mul9, Unit9, Add9, Law9, Wake9, OpenM9, Pure9, Wk9, Turn9, ChkN9, joined.
-/
import Derived.Test.YtnpcfohimlfbdaaQCols9
import Derived.Test.YtnpcfohimlfbdaaQOpenZToOpenV8

/- Prod9 -/
namespace Go.Proofs.Ytnpcfohimlfbdaa
open Go.RowKit
set_option linter.unusedVariables false

def Zcss (w : World) (pss : List (List (Value × Value))) (zss : List (List Int)) (k : Nat) : Prop := pss.length = zss.length ∧ ∀ (j : Nat) (ps : List (Value × Value)), pss[j]? = some ps → Zcs w ps (zss.getD j []) k
theorem Zcs.append {w : World} {ps qs : List (Value × Value)} {zs ys : List Int} {k : Nat} (h : Zcs w ps zs k) (h' : Zcs w qs ys k) : Zcs w (ps ++ qs) (zs ++ ys) k := by
  refine ⟨by simp [h.1, h'.1], fun j p z hp hz => ?_⟩
  by_cases q : j < ps.length
  · rw [List.getElem?_append_left q] at hp
    rw [List.getElem?_append_left (by rw [← h.1]; exact q)] at hz
    exact h.2 j p z hp hz
  · rw [List.getElem?_append_right (by omega)] at hp
    rw [List.getElem?_append_right (by rw [← h.1]; omega), ← h.1] at hz
    exact h'.2 _ p z hp hz
theorem Zcss.flat {w : World} {k : Nat} : ∀ {pss : List (List (Value × Value))} {zss : List (List Int)}, Zcss w pss zss k → Zcs w pss.flatten zss.flatten k
  | [], [], _ => ⟨rfl, fun j p z hp => by simp at hp⟩
  | [], z :: zss, h => by have := h.1; simp at this
  | p :: pss, [], h => by have := h.1; simp at this
  | p :: pss, z :: zss, h => by
    have h1 := h.2 0 p rfl
    have h2 : Zcss w pss zss k := ⟨by have := h.1; simpa using this, fun j ps hp => by simpa using h.2 (j + 1) ps (by simpa using hp)⟩
    simpa using Zcs.append h1 (Zcss.flat h2)
theorem Zis.isI {w : World} {ps : List (Value × Value)} {zs : List Int} {k : Nat} (h : Zis w ps zs k) : ∀ p ∈ ps, IsI p := fun p hp => by
  obtain ⟨j, hj, e⟩ := List.getElem_of_mem hp
  have h1 : ps[j]? = some p := by rw [List.getElem?_eq_getElem hj, e]
  have h2 : zs[j]? = some (zs[j]'(by rw [← h.1]; exact hj)) := List.getElem?_eq_getElem _
  exact (h.2 j p _ h1 h2).isI
def Gridded (w : World) (zss : List (List Int)) (k : Nat) (e : Ending) (w' : World) : Prop := ∃ u pss, e = .returned u ∧ Prr w.heap.size w' u pss ∧ Zcss w' pss zss k ∧ Below w.heap.size w w'
theorem filR_grid {w : World} {g n B k : Nat} {zss : List (List Int)} (h : FilR w g n n (fun j u => ∃ ps, Prs B w u ps ∧ Zcs w ps (zss.getD j []) k)) (hl : zss.length = n) (hn : n ≤ 1048576) : ∃ pss, Prr B w (.slice (some ⟨g, 0, none⟩) n n) pss ∧ Zcss w pss zss k := by
  have h0 := h
  obtain ⟨vs, h1, h2, hw, h3⟩ := h
  obtain ⟨q, hq⟩ := Deep.choose_lt (α := List (Value × Value)) (n := n) (p := fun j ps => ∀ u, vs[j]? = some u → Prs B w u ps ∧ Zcs w ps (zss.getD j []) k) (fun j hj => by
    obtain ⟨ps, p1, p2⟩ := h3 j _ hj (List.getElem?_eq_getElem (by omega))
    refine ⟨ps, fun u hu => ?_⟩
    rw [List.getElem?_eq_getElem (by omega), Option.some.injEq] at hu
    rw [← hu]
    exact ⟨p1, p2⟩)
  have key : ∀ j ps, ((List.range n).map q)[j]? = some ps → j < n ∧ ps = q j := fun j ps hp => by
    have hj : j < n := by simpa using (List.getElem?_eq_some_iff.1 hp).1
    rw [List.getElem?_map, List.getElem?_range hj] at hp
    exact ⟨hj, by simpa using hp.symm⟩
  have hv : ∀ j (hj : j < n), vs[j]? = some (vs[j]'(by omega)) := fun j hj => List.getElem?_eq_getElem (by omega)
  refine ⟨(List.range n).map q, ⟨some ⟨g, 0, none⟩, n, by simp, by simp, by simpa using hn, .inr ⟨g, 0, rfl, h1.blk, fun j ps hp => ?_⟩⟩, by simp [hl], fun j ps hp => ?_⟩
  · obtain ⟨hj, rfl⟩ := key j ps hp
    exact ⟨_, by rw [Nat.zero_add]; exact h1.at (hv j hj), (hq j hj _ (hv j hj)).1⟩
  · obtain ⟨hj, rfl⟩ := key j ps hp
    exact (hq j hj _ (hv j hj)).2
def GridH (w : World) (g n k : Nat) (zss : List (List Int)) (gk : Nat) (s : Value) (wx : World) : Prop :=
  ∃ i : Nat, s = .int .i64 (i : Int) ∧ i ≤ n ∧ gk = n - i ∧ FilR wx g n i (fun j u => ∃ ps, Prs (g + 1) wx u ps ∧ Zcs wx ps (zss.getD j []) k) ∧ Below w.heap.size w wx
end Go.Proofs.Ytnpcfohimlfbdaa

/- Mat9 -/
namespace Go.Proofs.Ytnpcfohimlfbdaa
open Go.RowKit
set_option linter.unusedVariables false

/-- A sound matrix with these entries, in whatever form; in least form. -/
def Mx (w : World) (v : Value) (r c : Nat) (zs : List Int) (k : Nat) : Prop := ∃ at_ ps, v = matv r c at_ ∧ Prs 0 w at_ ps ∧ Zis w ps zs k ∧ zs.length = r * c ∧ r ≤ 64 ∧ c ≤ 64
def Mc (w : World) (v : Value) (r c : Nat) (zs : List Int) (k : Nat) : Prop := ∃ at_ ps, v = matv r c at_ ∧ Prs 0 w at_ ps ∧ Zcs w ps zs k ∧ zs.length = r * c ∧ r ≤ 64 ∧ c ≤ 64
theorem Mx.now {w w' : World} {v : Value} {r c : Nat} {zs : List Int} {k : Nat} (h : Mx w v r c zs k) (hb : Below w.heap.size w w') : Mx w' v r c zs k := by
  obtain ⟨a, ps, h1, h2, h3, h4⟩ := h
  exact ⟨a, ps, h1, h2.now hb, h3.now hb, h4⟩
theorem Mc.mx {w : World} {v : Value} {r c : Nat} {zs : List Int} {k : Nat} (h : Mc w v r c zs k) : Mx w v r c zs k := by
  obtain ⟨a, ps, h1, h2, h3, h4⟩ := h
  exact ⟨a, ps, h1, h2, h3.zis, h4⟩
theorem Mx.form {w : World} {v : Value} {r c : Nat} {zs : List Int} {k : Nat} (h : Mx w v r c zs k) : ∃ a cap, v = matv r c (.slice a (r * c) cap) ∧ r ≤ 64 ∧ c ≤ 64 := by
  obtain ⟨a, ps, h1, h2, h3, h4, h5, h6⟩ := h
  obtain ⟨a0, c0, rfl, -, -, -, -⟩ := h2.form
  rw [h3.1, h4] at h1
  exact ⟨a0, c0, h1, h5, h6⟩
theorem ziss_rows {w : World} {ps : List (Value × Value)} {xs : List Int} {k r m : Nat} (h : Zis w ps xs k) : Ziss w (rowsL r m ps) (rowsL r m xs) k := by
  refine ⟨by simp [rowsL], fun j qs hq => ?_⟩
  have hj : j < r := by simpa [rowsL] using (List.getElem?_eq_some_iff.1 hq).1
  rw [rowsL_at hj, Option.some.injEq] at hq
  have e : (rowsL r m xs).getD j [] = (xs.drop (j * m)).take m := by simp [rowsL, hj]
  rw [e, ← hq]
  refine ⟨by simp [h.1], fun t p z hp hz => ?_⟩
  rw [List.getElem?_take] at hp hz
  by_cases q : t < m
  · rw [if_pos q, List.getElem?_drop] at hp hz
    exact h.2 _ p z hp hz
  · rw [if_neg q] at hp; cases hp
theorem ziss_cols {w : World} {ps : List (Value × Value)} {ys : List Int} {k m c : Nat} (h : Zis w ps ys k) (hl : ys.length = m * c) : Ziss w (colsL m c ps zpair) (colsL m c ys 0) k := by
  refine ⟨by simp [colsL], fun j qs hq => ?_⟩
  have hj : j < c := by simpa [colsL] using (List.getElem?_eq_some_iff.1 hq).1
  have e : (colsL m c ys 0).getD j [] = colL c ys 0 m j := by simp [colsL, hj]
  have e2 : qs = colL c ps zpair m j := by simp [colsL, hj] at hq; exact hq.symm
  rw [e, e2]
  refine ⟨by simp [colL_length], fun t p z hp hz => ?_⟩
  have ht : t < m := by simpa [colL] using (List.getElem?_eq_some_iff.1 hp).1
  have h5 : (t + 1) * c ≤ m * c := Nat.mul_le_mul_right c ht
  have h6 : (t + 1) * c = t * c + c := by rw [Nat.add_mul, Nat.one_mul]
  have h7 : t * c + j < ys.length := by omega
  have h8 : t * c + j < ps.length := by rw [h.1]; exact h7
  have e3 : p = ps[t * c + j] := by simp [colL, ht, h8] at hp; exact hp.symm
  have e4 : z = ys[t * c + j] := by simp [colL, ht, h7] at hz; exact hz.symm
  rw [e3, e4]
  exact h.2 _ _ _ (List.getElem?_eq_getElem h8) (List.getElem?_eq_getElem h7)
theorem rows_len {r m : Nat} {xs : List Int} (hl : xs.length = r * m) : ∀ row ∈ rowsL r m xs, row.length = m := by
  intro row hrow
  simp only [rowsL, List.mem_map, List.mem_range] at hrow
  obtain ⟨i, hi, rfl⟩ := hrow
  have h5 : (i + 1) * m ≤ r * m := Nat.mul_le_mul_right m hi
  have h6 : (i + 1) * m = i * m + m := by rw [Nat.add_mul, Nat.one_mul]
  simp
  omega
theorem cols_len {m c : Nat} {ys : List Int} : ∀ col ∈ colsL m c ys 0, col.length = m := by
  intro col hcol
  simp only [colsL, List.mem_map, List.mem_range] at hcol
  obtain ⟨j, hj, rfl⟩ := hcol
  exact colL_length
theorem same_of {w : World} {pss : List (List (Value × Value))} {zss : List (List Int)} {k m : Nat} (h : Zcss w pss zss k) (hl : ∀ z ∈ zss, z.length = m) : Same9 m pss := by
  intro ps hps
  obtain ⟨j, hj, e⟩ := List.getElem_of_mem hps
  have h1 : pss[j]? = some ps := by rw [List.getElem?_eq_getElem hj, e]
  have hz := h.2 j ps h1
  have hj2 : j < zss.length := by rw [← h.1]; exact hj
  refine ⟨?_, hz.zis.isI⟩
  rw [hz.1]
  have e2 : zss.getD j [] = zss[j] := by simp [hj2]
  rw [e2]
  exact hl _ (List.getElem_mem hj2)
abbrev matO (r c : Nat) (at_ : Value) : Obj := .cells #[.int .i64 (r : Int), .int .i64 (c : Int), at_] 39
end Go.Proofs.Ytnpcfohimlfbdaa

/- Chk9 -/
namespace Go.Proofs.Ytnpcfohimlfbdaa
open Go.RowKit
set_option linter.unusedVariables false

set_option maxHeartbeats 800000 in
set_option maxRecDepth 100000 in
theorem isShape_yes {w : World} {r c : Nat} (hr : r ≤ 64) (hc : c ≤ 64) : Calls Try.prog 56 #[.int .i64 (r : Int), .int .i64 (c : Int)] w fun e w' => e = .returned (.bool true) ∧ w' = w := by
  have h1 : (0 : Int) ≤ (r : Int) := by omega
  have h2 : (0 : Int) ≤ (c : Int) := by omega
  have h3 : (r : Int) ≤ 64 := by omega
  have h4 : (c : Int) ≤ 64 := by omega
  have h5 : max (r : Int) (c : Int) ≤ 64 := by omega
  have h6 : 0 ≤ min (r : Int) (c : Int) := by omega
  go_enter Try.func56, Try.ntmps56
  go_wp2
  go_ret
  exact ⟨rfl, rfl⟩
set_option maxHeartbeats 800000 in
set_option maxRecDepth 100000 in
theorem check_yes {w : World} {v : Value} {r c : Nat} {zs : List Int} {k : Nat} (h : Mx w v r c zs k) : Calls Try.prog 44 #[v] w fun e w' => e = .returned (.int .i64 0) ∧ Below w.heap.size w w' := by
  obtain ⟨a, cap, rfl, hr, hc⟩ := h.form
  have hm0 := wrapM9 (i := r) (c := c) hr hc
  obtain ⟨n, hn⟩ : ∃ n, r * c = n := ⟨_, rfl⟩
  rw [hn] at hm0
  have hm2 := hm0
  rw [IntKind.wrap_i64] at hm2
  rw [hn]
  obtain ⟨W0, hW⟩ : ∃ W0, w.alloc (matO r c (.slice a n cap)) = W0 := ⟨_, rfl⟩
  obtain ⟨b0, sz0⟩ := alo1 w (matO r c (.slice a n cap))
  rw [hW] at b0 sz0
  have P1 : Hid (Cel W0 w.heap.size 39 (matc r c (.slice a n cap))) := by unfold Hid; rw [← hW]; exact Cel.new w _ _
  have x0 := P1.out.at (i := 0) rfl
  have x1 := P1.out.at (i := 1) rfl
  have x2 := P1.out.at (i := 2) rfl
  rw [← hW] at x0 x1 x2
  have HS := hid (isShape_yes (w := W0) hr hc)
  have G0 := hid b0
  have EW := hid hW
  have q0 : ((n : Int) != (n : Int)) = false := by simp
  clear b0 sz0 hW h hn P1
  go_enter Try.func44, Try.ntmps44
  go_wp2_with fail
  rw [EW.out]
  refine HS.out.mono ?_
  rintro e w1 ⟨rfl, rfl⟩
  rw [EW.out] at x0 x1 x2
  go_wp2
  go_ret
  exact ⟨rfl, G0.out⟩
end Go.Proofs.Ytnpcfohimlfbdaa

/- Mul9 -/
namespace Go.Proofs.Ytnpcfohimlfbdaa
open Go.RowKit
set_option linter.unusedVariables false

/-- What a call answers that gives a matrix and an error. -/
def GivesMO (w : World) (r c : Nat) (zs : List Int) (k : Nat) (e : Ending) (w' : World) : Prop := ∃ v, e = .returned (.tuple #[v, .int .i64 0]) ∧ Mc w' v r c zs k ∧ Below w.heap.size w w'
end Go.Proofs.Ytnpcfohimlfbdaa

/- Unit9 -/
namespace Go.Proofs.Ytnpcfohimlfbdaa
open Go.RowKit
set_option linter.unusedVariables false

end Go.Proofs.Ytnpcfohimlfbdaa

/- Add9 -/
namespace Go.Proofs.Ytnpcfohimlfbdaa
open Go.RowKit
set_option linter.unusedVariables false

end Go.Proofs.Ytnpcfohimlfbdaa

/- Law9 -/
namespace Go.Proofs.Ytnpcfohimlfbdaa
open Go.RowKit
set_option linter.unusedVariables false

end Go.Proofs.Ytnpcfohimlfbdaa

/- Wake9 -/
namespace Go.Proofs.Ytnpcfohimlfbdaa
open Go.RowKit
set_option linter.unusedVariables false

theorem mx_one {W : World} {b k : Nat} {x y : Value} {z : Int} (d : Duo W b x y) (h : Zi W (.agg #[x, y]) z k) : Mx W (.agg #[.int .i64 1, .int .i64 1, .slice (some ⟨b, 0, none⟩) 1 1]) 1 1 [z] k := by
  refine ⟨.slice (some ⟨b, 0, none⟩) 1 1, [(x, y)], rfl, ⟨_, _, rfl, by simp, by simp, (fun q => by cases q), .inr ⟨b, 0, rfl, Nat.zero_le _, d.blk, fun j p hp => ?_⟩⟩, ⟨rfl, fun j p q hp hq => ?_⟩, rfl, by omega, by omega⟩
  · match j, hp with
    | 0, hp =>
      simp at hp
      subst hp
      exact ⟨d.c0, d.c1⟩
  · match j, hp, hq with
    | 0, hp, hq =>
      simp at hp hq
      subst hp hq
      exact h
end Go.Proofs.Ytnpcfohimlfbdaa

/- OpenM9 -/
namespace Go.Proofs.Ytnpcfohimlfbdaa
open Go.ChangeShapes Go.WideShapes Go.ChangeAt Go.RowKit
set_option linter.unusedVariables false

theorem Try.cellsL9 : Try.prog.cellsOf 22 = 1 := by kernel_rfl
end Go.Proofs.Ytnpcfohimlfbdaa

/- Pure9 -/
namespace Go.Proofs.Ytnpcfohimlfbdaa
set_option linter.unusedVariables false

end Go.Proofs.Ytnpcfohimlfbdaa

/- Wk9 -/
namespace Go.Proofs.Ytnpcfohimlfbdaa
open Go.RowKit
set_option linter.unusedVariables false

end Go.Proofs.Ytnpcfohimlfbdaa

/- Turn9 -/
namespace Go.Proofs.Ytnpcfohimlfbdaa
open Go.RowKit
set_option linter.unusedVariables false

end Go.Proofs.Ytnpcfohimlfbdaa

/- ChkN9 -/
namespace Go.Proofs.Ytnpcfohimlfbdaa
open Go.RowKit
set_option linter.unusedVariables false

end Go.Proofs.Ytnpcfohimlfbdaa
