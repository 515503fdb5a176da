/-
  QCols9ToSt11: Cols9, Prod9, Mat9, Chk9, Mul9, Unit9, Add9, Law9, Wake9, Pure9, St11, joined.
-/
import Derived.Test.YtplldfnldaehiaaQCat9ToColsP9

/- Cols9 -/
namespace Go.Proofs.Ytplldfnldaehiaa
open Go.RowKit
set_option linter.unusedVariables false

end Go.Proofs.Ytplldfnldaehiaa

/- Prod9 -/
namespace Go.Proofs.Ytplldfnldaehiaa
open Go.RowKit
set_option linter.unusedVariables false

def Zcss (w : World) (pss : List (List (Value × Value))) (zss : List (List Int)) (k : Nat) : Prop := pss.length = zss.length ∧ ∀ (j : Nat) (ps : List (Value × Value)), pss[j]? = some ps → Zcs w ps (zss.getD j []) k
theorem Zcs.append {w : World} {ps qs : List (Value × Value)} {zs ys : List Int} {k : Nat} (h : Zcs w ps zs k) (h' : Zcs w qs ys k) : Zcs w (ps ++ qs) (zs ++ ys) k := by
  refine ⟨by simp [h.1, h'.1], fun j p z hp hz => ?_⟩
  by_cases q : j < ps.length
  · rw [List.getElem?_append_left q] at hp
    rw [List.getElem?_append_left (by rw [← h.1]; exact q)] at hz
    exact h.2 j p z hp hz
  · rw [List.getElem?_append_right (by omega)] at hp
    rw [List.getElem?_append_right (by rw [← h.1]; omega), ← h.1] at hz
    exact h'.2 _ p z hp hz
theorem Zcss.flat {w : World} {k : Nat} : ∀ {pss : List (List (Value × Value))} {zss : List (List Int)}, Zcss w pss zss k → Zcs w pss.flatten zss.flatten k
  | [], [], _ => ⟨rfl, fun j p z hp => by simp at hp⟩
  | [], z :: zss, h => by have := h.1; simp at this
  | p :: pss, [], h => by have := h.1; simp at this
  | p :: pss, z :: zss, h => by
    have h1 := h.2 0 p rfl
    have h2 : Zcss w pss zss k := ⟨by have := h.1; simpa using this, fun j ps hp => by simpa using h.2 (j + 1) ps (by simpa using hp)⟩
    simpa using Zcs.append h1 (Zcss.flat h2)
theorem Zcss.now {w w' : World} {pss : List (List (Value × Value))} {zss : List (List Int)} {k : Nat} (h : Zcss w pss zss k) (hb : Below w.heap.size w w') : Zcss w' pss zss k := ⟨h.1, fun j ps hp => (h.2 j ps hp).now hb⟩
theorem Zis.isI {w : World} {ps : List (Value × Value)} {zs : List Int} {k : Nat} (h : Zis w ps zs k) : ∀ p ∈ ps, IsI p := fun p hp => by
  obtain ⟨j, hj, e⟩ := List.getElem_of_mem hp
  have h1 : ps[j]? = some p := by rw [List.getElem?_eq_getElem hj, e]
  have h2 : zs[j]? = some (zs[j]'(by rw [← h.1]; exact hj)) := List.getElem?_eq_getElem _
  exact (h.2 j p _ h1 h2).isI
def Gridded (w : World) (zss : List (List Int)) (k : Nat) (e : Ending) (w' : World) : Prop := ∃ u pss, e = .returned u ∧ Prr w.heap.size w' u pss ∧ Zcss w' pss zss k ∧ Below w.heap.size w w'
theorem filR_grid {w : World} {g n B k : Nat} {zss : List (List Int)} (h : FilR w g n n (fun j u => ∃ ps, Prs B w u ps ∧ Zcs w ps (zss.getD j []) k)) (hl : zss.length = n) (hn : n ≤ 1048576) : ∃ pss, Prr B w (.slice (some ⟨g, 0, none⟩) n n) pss ∧ Zcss w pss zss k := by
  have h0 := h
  obtain ⟨vs, h1, h2, hw, h3⟩ := h
  obtain ⟨q, hq⟩ := Deep.choose_lt (α := List (Value × Value)) (n := n) (p := fun j ps => ∀ u, vs[j]? = some u → Prs B w u ps ∧ Zcs w ps (zss.getD j []) k) (fun j hj => by
    obtain ⟨ps, p1, p2⟩ := h3 j _ hj (List.getElem?_eq_getElem (by omega))
    refine ⟨ps, fun u hu => ?_⟩
    rw [List.getElem?_eq_getElem (by omega), Option.some.injEq] at hu
    rw [← hu]
    exact ⟨p1, p2⟩)
  have key : ∀ j ps, ((List.range n).map q)[j]? = some ps → j < n ∧ ps = q j := fun j ps hp => by
    have hj : j < n := by simpa using (List.getElem?_eq_some_iff.1 hp).1
    rw [List.getElem?_map, List.getElem?_range hj] at hp
    exact ⟨hj, by simpa using hp.symm⟩
  have hv : ∀ j (hj : j < n), vs[j]? = some (vs[j]'(by omega)) := fun j hj => List.getElem?_eq_getElem (by omega)
  refine ⟨(List.range n).map q, ⟨some ⟨g, 0, none⟩, n, by simp, by simp, by simpa using hn, .inr ⟨g, 0, rfl, h1.blk, fun j ps hp => ?_⟩⟩, by simp [hl], fun j ps hp => ?_⟩
  · obtain ⟨hj, rfl⟩ := key j ps hp
    exact ⟨_, by rw [Nat.zero_add]; exact h1.at (hv j hj), (hq j hj _ (hv j hj)).1⟩
  · obtain ⟨hj, rfl⟩ := key j ps hp
    exact (hq j hj _ (hv j hj)).2
def GridH (w : World) (g n k : Nat) (zss : List (List Int)) (gk : Nat) (s : Value) (wx : World) : Prop :=
  ∃ i : Nat, s = .int .i64 (i : Int) ∧ i ≤ n ∧ gk = n - i ∧ FilR wx g n i (fun j u => ∃ ps, Prs (g + 1) wx u ps ∧ Zcs wx ps (zss.getD j []) k) ∧ Below w.heap.size w wx
end Go.Proofs.Ytplldfnldaehiaa

/- Mat9 -/
namespace Go.Proofs.Ytplldfnldaehiaa
open Go.RowKit
set_option linter.unusedVariables false

/-- A sound matrix with these entries, in whatever form; in least form. -/
def Mx (w : World) (v : Value) (r c : Nat) (zs : List Int) (k : Nat) : Prop := ∃ at_ ps, v = matv r c at_ ∧ Prs 0 w at_ ps ∧ Zis w ps zs k ∧ zs.length = r * c ∧ r ≤ 64 ∧ c ≤ 64
def Mc (w : World) (v : Value) (r c : Nat) (zs : List Int) (k : Nat) : Prop := ∃ at_ ps, v = matv r c at_ ∧ Prs 0 w at_ ps ∧ Zcs w ps zs k ∧ zs.length = r * c ∧ r ≤ 64 ∧ c ≤ 64
theorem Mx.now {w w' : World} {v : Value} {r c : Nat} {zs : List Int} {k : Nat} (h : Mx w v r c zs k) (hb : Below w.heap.size w w') : Mx w' v r c zs k := by
  obtain ⟨a, ps, h1, h2, h3, h4⟩ := h
  exact ⟨a, ps, h1, h2.now hb, h3.now hb, h4⟩
theorem Mc.now {w w' : World} {v : Value} {r c : Nat} {zs : List Int} {k : Nat} (h : Mc w v r c zs k) (hb : Below w.heap.size w w') : Mc w' v r c zs k := by
  obtain ⟨a, ps, h1, h2, h3, h4⟩ := h
  exact ⟨a, ps, h1, h2.now hb, h3.now hb, h4⟩
theorem Mc.mx {w : World} {v : Value} {r c : Nat} {zs : List Int} {k : Nat} (h : Mc w v r c zs k) : Mx w v r c zs k := by
  obtain ⟨a, ps, h1, h2, h3, h4⟩ := h
  exact ⟨a, ps, h1, h2, h3.zis, h4⟩
theorem Mx.form {w : World} {v : Value} {r c : Nat} {zs : List Int} {k : Nat} (h : Mx w v r c zs k) : ∃ a cap, v = matv r c (.slice a (r * c) cap) ∧ r ≤ 64 ∧ c ≤ 64 := by
  obtain ⟨a, ps, h1, h2, h3, h4, h5, h6⟩ := h
  obtain ⟨a0, c0, rfl, -, -, -, -⟩ := h2.form
  rw [h3.1, h4] at h1
  exact ⟨a0, c0, h1, h5, h6⟩
theorem ziss_rows {w : World} {ps : List (Value × Value)} {xs : List Int} {k r m : Nat} (h : Zis w ps xs k) : Ziss w (rowsL r m ps) (rowsL r m xs) k := by
  refine ⟨by simp [rowsL], fun j qs hq => ?_⟩
  have hj : j < r := by simpa [rowsL] using (List.getElem?_eq_some_iff.1 hq).1
  rw [rowsL_at hj, Option.some.injEq] at hq
  have e : (rowsL r m xs).getD j [] = (xs.drop (j * m)).take m := by simp [rowsL, hj]
  rw [e, ← hq]
  refine ⟨by simp [h.1], fun t p z hp hz => ?_⟩
  rw [List.getElem?_take] at hp hz
  by_cases q : t < m
  · rw [if_pos q, List.getElem?_drop] at hp hz
    exact h.2 _ p z hp hz
  · rw [if_neg q] at hp; cases hp
theorem rows_len {r m : Nat} {xs : List Int} (hl : xs.length = r * m) : ∀ row ∈ rowsL r m xs, row.length = m := by
  intro row hrow
  simp only [rowsL, List.mem_map, List.mem_range] at hrow
  obtain ⟨i, hi, rfl⟩ := hrow
  have h5 : (i + 1) * m ≤ r * m := Nat.mul_le_mul_right m hi
  have h6 : (i + 1) * m = i * m + m := by rw [Nat.add_mul, Nat.one_mul]
  simp
  omega
theorem same_of {w : World} {pss : List (List (Value × Value))} {zss : List (List Int)} {k m : Nat} (h : Zcss w pss zss k) (hl : ∀ z ∈ zss, z.length = m) : Same9 m pss := by
  intro ps hps
  obtain ⟨j, hj, e⟩ := List.getElem_of_mem hps
  have h1 : pss[j]? = some ps := by rw [List.getElem?_eq_getElem hj, e]
  have hz := h.2 j ps h1
  have hj2 : j < zss.length := by rw [← h.1]; exact hj
  refine ⟨?_, hz.zis.isI⟩
  rw [hz.1]
  have e2 : zss.getD j [] = zss[j] := by simp [hj2]
  rw [e2]
  exact hl _ (List.getElem_mem hj2)
abbrev matO (r c : Nat) (at_ : Value) : Obj := .cells #[.int .i64 (r : Int), .int .i64 (c : Int), at_] 45
end Go.Proofs.Ytplldfnldaehiaa

/- Chk9 -/
namespace Go.Proofs.Ytplldfnldaehiaa
open Go.RowKit
set_option linter.unusedVariables false

set_option maxHeartbeats 800000 in
set_option maxRecDepth 100000 in
theorem isShape_yes {w : World} {r c : Nat} (hr : r ≤ 64) (hc : c ≤ 64) : Calls Try.prog 29 #[.int .i64 (r : Int), .int .i64 (c : Int)] w fun e w' => e = .returned (.bool true) ∧ w' = w := by
  have h1 : (0 : Int) ≤ (r : Int) := by omega
  have h2 : (0 : Int) ≤ (c : Int) := by omega
  have h3 : (r : Int) ≤ 64 := by omega
  have h4 : (c : Int) ≤ 64 := by omega
  have h5 : max (r : Int) (c : Int) ≤ 64 := by omega
  have h6 : 0 ≤ min (r : Int) (c : Int) := by omega
  go_enter Try.func29, Try.ntmps29
  go_wp2
  go_ret
  exact ⟨rfl, rfl⟩
set_option maxHeartbeats 800000 in
set_option maxRecDepth 100000 in
theorem check_yes {w : World} {v : Value} {r c : Nat} {zs : List Int} {k : Nat} (h : Mx w v r c zs k) : Calls Try.prog 23 #[v] w fun e w' => e = .returned (.int .i64 0) ∧ Below w.heap.size w w' := by
  obtain ⟨a, cap, rfl, hr, hc⟩ := h.form
  have hm0 := wrapM9 (i := r) (c := c) hr hc
  obtain ⟨n, hn⟩ : ∃ n, r * c = n := ⟨_, rfl⟩
  rw [hn] at hm0
  have hm2 := hm0
  rw [IntKind.wrap_i64] at hm2
  rw [hn]
  obtain ⟨W0, hW⟩ : ∃ W0, w.alloc (matO r c (.slice a n cap)) = W0 := ⟨_, rfl⟩
  obtain ⟨b0, sz0⟩ := alo1 w (matO r c (.slice a n cap))
  rw [hW] at b0 sz0
  have P1 : Hid (Cel W0 w.heap.size 45 (matc r c (.slice a n cap))) := by unfold Hid; rw [← hW]; exact Cel.new w _ _
  have x0 := P1.out.at (i := 0) rfl
  have x1 := P1.out.at (i := 1) rfl
  have x2 := P1.out.at (i := 2) rfl
  rw [← hW] at x0 x1 x2
  have HS := hid (isShape_yes (w := W0) hr hc)
  have G0 := hid b0
  have EW := hid hW
  have q0 : ((n : Int) != (n : Int)) = false := by simp
  clear b0 sz0 hW h hn P1
  go_enter Try.func23, Try.ntmps23
  go_wp2_with fail
  rw [EW.out]
  refine HS.out.mono ?_
  rintro e w1 ⟨rfl, rfl⟩
  rw [EW.out] at x0 x1 x2
  go_wp2
  go_ret
  exact ⟨rfl, G0.out⟩
/-- A list of sound matrices. -/
def Ms (w : World) (v : Value) (n : Nat) : Prop := ∃ a cap, v = .slice a n cap ∧ n ≤ 1048576 ∧ (n = 0 ∨ ∃ b off, a = some ⟨b, off, none⟩ ∧ ∀ j, j < n → ∃ (r c l cap' : Nat) (a' : Option Addr), w.cell? ⟨b, off + j * 3, none⟩ = some (.int .i64 (r : Int)) ∧ w.cell? ⟨b, off + j * 3 + 1, none⟩ = some (.int .i64 (c : Int)) ∧ w.cell? ⟨b, off + j * 3 + 2, none⟩ = some (.slice a' l cap') ∧ ∃ zs k, Mx w (matv r c (.slice a' l cap')) r c zs k)
end Go.Proofs.Ytplldfnldaehiaa

/- Mul9 -/
namespace Go.Proofs.Ytplldfnldaehiaa
open Go.RowKit
set_option linter.unusedVariables false

/-- What a call answers that gives a matrix and an error. -/
def GivesMO (w : World) (r c : Nat) (zs : List Int) (k : Nat) (e : Ending) (w' : World) : Prop := ∃ v, e = .returned (.tuple #[v, .int .i64 0]) ∧ Mc w' v r c zs k ∧ Below w.heap.size w w'
theorem Mc.wk {w : World} {v : Value} {r c : Nat} {zs : List Int} {k b : Nat} (h : Mc w v r c zs k) {x0 x1 : Int} {a : Option Addr} {l n : Nat} (d : Cel w b 45 [.int .i64 x0, .int .i64 x1, .slice a l n]) (y0 y1 y2 : Value) : Mc (put3 w b y0 y1 y2) v r c zs k := by
  obtain ⟨at_, ps, h1, h2, h3, h4⟩ := h
  refine ⟨at_, ps, h1, ?_, h3.wk (d.wk3 _ _ _), h4⟩
  obtain ⟨a', c', e1, e2, e3, e4, e5⟩ := h2
  refine ⟨a', c', e1, e2, e3, e4, ?_⟩
  rcases e5 with e5 | ⟨b', off, e6, e7, e8, e9⟩
  · exact .inl e5
  · refine .inr ⟨b', off, e6, e7, by simpa using e8, fun j p hp => ?_⟩
    have hne : b ≠ b' := by
      intro e
      subst e
      have hz : zs[j]? = some (zs[j]'(by rw [← h3.1]; exact (List.getElem?_eq_some_iff.1 hp).1)) := List.getElem?_eq_getElem _
      obtain ⟨n1, a1, l1, c1, q⟩ := (h3.2 j p _ hp hz).zi.isI
      have q1 := (e9 j p hp).1
      rw [show p.1 = .bool n1 by rw [Prod.mk.injEq] at q; exact q.1] at q1
      have q2 : w.heap[b]? = some (.cells #[.int .i64 x0, .int .i64 x1, .slice a l n] 45 (0, 0)) := d
      simp only [World.cell?, q2] at q1
      simp at q1
      generalize off + j * 2 = o at q1
      match o, q1 with
      | 0, q1 => simp at q1
      | 1, q1 => simp at q1
      | 2, q1 => simp at q1
      | o + 3, q1 => simp at q1
    have e : ∀ o, (put3 w b y0 y1 y2).cell? ⟨b', o, none⟩ = w.cell? ⟨b', o, none⟩ := fun o => by
      rw [World.cell?_setCell_other _ _ _ _ (by simp <;> omega), World.cell?_setCell_other _ _ _ _ (by simp <;> omega), World.cell?_setCell_other _ _ _ _ (by simp <;> omega)]
    rw [e, e]
    exact e9 j p hp
end Go.Proofs.Ytplldfnldaehiaa

/- Unit9 -/
namespace Go.Proofs.Ytplldfnldaehiaa
open Go.RowKit
set_option linter.unusedVariables false

theorem Arr.ne {w : World} {g b i : Nat} {u : Value} {ps : List (Value × Value)} (h : Arr w g ps) (hne : b ≠ g) : Arr (w.setCell ⟨b, i, none⟩ u) g ps := ⟨h.1.ne hne, h.2⟩
theorem Arr.put3 {w : World} {g b : Nat} {ps : List (Value × Value)} (h : Arr w g ps) (hne : b ≠ g) (y0 y1 y2 : Value) : Arr (put3 w b y0 y1 y2) g ps := ((h.ne hne).ne hne).ne hne
theorem Zcs.set {w w' : World} {ps : List (Value × Value)} {zs : List Int} {k t : Nat} {x y : Value} {z : Int} (h : Zcs w ps zs k) (hk : Wk w w') (hz : Zc w' (.agg #[x, y]) z k) : Zcs w' (ps.set t (x, y)) (zs.set t z) k := by
  refine ⟨by simp [h.1], fun j p q hp hq => ?_⟩
  by_cases e : j = t
  · subst e
    have h1 : j < ps.length := by simpa using (List.getElem?_eq_some_iff.1 hp).1
    rw [List.getElem?_set_self h1, Option.some.injEq] at hp
    rw [List.getElem?_set_self (by rw [← h.1]; exact h1), Option.some.injEq] at hq
    rw [← hp, ← hq]
    exact hz
  · rw [List.getElem?_set_ne (by omega)] at hp hq
    exact (h.2 j p q hp hq).wk hk
end Go.Proofs.Ytplldfnldaehiaa

/- Add9 -/
namespace Go.Proofs.Ytplldfnldaehiaa
open Go.RowKit
set_option linter.unusedVariables false

def addL (n : Nat) (xs ys : List Int) : List Int := (List.range n).map fun j => xs.getD j 0 + ys.getD j 0
theorem Mx.zl {w : World} {r c : Nat} {at_ : Value} {zs : List Int} {k : Nat} (h : Mx w (matv r c at_) r c zs k) : Zl w at_ zs k ∧ zs.length = r * c := by
  obtain ⟨a, ps, e, h2, h3, h4, -, -⟩ := h
  simp only [matv, Value.agg.injEq, Array.mk.injEq, List.cons.injEq, and_true, true_and] at e
  subst e
  exact ⟨zl_of h2 h3, h4⟩
end Go.Proofs.Ytplldfnldaehiaa

/- Law9 -/
namespace Go.Proofs.Ytplldfnldaehiaa
open Go.RowKit
set_option linter.unusedVariables false

theorem Zcs.at9 {B : Nat} {w : World} {b off l c : Nat} {ps : List (Value × Value)} {zs : List Int} {k : Nat} (h : Prs B w (.slice (some ⟨b, off, none⟩) l c) ps) (hz : Zcs w ps zs k) {i : Nat} (hi : i < zs.length) : ∃ n, ∃ xs : List Int, ∃ a c, w.cell? ⟨b, off + i * 2, none⟩ = some (.bool n) ∧ w.cell? ⟨b, off + i * 2 + 1, none⟩ = some (.slice a xs.length c) ∧ Zc w (.agg #[.bool n, .slice a xs.length c]) zs[i] k := by
  have hp : ps[i]? = some (ps[i]'(by rw [hz.1]; exact hi)) := List.getElem?_eq_getElem _
  have q := h.at hp
  have z := hz.2 i _ _ hp (List.getElem?_eq_getElem hi)
  have z' := z
  obtain ⟨n, xs, a, c, e, -⟩ := z
  simp only [Value.agg.injEq, Array.mk.injEq, List.cons.injEq, and_true] at e
  rw [e.1, e.2] at q
  rw [e.1, e.2] at z'
  exact ⟨n, xs, a, c, q.1, q.2, z'⟩
/-- Sound, by the numbers. -/
def Snd (r c : Int) (l : Nat) : Prop := 0 ≤ r ∧ r ≤ 64 ∧ 0 ≤ c ∧ c ≤ 64 ∧ (l : Int) = r * c
end Go.Proofs.Ytplldfnldaehiaa

/- Wake9 -/
namespace Go.Proofs.Ytplldfnldaehiaa
open Go.RowKit
set_option linter.unusedVariables false

theorem Zc.parts {w : World} {v : Value} {z : Int} {k : Nat} (h : Zc w v z k) : ∃ n, ∃ xs : List Int, ∃ a c, v = .agg #[.bool n, .slice a xs.length c] := by
  obtain ⟨n, xs, a, c, e, -⟩ := h
  exact ⟨n, xs, a, c, e⟩
end Go.Proofs.Ytplldfnldaehiaa

/- Pure9 -/
namespace Go.Proofs.Ytplldfnldaehiaa
set_option linter.unusedVariables false

theorem flat_getD {α : Type} {c j : Nat} {d : α} (hj : j < c) : ∀ {L : List (List α)} {i : Nat}, (∀ x ∈ L, x.length = c) → i < L.length → L.flatten.getD (i * c + j) d = (L.getD i []).getD j d
  | [], i, _, h => by simp at h
  | a :: L, 0, hL, _ => by
    have ha : a.length = c := hL a (by simp)
    simp only [List.flatten_cons, Nat.zero_mul, Nat.zero_add, List.getD_cons_zero]
    rw [List.getD_eq_getElem?_getD, List.getD_eq_getElem?_getD, List.getElem?_append_left (by omega)]
  | a :: L, i + 1, hL, h => by
    have ha : a.length = c := hL a (by simp)
    have h2 : (i + 1) * c = i * c + c := by rw [Nat.add_mul, Nat.one_mul]
    have := flat_getD hj (L := L) (i := i) (d := d) (fun x hx => hL x (by simp [hx])) (by simpa using h)
    simp only [List.flatten_cons, List.getD_cons_succ]
    rw [← this, List.getD_eq_getElem?_getD, List.getD_eq_getElem?_getD, List.getElem?_append_right (by omega), show (i + 1) * c + j - a.length = i * c + j by omega]
end Go.Proofs.Ytplldfnldaehiaa

/- St11 -/
namespace Go.Proofs.Ytplldfnldaehiaa
set_option linter.unusedVariables false

/-- A step that may be done. -/
inductive St where
  | swap (i j : Nat)
  | neg (i : Nat)
  | add (i j : Nat) (z : Int)
def St.fit (n : Nat) : St → Prop
  | .swap i j => i < n ∧ j < n
  | .neg i => i < n
  | .add i j _ => i < n ∧ j < n ∧ i ≠ j
def rowAt (zss : List (List Int)) (i : Nat) : List Int := zss.getD i []
def addRow (z : Int) (xs ys : List Int) : List Int := List.zipWith (fun x y => z * y + x) xs ys
def negRow (xs : List Int) : List Int := xs.map fun x => -x
def St.run : St → List (List Int) → List (List Int)
  | .swap i j, m => (m.set i (rowAt m j)).set j (rowAt m i)
  | .neg i, m => m.set i (negRow (rowAt m i))
  | .add i j z, m => m.set i (addRow z (rowAt m i) (rowAt m j))
/-- All rows are of one length. -/
def Wide (c : Nat) (m : List (List Int)) : Prop := ∀ r ∈ m, r.length = c
theorem Wide.at {c i : Nat} {m : List (List Int)} (h : Wide c m) (hi : i < m.length) : (rowAt m i).length = c := by
  have e : rowAt m i = m[i] := by simp [rowAt, hi]
  rw [e]
  exact h _ (List.getElem_mem hi)
theorem Wide.set {c i : Nat} {m : List (List Int)} {r : List Int} (h : Wide c m) (hr : r.length = c) : Wide c (m.set i r) := fun x hx => by
  rcases List.mem_or_eq_of_mem_set hx with q | rfl
  · exact h x q
  · exact hr
/-- What goes through steps: what is linear in rows. -/
structure Lin (c : Nat) (f : List Int → List Int) : Prop where
  neg : ∀ r, r.length = c → f (negRow r) = negRow (f r)
  add : ∀ z r q, r.length = c → q.length = c → f (addRow z r q) = addRow z (f r) (f q)
theorem rowAt_map {f : List Int → List Int} {m : List (List Int)} {i : Nat} (hi : i < m.length) : rowAt (m.map f) i = f (rowAt m i) := by simp [rowAt, hi]
theorem St.run_map {c : Nat} {f : List Int → List Int} (hl : Lin c f) {s : St} {m : List (List Int)} (h : Wide c m) (hf : s.fit m.length) : s.run (m.map f) = (s.run m).map f := by
  cases s with
  | swap i j =>
    simp only [St.run]
    rw [rowAt_map hf.1, rowAt_map hf.2, List.map_set, List.map_set]
  | neg i =>
    simp only [St.run]
    rw [rowAt_map (show i < m.length from hf), List.map_set, hl.neg _ (h.at hf)]
  | add i j z =>
    simp only [St.run]
    rw [rowAt_map hf.1, rowAt_map hf.2.1, List.map_set, hl.add z _ _ (h.at hf.1) (h.at hf.2.1)]
theorem rowsL_length {r c : Nat} {zs : List Int} : (rowsL r c zs).length = r := by simp [rowsL]
end Go.Proofs.Ytplldfnldaehiaa
