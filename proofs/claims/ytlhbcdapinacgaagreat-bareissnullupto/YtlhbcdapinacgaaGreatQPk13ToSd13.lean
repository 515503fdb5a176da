/-
  QPk13ToSd13: Pk13, Sd13, joined.
-/
import Derived.Test.YtlhbcdapinacgaaGreatQPickB9
import Derived.Test.YtlhbcdapinacgaaGreatQLd13
import Derived.Test.YtlhbcdapinacgaaGreatQRound8ToPure9
import Derived.Test.YtlhbcdapinacgaaGreatQLaw9ToMWord

/- Pk13 -/
namespace Go.Proofs.YtlhbcdapinacgaaGreat
open Go.RowKit
set_option linter.unusedVariables false

theorem row_getD13 {r c i j : Nat} {xs : List Int} (hi : i < r) (hj : j < c) : ((rowsL r c xs).getD i []).getD j 0 = xs.getD (i * c + j) 0 := by
  have e : (rowsL r c xs).getD i [] = (xs.drop (i * c)).take c := by simp [rowsL, hi]
  rw [e, List.getD_eq_getElem?_getD, List.getD_eq_getElem?_getD, List.getElem?_take, if_pos hj, List.getElem?_drop]
theorem pick_en {r c a b : Nat} {zs : List Int} {is js : List Nat} (hi : ∀ i ∈ is, i < r) (hj : ∀ j ∈ js, j < c) (ha : a < is.length) (hb : b < js.length) : en js.length (pickL r c zs is js) a b = en c zs (is.getD a 0) (js.getD b 0) := by
  unfold en pickL
  rw [flat_getD hb (by intro x hx; unfold pickR at hx; simp only [List.mem_map] at hx; obtain ⟨row, _, rfl⟩ := hx; simp) (by simp [pickR, ha])]
  have e : (pickR (rowsL r c zs) is js).getD a [] = js.map (ent9 (rowsL r c zs) is[a]) := by simp [pickR, ha]
  rw [e]
  have e2 : (js.map (ent9 (rowsL r c zs) is[a])).getD b 0 = ent9 (rowsL r c zs) is[a] js[b] := by simp [hb]
  rw [e2]
  have e3 : is.getD a 0 = is[a] := by simp [ha]
  have e4 : js.getD b 0 = js[b] := by simp [hb]
  rw [e3, e4]
  exact row_getD13 (hi _ (List.getElem_mem ha)) (hj _ (List.getElem_mem hb))
theorem pick_det {r c k : Nat} {zs : List Int} {is js : List Nat} (hi : ∀ i ∈ is, i < r) (hj : ∀ j ∈ js, j < c) (h1 : is.length = k) (h2 : js.length = k) : det k (en k (pickL r c zs is js)) = det k fun a b => en c zs (is.getD a 0) (js.getD b 0) := by
  refine det_congr fun a b ha hb => ?_
  have := pick_en (zs := zs) hi hj (show a < is.length by omega) (show b < js.length by omega)
  rw [h2] at this
  exact this
theorem lead_det {n k : Nat} {zs : List Int} (hk : k ≤ n) : det k (en k (pickL n n zs (List.range k) (List.range k))) = det k (en n zs) := by
  rw [pick_det (k := k) (fun i hi => by have : i < k := by simpa using hi
                                        omega) (fun j hj => by have : j < k := by simpa using hj
                                                               omega) (by simp) (by simp)]
  exact det_congr fun a b ha hb => by simp [ha, hb]
/-- One number of a list. -/
theorem OwnP.at13 {B g cap l t k : Nat} {w : World} {ps : List (Value × Value)} {zs : List Int} (h : OwnP B w (.slice (some ⟨g, 0, none⟩) l cap) ps) (hz : Zms w ps zs k) (ht : t < zs.length) :
    ∃ nv av lw cv, w.cell? ⟨g, t * 2, none⟩ = some (.bool nv) ∧ w.cell? ⟨g, t * 2 + 1, none⟩ = some (.slice av lw cv) ∧ Zm 0 w (.agg #[.bool nv, .slice av lw cv]) (zs.getD t 0) k := by
  have hp : ps[t]? = some (ps[t]'(by rw [hz.1]; exact ht)) := List.getElem?_eq_getElem _
  have hz' : zs[t]? = some (zs.getD t 0) := by simp [ht]
  have z := hz.2 t _ _ hp hz'
  have f := flat_get hp
  have c0 := World.ownsRow.cells h (g := g) rfl _ _ f.1
  have c1 := World.ownsRow.cells h (g := g) rfl _ _ f.2
  rw [head_add13] at c0 c1
  obtain ⟨n0, xs, a0, c0', e, _⟩ := z
  have e1 : (ps[t]'(by rw [hz.1]; exact ht)).1 = .bool n0 := by simp only [Value.agg.injEq] at e; simp at e; exact e.1
  have e2 : (ps[t]'(by rw [hz.1]; exact ht)).2 = .slice a0 xs.length c0' := by simp only [Value.agg.injEq] at e; simp at e; exact e.2
  have z := hz.2 t _ _ hp hz'
  rw [e1] at c0 z
  rw [e2] at c1 z
  exact ⟨n0, a0, xs.length, c0', c0, c1, z⟩
theorem ldL_at {A : Nat → Nat → Int} {n t : Nat} (ht : t ≤ n) : (ldL A n).getD t 0 = det t A := by
  simp [ldL, show t < n + 1 by omega]
theorem OwnP.form13 {B n k : Nat} {w : World} {lv : Value} {ps : List (Value × Value)} {A : Nat → Nat → Int} (h : OwnP B w lv ps) (hz : Zms w ps (ldL A n) k) : ∃ g l cap, lv = .slice (some ⟨g, 0, none⟩) l cap ∧ l = n + 1 ∧ l ≤ cap := by
  have hl : ps.length = n + 1 := by rw [hz.1]; simp [ldL]
  obtain ⟨_, ⟨q1, q2⟩ | ⟨g, cap, cur, q1, q2, q3, q4, _⟩⟩ := h
  · omega
  · exact ⟨g, _, cap, q1, hl, q4⟩
end Go.Proofs.YtlhbcdapinacgaaGreat

/- Sd13 -/
namespace Go.Proofs.YtlhbcdapinacgaaGreat
open Go.RowKit
set_option linter.unusedVariables false

theorem snd13 {r c : Int} {l : Nat} (h : Snd r c l) : ∃ a b : Nat, r = (a : Int) ∧ c = (b : Int) := by
  obtain ⟨h1, h2, h3, h4, h5⟩ := h
  exact ⟨r.toNat, c.toNat, by omega, by omega⟩
theorem Raw.mx13 {w : World} {v : Value} {r c : Nat} {l : Nat} {zs : List Int} (h : Raw w v (r : Int) (c : Int) l zs) (hs : Snd (r : Int) (c : Int) l) : Mx w v r c zs 1048576 ∧ l = r * c := ⟨h.mx hs, by have := hs.2.2.2.2; exact Int.ofNat.inj this⟩
def Tru (w : World) (e : Ending) (w' : World) : Prop := e = .returned (.bool true) ∧ Below w.heap.size w w'
/-- A square matrix in a box, made anywhere in a statement. -/
def PkM (W wx : World) (s1 s2 : Value) (k : Nat) (zs : List Int) : Prop :=
  ∃ bk ap lp qp, s1 = .pointer (some ⟨bk, 0, none⟩) ∧ s2 = .int .i64 0 ∧ Below W.heap.size W wx ∧ W.heap.size ≤ bk ∧ Cel wx bk 24 [.int .i64 (k : Int), .int .i64 (k : Int), .slice ap lp qp] ∧ Mx wx (matv k k (.slice ap lp qp)) k k zs 1048576
theorem Mx.off13 {w : World} {v : Value} {r c : Nat} {zs : List Int} {k b i : Nat} {L : List Value} {u : Value} (h : Mx w v r c zs k) (d : Cel w b 24 L) (hL : ∀ (j : Nat) (x : Value), L[j]? = some x → (∀ n, x ≠ .bool n) ∧ ∀ y, x ≠ .int .u64 y) : Mx (w.setCell ⟨b, i, none⟩ u) v r c zs k := by
  obtain ⟨at_, ps, h1, h2, h3, h4⟩ := h
  have hcell : ∀ o x, w.cell? ⟨b, o, none⟩ = some x → L[o]? = some x := fun o x e => by
    have d' : w.heap[b]? = some (.cells L.toArray 24 (0, 0)) := d
    simpa [World.cell?, d'] using e
  have wk : Wk w (w.setCell ⟨b, i, none⟩ u) := by
    refine ⟨by simp, fun g off x e => ?_⟩
    have hne : g ≠ b := fun q => by
      subst q
      exact (hL off _ (hcell off _ e)).2 x rfl
    exact (World.cell?_setCell_other _ _ _ _ (by simp <;> omega)).trans e
  refine ⟨at_, ps, h1, ?_, h3.wk wk, h4⟩
  obtain ⟨a', c', e1, e2, e3, e4, e5⟩ := h2
  refine ⟨a', c', e1, e2, e3, e4, ?_⟩
  rcases e5 with e5 | ⟨b', off, e6, e7, e8, e9⟩
  · exact .inl e5
  · refine .inr ⟨b', off, e6, e7, by simpa using e8, fun j p hp => ?_⟩
    have hne : b' ≠ b := fun q => by
      subst q
      obtain ⟨n1, a1, l1, c1, e⟩ := h3.isI p (List.mem_of_getElem? hp)
      have q1 := (e9 j p hp).1
      rw [show p.1 = .bool n1 by rw [e]] at q1
      exact (hL _ _ (hcell _ _ q1)).1 n1 rfl
    rw [World.cell?_setCell_other _ _ _ _ (by simp <;> omega), World.cell?_setCell_other _ _ _ _ (by simp <;> omega)]
    exact e9 j p hp
theorem mats13 {x0 x1 : Int} {a : Option Addr} {l n : Nat} : ∀ (j : Nat) (x : Value), [Value.int .i64 x0, .int .i64 x1, .slice a l n][j]? = some x → (∀ n, x ≠ .bool n) ∧ ∀ y, x ≠ .int .u64 y := fun j x h => by
  match j, h with
  | 0, h => simp at h; subst h; exact ⟨fun _ q => (by cases q), fun _ q => (by cases q)⟩
  | 1, h => simp at h; subst h; exact ⟨fun _ q => (by cases q), fun _ q => (by cases q)⟩
  | 2, h => simp at h; subst h; exact ⟨fun _ q => (by cases q), fun _ q => (by cases q)⟩
  | j + 3, h => simp at h
theorem pkm_put {W w : World} {bk k k2 la qa : Nat} {aa : Option Addr} {zs : List Int} (d : Cel w bk 24 [.int .i64 0, .int .i64 0, .slice none 0 0]) (m : Mx w (matv k k2 (.slice aa la qa)) k k2 zs 1048576) (hb : Below W.heap.size W w) (hs : W.heap.size ≤ bk) :
    k = k2 → PkM W (((w.setCell ⟨bk, 0, none⟩ (.int .i64 (k : Int))).setCell ⟨bk, 1, none⟩ (.int .i64 (k2 : Int))).setCell ⟨bk, 2, none⟩ (.slice aa la qa)) (.pointer (some ⟨bk, 0, none⟩)) (.int .i64 0) k zs := by
  rintro rfl
  have d1 := d.set 0 (.int .i64 (k : Int))
  have d2 := d1.set 1 (.int .i64 (k : Int))
  have d3 := d2.set 2 (.slice aa la qa)
  exact ⟨bk, aa, la, qa, rfl, rfl, bset (bset (bset hb hs) hs) hs, hs, d3, ((m.off13 d mats13).off13 d1 mats13).off13 d2 mats13⟩
end Go.Proofs.YtlhbcdapinacgaaGreat
