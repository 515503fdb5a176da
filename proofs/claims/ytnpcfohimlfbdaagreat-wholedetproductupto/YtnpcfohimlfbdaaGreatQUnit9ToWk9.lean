/-
 QUnit9ToWk9: Unit9, Add9, Law9, Wake9, OpenM9, Fresh, Far, Pure9, Wk9, joined.
-/
import Derived.Test.YtnpcfohimlfbdaaGreatQChk9ToMul9
import Derived.Test.YtnpcfohimlfbdaaGreatQAlikeToOpenV8
import Derived.Test.YtnpcfohimlfbdaaGreatQMadeToByWord
import Derived.Laws.AppendOwn
import Derived.Laws.AppendOwnNone
import Derived.Test.YtnpcfohimlfbdaaGreatQWordsToBulk
import Derived.Deep.RegionLaw
import Derived.Deep.RegionHeldLaw

set_option maxRecDepth 100000
set_option maxHeartbeats 6400000
set_option linter.unusedVariables false
set_option linter.unusedSimpArgs false
namespace Go.Proofs.YtnpcfohimlfbdaaGreat
open Go.RowKit

theorem Arr.ne {w : World} {g b i : Nat} {u : Value} {ps : List (Value × Value)} (h : Arr w g ps) (hne : b ≠ g) : Arr (w.setCell ⟨b, i, none⟩ u) g ps := ⟨h.1.ne hne, h.2⟩
theorem Arr.put3 {w : World} {g b : Nat} {ps : List (Value × Value)} (h : Arr w g ps) (hne : b ≠ g) (y0 y1 y2 : Value) : Arr (put3 w b y0 y1 y2) g ps := ((h.ne hne).ne hne).ne hne


/-- Sound, by the numbers. -/
def Snd (r c : Int) (l : Nat) : Prop := 0 ≤ r ∧ r ≤ 64 ∧ 0 ≤ c ∧ c ≤ 64 ∧ (l : Int) = r * c

open Go.ChangeShapes Go.WideShapes Go.ChangeAt Go.RowKit

theorem Tryz.cellsM9 : Tryz.prog.cellsOf 24 = 3 := by kernel_rfl
theorem Tryz.cellsI9 : Tryz.prog.cellsOf 3 = 1 := by kernel_rfl
theorem Tryz.cellsL9 : Tryz.prog.cellsOf 22 = 1 := by kernel_rfl
/-- A matrix as it comes in, sound or not. -/
def Raw (w : World) (v : Value) (r c : Int) (l : Nat) (zs : List Int) : Prop := ∃ a cap ps, v = .agg #[.int .i64 r, .int .i64 c, .slice a l cap] ∧ Prs 0 w (.slice a l cap) ps ∧ Zis w ps zs 1048576 ∧ zs.length = l ∧ l ≤ 1048576
theorem Raw.now {w w' : World} {v : Value} {r c : Int} {l : Nat} {zs : List Int} (h : Raw w v r c l zs) (hb : Below w.heap.size w w') : Raw w' v r c l zs := by
 obtain ⟨a, cap, ps, h1, h2, h3, h4⟩ := h
 exact ⟨a, cap, ps, h1, h2.now hb, h3.now hb, h4⟩
theorem Raw.mx {w : World} {v : Value} {r c l : Nat} {zs : List Int} (h : Raw w v (r : Int) (c : Int) l zs) (hs : Snd (r : Int) (c : Int) l) : Mx w v r c zs 1048576 := by
 obtain ⟨a, cap, ps, h1, h2, h3, h4, h5⟩ := h
 obtain ⟨s1, s2, s3, s4, s5⟩ := hs
 exact ⟨_, ps, h1, h2, h3, by rw [h4]; exact Int.ofNat.inj (by simpa using s5), by omega, by omega⟩
theorem trod_struct3m {H : Type} {enc : TypeId × Value → H} {P : Program} {w : World} {base : Nat} {spare : Nat → Bool} {held : Bool} {t : TypeId} {f0 f1 f2 : Field} {fuel : Nat} {cs : List Value} {x : DataW H × List MemPlace} (ht : P.underlying t = some (.struct #[f0, f1, f2]))
  (h : DataW.trod enc P w base spare held fuel t cs = some x) :
  ∃ y0 y1 y2 n, x.1 = .agg [y0.1, y1.1, y2.1] ∧ cs.length = P.cellsOf t ∧ DataW.trod enc P w base spare held n f0.type ((cs.drop f0.offset).take (P.cellsOf f0.type)) = some y0 ∧ DataW.trod enc P w base spare held n f1.type ((cs.drop f1.offset).take (P.cellsOf f1.type)) = some y1 ∧ DataW.trod enc P w base spare held n f2.type ((cs.drop f2.offset).take (P.cellsOf f2.type)) = some y2 := by
 obtain ⟨xs, n, _, rfl, hl, hlen, hf⟩ := DataW.trod_struct ht h
 match xs, hlen with
 | [y0, y1, y2], _ => exact ⟨y0, y1, y2, n, by simp, hl, by simpa using hf 0 f0 rfl, by simpa using hf 1 f1 rfl, by simpa using hf 2 f2 rfl⟩
theorem open_list9 {H : Type} {enc : TypeId × Value → H} {W : World} {fuel : Nat} {v : Value} {y : DataW H × List MemPlace}
  (hf : DataW.trod enc Tryz.prog W 0 (fun _ => true) true fuel 22 [v] = some y) (hb : Rows.uptoBulk y.1 ≤ 1048576) :
  ∃ a l cap ps zs, v = .slice a l cap ∧ Prs 0 W (.slice a l cap) ps ∧ Zis W ps zs 1048576 ∧ zs.length = l ∧ l ≤ 1048576 := by
 have hn : ∀ c, v = .slice none 0 c → c = 0 := by
  rcases Deep.open_slice Tryz.underlying22 hf with ⟨hcs, _⟩ | ⟨x, len, cap, m, n, D, Pl, hcs, _⟩
  ·simp only [List.cons.injEq, and_true] at hcs
   intro c e
   rw [hcs] at e
   simpa using e.symm
  ·simp only [List.cons.injEq, and_true] at hcs
   intro c e
   rw [hcs] at e
   simp at e
 obtain ⟨zs, ks, h1, h2⟩ := open_ints1 hf hb
 have hz := h1.zl (K := 1048576) (by omega)
 obtain ⟨ps, p1, p2⟩ := hz.prs hn
 obtain ⟨a, c, e, -, hl, -⟩ := hz
 subst e
 exact ⟨a, zs.length, c, ps, zs, rfl, p1, p2, rfl, hl⟩
theorem open_mat9 {H : Type} {enc : TypeId × Value → H} {W : World} {r : Reach} {b0 : Nat} {v : Value} {d : DataW H} {p : List MemPlace}
  (hv : Value.okWide Tryz.prog W r b0 24 v) (h0 : DataW.Trod enc Tryz.prog W 0 (fun _ => true) true 24 v d p) (hb : Rows.uptoBulk d ≤ 1048576) :
  ∃ r c l zs, Raw W v r c l zs := by
 obtain ⟨cs, rfl, hsz⟩ := okWide_struct Tryz.underlying24 hv
 obtain ⟨fuel, hf⟩ := h0
 obtain ⟨y0, y1, y2, n, hx, hl, t0, t1, t2⟩ := trod_struct3m Tryz.underlying24 hf
 obtain ⟨L, rfl⟩ : ∃ L : List Value, cs = L.toArray := ⟨cs.toList, by simp⟩
 simp only [Value.cells] at hl t0 t1 t2
 rw [Tryz.cellsM9] at hl
 have hx' : d = .agg [y0.1, y1.1, y2.1] := hx
 subst hx'
 simp only [Rows.uptoBulk, Rows.uptoBulkAll] at hb
 match L, hl with
 | [e0, e1, e2], _ =>
  simp only [Tryz.cellsI9, Tryz.cellsL9, List.drop_zero, List.drop_succ_cons, List.take_succ_cons, List.take_zero] at t0 t1 t2
  obtain ⟨k0, q0, _, _⟩ := DataW.trod_int Tryz.underlying3 t0
  obtain ⟨k1, q1, _, _⟩ := DataW.trod_int Tryz.underlying3 t1
  simp only [List.cons.injEq, and_true] at q0 q1
  subst q0 q1
  obtain ⟨a, l, cap, ps, zs, rfl, h1, h2, h3, h4⟩ := open_list9 t2 (by omega)
  exact ⟨_, _, l, zs, a, cap, ps, rfl, h1, h2, h3, h4⟩
end Go.Proofs.YtnpcfohimlfbdaaGreat
namespace Go.Proofs.YtnpcfohimlfbdaaGreat
open Go.RowKit

/-- A slice that holds zs; where it holds anything, at the head of a row from block B on. -/
def Far (B : Nat) (w : World) (v : Value) (zs : List Int) : Prop :=
 WF zs ∧ Formed v ∧ ∃ a cap, v = .slice a zs.length cap ∧ zs.length ≤ cap ∧ zs.length ≤ 35184372088832 ∧ (zs = [] ∨ ∃ g r, B ≤ g ∧ a = some ⟨g, 0, none⟩ ∧ Row w g (ws zs ++ r))
theorem Far.sl {B : Nat} {w : World} {v : Value} {zs : List Int} (h : Far B w v zs) : Sl w.heap.size w v zs := by
 obtain ⟨hw, _, a, cap, h1, h2, h3, h4⟩ := h
 refine ⟨hw, a, cap, h1, h2, h3, ?_⟩
 rcases h4 with e | ⟨g, r, _, h5, h6⟩
 ·exact .inl e
 ·exact .inr ⟨g, 0, h5, h6.lt, fun j hj => by rw [Nat.zero_add]; exact h6.word hj⟩
theorem Far.form {B : Nat} {w : World} {v : Value} {zs : List Int} (h : Far B w v zs) : ∃ a cap, v = .slice a zs.length cap := by obtain ⟨_, _, a, cap, h1, _⟩ := h; exact ⟨a, cap, h1⟩
theorem run_append_empty (w : World) (ty : TypeId) (g : Nat) {B : Nat} {v : Value} {xs : List Int} (hsl : Sl B w v xs) (hf : Formed v) (hmx : xs.length ≤ 17592186044416) :
  ∃ v' w', (Builtin.append_ #[27, 27] ty #[.slice (some ⟨g, 0, none⟩) 0 0, v]).run Tryz.prog w = .ok v' w' ∧ Far w.heap.size w' v' xs ∧ Below w.heap.size w w' := by
 obtain ⟨i, hi, hz, hsz, hb⟩ := info_parts Tryz.infoW
 have ht := Tryz.underlying27
 obtain ⟨hw, ad, cap, rfl, hlc, hcm, hm⟩ := hsl
 rcases hf with e | ⟨ad', n', c', e⟩
 ·simp only [Value.slice.injEq] at e
  obtain ⟨rfl, e2, rfl⟩ := e
  obtain rfl : xs = [] := List.eq_nil_of_length_eq_zero e2
  refine ⟨.slice (some ⟨g, 0, none⟩) 0 0, w, ?_, ⟨WF.nil, .inr ⟨_, _, _, rfl⟩, _, 0, rfl, Nat.le_refl _, Nat.zero_le _, .inl rfl⟩, Below.refl _ _⟩
  simp [Builtin.append_, run_underlying ht, sizeOf, typeInfo, hi, Builtin.lenOf, Builtin.firstCells, storeCells]
 ·simp only [Value.slice.injEq] at e
  obtain ⟨rfl, _, _⟩ := e
  by_cases h0 : xs = []
  ·subst h0
   refine ⟨.slice (some ⟨g, 0, none⟩) 0 0, w, ?_, ⟨WF.nil, .inr ⟨_, _, _, rfl⟩, _, 0, rfl, Nat.le_refl _, Nat.zero_le _, .inl rfl⟩, Below.refl _ _⟩
   simp [Builtin.append_, run_underlying ht, sizeOf, typeInfo, hi, Builtin.lenOf, Builtin.firstCells, loadCells, loadCellsFrom, storeCells]
  ·have hpos : 0 < xs.length := by cases xs with
    | nil => exact absurd rfl h0
    | cons x r => simp
   have hnews : ∀ j u, (ws xs)[j]? = some u → w.cell? (ad'.add j) = some u := fun j u hj => by
    have hj' : j < xs.length := by
     have := (List.getElem?_eq_some_iff.1 hj).1
     simpa [length_ws] using this
    rcases hm with e | ⟨b, off, h1, h2, h3⟩
    ·exact absurd e h0
    ·simp only [Option.some.injEq] at h1
     subst h1
     have e : (⟨b, off, none⟩ : Addr).add j = ⟨b, off + j, none⟩ := by unfold Addr.add; split <;> simp_all
     rw [e, h3 j hj', ← hj]
     simp [ws, hj']
   have hfit : Builtin.nextslicecap (0 + xs.length) 0 * i.bytes ≤ 281474976710656 := by
    unfold Builtin.nextslicecap
    rw [if_pos (by omega), hb]
    omega
   have hr := run_append_grow (P := Tryz.prog) w 27 ty 51 i (.int .u64 0) ht hi hz ⟨g, 0, none⟩ 0 0 [] (by simp) (fun j v hj => by simp at hj) ad' xs.length cap (ws xs) (by rw [length_ws, hsz]; omega) hnews (by omega) (by omega) hfit
   have hge := grownCap_ge w (0 + xs.length) 0 51
   refine ⟨_, _, hr, ⟨hw, .inr ⟨_, _, _, rfl⟩, _, grownCap w (0 + xs.length) 0 51, by rw [Nat.zero_add], by omega, hcm, .inr ⟨w.heap.size, (Builtin.zeroCells (Value.int .u64 0).cells (grownCap w (0 + xs.length) 0 51 - (0 + xs.length))).toList, Nat.le_refl _, rfl, ?_⟩⟩, ?_⟩
   ·have := heap_alloc_new w.drew (.cells (([] : List Value).toArray ++ (ws xs).toArray ++ Builtin.zeroCells (Value.int .u64 0).cells (grownCap w (0 + xs.length) 0 51 - (0 + xs.length))) 51)
    unfold Row
    refine Eq.trans this ?_
    simp
   ·exact ((Below.refl w.heap.size w).drew).alloc (Nat.le_refl _) _
end Go.Proofs.YtnpcfohimlfbdaaGreat
namespace Go.Proofs.YtnpcfohimlfbdaaGreat

def sumN (n : Nat) (f : Nat → Int) : Int := zsum ((List.range n).map f)
theorem sumN_succ (n : Nat) (f : Nat → Int) : sumN (n + 1) f = sumN n f + f n := by
 unfold sumN
 rw [List.range_succ, List.map_append, zsum_append]
 simp [zsum]
theorem sumN_congr {n : Nat} {f g : Nat → Int} (h : ∀ t, t < n → f t = g t) : sumN n f = sumN n g := by
 induction n with
 | zero => rfl
 | succ n ih => rw [sumN_succ, sumN_succ, ih (fun t ht => h t (by omega)), h n (by omega)]
theorem flat_getD {α : Type} {c j : Nat} {d : α} (hj : j < c) : ∀ {L : List (List α)} {i : Nat}, (∀ x ∈ L, x.length = c) → i < L.length → L.flatten.getD (i * c + j) d = (L.getD i []).getD j d
 | [], i, _, h => by simp at h
 | a :: L, 0, hL, _ => by
  have ha : a.length = c := hL a (by simp)
  simp only [List.flatten_cons, Nat.zero_mul, Nat.zero_add, List.getD_cons_zero]
  rw [List.getD_eq_getElem?_getD, List.getD_eq_getElem?_getD, List.getElem?_append_left (by omega)]
 | a :: L, i + 1, hL, h => by
  have ha : a.length = c := hL a (by simp)
  have h2 : (i + 1) * c = i * c + c := by rw [Nat.add_mul, Nat.one_mul]
  have := flat_getD hj (L := L) (i := i) (d := d) (fun x hx => hL x (by simp [hx])) (by simpa using h)
  simp only [List.flatten_cons, List.getD_cons_succ]
  rw [← this, List.getD_eq_getElem?_getD, List.getD_eq_getElem?_getD, List.getElem?_append_right (by omega), show (i + 1) * c + j - a.length = i * c + j by omega]
theorem dotv_sum {m : Nat} {xs ys : List Int} (hx : xs.length = m) : dotv xs ys = sumN m (fun t => xs.getD t 0 * ys.getD t 0) := by
 unfold dotv sumN
 rw [hx]
theorem prod_at {r m c i j : Nat} {xs ys : List Int} (hx : xs.length = r * m) (hi : i < r) (hj : j < c) : (prodL r m c xs ys).getD (i * c + j) 0 = sumN m (fun t => xs.getD (i * m + t) 0 * ys.getD (t * c + j) 0) := by
 unfold prodL
 rw [flat_getD hj (by intro x hx'; simp only [List.mem_map] at hx'; obtain ⟨row, _, rfl⟩ := hx'; simp [colsL]) (by simp [rowsL]; exact hi)]
 have e1 : ((rowsL r m xs).map fun row => (colsL m c ys 0).map (dotv row)).getD i [] = (colsL m c ys 0).map (dotv ((xs.drop (i * m)).take m)) := by simp [rowsL, hi]
 rw [e1]
 have e2 : ((colsL m c ys 0).map (dotv ((xs.drop (i * m)).take m))).getD j 0 = dotv ((xs.drop (i * m)).take m) (colL c ys 0 m j) := by simp [colsL, hj]
 rw [e2]
 have h5 : (i + 1) * m ≤ r * m := Nat.mul_le_mul_right m hi
 have h6 : (i + 1) * m = i * m + m := by rw [Nat.add_mul, Nat.one_mul]
 rw [dotv_sum (m := m) (by simp; omega)]
 refine sumN_congr (fun t ht => ?_)
 have e3 : ((xs.drop (i * m)).take m).getD t 0 = xs.getD (i * m + t) 0 := by
  rw [List.getD_eq_getElem?_getD, List.getD_eq_getElem?_getD, List.getElem?_take, if_pos ht, List.getElem?_drop]
 have e4 : (colL c ys 0 m j).getD t 0 = ys.getD (t * c + j) 0 := by simp [colL, ht]
 rw [e3, e4]
open Go.RowKit

theorem Mx.wk {w : World} {v : Value} {r c : Nat} {zs : List Int} {k b : Nat} (h : Mx w v r c zs k) {x0 x1 : Int} {a : Option Addr} {l n : Nat} (d : Cel w b 24 [.int .i64 x0, .int .i64 x1, .slice a l n]) (y0 y1 y2 : Value) : Mx (put3 w b y0 y1 y2) v r c zs k := by
 obtain ⟨at_, ps, h1, h2, h3, h4⟩ := h
 refine ⟨at_, ps, h1, ?_, h3.wk (d.wk3 _ _ _), h4⟩
 obtain ⟨a', c', e1, e2, e3, e4, e5⟩ := h2
 refine ⟨a', c', e1, e2, e3, e4, ?_⟩
 rcases e5 with e5 | ⟨b', off, e6, e7, e8, e9⟩
 ·exact .inl e5
 ·refine .inr ⟨b', off, e6, e7, by simpa using e8, fun j p hp => ?_⟩
  have hne : b ≠ b' := by
   intro e
   subst e
   obtain ⟨n1, a1, l1, c1, q⟩ := h3.isI p (List.mem_of_getElem? hp)
   have q1 := (e9 j p hp).1
   rw [show p.1 = .bool n1 by rw [q]] at q1
   have q2 : w.heap[b]? = some (.cells #[.int .i64 x0, .int .i64 x1, .slice a l n] 24 (0, 0)) := d
   simp only [World.cell?, q2] at q1
   simp at q1
   generalize off + j * 2 = o at q1
   match o, q1 with
   | 0, q1 => simp at q1
   | 1, q1 => simp at q1
   | 2, q1 => simp at q1
   | o + 3, q1 => simp at q1
  have e : ∀ o, (put3 w b y0 y1 y2).cell? ⟨b', o, none⟩ = w.cell? ⟨b', o, none⟩ := fun o => by
   rw [World.cell?_setCell_other _ _ _ _ (by simp <;> omega), World.cell?_setCell_other _ _ _ _ (by simp <;> omega), World.cell?_setCell_other _ _ _ _ (by simp <;> omega)]
  rw [e, e]
  exact e9 j p hp
end Go.Proofs.YtnpcfohimlfbdaaGreat
