/-
 QProd9ToTailL: Prod9, Mat9, Chk9, Mul9, Unit9, Add9, Law9, Wake9, OpenM9, Fresh, Far, Pure9, Wk9, Turn9, TailL, joined.
-/
import Derived.Test.YtnpcfohimlfbdaaGreatQCols9
import Derived.Test.YtnpcfohimlfbdaaGreatQAlikeToOpenV8
import Derived.Test.YtnpcfohimlfbdaaGreatQMadeToByWord
import Derived.Laws.AppendOwn
import Derived.Laws.AppendOwnNone
import Derived.Test.YtnpcfohimlfbdaaGreatQWordsToBulk
import Derived.Deep.RegionLaw
import Derived.Deep.RegionHeldLaw
import Derived.Test.YtnpcfohimlfbdaaGreatQFil9ToTail

set_option maxRecDepth 100000
set_option maxHeartbeats 6400000
set_option linter.unusedVariables false
set_option linter.unusedSimpArgs false
namespace Go.Proofs.YtnpcfohimlfbdaaGreat
open Go.RowKit

def Zcss (w : World) (pss : List (List (Value × Value))) (zss : List (List Int)) (k : Nat) : Prop := pss.length = zss.length ∧ ∀ (j : Nat) (ps : List (Value × Value)), pss[j]? = some ps → Zcs w ps (zss.getD j []) k
theorem Zcs.append {w : World} {ps qs : List (Value × Value)} {zs ys : List Int} {k : Nat} (h : Zcs w ps zs k) (h' : Zcs w qs ys k) : Zcs w (ps ++ qs) (zs ++ ys) k := by
 refine ⟨by simp [h.1, h'.1], fun j p z hp hz => ?_⟩
 by_cases q : j < ps.length
 ·rw [List.getElem?_append_left q] at hp
  rw [List.getElem?_append_left (by rw [← h.1]; exact q)] at hz
  exact h.2 j p z hp hz
 ·rw [List.getElem?_append_right (by omega)] at hp
  rw [List.getElem?_append_right (by rw [← h.1]; omega), ← h.1] at hz
  exact h'.2 _ p z hp hz
theorem Zcss.flat {w : World} {k : Nat} : ∀ {pss : List (List (Value × Value))} {zss : List (List Int)}, Zcss w pss zss k → Zcs w pss.flatten zss.flatten k
 | [], [], _ => ⟨rfl, fun j p z hp => by simp at hp⟩
 | [], z :: zss, h => by have := h.1; simp at this
 | p :: pss, [], h => by have := h.1; simp at this
 | p :: pss, z :: zss, h => by
  have h1 := h.2 0 p rfl
  have h2 : Zcss w pss zss k := ⟨by have := h.1; simpa using this, fun j ps hp => by simpa using h.2 (j + 1) ps (by simpa using hp)⟩
  simpa using Zcs.append h1 (Zcss.flat h2)
theorem Zis.isI {w : World} {ps : List (Value × Value)} {zs : List Int} {k : Nat} (h : Zis w ps zs k) : ∀ p ∈ ps, IsI p := fun p hp => by
 obtain ⟨j, hj, e⟩ := List.getElem_of_mem hp
 have h1 : ps[j]? = some p := by rw [List.getElem?_eq_getElem hj, e]
 have h2 : zs[j]? = some (zs[j]'(by rw [← h.1]; exact hj)) := List.getElem?_eq_getElem _
 exact (h.2 j p _ h1 h2).isI
def Gridded (w : World) (zss : List (List Int)) (k : Nat) (e : Ending) (w' : World) : Prop := ∃ u pss, e = .returned u ∧ Prr w.heap.size w' u pss ∧ Zcss w' pss zss k ∧ Below w.heap.size w w'
theorem filR_grid {w : World} {g n B k : Nat} {zss : List (List Int)} (h : FilR w g n n (fun j u => ∃ ps, Prs B w u ps ∧ Zcs w ps (zss.getD j []) k)) (hl : zss.length = n) (hn : n ≤ 1048576) : ∃ pss, Prr B w (.slice (some ⟨g, 0, none⟩) n n) pss ∧ Zcss w pss zss k := by
 have h0 := h
 obtain ⟨vs, h1, h2, hw, h3⟩ := h
 obtain ⟨q, hq⟩ := Deep.choose_lt (α := List (Value × Value)) (n := n) (p := fun j ps => ∀ u, vs[j]? = some u → Prs B w u ps ∧ Zcs w ps (zss.getD j []) k) (fun j hj => by
  obtain ⟨ps, p1, p2⟩ := h3 j _ hj (List.getElem?_eq_getElem (by omega))
  refine ⟨ps, fun u hu => ?_⟩
  rw [List.getElem?_eq_getElem (by omega), Option.some.injEq] at hu
  rw [← hu]
  exact ⟨p1, p2⟩)
 have key : ∀ j ps, ((List.range n).map q)[j]? = some ps → j < n ∧ ps = q j := fun j ps hp => by
  have hj : j < n := by simpa using (List.getElem?_eq_some_iff.1 hp).1
  rw [List.getElem?_map, List.getElem?_range hj] at hp
  exact ⟨hj, by simpa using hp.symm⟩
 have hv : ∀ j (hj : j < n), vs[j]? = some (vs[j]'(by omega)) := fun j hj => List.getElem?_eq_getElem (by omega)
 refine ⟨(List.range n).map q, ⟨some ⟨g, 0, none⟩, n, by simp, by simp, by simpa using hn, .inr ⟨g, 0, rfl, h1.blk, fun j ps hp => ?_⟩⟩, by simp [hl], fun j ps hp => ?_⟩
 ·obtain ⟨hj, rfl⟩ := key j ps hp
  exact ⟨_, by rw [Nat.zero_add]; exact h1.at (hv j hj), (hq j hj _ (hv j hj)).1⟩
 ·obtain ⟨hj, rfl⟩ := key j ps hp
  exact (hq j hj _ (hv j hj)).2
def GridH (w : World) (g n k : Nat) (zss : List (List Int)) (gk : Nat) (s : Value) (wx : World) : Prop :=
 ∃ i : Nat, s = .int .i64 (i : Int) ∧ i ≤ n ∧ gk = n - i ∧ FilR wx g n i (fun j u => ∃ ps, Prs (g + 1) wx u ps ∧ Zcs wx ps (zss.getD j []) k) ∧ Below w.heap.size w wx

/-- A sound matrix with these entries, in whatever form; in least form. -/
def Mx (w : World) (v : Value) (r c : Nat) (zs : List Int) (k : Nat) : Prop := ∃ at_ ps, v = matv r c at_ ∧ Prs 0 w at_ ps ∧ Zis w ps zs k ∧ zs.length = r * c ∧ r ≤ 64 ∧ c ≤ 64
def Mc (w : World) (v : Value) (r c : Nat) (zs : List Int) (k : Nat) : Prop := ∃ at_ ps, v = matv r c at_ ∧ Prs 0 w at_ ps ∧ Zcs w ps zs k ∧ zs.length = r * c ∧ r ≤ 64 ∧ c ≤ 64
theorem Mx.now {w w' : World} {v : Value} {r c : Nat} {zs : List Int} {k : Nat} (h : Mx w v r c zs k) (hb : Below w.heap.size w w') : Mx w' v r c zs k := by
 obtain ⟨a, ps, h1, h2, h3, h4⟩ := h
 exact ⟨a, ps, h1, h2.now hb, h3.now hb, h4⟩
theorem Mc.mx {w : World} {v : Value} {r c : Nat} {zs : List Int} {k : Nat} (h : Mc w v r c zs k) : Mx w v r c zs k := by
 obtain ⟨a, ps, h1, h2, h3, h4⟩ := h
 exact ⟨a, ps, h1, h2, h3.zis, h4⟩
theorem Mx.form {w : World} {v : Value} {r c : Nat} {zs : List Int} {k : Nat} (h : Mx w v r c zs k) : ∃ a cap, v = matv r c (.slice a (r * c) cap) ∧ r ≤ 64 ∧ c ≤ 64 := by
 obtain ⟨a, ps, h1, h2, h3, h4, h5, h6⟩ := h
 obtain ⟨a0, c0, rfl, -, -, -, -⟩ := h2.form
 rw [h3.1, h4] at h1
 exact ⟨a0, c0, h1, h5, h6⟩
theorem ziss_rows {w : World} {ps : List (Value × Value)} {xs : List Int} {k r m : Nat} (h : Zis w ps xs k) : Ziss w (rowsL r m ps) (rowsL r m xs) k := by
 refine ⟨by simp [rowsL], fun j qs hq => ?_⟩
 have hj : j < r := by simpa [rowsL] using (List.getElem?_eq_some_iff.1 hq).1
 rw [rowsL_at hj, Option.some.injEq] at hq
 have e : (rowsL r m xs).getD j [] = (xs.drop (j * m)).take m := by simp [rowsL, hj]
 rw [e, ← hq]
 refine ⟨by simp [h.1], fun t p z hp hz => ?_⟩
 rw [List.getElem?_take] at hp hz
 by_cases q : t < m
 ·rw [if_pos q, List.getElem?_drop] at hp hz
  exact h.2 _ p z hp hz
 ·rw [if_neg q] at hp; cases hp
theorem ziss_cols {w : World} {ps : List (Value × Value)} {ys : List Int} {k m c : Nat} (h : Zis w ps ys k) (hl : ys.length = m * c) : Ziss w (colsL m c ps zpair) (colsL m c ys 0) k := by
 refine ⟨by simp [colsL], fun j qs hq => ?_⟩
 have hj : j < c := by simpa [colsL] using (List.getElem?_eq_some_iff.1 hq).1
 have e : (colsL m c ys 0).getD j [] = colL c ys 0 m j := by simp [colsL, hj]
 have e2 : qs = colL c ps zpair m j := by simp [colsL, hj] at hq; exact hq.symm
 rw [e, e2]
 refine ⟨by simp [colL_length], fun t p z hp hz => ?_⟩
 have ht : t < m := by simpa [colL] using (List.getElem?_eq_some_iff.1 hp).1
 have h5 : (t + 1) * c ≤ m * c := Nat.mul_le_mul_right c ht
 have h6 : (t + 1) * c = t * c + c := by rw [Nat.add_mul, Nat.one_mul]
 have h7 : t * c + j < ys.length := by omega
 have h8 : t * c + j < ps.length := by rw [h.1]; exact h7
 have e3 : p = ps[t * c + j] := by simp [colL, ht, h8] at hp; exact hp.symm
 have e4 : z = ys[t * c + j] := by simp [colL, ht, h7] at hz; exact hz.symm
 rw [e3, e4]
 exact h.2 _ _ _ (List.getElem?_eq_getElem h8) (List.getElem?_eq_getElem h7)
theorem rows_len {r m : Nat} {xs : List Int} (hl : xs.length = r * m) : ∀ row ∈ rowsL r m xs, row.length = m := by
 intro row hrow
 simp only [rowsL, List.mem_map, List.mem_range] at hrow
 obtain ⟨i, hi, rfl⟩ := hrow
 have h5 : (i + 1) * m ≤ r * m := Nat.mul_le_mul_right m hi
 have h6 : (i + 1) * m = i * m + m := by rw [Nat.add_mul, Nat.one_mul]
 simp
 omega
theorem cols_len {m c : Nat} {ys : List Int} : ∀ col ∈ colsL m c ys 0, col.length = m := by
 intro col hcol
 simp only [colsL, List.mem_map, List.mem_range] at hcol
 obtain ⟨j, hj, rfl⟩ := hcol
 exact colL_length
theorem same_of {w : World} {pss : List (List (Value × Value))} {zss : List (List Int)} {k m : Nat} (h : Zcss w pss zss k) (hl : ∀ z ∈ zss, z.length = m) : Same9 m pss := by
 intro ps hps
 obtain ⟨j, hj, e⟩ := List.getElem_of_mem hps
 have h1 : pss[j]? = some ps := by rw [List.getElem?_eq_getElem hj, e]
 have hz := h.2 j ps h1
 have hj2 : j < zss.length := by rw [← h.1]; exact hj
 refine ⟨?_, hz.zis.isI⟩
 rw [hz.1]
 have e2 : zss.getD j [] = zss[j] := by simp [hj2]
 rw [e2]
 exact hl _ (List.getElem_mem hj2)
abbrev matO (r c : Nat) (at_ : Value) : Obj := .cells #[.int .i64 (r : Int), .int .i64 (c : Int), at_] 24

theorem isShape_yes {w : World} {r c : Nat} (hr : r ≤ 64) (hc : c ≤ 64) : Calls Tryz.prog 51 #[.int .i64 (r : Int), .int .i64 (c : Int)] w fun e w' => e = .returned (.bool true) ∧ w' = w := by
 have h1 : (0 : Int) ≤ (r : Int) := by omega
 have h2 : (0 : Int) ≤ (c : Int) := by omega
 have h3 : (r : Int) ≤ 64 := by omega
 have h4 : (c : Int) ≤ 64 := by omega
 have h5 : max (r : Int) (c : Int) ≤ 64 := by omega
 have h6 : 0 ≤ min (r : Int) (c : Int) := by omega
 go_enter Tryz.func51, Tryz.ntmps51
 go_wp2
 go_ret
 exact ⟨rfl, rfl⟩
theorem check_yes {w : World} {v : Value} {r c : Nat} {zs : List Int} {k : Nat} (h : Mx w v r c zs k) : Calls Tryz.prog 26 #[v] w fun e w' => e = .returned (.int .i64 0) ∧ Below w.heap.size w w' := by
 obtain ⟨a, cap, rfl, hr, hc⟩ := h.form
 have hm0 := wrapM9 (i := r) (c := c) hr hc
 obtain ⟨n, hn⟩ : ∃ n, r * c = n := ⟨_, rfl⟩
 rw [hn] at hm0
 have hm2 := hm0
 rw [IntKind.wrap_i64] at hm2
 rw [hn]
 obtain ⟨W0, hW⟩ : ∃ W0, w.alloc (matO r c (.slice a n cap)) = W0 := ⟨_, rfl⟩
 obtain ⟨b0, sz0⟩ := alo1 w (matO r c (.slice a n cap))
 rw [hW] at b0 sz0
 have P1 : Hid (Cel W0 w.heap.size 24 (matc r c (.slice a n cap))) := by unfold Hid; rw [← hW]; exact Cel.new w _ _
 have x0 := P1.out.at (i := 0) rfl
 have x1 := P1.out.at (i := 1) rfl
 have x2 := P1.out.at (i := 2) rfl
 rw [← hW] at x0 x1 x2
 have HS := hid (isShape_yes (w := W0) hr hc)
 have G0 := hid b0
 have EW := hid hW
 have q0 : ((n : Int) != (n : Int)) = false := by simp
 clear b0 sz0 hW h hn P1
 go_enter Tryz.func26, Tryz.ntmps26
 go_wp2_with fail
 rw [EW.out]
 refine HS.out.mono ?_
 rintro e w1 ⟨rfl, rfl⟩
 rw [EW.out] at x0 x1 x2
 go_wp2
 go_ret
 exact ⟨rfl, G0.out⟩

/-- What a call answers that gives a matrix and an error. -/
def GivesMO (w : World) (r c : Nat) (zs : List Int) (k : Nat) (e : Ending) (w' : World) : Prop := ∃ v, e = .returned (.tuple #[v, .int .i64 0]) ∧ Mc w' v r c zs k ∧ Below w.heap.size w w'

theorem Arr.ne {w : World} {g b i : Nat} {u : Value} {ps : List (Value × Value)} (h : Arr w g ps) (hne : b ≠ g) : Arr (w.setCell ⟨b, i, none⟩ u) g ps := ⟨h.1.ne hne, h.2⟩
theorem Arr.put3 {w : World} {g b : Nat} {ps : List (Value × Value)} (h : Arr w g ps) (hne : b ≠ g) (y0 y1 y2 : Value) : Arr (put3 w b y0 y1 y2) g ps := ((h.ne hne).ne hne).ne hne


/-- Sound, by the numbers. -/
def Snd (r c : Int) (l : Nat) : Prop := 0 ≤ r ∧ r ≤ 64 ∧ 0 ≤ c ∧ c ≤ 64 ∧ (l : Int) = r * c

open Go.ChangeShapes Go.WideShapes Go.ChangeAt Go.RowKit

theorem Tryz.cellsM9 : Tryz.prog.cellsOf 24 = 3 := by kernel_rfl
theorem Tryz.cellsI9 : Tryz.prog.cellsOf 3 = 1 := by kernel_rfl
theorem Tryz.cellsL9 : Tryz.prog.cellsOf 22 = 1 := by kernel_rfl
/-- A matrix as it comes in, sound or not. -/
def Raw (w : World) (v : Value) (r c : Int) (l : Nat) (zs : List Int) : Prop := ∃ a cap ps, v = .agg #[.int .i64 r, .int .i64 c, .slice a l cap] ∧ Prs 0 w (.slice a l cap) ps ∧ Zis w ps zs 1048576 ∧ zs.length = l ∧ l ≤ 1048576
theorem Raw.now {w w' : World} {v : Value} {r c : Int} {l : Nat} {zs : List Int} (h : Raw w v r c l zs) (hb : Below w.heap.size w w') : Raw w' v r c l zs := by
 obtain ⟨a, cap, ps, h1, h2, h3, h4⟩ := h
 exact ⟨a, cap, ps, h1, h2.now hb, h3.now hb, h4⟩
theorem Raw.mx {w : World} {v : Value} {r c l : Nat} {zs : List Int} (h : Raw w v (r : Int) (c : Int) l zs) (hs : Snd (r : Int) (c : Int) l) : Mx w v r c zs 1048576 := by
 obtain ⟨a, cap, ps, h1, h2, h3, h4, h5⟩ := h
 obtain ⟨s1, s2, s3, s4, s5⟩ := hs
 exact ⟨_, ps, h1, h2, h3, by rw [h4]; exact Int.ofNat.inj (by simpa using s5), by omega, by omega⟩
theorem trod_struct3m {H : Type} {enc : TypeId × Value → H} {P : Program} {w : World} {base : Nat} {spare : Nat → Bool} {held : Bool} {t : TypeId} {f0 f1 f2 : Field} {fuel : Nat} {cs : List Value} {x : DataW H × List MemPlace} (ht : P.underlying t = some (.struct #[f0, f1, f2]))
  (h : DataW.trod enc P w base spare held fuel t cs = some x) :
  ∃ y0 y1 y2 n, x.1 = .agg [y0.1, y1.1, y2.1] ∧ cs.length = P.cellsOf t ∧ DataW.trod enc P w base spare held n f0.type ((cs.drop f0.offset).take (P.cellsOf f0.type)) = some y0 ∧ DataW.trod enc P w base spare held n f1.type ((cs.drop f1.offset).take (P.cellsOf f1.type)) = some y1 ∧ DataW.trod enc P w base spare held n f2.type ((cs.drop f2.offset).take (P.cellsOf f2.type)) = some y2 := by
 obtain ⟨xs, n, _, rfl, hl, hlen, hf⟩ := DataW.trod_struct ht h
 match xs, hlen with
 | [y0, y1, y2], _ => exact ⟨y0, y1, y2, n, by simp, hl, by simpa using hf 0 f0 rfl, by simpa using hf 1 f1 rfl, by simpa using hf 2 f2 rfl⟩
theorem open_list9 {H : Type} {enc : TypeId × Value → H} {W : World} {fuel : Nat} {v : Value} {y : DataW H × List MemPlace}
  (hf : DataW.trod enc Tryz.prog W 0 (fun _ => true) true fuel 22 [v] = some y) (hb : Rows.uptoBulk y.1 ≤ 1048576) :
  ∃ a l cap ps zs, v = .slice a l cap ∧ Prs 0 W (.slice a l cap) ps ∧ Zis W ps zs 1048576 ∧ zs.length = l ∧ l ≤ 1048576 := by
 have hn : ∀ c, v = .slice none 0 c → c = 0 := by
  rcases Deep.open_slice Tryz.underlying22 hf with ⟨hcs, _⟩ | ⟨x, len, cap, m, n, D, Pl, hcs, _⟩
  ·simp only [List.cons.injEq, and_true] at hcs
   intro c e
   rw [hcs] at e
   simpa using e.symm
  ·simp only [List.cons.injEq, and_true] at hcs
   intro c e
   rw [hcs] at e
   simp at e
 obtain ⟨zs, ks, h1, h2⟩ := open_ints1 hf hb
 have hz := h1.zl (K := 1048576) (by omega)
 obtain ⟨ps, p1, p2⟩ := hz.prs hn
 obtain ⟨a, c, e, -, hl, -⟩ := hz
 subst e
 exact ⟨a, zs.length, c, ps, zs, rfl, p1, p2, rfl, hl⟩
theorem open_mat9 {H : Type} {enc : TypeId × Value → H} {W : World} {r : Reach} {b0 : Nat} {v : Value} {d : DataW H} {p : List MemPlace}
  (hv : Value.okWide Tryz.prog W r b0 24 v) (h0 : DataW.Trod enc Tryz.prog W 0 (fun _ => true) true 24 v d p) (hb : Rows.uptoBulk d ≤ 1048576) :
  ∃ r c l zs, Raw W v r c l zs := by
 obtain ⟨cs, rfl, hsz⟩ := okWide_struct Tryz.underlying24 hv
 obtain ⟨fuel, hf⟩ := h0
 obtain ⟨y0, y1, y2, n, hx, hl, t0, t1, t2⟩ := trod_struct3m Tryz.underlying24 hf
 obtain ⟨L, rfl⟩ : ∃ L : List Value, cs = L.toArray := ⟨cs.toList, by simp⟩
 simp only [Value.cells] at hl t0 t1 t2
 rw [Tryz.cellsM9] at hl
 have hx' : d = .agg [y0.1, y1.1, y2.1] := hx
 subst hx'
 simp only [Rows.uptoBulk, Rows.uptoBulkAll] at hb
 match L, hl with
 | [e0, e1, e2], _ =>
  simp only [Tryz.cellsI9, Tryz.cellsL9, List.drop_zero, List.drop_succ_cons, List.take_succ_cons, List.take_zero] at t0 t1 t2
  obtain ⟨k0, q0, _, _⟩ := DataW.trod_int Tryz.underlying3 t0
  obtain ⟨k1, q1, _, _⟩ := DataW.trod_int Tryz.underlying3 t1
  simp only [List.cons.injEq, and_true] at q0 q1
  subst q0 q1
  obtain ⟨a, l, cap, ps, zs, rfl, h1, h2, h3, h4⟩ := open_list9 t2 (by omega)
  exact ⟨_, _, l, zs, a, cap, ps, rfl, h1, h2, h3, h4⟩
end Go.Proofs.YtnpcfohimlfbdaaGreat
namespace Go.Proofs.YtnpcfohimlfbdaaGreat
open Go.RowKit

/-- A slice that holds zs; where it holds anything, at the head of a row from block B on. -/
def Far (B : Nat) (w : World) (v : Value) (zs : List Int) : Prop :=
 WF zs ∧ Formed v ∧ ∃ a cap, v = .slice a zs.length cap ∧ zs.length ≤ cap ∧ zs.length ≤ 35184372088832 ∧ (zs = [] ∨ ∃ g r, B ≤ g ∧ a = some ⟨g, 0, none⟩ ∧ Row w g (ws zs ++ r))
theorem Far.sl {B : Nat} {w : World} {v : Value} {zs : List Int} (h : Far B w v zs) : Sl w.heap.size w v zs := by
 obtain ⟨hw, _, a, cap, h1, h2, h3, h4⟩ := h
 refine ⟨hw, a, cap, h1, h2, h3, ?_⟩
 rcases h4 with e | ⟨g, r, _, h5, h6⟩
 ·exact .inl e
 ·exact .inr ⟨g, 0, h5, h6.lt, fun j hj => by rw [Nat.zero_add]; exact h6.word hj⟩
theorem Far.form {B : Nat} {w : World} {v : Value} {zs : List Int} (h : Far B w v zs) : ∃ a cap, v = .slice a zs.length cap := by obtain ⟨_, _, a, cap, h1, _⟩ := h; exact ⟨a, cap, h1⟩
theorem run_append_empty (w : World) (ty : TypeId) (g : Nat) {B : Nat} {v : Value} {xs : List Int} (hsl : Sl B w v xs) (hf : Formed v) (hmx : xs.length ≤ 17592186044416) :
  ∃ v' w', (Builtin.append_ #[27, 27] ty #[.slice (some ⟨g, 0, none⟩) 0 0, v]).run Tryz.prog w = .ok v' w' ∧ Far w.heap.size w' v' xs ∧ Below w.heap.size w w' := by
 obtain ⟨i, hi, hz, hsz, hb⟩ := info_parts Tryz.infoW
 have ht := Tryz.underlying27
 obtain ⟨hw, ad, cap, rfl, hlc, hcm, hm⟩ := hsl
 rcases hf with e | ⟨ad', n', c', e⟩
 ·simp only [Value.slice.injEq] at e
  obtain ⟨rfl, e2, rfl⟩ := e
  obtain rfl : xs = [] := List.eq_nil_of_length_eq_zero e2
  refine ⟨.slice (some ⟨g, 0, none⟩) 0 0, w, ?_, ⟨WF.nil, .inr ⟨_, _, _, rfl⟩, _, 0, rfl, Nat.le_refl _, Nat.zero_le _, .inl rfl⟩, Below.refl _ _⟩
  simp [Builtin.append_, run_underlying ht, sizeOf, typeInfo, hi, Builtin.lenOf, Builtin.firstCells, storeCells]
 ·simp only [Value.slice.injEq] at e
  obtain ⟨rfl, _, _⟩ := e
  by_cases h0 : xs = []
  ·subst h0
   refine ⟨.slice (some ⟨g, 0, none⟩) 0 0, w, ?_, ⟨WF.nil, .inr ⟨_, _, _, rfl⟩, _, 0, rfl, Nat.le_refl _, Nat.zero_le _, .inl rfl⟩, Below.refl _ _⟩
   simp [Builtin.append_, run_underlying ht, sizeOf, typeInfo, hi, Builtin.lenOf, Builtin.firstCells, loadCells, loadCellsFrom, storeCells]
  ·have hpos : 0 < xs.length := by cases xs with
    | nil => exact absurd rfl h0
    | cons x r => simp
   have hnews : ∀ j u, (ws xs)[j]? = some u → w.cell? (ad'.add j) = some u := fun j u hj => by
    have hj' : j < xs.length := by
     have := (List.getElem?_eq_some_iff.1 hj).1
     simpa [length_ws] using this
    rcases hm with e | ⟨b, off, h1, h2, h3⟩
    ·exact absurd e h0
    ·simp only [Option.some.injEq] at h1
     subst h1
     have e : (⟨b, off, none⟩ : Addr).add j = ⟨b, off + j, none⟩ := by unfold Addr.add; split <;> simp_all
     rw [e, h3 j hj', ← hj]
     simp [ws, hj']
   have hfit : Builtin.nextslicecap (0 + xs.length) 0 * i.bytes ≤ 281474976710656 := by
    unfold Builtin.nextslicecap
    rw [if_pos (by omega), hb]
    omega
   have hr := run_append_grow (P := Tryz.prog) w 27 ty 51 i (.int .u64 0) ht hi hz ⟨g, 0, none⟩ 0 0 [] (by simp) (fun j v hj => by simp at hj) ad' xs.length cap (ws xs) (by rw [length_ws, hsz]; omega) hnews (by omega) (by omega) hfit
   have hge := grownCap_ge w (0 + xs.length) 0 51
   refine ⟨_, _, hr, ⟨hw, .inr ⟨_, _, _, rfl⟩, _, grownCap w (0 + xs.length) 0 51, by rw [Nat.zero_add], by omega, hcm, .inr ⟨w.heap.size, (Builtin.zeroCells (Value.int .u64 0).cells (grownCap w (0 + xs.length) 0 51 - (0 + xs.length))).toList, Nat.le_refl _, rfl, ?_⟩⟩, ?_⟩
   ·have := heap_alloc_new w.drew (.cells (([] : List Value).toArray ++ (ws xs).toArray ++ Builtin.zeroCells (Value.int .u64 0).cells (grownCap w (0 + xs.length) 0 51 - (0 + xs.length))) 51)
    unfold Row
    refine Eq.trans this ?_
    simp
   ·exact ((Below.refl w.heap.size w).drew).alloc (Nat.le_refl _) _
end Go.Proofs.YtnpcfohimlfbdaaGreat
namespace Go.Proofs.YtnpcfohimlfbdaaGreat

open Go.RowKit

abbrev fnLeast : Value := .func (.func 53) #[] #[]
theorem two_boxes {w W0 : World} {o1 : List Value} (hW : (w.alloc (.cells o1.toArray 24)).alloc mbox = W0) :
  Cel W0 w.heap.size 24 o1 ∧ Cel W0 (w.heap.size + 1) 24 [.int .i64 0, .int .i64 0, .slice none 0 0] := by
 refine ⟨?_, ?_⟩
 ·rw [← hW]
  exact (Cel.new w 24 o1).step ((Below.refl _ _).alloc (Nat.le_refl _) _)
 ·rw [← hW]
  have := Cel.new (w.alloc (.cells o1.toArray 24)) 24 [.int .i64 0, .int .i64 0, .slice none 0 0]
  simpa using this

def okV (md : Region.Mode) (ops : Array Oper) (n : Nat) : Array Bool → List (Nat × Value) → Bool
 | _, [] => true
 | l, (i, _) :: r => (Region.noSelect ops && Region.free md ops l i && (Region.ready md ops l).contains i && Region.sinkB md ops n && Region.chainB md ops n && decide (n < ops.size) && decide (i < n) && headB md ops n l) && okV md ops n (l.setIfInBounds i true) r
def lisV : Array Bool → List (Nat × Value) → Array Bool
 | l, [] => l
 | l, (i, _) :: r => lisV (l.setIfInBounds i true) r
def actV (ops : Array Oper) : Act → List (Nat × Value) → Act
 | a, [] => a
 | a, (i, v) :: r => match ops[i]? with
  | some o => actV ops (a.put o.dst v) r
  | none => a
def TakesV (P : Program) (ops : Array Oper) (S : World → Prop) : Act → List (Nat × Value) → Prop
 | _, [] => True
 | a, (i, v) :: r => match ops[i]? with
  | some o => YieldsIf P ops S o v a ∧ TakesV P ops S (a.put o.dst v) r
  | none => False
section
variable {P : Program} {ops : Array Oper} {Q : Exit → Act → World → Prop} {md : Region.Mode} {S : World → Prop} {n : Nat}
theorem wpAnyT_takes (hQ : ∀ c d v a w, Q (.panic c) (a.put d v) w → Q (.panic c) a w) : ∀ (vs : List (Nat × Value)) (fuel : Nat) (listed : Array Bool) (a : Act) (w : World), okV md ops n listed vs = true → TakesV P ops S a vs → S w → wpAnyT P md ops Q S n fuel (lisV listed vs) (actV ops a vs) w → wpAnyT P md ops Q S n (fuel + vs.length) listed a w
 | [], fuel, listed, a, w, _, _, _, h => h
 | (i, v) :: r, fuel, listed, a, w, hok, hy, hS, h => by
  rw [okV, Bool.and_eq_true] at hok
  cases e : ops[i]? with
  | none => simp only [TakesV, e] at hy
  | some o =>
   simp only [TakesV, e] at hy
   simp only [actV, e, lisV] at h
   exact wpAnyT_take (fuel := fuel + r.length) e hok.1 (fun c a w hq => hQ c _ _ a w hq) hy.1 hS (wpAnyT_takes hQ r fuel _ _ w hok.2 hy.2 hS h)
theorem wpAnyT_list {fuel : Nat} {listed : Array Bool} {a : Act} {w : World} (vs : List (Nat × Value)) (m : Nat) (hy : TakesV P ops S a vs) (hS : S w)
  (h : wpAnyT P md ops Q S n fuel (lisV listed vs) (actV ops a vs) w) (hm : vs.length = m := by rfl) (hok : okV md ops n listed vs = true := by kernel_rfl) (hQ : ∀ c d v a w, Q (.panic c) (a.put d v) w → Q (.panic c) a w := by (intro _ d _ _ _ h; cases d <;> exact h)) : wpAnyT P md ops Q S n (fuel + m) listed a w := by
 subst hm
 exact wpAnyT_takes hQ vs fuel listed a w hok hy hS h
end
theorem sI9 {α : Type _} (l : List α) (i : Nat) (a : α) : l.toArray.setIfInBounds i a = (l.set i a).toArray := List.setIfInBounds_toArray l i a
theorem s09 {α : Type _} {a b : α} {l : List α} : (a :: l).set 0 b = b :: l := List.set_cons_zero
theorem s19 {α : Type _} {a b : α} {n : Nat} {l : List α} : (a :: l).set (n + 1) b = a :: l.set n b := List.set_cons_succ
theorem g09 {α : Type _} {a : α} {l : List α} : (a :: l)[0]? = some a := List.getElem?_cons_zero
theorem g19 {α : Type _} {a : α} {n : Nat} {l : List α} : (a :: l)[n + 1]? = l[n]? := List.getElem?_cons_succ
theorem gA9 {α : Type _} {l : List α} {n : Nat} : l.toArray[n]? = l[n]? := List.getElem?_toArray
end Go.Proofs.YtnpcfohimlfbdaaGreat
