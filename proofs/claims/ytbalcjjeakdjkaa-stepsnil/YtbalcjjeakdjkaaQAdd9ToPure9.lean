/-
  QAdd9ToPure9: Add9, Law9, Wake9, OpenM9, Pure9, joined.
-/
import Derived.Test.YtbalcjjeakdjkaaQUnit9
import Derived.Test.YtbalcjjeakdjkaaQAlikeToOpenV8

/- Add9 -/
namespace Go.Proofs.Ytbalcjjeakdjkaa
open Go.RowKit
set_option linter.unusedVariables false

def addL (n : Nat) (xs ys : List Int) : List Int := (List.range n).map fun j => xs.getD j 0 + ys.getD j 0
def PlaceH (w : World) (g r c la lb ca cb N k : Nat) (aa ab : Option Addr) (F : Nat → Int) (gk : Nat) (s : Value) (wx : World) : Prop :=
  ∃ i : Nat, s = .int .i64 (i : Int) ∧ i ≤ N ∧ gk = N - i ∧ Fil wx g N i F k ∧ Cel wx w.heap.size 33 (matc r c (.slice aa la ca)) ∧ Cel wx (w.heap.size + 1) 33 (matc r c (.slice ab lb cb)) ∧ Cel wx (w.heap.size + 1 + 1) 33 [.int .i64 0, .int .i64 0, .slice none 0 0] ∧ Below w.heap.size w wx
theorem Mx.zl {w : World} {r c : Nat} {at_ : Value} {zs : List Int} {k : Nat} (h : Mx w (matv r c at_) r c zs k) : Zl w at_ zs k ∧ zs.length = r * c := by
  obtain ⟨a, ps, e, h2, h3, h4, -, -⟩ := h
  simp only [matv, Value.agg.injEq, Array.mk.injEq, List.cons.injEq, and_true, true_and] at e
  subst e
  exact ⟨zl_of h2 h3, h4⟩
abbrev fnAdd : Value := .func (.func 77) #[] #[]
end Go.Proofs.Ytbalcjjeakdjkaa

/- Law9 -/
namespace Go.Proofs.Ytbalcjjeakdjkaa
open Go.RowKit
set_option linter.unusedVariables false

theorem Zcs.at9 {B : Nat} {w : World} {b off l c : Nat} {ps : List (Value × Value)} {zs : List Int} {k : Nat} (h : Prs B w (.slice (some ⟨b, off, none⟩) l c) ps) (hz : Zcs w ps zs k) {i : Nat} (hi : i < zs.length) : ∃ n, ∃ xs : List Int, ∃ a c, w.cell? ⟨b, off + i * 2, none⟩ = some (.bool n) ∧ w.cell? ⟨b, off + i * 2 + 1, none⟩ = some (.slice a xs.length c) ∧ Zc w (.agg #[.bool n, .slice a xs.length c]) zs[i] k := by
  have hp : ps[i]? = some (ps[i]'(by rw [hz.1]; exact hi)) := List.getElem?_eq_getElem _
  have q := h.at hp
  have z := hz.2 i _ _ hp (List.getElem?_eq_getElem hi)
  have z' := z
  obtain ⟨n, xs, a, c, e, -⟩ := z
  simp only [Value.agg.injEq, Array.mk.injEq, List.cons.injEq, and_true] at e
  rw [e.1, e.2] at q
  rw [e.1, e.2] at z'
  exact ⟨n, xs, a, c, q.1, q.2, z'⟩
def SameH (w : World) (n gk : Nat) (s : Value) (wx : World) : Prop := ∃ i : Nat, s = .int .i64 (i : Int) ∧ i ≤ n ∧ gk = n - i ∧ Below w.heap.size w wx
/-- Sound, by the numbers. -/
def Snd (r c : Int) (l : Nat) : Prop := 0 ≤ r ∧ r ≤ 64 ∧ 0 ≤ c ∧ c ≤ 64 ∧ (l : Int) = r * c
def Sounded (w : World) (r c : Int) (l : Nat) (e : Ending) (w' : World) : Prop := ∃ b : Bool, e = .returned (.bool b) ∧ (b = true ↔ Snd r c l) ∧ Below w.heap.size w w'
end Go.Proofs.Ytbalcjjeakdjkaa

/- Wake9 -/
namespace Go.Proofs.Ytbalcjjeakdjkaa
open Go.RowKit
set_option linter.unusedVariables false

theorem mx_one {W : World} {b k : Nat} {x y : Value} {z : Int} (d : Duo W b x y) (h : Zi W (.agg #[x, y]) z k) : Mx W (.agg #[.int .i64 1, .int .i64 1, .slice (some ⟨b, 0, none⟩) 1 1]) 1 1 [z] k := by
  refine ⟨.slice (some ⟨b, 0, none⟩) 1 1, [(x, y)], rfl, ⟨_, _, rfl, by simp, by simp, (fun q => by cases q), .inr ⟨b, 0, rfl, Nat.zero_le _, d.blk, fun j p hp => ?_⟩⟩, ⟨rfl, fun j p q hp hq => ?_⟩, rfl, by omega, by omega⟩
  · match j, hp with
    | 0, hp =>
      simp at hp
      subst hp
      exact ⟨d.c0, d.c1⟩
  · match j, hp, hq with
    | 0, hp, hq =>
      simp at hp hq
      subst hp hq
      exact h
theorem six9 : prodL 1 1 1 [2] [3] = [6] := by decide
theorem Zc.parts {w : World} {v : Value} {z : Int} {k : Nat} (h : Zc w v z k) : ∃ n, ∃ xs : List Int, ∃ a c, v = .agg #[.bool n, .slice a xs.length c] := by
  obtain ⟨n, xs, a, c, e, -⟩ := h
  exact ⟨n, xs, a, c, e⟩
end Go.Proofs.Ytbalcjjeakdjkaa

/- OpenM9 -/
namespace Go.Proofs.Ytbalcjjeakdjkaa
open Go.ChangeShapes Go.WideShapes Go.ChangeAt Go.RowKit
set_option linter.unusedVariables false

theorem Try.cellsM9 : Try.prog.cellsOf 33 = 3 := by kernel_rfl
theorem Try.cellsI9 : Try.prog.cellsOf 3 = 1 := by kernel_rfl
theorem Try.cellsL9 : Try.prog.cellsOf 31 = 1 := by kernel_rfl
/-- A matrix as it comes in, sound or not. -/
def Raw (w : World) (v : Value) (r c : Int) (l : Nat) (zs : List Int) : Prop := ∃ a cap ps, v = .agg #[.int .i64 r, .int .i64 c, .slice a l cap] ∧ Prs 0 w (.slice a l cap) ps ∧ Zis w ps zs 1048576 ∧ zs.length = l ∧ l ≤ 1048576
theorem Raw.now {w w' : World} {v : Value} {r c : Int} {l : Nat} {zs : List Int} (h : Raw w v r c l zs) (hb : Below w.heap.size w w') : Raw w' v r c l zs := by
  obtain ⟨a, cap, ps, h1, h2, h3, h4⟩ := h
  exact ⟨a, cap, ps, h1, h2.now hb, h3.now hb, h4⟩
theorem Raw.mx {w : World} {v : Value} {r c l : Nat} {zs : List Int} (h : Raw w v (r : Int) (c : Int) l zs) (hs : Snd (r : Int) (c : Int) l) : Mx w v r c zs 1048576 := by
  obtain ⟨a, cap, ps, h1, h2, h3, h4, h5⟩ := h
  obtain ⟨s1, s2, s3, s4, s5⟩ := hs
  exact ⟨_, ps, h1, h2, h3, by rw [h4]; exact Int.ofNat.inj (by simpa using s5), by omega, by omega⟩
theorem trod_struct3m {H : Type} {enc : TypeId × Value → H} {P : Program} {w : World} {base : Nat} {spare : Nat → Bool} {held : Bool} {t : TypeId} {f0 f1 f2 : Field} {fuel : Nat} {cs : List Value} {x : DataW H × List MemPlace} (ht : P.underlying t = some (.struct #[f0, f1, f2]))
    (h : DataW.trod enc P w base spare held fuel t cs = some x) :
    ∃ y0 y1 y2 n, x.1 = .agg [y0.1, y1.1, y2.1] ∧ cs.length = P.cellsOf t ∧ DataW.trod enc P w base spare held n f0.type ((cs.drop f0.offset).take (P.cellsOf f0.type)) = some y0 ∧ DataW.trod enc P w base spare held n f1.type ((cs.drop f1.offset).take (P.cellsOf f1.type)) = some y1 ∧ DataW.trod enc P w base spare held n f2.type ((cs.drop f2.offset).take (P.cellsOf f2.type)) = some y2 := by
  obtain ⟨xs, n, _, rfl, hl, hlen, hf⟩ := DataW.trod_struct ht h
  match xs, hlen with
  | [y0, y1, y2], _ => exact ⟨y0, y1, y2, n, by simp, hl, by simpa using hf 0 f0 rfl, by simpa using hf 1 f1 rfl, by simpa using hf 2 f2 rfl⟩
set_option maxRecDepth 100000 in
theorem open_list9 {H : Type} {enc : TypeId × Value → H} {W : World} {fuel : Nat} {v : Value} {y : DataW H × List MemPlace}
    (hf : DataW.trod enc Try.prog W 0 (fun _ => true) true fuel 31 [v] = some y) (hb : Rows.uptoBulk y.1 ≤ 1048576) :
    ∃ a l cap ps zs, v = .slice a l cap ∧ Prs 0 W (.slice a l cap) ps ∧ Zis W ps zs 1048576 ∧ zs.length = l ∧ l ≤ 1048576 := by
  have hn : ∀ c, v = .slice none 0 c → c = 0 := by
    rcases Deep.open_slice Try.underlying31 hf with ⟨hcs, _⟩ | ⟨x, len, cap, m, n, D, Pl, hcs, _⟩
    · simp only [List.cons.injEq, and_true] at hcs
      intro c e
      rw [hcs] at e
      simpa using e.symm
    · simp only [List.cons.injEq, and_true] at hcs
      intro c e
      rw [hcs] at e
      simp at e
  obtain ⟨zs, ks, h1, h2⟩ := open_ints1 hf hb
  have hz := h1.zl (K := 1048576) (by omega)
  obtain ⟨ps, p1, p2⟩ := hz.prs hn
  obtain ⟨a, c, e, -, hl, -⟩ := hz
  subst e
  exact ⟨a, zs.length, c, ps, zs, rfl, p1, p2, rfl, hl⟩
set_option maxRecDepth 100000 in
theorem open_mat9 {H : Type} {enc : TypeId × Value → H} {W : World} {r : Reach} {b0 : Nat} {v : Value} {d : DataW H} {p : List MemPlace}
    (hv : Value.okWide Try.prog W r b0 33 v) (h0 : DataW.Trod enc Try.prog W 0 (fun _ => true) true 33 v d p) (hb : Rows.uptoBulk d ≤ 1048576) :
    ∃ r c l zs, Raw W v r c l zs := by
  obtain ⟨cs, rfl, hsz⟩ := okWide_struct Try.underlying33 hv
  obtain ⟨fuel, hf⟩ := h0
  obtain ⟨y0, y1, y2, n, hx, hl, t0, t1, t2⟩ := trod_struct3m Try.underlying33 hf
  obtain ⟨L, rfl⟩ : ∃ L : List Value, cs = L.toArray := ⟨cs.toList, by simp⟩
  simp only [Value.cells] at hl t0 t1 t2
  rw [Try.cellsM9] at hl
  have hx' : d = .agg [y0.1, y1.1, y2.1] := hx
  subst hx'
  simp only [Rows.uptoBulk, Rows.uptoBulkAll] at hb
  match L, hl with
  | [e0, e1, e2], _ =>
    simp only [Try.cellsI9, Try.cellsL9, List.drop_zero, List.drop_succ_cons, List.take_succ_cons, List.take_zero] at t0 t1 t2
    obtain ⟨k0, q0, _, _⟩ := DataW.trod_int Try.underlying3 t0
    obtain ⟨k1, q1, _, _⟩ := DataW.trod_int Try.underlying3 t1
    simp only [List.cons.injEq, and_true] at q0 q1
    subst q0 q1
    obtain ⟨a, l, cap, ps, zs, rfl, h1, h2, h3, h4⟩ := open_list9 t2 (by omega)
    exact ⟨_, _, l, zs, a, cap, ps, rfl, h1, h2, h3, h4⟩
end Go.Proofs.Ytbalcjjeakdjkaa

/- Pure9 -/
namespace Go.Proofs.Ytbalcjjeakdjkaa
set_option linter.unusedVariables false

def sumN (n : Nat) (f : Nat → Int) : Int := zsum ((List.range n).map f)
theorem sumN_zero (f : Nat → Int) : sumN 0 f = 0 := rfl
theorem sumN_succ (n : Nat) (f : Nat → Int) : sumN (n + 1) f = sumN n f + f n := by
  unfold sumN
  rw [List.range_succ, List.map_append, zsum_append]
  simp [zsum]
theorem sumN_congr {n : Nat} {f g : Nat → Int} (h : ∀ t, t < n → f t = g t) : sumN n f = sumN n g := by
  induction n with
  | zero => rfl
  | succ n ih => rw [sumN_succ, sumN_succ, ih (fun t ht => h t (by omega)), h n (by omega)]
theorem sumN_add (n : Nat) (f g : Nat → Int) : sumN n (fun t => f t + g t) = sumN n f + sumN n g := by
  induction n with
  | zero => rfl
  | succ n ih => rw [sumN_succ, sumN_succ, sumN_succ, ih]; omega
theorem sumN_mul_left (n : Nat) (x : Int) (f : Nat → Int) : sumN n (fun t => x * f t) = x * sumN n f := by
  induction n with
  | zero => simp [sumN_zero]
  | succ n ih => rw [sumN_succ, sumN_succ, ih, Int.mul_add]
theorem sumN_mul_right (n : Nat) (x : Int) (f : Nat → Int) : sumN n (fun t => f t * x) = sumN n f * x := by
  induction n with
  | zero => simp [sumN_zero]
  | succ n ih => rw [sumN_succ, sumN_succ, ih, Int.add_mul]
theorem sumN_none (n : Nat) : sumN n (fun _ => 0) = 0 := by
  induction n with
  | zero => rfl
  | succ n ih => rw [sumN_succ, ih]; rfl
theorem sumN_swap (n m : Nat) (f : Nat → Nat → Int) : sumN n (fun s => sumN m (fun t => f s t)) = sumN m (fun t => sumN n (fun s => f s t)) := by
  induction n with
  | zero => simp [sumN_zero, sumN_none]
  | succ n ih =>
    rw [sumN_succ, ih, ← sumN_add]
    exact sumN_congr (fun t _ => (sumN_succ n _).symm)
theorem sumN_one {n i : Nat} (h : i < n) (f : Nat → Int) : sumN n (fun t => if t = i then f t else 0) = f i := by
  induction n with
  | zero => omega
  | succ n ih =>
    rw [sumN_succ]
    by_cases q : i = n
    · subst q
      rw [if_pos rfl, sumN_congr (g := fun _ => 0) (fun t ht => if_neg (by omega)), sumN_none]
      omega
    · rw [ih (by omega), if_neg (by omega)]
      omega
theorem flat_getD {α : Type} {c j : Nat} {d : α} (hj : j < c) : ∀ {L : List (List α)} {i : Nat}, (∀ x ∈ L, x.length = c) → i < L.length → L.flatten.getD (i * c + j) d = (L.getD i []).getD j d
  | [], i, _, h => by simp at h
  | a :: L, 0, hL, _ => by
    have ha : a.length = c := hL a (by simp)
    simp only [List.flatten_cons, Nat.zero_mul, Nat.zero_add, List.getD_cons_zero]
    rw [List.getD_eq_getElem?_getD, List.getD_eq_getElem?_getD, List.getElem?_append_left (by omega)]
  | a :: L, i + 1, hL, h => by
    have ha : a.length = c := hL a (by simp)
    have h2 : (i + 1) * c = i * c + c := by rw [Nat.add_mul, Nat.one_mul]
    have := flat_getD hj (L := L) (i := i) (d := d) (fun x hx => hL x (by simp [hx])) (by simpa using h)
    simp only [List.flatten_cons, List.getD_cons_succ]
    rw [← this, List.getD_eq_getElem?_getD, List.getD_eq_getElem?_getD, List.getElem?_append_right (by omega), show (i + 1) * c + j - a.length = i * c + j by omega]
theorem mat_ext {r c : Nat} {xs ys : List Int} (hx : xs.length = r * c) (hy : ys.length = r * c) (h : ∀ i j, i < r → j < c → xs.getD (i * c + j) 0 = ys.getD (i * c + j) 0) : xs = ys := by
  apply List.ext_getElem
  · omega
  · intro t h1 h2
    have hc : 0 < c := by
      rcases Nat.eq_zero_or_pos c with q | q
      · subst q; simp at hx; omega
      · exact q
    have e := h (t / c) (t % c) (by rw [Nat.div_lt_iff_lt_mul hc]; omega) (Nat.mod_lt _ hc)
    have e2 : t / c * c + t % c = t := by rw [Nat.mul_comm]; exact Nat.div_add_mod t c
    rw [e2] at e
    simpa [h1, h2] using e
theorem dotv_sum {m : Nat} {xs ys : List Int} (hx : xs.length = m) : dotv xs ys = sumN m (fun t => xs.getD t 0 * ys.getD t 0) := by
  unfold dotv sumN
  rw [hx]
theorem prod_at {r m c i j : Nat} {xs ys : List Int} (hx : xs.length = r * m) (hi : i < r) (hj : j < c) : (prodL r m c xs ys).getD (i * c + j) 0 = sumN m (fun t => xs.getD (i * m + t) 0 * ys.getD (t * c + j) 0) := by
  unfold prodL
  rw [flat_getD hj (by intro x hx'; simp only [List.mem_map] at hx'; obtain ⟨row, _, rfl⟩ := hx'; simp [colsL]) (by simp [rowsL]; exact hi)]
  have e1 : ((rowsL r m xs).map fun row => (colsL m c ys 0).map (dotv row)).getD i [] = (colsL m c ys 0).map (dotv ((xs.drop (i * m)).take m)) := by simp [rowsL, hi]
  rw [e1]
  have e2 : ((colsL m c ys 0).map (dotv ((xs.drop (i * m)).take m))).getD j 0 = dotv ((xs.drop (i * m)).take m) (colL c ys 0 m j) := by simp [colsL, hj]
  rw [e2]
  have h5 : (i + 1) * m ≤ r * m := Nat.mul_le_mul_right m hi
  have h6 : (i + 1) * m = i * m + m := by rw [Nat.add_mul, Nat.one_mul]
  rw [dotv_sum (m := m) (by simp; omega)]
  refine sumN_congr (fun t ht => ?_)
  have e3 : ((xs.drop (i * m)).take m).getD t 0 = xs.getD (i * m + t) 0 := by
    rw [List.getD_eq_getElem?_getD, List.getD_eq_getElem?_getD, List.getElem?_take, if_pos ht, List.getElem?_drop]
  have e4 : (colL c ys 0 m j).getD t 0 = ys.getD (t * c + j) 0 := by simp [colL, ht]
  rw [e3, e4]
theorem add_at {n t : Nat} {xs ys : List Int} (ht : t < n) : (addL n xs ys).getD t 0 = xs.getD t 0 + ys.getD t 0 := by simp [addL, ht]
theorem addL_length {n : Nat} {xs ys : List Int} : (addL n xs ys).length = n := by simp [addL]
theorem place_lt {r c i j : Nat} (hi : i < r) (hj : j < c) : i * c + j < r * c := by
  have h5 : (i + 1) * c ≤ r * c := Nat.mul_le_mul_right c hi
  have h6 : (i + 1) * c = i * c + c := by rw [Nat.add_mul, Nat.one_mul]
  omega
theorem place_one {n i t k : Nat} (ht : t < n) (hk : k < n) : i * n + t = k * n + k ↔ i = k ∧ t = k := by
  refine ⟨fun h => ?_, fun ⟨a, b⟩ => by rw [a, b]⟩
  rcases Nat.lt_trichotomy i k with q | q | q
  · have h5 : (i + 1) * n ≤ k * n := Nat.mul_le_mul_right n q
    have h6 : (i + 1) * n = i * n + n := by rw [Nat.add_mul, Nat.one_mul]
    omega
  · subst q
    exact ⟨rfl, by omega⟩
  · have h5 : (k + 1) * n ≤ i * n := Nat.mul_le_mul_right n q
    have h6 : (k + 1) * n = k * n + n := by rw [Nat.add_mul, Nat.one_mul]
    omega
theorem unit_step {n i t : Nat} (hi : i < n) (ht : t < n) : ∀ k, k ≤ n → (unitL n k).getD (i * n + t) 0 = if i = t ∧ i < k then 1 else 0
  | 0, _ => by
    rw [if_neg (by omega)]
    simp [unitL, place_lt hi ht]
  | k + 1, hk => by
    have ih := unit_step hi ht k (by omega)
    rw [unitL, List.getD_eq_getElem?_getD]
    by_cases q : i * n + t = k * n + k
    · have := (place_one ht (by omega)).1 q
      rw [q, List.getElem?_set_self (by rw [unitL_length]; exact place_lt (by omega) (by omega)), if_pos (by omega)]
      rfl
    · rw [List.getElem?_set_ne (by omega), ← List.getD_eq_getElem?_getD, ih]
      have h2 : ¬ (i = k ∧ t = k) := fun h => q ((place_one ht (by omega)).2 h)
      by_cases p : i = t ∧ i < k
      · rw [if_pos p, if_pos (by omega)]
      · rw [if_neg p, if_neg (by omega)]
theorem unit_at {n i t : Nat} (hi : i < n) (ht : t < n) : (unitL n n).getD (i * n + t) 0 = if t = i then 1 else 0 := by
  rw [unit_step hi ht n (Nat.le_refl _)]
  by_cases p : t = i
  · rw [if_pos p, if_pos (by omega)]
  · rw [if_neg p, if_neg (by omega)]
/-- The unit matrix changes nothing. -/
theorem unit_prod {r c : Nat} {xs : List Int} (hx : xs.length = r * c) : prodL r r c (unitL r r) xs = xs := by
  refine mat_ext (r := r) (c := c) prodL_length hx (fun i j hi hj => ?_)
  rw [prod_at (unitL_length _ _) hi hj, ← sumN_one hi (fun t => xs.getD (t * c + j) 0)]
  refine sumN_congr (fun t ht => ?_)
  rw [unit_at hi ht]
  by_cases q : t = i
  · rw [if_pos q, if_pos q, Int.one_mul]
  · rw [if_neg q, if_neg q, Int.zero_mul]
/-- Products go through sums. -/
theorem prod_add {r m c : Nat} {xs ys : List Int} (hx : xs.length = r * m) : prodL r m c xs (addL (m * c) ys ys) = addL (r * c) (prodL r m c xs ys) (prodL r m c xs ys) := by
  refine mat_ext (r := r) (c := c) prodL_length addL_length (fun i j hi hj => ?_)
  rw [prod_at hx hi hj, add_at (place_lt hi hj), prod_at hx hi hj, ← sumN_add]
  refine sumN_congr (fun t ht => ?_)
  rw [add_at (place_lt ht hj), Int.mul_add]
/-- Products go together. -/
theorem prod_assoc {r m c d : Nat} {xs ys zs : List Int} (hx : xs.length = r * m) (hy : ys.length = m * c) : prodL r c d (prodL r m c xs ys) zs = prodL r m d xs (prodL m c d ys zs) := by
  refine mat_ext (r := r) (c := d) prodL_length prodL_length (fun i j hi hj => ?_)
  rw [prod_at prodL_length hi hj, prod_at hx hi hj]
  have e1 : ∀ s, s < c → (prodL r m c xs ys).getD (i * c + s) 0 * zs.getD (s * d + j) 0 = sumN m (fun t => xs.getD (i * m + t) 0 * ys.getD (t * c + s) 0 * zs.getD (s * d + j) 0) := fun s hs => by
    rw [prod_at hx hi hs, sumN_mul_right]
  have e2 : ∀ t, t < m → xs.getD (i * m + t) 0 * (prodL m c d ys zs).getD (t * d + j) 0 = sumN c (fun s => xs.getD (i * m + t) 0 * ys.getD (t * c + s) 0 * zs.getD (s * d + j) 0) := fun t ht => by
    rw [prod_at hy ht hj, ← sumN_mul_left]
    exact sumN_congr (fun s _ => by rw [Int.mul_assoc])
  rw [sumN_congr e1, sumN_congr e2, sumN_swap]
end Go.Proofs.Ytbalcjjeakdjkaa
