/-
  QPure9ToChkN9: Pure9, Wk9, Turn9, ChkN9, joined.
-/
import Derived.Test.YtonmlmdnjjafhaaGreatQCols9ToOpenM9

/- Pure9 -/
namespace Go.Proofs.YtonmlmdnjjafhaaGreat
set_option linter.unusedVariables false

def sumN (n : Nat) (f : Nat → Int) : Int := zsum ((List.range n).map f)
theorem sumN_zero (f : Nat → Int) : sumN 0 f = 0 := rfl
theorem sumN_succ (n : Nat) (f : Nat → Int) : sumN (n + 1) f = sumN n f + f n := by
  unfold sumN
  rw [List.range_succ, List.map_append, zsum_append]
  simp [zsum]
theorem sumN_congr {n : Nat} {f g : Nat → Int} (h : ∀ t, t < n → f t = g t) : sumN n f = sumN n g := by
  induction n with
  | zero => rfl
  | succ n ih => rw [sumN_succ, sumN_succ, ih (fun t ht => h t (by omega)), h n (by omega)]
theorem sumN_add (n : Nat) (f g : Nat → Int) : sumN n (fun t => f t + g t) = sumN n f + sumN n g := by
  induction n with
  | zero => rfl
  | succ n ih => rw [sumN_succ, sumN_succ, sumN_succ, ih]; omega
theorem sumN_mul_left (n : Nat) (x : Int) (f : Nat → Int) : sumN n (fun t => x * f t) = x * sumN n f := by
  induction n with
  | zero => simp [sumN_zero]
  | succ n ih => rw [sumN_succ, sumN_succ, ih, Int.mul_add]
theorem sumN_mul_right (n : Nat) (x : Int) (f : Nat → Int) : sumN n (fun t => f t * x) = sumN n f * x := by
  induction n with
  | zero => simp [sumN_zero]
  | succ n ih => rw [sumN_succ, sumN_succ, ih, Int.add_mul]
theorem sumN_none (n : Nat) : sumN n (fun _ => 0) = 0 := by
  induction n with
  | zero => rfl
  | succ n ih => rw [sumN_succ, ih]; rfl
theorem sumN_swap (n m : Nat) (f : Nat → Nat → Int) : sumN n (fun s => sumN m (fun t => f s t)) = sumN m (fun t => sumN n (fun s => f s t)) := by
  induction n with
  | zero => simp [sumN_zero, sumN_none]
  | succ n ih =>
    rw [sumN_succ, ih, ← sumN_add]
    exact sumN_congr (fun t _ => (sumN_succ n _).symm)
theorem sumN_one {n i : Nat} (h : i < n) (f : Nat → Int) : sumN n (fun t => if t = i then f t else 0) = f i := by
  induction n with
  | zero => omega
  | succ n ih =>
    rw [sumN_succ]
    by_cases q : i = n
    · subst q
      rw [if_pos rfl, sumN_congr (g := fun _ => 0) (fun t ht => if_neg (by omega)), sumN_none]
      omega
    · rw [ih (by omega), if_neg (by omega)]
      omega
theorem flat_getD {α : Type} {c j : Nat} {d : α} (hj : j < c) : ∀ {L : List (List α)} {i : Nat}, (∀ x ∈ L, x.length = c) → i < L.length → L.flatten.getD (i * c + j) d = (L.getD i []).getD j d
  | [], i, _, h => by simp at h
  | a :: L, 0, hL, _ => by
    have ha : a.length = c := hL a (by simp)
    simp only [List.flatten_cons, Nat.zero_mul, Nat.zero_add, List.getD_cons_zero]
    rw [List.getD_eq_getElem?_getD, List.getD_eq_getElem?_getD, List.getElem?_append_left (by omega)]
  | a :: L, i + 1, hL, h => by
    have ha : a.length = c := hL a (by simp)
    have h2 : (i + 1) * c = i * c + c := by rw [Nat.add_mul, Nat.one_mul]
    have := flat_getD hj (L := L) (i := i) (d := d) (fun x hx => hL x (by simp [hx])) (by simpa using h)
    simp only [List.flatten_cons, List.getD_cons_succ]
    rw [← this, List.getD_eq_getElem?_getD, List.getD_eq_getElem?_getD, List.getElem?_append_right (by omega), show (i + 1) * c + j - a.length = i * c + j by omega]
theorem mat_ext {r c : Nat} {xs ys : List Int} (hx : xs.length = r * c) (hy : ys.length = r * c) (h : ∀ i j, i < r → j < c → xs.getD (i * c + j) 0 = ys.getD (i * c + j) 0) : xs = ys := by
  apply List.ext_getElem
  · omega
  · intro t h1 h2
    have hc : 0 < c := by
      rcases Nat.eq_zero_or_pos c with q | q
      · subst q; simp at hx; omega
      · exact q
    have e := h (t / c) (t % c) (by rw [Nat.div_lt_iff_lt_mul hc]; omega) (Nat.mod_lt _ hc)
    have e2 : t / c * c + t % c = t := by rw [Nat.mul_comm]; exact Nat.div_add_mod t c
    rw [e2] at e
    simpa [h1, h2] using e
theorem dotv_sum {m : Nat} {xs ys : List Int} (hx : xs.length = m) : dotv xs ys = sumN m (fun t => xs.getD t 0 * ys.getD t 0) := by
  unfold dotv sumN
  rw [hx]
theorem prod_at {r m c i j : Nat} {xs ys : List Int} (hx : xs.length = r * m) (hi : i < r) (hj : j < c) : (prodL r m c xs ys).getD (i * c + j) 0 = sumN m (fun t => xs.getD (i * m + t) 0 * ys.getD (t * c + j) 0) := by
  unfold prodL
  rw [flat_getD hj (by intro x hx'; simp only [List.mem_map] at hx'; obtain ⟨row, _, rfl⟩ := hx'; simp [colsL]) (by simp [rowsL]; exact hi)]
  have e1 : ((rowsL r m xs).map fun row => (colsL m c ys 0).map (dotv row)).getD i [] = (colsL m c ys 0).map (dotv ((xs.drop (i * m)).take m)) := by simp [rowsL, hi]
  rw [e1]
  have e2 : ((colsL m c ys 0).map (dotv ((xs.drop (i * m)).take m))).getD j 0 = dotv ((xs.drop (i * m)).take m) (colL c ys 0 m j) := by simp [colsL, hj]
  rw [e2]
  have h5 : (i + 1) * m ≤ r * m := Nat.mul_le_mul_right m hi
  have h6 : (i + 1) * m = i * m + m := by rw [Nat.add_mul, Nat.one_mul]
  rw [dotv_sum (m := m) (by simp; omega)]
  refine sumN_congr (fun t ht => ?_)
  have e3 : ((xs.drop (i * m)).take m).getD t 0 = xs.getD (i * m + t) 0 := by
    rw [List.getD_eq_getElem?_getD, List.getD_eq_getElem?_getD, List.getElem?_take, if_pos ht, List.getElem?_drop]
  have e4 : (colL c ys 0 m j).getD t 0 = ys.getD (t * c + j) 0 := by simp [colL, ht]
  rw [e3, e4]
theorem add_at {n t : Nat} {xs ys : List Int} (ht : t < n) : (addL n xs ys).getD t 0 = xs.getD t 0 + ys.getD t 0 := by simp [addL, ht]
theorem addL_length {n : Nat} {xs ys : List Int} : (addL n xs ys).length = n := by simp [addL]
theorem place_lt {r c i j : Nat} (hi : i < r) (hj : j < c) : i * c + j < r * c := by
  have h5 : (i + 1) * c ≤ r * c := Nat.mul_le_mul_right c hi
  have h6 : (i + 1) * c = i * c + c := by rw [Nat.add_mul, Nat.one_mul]
  omega
theorem place_one {n i t k : Nat} (ht : t < n) (hk : k < n) : i * n + t = k * n + k ↔ i = k ∧ t = k := by
  refine ⟨fun h => ?_, fun ⟨a, b⟩ => by rw [a, b]⟩
  rcases Nat.lt_trichotomy i k with q | q | q
  · have h5 : (i + 1) * n ≤ k * n := Nat.mul_le_mul_right n q
    have h6 : (i + 1) * n = i * n + n := by rw [Nat.add_mul, Nat.one_mul]
    omega
  · subst q
    exact ⟨rfl, by omega⟩
  · have h5 : (k + 1) * n ≤ i * n := Nat.mul_le_mul_right n q
    have h6 : (k + 1) * n = k * n + n := by rw [Nat.add_mul, Nat.one_mul]
    omega
theorem unit_step {n i t : Nat} (hi : i < n) (ht : t < n) : ∀ k, k ≤ n → (unitL n k).getD (i * n + t) 0 = if i = t ∧ i < k then 1 else 0
  | 0, _ => by
    rw [if_neg (by omega)]
    simp [unitL, place_lt hi ht]
  | k + 1, hk => by
    have ih := unit_step hi ht k (by omega)
    rw [unitL, List.getD_eq_getElem?_getD]
    by_cases q : i * n + t = k * n + k
    · have := (place_one ht (by omega)).1 q
      rw [q, List.getElem?_set_self (by rw [unitL_length]; exact place_lt (by omega) (by omega)), if_pos (by omega)]
      rfl
    · rw [List.getElem?_set_ne (by omega), ← List.getD_eq_getElem?_getD, ih]
      have h2 : ¬ (i = k ∧ t = k) := fun h => q ((place_one ht (by omega)).2 h)
      by_cases p : i = t ∧ i < k
      · rw [if_pos p, if_pos (by omega)]
      · rw [if_neg p, if_neg (by omega)]
theorem unit_at {n i t : Nat} (hi : i < n) (ht : t < n) : (unitL n n).getD (i * n + t) 0 = if t = i then 1 else 0 := by
  rw [unit_step hi ht n (Nat.le_refl _)]
  by_cases p : t = i
  · rw [if_pos p, if_pos (by omega)]
  · rw [if_neg p, if_neg (by omega)]
/-- The unit matrix changes nothing. -/
theorem unit_prod {r c : Nat} {xs : List Int} (hx : xs.length = r * c) : prodL r r c (unitL r r) xs = xs := by
  refine mat_ext (r := r) (c := c) prodL_length hx (fun i j hi hj => ?_)
  rw [prod_at (unitL_length _ _) hi hj, ← sumN_one hi (fun t => xs.getD (t * c + j) 0)]
  refine sumN_congr (fun t ht => ?_)
  rw [unit_at hi ht]
  by_cases q : t = i
  · rw [if_pos q, if_pos q, Int.one_mul]
  · rw [if_neg q, if_neg q, Int.zero_mul]
/-- Products go through sums. -/
theorem prod_add {r m c : Nat} {xs ys : List Int} (hx : xs.length = r * m) : prodL r m c xs (addL (m * c) ys ys) = addL (r * c) (prodL r m c xs ys) (prodL r m c xs ys) := by
  refine mat_ext (r := r) (c := c) prodL_length addL_length (fun i j hi hj => ?_)
  rw [prod_at hx hi hj, add_at (place_lt hi hj), prod_at hx hi hj, ← sumN_add]
  refine sumN_congr (fun t ht => ?_)
  rw [add_at (place_lt ht hj), Int.mul_add]
/-- Products go together. -/
theorem prod_assoc {r m c d : Nat} {xs ys zs : List Int} (hx : xs.length = r * m) (hy : ys.length = m * c) : prodL r c d (prodL r m c xs ys) zs = prodL r m d xs (prodL m c d ys zs) := by
  refine mat_ext (r := r) (c := d) prodL_length prodL_length (fun i j hi hj => ?_)
  rw [prod_at prodL_length hi hj, prod_at hx hi hj]
  have e1 : ∀ s, s < c → (prodL r m c xs ys).getD (i * c + s) 0 * zs.getD (s * d + j) 0 = sumN m (fun t => xs.getD (i * m + t) 0 * ys.getD (t * c + s) 0 * zs.getD (s * d + j) 0) := fun s hs => by
    rw [prod_at hx hi hs, sumN_mul_right]
  have e2 : ∀ t, t < m → xs.getD (i * m + t) 0 * (prodL m c d ys zs).getD (t * d + j) 0 = sumN c (fun s => xs.getD (i * m + t) 0 * ys.getD (t * c + s) 0 * zs.getD (s * d + j) 0) := fun t ht => by
    rw [prod_at hy ht hj, ← sumN_mul_left]
    exact sumN_congr (fun s _ => by rw [Int.mul_assoc])
  rw [sumN_congr e1, sumN_congr e2, sumN_swap]
end Go.Proofs.YtonmlmdnjjafhaaGreat

/- Wk9 -/
namespace Go.Proofs.YtonmlmdnjjafhaaGreat
open Go.RowKit
set_option linter.unusedVariables false

theorem Cel.away3 {w : World} {b b' : Nat} {T : TypeId} {L : List Value} (h : Cel w b T L) (hne : b' ≠ b) (y0 y1 y2 : Value) : Cel (Go.Proofs.YtonmlmdnjjafhaaGreat.put3 w b' y0 y1 y2) b T L := ((h.ne hne).ne hne).ne hne
theorem Mx.wk {w : World} {v : Value} {r c : Nat} {zs : List Int} {k b : Nat} (h : Mx w v r c zs k) {x0 x1 : Int} {a : Option Addr} {l n : Nat} (d : Cel w b 24 [.int .i64 x0, .int .i64 x1, .slice a l n]) (y0 y1 y2 : Value) : Mx (put3 w b y0 y1 y2) v r c zs k := by
  obtain ⟨at_, ps, h1, h2, h3, h4⟩ := h
  refine ⟨at_, ps, h1, ?_, h3.wk (d.wk3 _ _ _), h4⟩
  obtain ⟨a', c', e1, e2, e3, e4, e5⟩ := h2
  refine ⟨a', c', e1, e2, e3, e4, ?_⟩
  rcases e5 with e5 | ⟨b', off, e6, e7, e8, e9⟩
  · exact .inl e5
  · refine .inr ⟨b', off, e6, e7, by simpa using e8, fun j p hp => ?_⟩
    have hne : b ≠ b' := by
      intro e
      subst e
      obtain ⟨n1, a1, l1, c1, q⟩ := h3.isI p (List.mem_of_getElem? hp)
      have q1 := (e9 j p hp).1
      rw [show p.1 = .bool n1 by rw [q]] at q1
      have q2 : w.heap[b]? = some (.cells #[.int .i64 x0, .int .i64 x1, .slice a l n] 24 (0, 0)) := d
      simp only [World.cell?, q2] at q1
      simp at q1
      generalize off + j * 2 = o at q1
      match o, q1 with
      | 0, q1 => simp at q1
      | 1, q1 => simp at q1
      | 2, q1 => simp at q1
      | o + 3, q1 => simp at q1
    have e : ∀ o, (put3 w b y0 y1 y2).cell? ⟨b', o, none⟩ = w.cell? ⟨b', o, none⟩ := fun o => by
      rw [World.cell?_setCell_other _ _ _ _ (by simp <;> omega), World.cell?_setCell_other _ _ _ _ (by simp <;> omega), World.cell?_setCell_other _ _ _ _ (by simp <;> omega)]
    rw [e, e]
    exact e9 j p hp
theorem boxes3 {w W0 : World} {o1 o2 o3 : List Value} (hW : ((w.alloc (.cells o1.toArray 24)).alloc (.cells o2.toArray 24)).alloc (.cells o3.toArray 24) = W0) :
    Cel W0 w.heap.size 24 o1 ∧ Cel W0 (w.heap.size + 1) 24 o2 ∧ Cel W0 (w.heap.size + 1 + 1) 24 o3 := by
  refine ⟨?_, ?_, ?_⟩
  · rw [← hW]
    exact (((Cel.new w 24 o1).step ((Below.refl _ _).alloc (Nat.le_refl _) _)).step ((Below.refl _ _).alloc (Nat.le_refl _) _))
  · rw [← hW]
    have := ((Cel.new (w.alloc (.cells o1.toArray 24)) 24 o2).step ((Below.refl _ _).alloc (Nat.le_refl _) (.cells o3.toArray 24)))
    simpa using this
  · rw [← hW]
    have := Cel.new ((w.alloc (.cells o1.toArray 24)).alloc (.cells o2.toArray 24)) 24 o3
    simpa using this
abbrev rawO (r c : Int) (at_ : Value) : Obj := .cells #[.int .i64 r, .int .i64 c, at_] 24
end Go.Proofs.YtonmlmdnjjafhaaGreat

/- Turn9 -/
namespace Go.Proofs.YtonmlmdnjjafhaaGreat
open Go.RowKit
set_option linter.unusedVariables false

def turnL9 (r c : Nat) (zs : List Int) : List Int := (colsL r c zs 0).flatten
theorem turnL9_length {r c : Nat} {zs : List Int} : (turnL9 r c zs).length = c * r := by
  have h : ∀ L : List (List Int), (∀ x ∈ L, x.length = r) → L.flatten.length = L.length * r := by
    intro L
    induction L with
    | nil => simp
    | cons a t ih =>
      intro hL
      rw [List.flatten_cons, List.length_append, ih (fun x hx => hL x (by simp [hx])), hL a (by simp), List.length_cons, Nat.add_mul, Nat.one_mul, Nat.add_comm]
  unfold turnL9
  rw [h _ cols_len]
  simp [colsL]
theorem Zis.append {w : World} {ps qs : List (Value × Value)} {zs ys : List Int} {k : Nat} (h : Zis w ps zs k) (h' : Zis w qs ys k) : Zis w (ps ++ qs) (zs ++ ys) k := by
  refine ⟨by simp [h.1, h'.1], fun j p z hp hz => ?_⟩
  by_cases q : j < ps.length
  · rw [List.getElem?_append_left q] at hp
    rw [List.getElem?_append_left (by rw [← h.1]; exact q)] at hz
    exact h.2 j p z hp hz
  · rw [List.getElem?_append_right (by omega)] at hp
    rw [List.getElem?_append_right (by rw [← h.1]; omega), ← h.1] at hz
    exact h'.2 _ p z hp hz
theorem Ziss.flat {w : World} {k : Nat} : ∀ {pss : List (List (Value × Value))} {zss : List (List Int)}, Ziss w pss zss k → Zis w pss.flatten zss.flatten k
  | [], [], _ => ⟨rfl, fun j p z hp => by simp at hp⟩
  | [], z :: zss, h => by have := h.1; simp at this
  | p :: pss, [], h => by have := h.1; simp at this
  | p :: pss, z :: zss, h => by
    have h1 := h.2 0 p rfl
    have h2 : Ziss w pss zss k := ⟨by have := h.1; simpa using this, fun j ps hp => by simpa using h.2 (j + 1) ps (by simpa using hp)⟩
    simpa using Zis.append h1 (Ziss.flat h2)
theorem zis_turn {w : World} {ps : List (Value × Value)} {zs : List Int} {k r c : Nat} (h : Zis w ps zs k) (hl : zs.length = r * c) : Zis w (colsL r c ps zpair).flatten (turnL9 r c zs) k := Ziss.flat (ziss_cols h hl)
theorem two_boxes {w W0 : World} {o1 : List Value} (hW : (w.alloc (.cells o1.toArray 24)).alloc mbox = W0) :
    Cel W0 w.heap.size 24 o1 ∧ Cel W0 (w.heap.size + 1) 24 [.int .i64 0, .int .i64 0, .slice none 0 0] := by
  refine ⟨?_, ?_⟩
  · rw [← hW]
    exact (Cel.new w 24 o1).step ((Below.refl _ _).alloc (Nat.le_refl _) _)
  · rw [← hW]
    have := Cel.new (w.alloc (.cells o1.toArray 24)) 24 [.int .i64 0, .int .i64 0, .slice none 0 0]
    simpa using this
end Go.Proofs.YtonmlmdnjjafhaaGreat

/- ChkN9 -/
namespace Go.Proofs.YtonmlmdnjjafhaaGreat
open Go.RowKit
set_option linter.unusedVariables false

set_option maxHeartbeats 800000 in
set_option maxRecDepth 100000 in
theorem isShape_raw {w : World} {r c : Int} : Calls Tryz.prog 81 #[.int .i64 r, .int .i64 c] w fun e w' => e = .returned (.bool (decide (0 ≤ r ∧ 0 ≤ c ∧ r ≤ 64 ∧ c ≤ 64))) ∧ w' = w := by
  by_cases h1 : 0 ≤ min r c
  · by_cases h2 : max r c ≤ 64
    · have e : decide (0 ≤ r ∧ 0 ≤ c ∧ r ≤ 64 ∧ c ≤ 64) = true := by rw [decide_eq_true_eq]; omega
      rw [e]
      clear e
      go_enter Tryz.func81, Tryz.ntmps81
      go_wp2
      go_ret
      exact ⟨rfl, rfl⟩
    · have e : decide (0 ≤ r ∧ 0 ≤ c ∧ r ≤ 64 ∧ c ≤ 64) = false := by rw [decide_eq_false_iff_not]; omega
      rw [e]
      clear e
      go_enter Tryz.func81, Tryz.ntmps81
      go_wp2
      go_ret
      exact ⟨rfl, rfl⟩
  · have e : decide (0 ≤ r ∧ 0 ≤ c ∧ r ≤ 64 ∧ c ≤ 64) = false := by rw [decide_eq_false_iff_not]; omega
    rw [e]
    clear e
    go_enter Tryz.func81, Tryz.ntmps81
    go_wp2
    go_ret
    exact ⟨rfl, rfl⟩
set_option maxHeartbeats 1600000 in
set_option maxRecDepth 100000 in
theorem check_no {w : World} {r c : Int} {a : Option Addr} {l cap : Nat} (h : ¬ Snd r c l) : Calls Tryz.prog 62 #[.agg #[.int .i64 r, .int .i64 c, .slice a l cap]] w fun e w' => e = .returned (.int .i64 1) ∧ Below w.heap.size w w' := by
  obtain ⟨W0, hW⟩ : ∃ W0, w.alloc (.cells #[.int .i64 r, .int .i64 c, .slice a l cap] 24) = W0 := ⟨_, rfl⟩
  obtain ⟨b0, sz0⟩ := alo1 w (.cells #[.int .i64 r, .int .i64 c, .slice a l cap] 24)
  rw [hW] at b0 sz0
  have P1 : Hid (Cel W0 w.heap.size 24 [.int .i64 r, .int .i64 c, .slice a l cap]) := by unfold Hid; rw [← hW]; exact Cel.new w _ _
  have x0 := P1.out.at (i := 0) rfl
  have x1 := P1.out.at (i := 1) rfl
  have x2 := P1.out.at (i := 2) rfl
  rw [← hW] at x0 x1 x2
  have HS := hid (isShape_raw (w := W0) (r := r) (c := c))
  have G0 := hid b0
  have EW := hid hW
  clear b0 sz0 hW P1
  by_cases hs : 0 ≤ r ∧ 0 ≤ c ∧ r ≤ 64 ∧ c ≤ 64
  · have e : decide (0 ≤ r ∧ 0 ≤ c ∧ r ≤ 64 ∧ c ≤ 64) = true := decide_eq_true hs
    rw [e] at HS
    have hm : 0 ≤ r * c ∧ r * c ≤ 64 * 64 := ⟨Int.mul_nonneg hs.1 hs.2.1, Int.mul_le_mul hs.2.2.1 hs.2.2.2 hs.2.1 (by omega)⟩
    have hw : IntKind.i64.wrap (r * c) = r * c := by rw [wrap_is] <;> omega
    obtain ⟨q, hq⟩ : ∃ q, r * c = q := ⟨_, rfl⟩
    have hne : ¬ ((l : Int) = q) := fun h2 => h ⟨hs.1, hs.2.2.1, hs.2.1, hs.2.2.2, h2.trans hq.symm⟩
    replace hw : IntKind.i64.wrap (r * c) = q := hw.trans hq
    have hw2 := hw
    rw [IntKind.wrap_i64] at hw2
    have q0 : ((l : Int) != q) = true := by simpa using hne
    clear h hs e hm hq hne
    go_enter Tryz.func62, Tryz.ntmps62
    go_wp2_with fail
    rw [EW.out]
    refine HS.out.mono ?_
    rintro e w1 ⟨rfl, rfl⟩
    rw [EW.out] at x0 x1 x2
    go_wp2
    go_ret
    exact ⟨rfl, G0.out⟩
  · have e : decide (0 ≤ r ∧ 0 ≤ c ∧ r ≤ 64 ∧ c ≤ 64) = false := decide_eq_false hs
    rw [e] at HS
    clear h hs e
    go_enter Tryz.func62, Tryz.ntmps62
    go_wp2_with fail
    rw [EW.out]
    refine HS.out.mono ?_
    rintro e w1 ⟨rfl, rfl⟩
    go_wp2
    go_ret
    exact ⟨rfl, G0.out⟩
end Go.Proofs.YtonmlmdnjjafhaaGreat
