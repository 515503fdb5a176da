/-
 St13: the stairs in numbers: which rows are kept, in which columns they begin, and what determinants they tell. Plain mathematics: nothing of the program.
-/
import Derived.Test.YtnpcfohimlfbdaaGreatQBz13
set_option maxRecDepth 100000
set_option maxHeartbeats 6400000
set_option linter.unusedVariables false
set_option linter.unusedSimpArgs false
namespace Go.Proofs.YtnpcfohimlfbdaaGreat

def sgb (s : Bool) : Int := if s then -1 else 1
theorem sgb_xor (s t : Bool) : sgb (s ^^ t) = sgb s * sgb t := by cases s <;> cases t <;> rfl
/-- The determinant at the columns of a list. -/
def dl (M : Nat → Nat → Int) (l : List Nat) : Int := det l.length fun a b => M a (l.getD b 0)
/-- The columns l may stand as l', up to the sign. -/
def Mv (l l' : List Nat) (s : Bool) : Prop := ∀ (M : Nat → Nat → Int) (p t : List Nat), dl M (p ++ l ++ t) = sgb s * dl M (p ++ l' ++ t)
theorem Mv.refl (l : List Nat) : Mv l l false := fun M p t => by simp [sgb]
theorem Mv.trans {a b c : List Nat} {s t : Bool} (h : Mv a b s) (h' : Mv b c t) : Mv a c (s ^^ t) := fun M p q => by rw [h M p q, h' M p q, sgb_xor]; grind
theorem Mv.app {l l' : List Nat} {s : Bool} (h : Mv l l' s) (c : List Nat) : Mv (l ++ c) (l' ++ c) s := fun M p t => by
 have := h M p (c ++ t)
 simpa using this
theorem Mv.cons {l l' : List Nat} {s : Bool} (h : Mv l l' s) (x : Nat) : Mv (x :: l) (x :: l') s := fun M p t => by
 have := h M (p ++ [x]) t
 simpa using this
theorem Mv.two (x y : Nat) : Mv [x, y] [y, x] true := fun M p t => by
 have hl : (p ++ [x, y] ++ t).length = (p ++ [y, x] ++ t).length := by simp
 have hi : p.length + 1 < (p ++ [y, x] ++ t).length := by simp
 unfold dl
 rw [hl, ← det_turn _ (fun a b => M a ((p ++ [x, y] ++ t).getD b 0)), ← det_turn _ (fun a b => M a ((p ++ [y, x] ++ t).getD b 0))]
 have h1 := (det_alt (p ++ [y, x] ++ t).length).swap1 (A := fun b a => M a ((p ++ [y, x] ++ t).getD b 0)) (i := p.length) hi
 show _ = -1 * _
 rw [Int.neg_one_mul, ← h1]
 refine det_congr fun b a hb ha => ?_
 have gx : ∀ (u v : Nat) (b : Nat), (p ++ [u, v] ++ t).getD b 0 = if b < p.length then p.getD b 0 else if b = p.length then u else if b = p.length + 1 then v else t.getD (b - p.length - 2) 0 := fun u v b => by
  simp only [List.getD_eq_getElem?_getD, List.append_assoc]
  by_cases q : b < p.length
  ·rw [if_pos q, List.getElem?_append_left q]
  ·rw [if_neg q, List.getElem?_append_right (by omega)]
   by_cases q1 : b = p.length
   ·subst q1; simp
   ·rw [if_neg q1]
    by_cases q2 : b = p.length + 1
    ·subst q2; simp
    ·rw [if_neg q2, show b - p.length = (b - p.length - 2) + 1 + 1 by omega]; simp
 by_cases q : b = p.length + 1
 ·subst q
  rw [stR_at, gx, gx]
  simp [show ¬ p.length + 1 < p.length by omega]
 ·rw [stR_off _ q]
  by_cases q1 : b = p.length
  ·subst q1
   rw [stR_at, gx, gx]
   simp [show ¬ p.length + 1 < p.length by omega]
  ·rw [stR_off _ q1, gx, gx]
   by_cases q2 : b < p.length
   ·rw [if_pos q2, if_pos q2]
   ·rw [if_neg q2, if_neg q2, if_neg q1, if_neg q1, if_neg q, if_neg q]
def par : Nat → Bool
 | 0 => false
 | n + 1 => ! par n
theorem Mv.front (c : Nat) : ∀ l : List Nat, Mv (l ++ [c]) (c :: l) (par l.length)
 | [] => Mv.refl _
 | x :: l => by
  have h1 := (Mv.front c l).cons x
  have h2 := (Mv.two x c).app l
  have h3 := h1.trans h2
  have e : (par l.length ^^ true) = par (x :: l).length := by simp [par]
  rw [e] at h3
  exact h3
def ins (c : Nat) : List Nat → List Nat
 | [] => [c]
 | x :: l => if c < x then c :: x :: l else x :: ins c l
/-- How many are above c. -/
def abv (c : Nat) : List Nat → Nat
 | [] => 0
 | x :: l => (if c < x then 1 else 0) + abv c l
theorem abv_all (c : Nat) : ∀ {l : List Nat}, (∀ x ∈ l, c < x) → abv c l = l.length
 | [], _ => rfl
 | x :: l, h => by simp only [abv, List.length_cons]; rw [if_pos (h x (by simp)), abv_all c fun y hy => h y (by simp [hy])]; omega
theorem abv_app (c : Nat) : ∀ l m : List Nat, abv c (l ++ m) = abv c l + abv c m
 | [], m => by simp [abv]
 | x :: l, m => by simp only [List.cons_append, abv, abv_app c l m]; omega
theorem Mv.ins (c : Nat) : ∀ {l : List Nat}, l.Pairwise (· < ·) → Mv (l ++ [c]) (ins c l) (par (abv c l))
 | [], _ => Mv.refl _
 | x :: l, h => by
  rw [List.pairwise_cons] at h
  unfold Proofs.YtnpcfohimlfbdaaGreat.ins
  by_cases q : c < x
  ·rw [if_pos q, abv_all c (l := x :: l) fun y hy => by
    rcases List.mem_cons.1 hy with rfl | hy
    ·exact q
    ·have := h.1 y hy; omega]
   exact Mv.front c (x :: l)
  ·rw [if_neg q]
   have e : abv c (x :: l) = abv c l := by simp only [abv]; rw [if_neg q]; omega
   rw [e]
   exact (Mv.ins c h.2).cons x
theorem ins_mem {c y : Nat} : ∀ {l : List Nat}, y ∈ ins c l ↔ y = c ∨ y ∈ l
 | [] => by simp [ins]
 | x :: l => by
  unfold ins
  split
  ·simp
  ·rw [List.mem_cons, ins_mem (l := l), List.mem_cons]
   constructor
   ·rintro (h | h | h)
    ·exact .inr (.inl h)
    ·exact .inl h
    ·exact .inr (.inr h)
   ·rintro (h | h | h)
    ·exact .inr (.inl h)
    ·exact .inl h
    ·exact .inr (.inr h)
theorem ins_len (c : Nat) : ∀ l : List Nat, (ins c l).length = l.length + 1
 | [] => rfl
 | x :: l => by
  unfold ins
  split
  ·rfl
  ·rw [List.length_cons, ins_len c l, List.length_cons]
theorem ins_up {c : Nat} : ∀ {l : List Nat}, l.Pairwise (· < ·) → c ∉ l → (ins c l).Pairwise (· < ·)
 | [], _, _ => by simp [ins]
 | x :: l, h, hc => by
  have h' := List.pairwise_cons.1 h
  unfold ins
  split
  ·next q =>
   refine List.pairwise_cons.2 ⟨fun y hy => ?_, h⟩
   rcases List.mem_cons.1 hy with rfl | hy
   ·exact q
   ·have := h'.1 y hy; omega
  ·next q =>
   have hcx : c ≠ x := fun e => hc (by simp [e])
   refine List.pairwise_cons.2 ⟨fun y hy => ?_, ins_up h'.2 fun hm => hc (by simp [hm])⟩
   rcases ins_mem.1 hy with rfl | hy
   ·omega
   ·exact h'.1 y hy
/-- The columns, rising. -/
def srt (cs : List Nat) : List Nat := cs.foldl (fun l c => ins c l) []
theorem srt_app (cs : List Nat) (c : Nat) : srt (cs ++ [c]) = ins c (srt cs) := by simp [srt]
theorem abv_ins (c d : Nat) : ∀ l : List Nat, abv c (ins d l) = abv c (d :: l)
 | [] => rfl
 | x :: l => by
  unfold ins
  split
  ·rfl
  ·simp only [abv]
   rw [abv_ins c d l]
   simp only [abv]; omega
theorem abv_foldl (c : Nat) : ∀ (cs l : List Nat), abv c (cs.foldl (fun l c => ins c l) l) = abv c cs + abv c l
 | [], l => by simp [abv]
 | d :: cs, l => by
  rw [List.foldl_cons, abv_foldl c cs, abv_ins]
  simp only [abv]; omega
theorem abv_srt (c : Nat) (cs : List Nat) : abv c (srt cs) = abv c cs := by unfold srt; rw [abv_foldl]; simp [abv]

/-- Rising, as many as there are numbers below n: all of them. -/
theorem up_ge : ∀ {l : List Nat} {b : Nat}, l.Pairwise (· < ·) → (∀ x ∈ l, b ≤ x) → ∀ i, i < l.length → b + i ≤ l.getD i 0
 | [], b, _, _, i, hi => by simp at hi
 | x :: l, b, h, hb, i, hi => by
  have h' := List.pairwise_cons.1 h
  cases i with
  | zero => simpa using hb x (by simp)
  | succ i =>
   have := up_ge (l := l) (b := b + 1) h'.2 (fun y hy => by have := h'.1 y hy; have := hb x (by simp); omega) i (by simpa using hi)
   simp only [List.getD_cons_succ]
   omega
theorem up_lt {l : List Nat} (h : l.Pairwise (· < ·)) {i j : Nat} (hij : i < j) (hj : j < l.length) : l.getD i 0 < l.getD j 0 := by
 have := List.pairwise_iff_getElem.1 h i j (by omega) hj hij
 simpa [show i < l.length by omega, hj] using this
theorem up_all {l : List Nat} (h : l.Pairwise (· < ·)) {n : Nat} (hn : ∀ x ∈ l, x < n) (hl : l.length = n) {i : Nat} (hi : i < n) : l.getD i 0 = i := by
 have h1 := up_ge h (b := 0) (fun x _ => by omega) i (by omega)
 have h2 : ∀ d j, j + d + 1 = n → l.getD j 0 + d < n := by
  intro d
  induction d with
  | zero =>
   intro j hj
   have : l.getD j 0 ∈ l := by simp [show j < l.length by omega]
   have := hn _ this
   omega
  | succ d ih =>
   intro j hj
   have a := ih (j + 1) (by omega)
   have b := up_lt h (i := j) (j := j + 1) (by omega) (by omega)
   omega
 have := h2 (n - i - 1) i (by omega)
 omega

section
variable (A : Nat → Nat → Int)
abbrev gd (l : List Nat) : Nat → Nat := fun a => l.getD a 0
/-- What the first i rows have left: the kept rows, the columns in which they begin. -/
structure Stz (n i : Nat) (rs cs : List Nat) (odd : Bool) : Prop where
 len : cs.length = rs.length
 up : rs.Pairwise (· < ·)
 lt : ∀ r ∈ rs, r < i
 cl : ∀ c ∈ cs, c < n
 nz : ∀ k, k ≤ rs.length → dd A (gd rs) (gd cs) k ≠ 0
 low : ∀ k j, k < rs.length → j < cs.getD k 0 → mi A (gd rs) (gd cs) k (rs.getD k 0) j = 0
 drop : ∀ r, r < i → r ∉ rs → ∃ k, k ≤ rs.length ∧ (∀ a, a < k → rs.getD a 0 < r) ∧ ∀ j, j < n → mi A (gd rs) (gd cs) k r j = 0
 srt : (srt cs).Pairwise (· < ·) ∧ (srt cs).length = cs.length ∧ (∀ c, c ∈ srt cs ↔ c ∈ cs)
 mv : Mv cs (Proofs.YtnpcfohimlfbdaaGreat.srt cs) odd
variable {A}
theorem mi_congr {R R' C C' : Nat → Nat} {k : Nat} (hR : ∀ a, a < k → R a = R' a) (hC : ∀ a, a < k → C a = C' a) (r j : Nat) : mi A R C k r j = mi A R' C' k r j := det_congr fun a b ha hb => by
 have e : ∀ (X X' : Nat → Nat) (y a : Nat), (∀ a, a < k → X a = X' a) → bor k X y a = bor k X' y a := fun X X' y a h => by
  unfold bor
  split
  ·next q => exact h _ q
  ·rfl
 rw [e R R' r a hR, e C C' j b hC]
theorem dd_congr {R R' C C' : Nat → Nat} {k : Nat} (hR : ∀ a, a < k → R a = R' a) (hC : ∀ a, a < k → C a = C' a) : dd A R C k = dd A R' C' k := det_congr fun a b ha hb => by rw [hR a ha, hC b hb]
theorem gd_app {l m : List Nat} {a : Nat} (h : a < l.length) : gd (l ++ m) a = gd l a := by simp [gd, List.getElem?_append_left h]
theorem gd_end {l : List Nat} {x : Nat} : gd (l ++ [x]) l.length = x := by simp [gd]
theorem Stz.start (n : Nat) : Stz A n 0 [] [] false :=
 ⟨rfl, List.Pairwise.nil, fun r h => by simp at h, fun r h => by simp at h, fun k hk => by
  obtain rfl : k = 0 := by simpa using hk
  simp [dd, det], fun k j hk => by simp at hk, fun r hr => by omega, ⟨List.Pairwise.nil, rfl, fun c => Iff.rfl⟩, Mv.refl _⟩
/-- A row that leaves nothing. -/
theorem Stz.skip {n i : Nat} {rs cs : List Nat} {odd : Bool} (h : Stz A n i rs cs odd) (hz : ∀ j, j < n → mi A (gd rs) (gd cs) rs.length i j = 0) : Stz A n (i + 1) rs cs odd :=
 ⟨h.len, h.up, fun r hr => by have := h.lt r hr; omega, h.cl, h.nz, h.low, fun r hr hn => by
  by_cases q : r = i
  ·subst q
   exact ⟨rs.length, Nat.le_refl _, fun a ha => h.lt _ (by simp [ha]), hz⟩
  ·exact h.drop r (by omega) hn, h.srt, h.mv⟩
/-- A row that is kept. -/
theorem Stz.keep {n i c : Nat} {rs cs : List Nat} {odd : Bool} (h : Stz A n i rs cs odd) (hc : c < n) (hn : mi A (gd rs) (gd cs) rs.length i c ≠ 0) (hz : ∀ j, j < c → mi A (gd rs) (gd cs) rs.length i j = 0) : Stz A n (i + 1) (rs ++ [i]) (cs ++ [c]) (odd ^^ par (abv c cs)) := by
 have hl := h.len
 have oR : ∀ k, k ≤ rs.length → ∀ a, a < k → gd (rs ++ [i]) a = gd rs a := fun k hk a ha => gd_app (by omega)
 have oC : ∀ k, k ≤ rs.length → ∀ a, a < k → gd (cs ++ [c]) a = gd cs a := fun k hk a ha => gd_app (by omega)
 have eR : gd (rs ++ [i]) rs.length = i := gd_end
 have eC : gd (cs ++ [c]) rs.length = c := by rw [← hl]; exact gd_end
 have hmem : c ∉ cs := fun hm => by
  obtain ⟨b, hb, e⟩ := List.getElem_of_mem hm
  have : gd cs b = c := by simp [gd, hb, e]
  exact hn (by rw [← this]; exact mi_old A _ _ _ (by omega))
 refine ⟨by simp [hl], ?_, ?_, ?_, fun k hk => ?_, fun k j hk hj => ?_, fun r hr hnm => ?_, ?_, ?_⟩
 ·rw [List.pairwise_append]
  exact ⟨h.up, by simp, fun a ha b hb => by simp at hb; subst hb; exact h.lt a ha⟩
 ·intro r hr
  rcases List.mem_append.1 hr with q | q
  ·have := h.lt r q; omega
  ·simp at q; omega
 ·intro r hr
  rcases List.mem_append.1 hr with q | q
  ·exact h.cl r q
  ·simp at q; omega
 ·simp only [List.length_append, List.length_cons, List.length_nil] at hk
  by_cases q : k ≤ rs.length
  ·rw [dd_congr (oR k q) (oC k q)]; exact h.nz k q
  ·obtain rfl : k = rs.length + 1 := by omega
   rw [← mi_dd, eR, eC, mi_congr (oR _ (Nat.le_refl _)) (oC _ (Nat.le_refl _))]
   exact hn
 ·simp only [List.length_append, List.length_cons, List.length_nil] at hk
  by_cases q : k < rs.length
  ·rw [mi_congr (oR k (by omega)) (oC k (by omega))]
   have e1 : (rs ++ [i]).getD k 0 = rs.getD k 0 := gd_app q
   have e2 : (cs ++ [c]).getD k 0 = cs.getD k 0 := gd_app (by omega)
   rw [e1]; rw [e2] at hj
   exact h.low k j q hj
  ·obtain rfl : k = rs.length := by omega
   have e1 : (rs ++ [i]).getD rs.length 0 = i := eR
   have e2 : (cs ++ [c]).getD rs.length 0 = c := eC
   rw [mi_congr (oR _ (by omega)) (oC _ (by omega)), e1]
   rw [e2] at hj
   exact hz j hj
 ·have q : r ≠ i := fun q => hnm (by simp [q])
  obtain ⟨k, h1, h2, h3⟩ := h.drop r (by omega) (fun hm => hnm (by simp [hm]))
  refine ⟨k, by simp; omega, fun a ha => ?_, fun j hj => ?_⟩
  ·have e1 : (rs ++ [i]).getD a 0 = rs.getD a 0 := gd_app (by omega)
   rw [e1]; exact h2 a ha
  ·rw [mi_congr (oR k h1) (oC k h1)]; exact h3 j hj
 ·obtain ⟨h1, h2, h3⟩ := h.srt
  rw [srt_app]
  refine ⟨ins_up h1 (fun hm => hmem ((h3 c).1 hm)), by rw [ins_len, h2]; simp, fun d => ?_⟩
  rw [ins_mem, h3, List.mem_append, List.mem_singleton]
  exact Or.comm
 ·rw [srt_app]
  have h1 := h.mv.app [c]
  have h2 := Mv.ins c h.srt.1
  rw [abv_srt] at h2
  exact h1.trans h2
/-- Rows that depend on each other. -/
theorem dep_of {i k r : Nat} (S : Nat → Nat) (e : Nat → Int) (hS : ∀ a, a ≤ k → S a < i) (hk : S k = r) (hne : ∀ a, a < k → S a ≠ r) (he : e k ≠ 0) (h : ∀ j, j < i → su (k + 1) (fun a => e a * A (S a) j) = 0) : det i A = 0 := by
 refine det_dep (r := r) A (by rw [← hk]; exact hS k (Nat.le_refl _)) (fun q => su (k + 1) fun a => if S a = q then e a else 0) ?_ fun j hj => ?_
 ·show su (k + 1) (fun a => if S a = r then e a else 0) ≠ 0
  rw [su_one (i := k) (by omega) fun a ha hak => if_neg (hne a (by omega)), if_pos hk]
  exact he
 ·show su i (fun q => (su (k + 1) fun a => if S a = q then e a else 0) * A q j) = 0
  refine Eq.trans ?_ (h j hj)
  have e1 : su i (fun q => (su (k + 1) fun a => if S a = q then e a else 0) * A q j) = su i fun q => su (k + 1) fun a => (if S a = q then e a else 0) * A q j := su_congr fun q _ => (su_mulr _ _ _).symm
  rw [e1, su_swap]
  refine su_congr fun a ha => ?_
  rw [su_one (i := S a) (hS a (by omega)) fun q _ hq => by rw [if_neg (Ne.symm hq)]; simp, if_pos rfl]
theorem mi_dep {n i k r : Nat} {R C : Nat → Nat} (hR : ∀ a, a < k → R a < i ∧ R a ≠ r) (hr : r < i) (hd : dd A R C k ≠ 0) (h : ∀ j, j < i → mi A R C k r j = 0) : det i A = 0 := by
 obtain ⟨e, e0, he⟩ := mi_lin A R C k r
 refine dep_of (k := k) (r := r) (bor k R r) e (fun a ha => ?_) bor_eq (fun a ha => ?_) (by rw [e0]; exact hd) fun j hj => by rw [← he]; exact h j hj
 ·by_cases q : a < k
  ·rw [bor_lt q]; exact (hR a q).1
  ·obtain rfl : a = k := by omega
   rw [bor_eq]; exact hr
 ·rw [bor_lt ha]; exact (hR a ha).2
/-- What det answers. -/
def detS (A : Nat → Nat → Int) (rs cs : List Nat) (odd : Bool) : Int := sgb odd * dd A (gd rs) (gd cs) rs.length
theorem Stz.core {n i : Nat} {rs cs : List Nat} {odd : Bool} (h : Stz A n i rs cs odd) : detS A rs cs odd = det rs.length fun a b => A (rs.getD a 0) ((Proofs.YtnpcfohimlfbdaaGreat.srt cs).getD b 0) := by
 have h1 := h.mv (fun a b => A (rs.getD a 0) b) [] []
 simp only [List.nil_append, List.append_nil] at h1
 unfold dl at h1
 rw [h.srt.2.1, h.len] at h1
 unfold detS dd
 show sgb odd * det rs.length (fun a b => A (rs.getD a 0) (cs.getD b 0)) = _
 rw [h1, ← Int.mul_assoc]
 have : sgb odd * sgb odd = 1 := by cases odd <;> rfl
 rw [this, Int.one_mul]
/-- What leading answers. -/
theorem Stz.lead {n i : Nat} {rs cs : List Nat} {odd : Bool} (h : Stz A n i rs cs odd) (hi : i ≤ n) : det i A = if rs.length < i ∨ ∃ c ∈ cs, i ≤ c then 0 else detS A rs cs odd := by
 by_cases q : rs.length < i ∨ ∃ c ∈ cs, i ≤ c
 ·rw [if_pos q]
  rcases q with q | ⟨c, hc, hci⟩
  ·obtain ⟨r, hr, hn⟩ : ∃ r, r < i ∧ r ∉ rs := by
    apply Classical.byContradiction
    intro hcon
    have hall : ∀ r, r < i → r ∈ rs := fun r hr => Classical.byContradiction fun hm => hcon ⟨r, hr, hm⟩
    have : (List.range i).length ≤ rs.length := List.nodup_range.length_le_of_subset fun r hr => hall r (by simpa using hr)
    simp at this
    omega
   obtain ⟨k, h1, h2, h3⟩ := h.drop r hr hn
   exact mi_dep (n := n) (k := k) (r := r) (R := gd rs) (C := gd cs) (fun a ha => by have := h2 a ha; exact ⟨by show rs.getD a 0 < i; omega, by show rs.getD a 0 ≠ r; omega⟩) hr (h.nz k h1) fun j hj => h3 j (by omega)
  ·obtain ⟨k, hk, e⟩ := List.getElem_of_mem hc
   have ek : cs.getD k 0 = c := by simp [hk, e]
   have hk' : k < rs.length := by rw [← h.len]; exact hk
   have hm : rs.getD k 0 ∈ rs := by simp [hk']
   refine mi_dep (n := n) (k := k) (r := rs.getD k 0) (R := gd rs) (C := gd cs) (fun a ha => ?_) (h.lt _ hm) (h.nz k (by omega)) fun j hj => h.low k j hk' (by omega)
   have hma : rs.getD a 0 ∈ rs := by simp [show a < rs.length by omega]
   have := up_lt h.up ha hk'
   exact ⟨h.lt _ hma, by show rs.getD a 0 ≠ _; omega⟩
 ·rw [if_neg q, h.core]
  have q1 : ¬ rs.length < i := fun x => q (.inl x)
  have hl : rs.length = i := by
   have : rs.length ≤ (List.range i).length := List.Nodup.length_le_of_subset (h.up.imp fun hab => Nat.ne_of_lt hab) fun r hr => by simpa using h.lt r hr
   simp at this
   omega
  have hc : ∀ c ∈ Proofs.YtnpcfohimlfbdaaGreat.srt cs, c < i := fun c hc => by
   apply Classical.byContradiction
   intro x
   exact q (.inr ⟨c, (h.srt.2.2 c).1 hc, by omega⟩)
  rw [hl]
  refine det_congr fun a b ha hb => ?_
  rw [up_all h.up h.lt hl ha, up_all h.srt.1 hc (by rw [h.srt.2.1, h.len, hl]) hb]
end
end Go.Proofs.YtnpcfohimlfbdaaGreat
