/-
  QPr12ToFn12: Pr12, Fn12, joined.
-/
import Derived.Below

/- Pr12 -/
namespace Go.Proofs.YtiedmlfiboalhaaGreat

def IsPr (n : Nat) : Prop := 2 ≤ n ∧ ∀ d, d ∣ n → d = 1 ∨ d = n

theorem ispr_odd {n d : Nat} (h1 : 1 < n) (h2 : n % 2 = 1) (hd : ∀ e, 3 ≤ e → e % 2 = 1 → e < d → ¬ e ∣ n) (hn : n < d * d) : IsPr n := by
  refine ⟨h1, fun e he => ?_⟩
  obtain ⟨f, rfl⟩ := he
  by_cases e1 : e = 1
  · exact .inl e1
  · by_cases f1 : f = 1
    · right; subst f1; simp
    · exfalso
      have eo : e % 2 = 1 := by
        rcases Nat.mod_two_eq_zero_or_one e with q | q
        · rw [Nat.mul_mod, q] at h2; simp at h2
        · exact q
      have fo : f % 2 = 1 := by
        rcases Nat.mod_two_eq_zero_or_one f with q | q
        · rw [Nat.mul_mod, q] at h2; simp at h2
        · exact q
      by_cases q : e < d
      · exact hd e (by omega) eo q ⟨f, rfl⟩
      · have : f < d := by
          apply Classical.byContradiction
          intro k
          have := Nat.mul_le_mul (show d ≤ e by omega) (show d ≤ f by omega)
          omega
        exact hd f (by omega) fo this ⟨e, Nat.mul_comm _ _⟩
theorem ispr_all {n d : Nat} (h1 : 2 ≤ n) (hd : ∀ e, 2 ≤ e → e < d → ¬ e ∣ n) (hn : n < d * d) : IsPr n := by
  refine ⟨h1, fun e he => ?_⟩
  obtain ⟨f, rfl⟩ := he
  by_cases e1 : e = 1
  · exact .inl e1
  · by_cases f1 : f = 1
    · right; subst f1; simp
    · exfalso
      have e0 : e ≠ 0 := fun q => by subst q; simp at h1
      have f0 : f ≠ 0 := fun q => by subst q; simp at h1
      by_cases q : e < d
      · exact hd e (by omega) q ⟨f, rfl⟩
      · have : f < d := by
          apply Classical.byContradiction
          intro k
          have := Nat.mul_le_mul (show d ≤ e by omega) (show d ≤ f by omega)
          omega
        exact hd f (by omega) this ⟨e, Nat.mul_comm _ _⟩
theorem not_ispr {n d : Nat} (h1 : 2 ≤ d) (h2 : d * d ≤ n) (h : d ∣ n) : ¬ IsPr n := fun hp => by
  rcases hp.2 d h with q | q
  · omega
  · subst q
    have := Nat.mul_le_mul (Nat.le_refl d) h1
    omega
theorem ispr_even {n : Nat} (h : n % 2 = 0) : IsPr n ↔ n = 2 := by
  refine ⟨fun hp => ?_, fun e => ?_⟩
  · rcases hp.2 2 (Nat.dvd_of_mod_eq_zero h) with q | q <;> omega
  · subst e
    exact ispr_all (d := 2) (by omega) (fun e h1 h2 => by omega) (by omega)
/-- Euclid's lemma. -/
theorem IsPr.euclid {p a b : Nat} (hp : IsPr p) (h : p ∣ a * b) : p ∣ a ∨ p ∣ b := by
  rcases hp.2 (Nat.gcd p a) (Nat.gcd_dvd_left p a) with q | q
  · right
    exact Nat.Coprime.dvd_of_dvd_mul_left (k := p) (m := a) (n := b) q h
  · left
    rw [← q]
    exact Nat.gcd_dvd_right p a
theorem prod_perm {l m : List Nat} (h : l.Perm m) : l.foldr (· * ·) 1 = m.foldr (· * ·) 1 := by
  induction h with
  | nil => rfl
  | cons x _ ih => simp [ih]
  | swap x y l => simp only [List.foldr_cons]; rw [Nat.mul_left_comm]
  | trans _ _ i1 i2 => rw [i1, i2]
theorem nodup_map_on {α β : Type} {f : α → β} : ∀ {l : List α}, l.Nodup → (∀ x ∈ l, ∀ y ∈ l, f x = f y → x = y) → (l.map f).Nodup
  | [], _, _ => by simp
  | a :: l, h, hi => by
    rw [List.nodup_cons] at h
    rw [List.map_cons, List.nodup_cons]
    refine ⟨fun hm => ?_, nodup_map_on h.2 (fun x hx y hy => hi x (by simp [hx]) y (by simp [hy]))⟩
    obtain ⟨b, hb, e⟩ := List.mem_map.1 hm
    have := hi b (by simp [hb]) a (by simp) e
    exact h.1 (this ▸ hb)
theorem mem_of_full {l m : List Nat} (hl : l.Nodup) (hs : ∀ x ∈ l, x ∈ m) (hn : m.length ≤ l.length) : ∀ x ∈ m, x ∈ l := by
  intro x hx
  apply Classical.byContradiction
  intro hc
  have h1 : (x :: l).Nodup := List.nodup_cons.2 ⟨hc, hl⟩
  have := List.Nodup.length_le_of_subset h1 (fun y hy => by
    rcases List.mem_cons.1 hy with q | q
    · subst q; exact hx
    · exact hs y q)
  simp at this
  omega
theorem mod_prod {p a : Nat} : ∀ l : List Nat, ((l.map fun k => a * k % p).foldr (· * ·) 1) % p = (a ^ l.length * l.foldr (· * ·) 1) % p
  | [] => by simp
  | k :: l => by
    simp only [List.map_cons, List.foldr_cons, List.length_cons]
    rw [Nat.mul_mod, mod_prod l, Nat.mod_mod, ← Nat.mul_mod]
    congr 1
    rw [Nat.pow_succ]
    simp only [Nat.mul_assoc, Nat.mul_left_comm, Nat.mul_comm]
theorem fact_cop {p : Nat} (hp : IsPr p) : ∀ l : List Nat, (∀ x ∈ l, 1 ≤ x ∧ x < p) → ¬ p ∣ l.foldr (· * ·) 1
  | [], _, h => by
    have := Nat.le_of_dvd (by simp) h
    have := hp.1
    simp at *
    omega
  | k :: l, hl, h => by
    rcases hp.euclid h with q | q
    · have h1 := hl k (by simp)
      have := Nat.le_of_dvd h1.1 q
      omega
    · exact fact_cop hp l (fun x hx => hl x (by simp [hx])) q
theorem dvd_sub_of_mod {p x y : Nat} (h : x % p = y % p) (hxy : x ≤ y) : p ∣ y - x := by
  refine ⟨y / p - x / p, ?_⟩
  have h1 := Nat.div_add_mod x p
  have h2 := Nat.div_add_mod y p
  rw [Nat.mul_sub]
  omega
theorem mod_of_dvd_sub {p x y : Nat} (h : p ∣ y - x) (hxy : x ≤ y) : x % p = y % p := by
  obtain ⟨k, hk⟩ := h
  have : y = x + p * k := by omega
  rw [this, Nat.add_mul_mod_self_left]
/-- Fermat: the power p - 1 leaves 1. -/
theorem fermat {p a : Nat} (hp : IsPr p) (ha : ¬ p ∣ a) : a ^ (p - 1) % p = 1 := by
  have h2 := hp.1
  have hmem : ∀ x, x ∈ List.range' 1 (p - 1) ↔ 1 ≤ x ∧ x < p := fun x => by
    rw [List.mem_range'_1]; omega
  have hinj : ∀ x ∈ List.range' 1 (p - 1), ∀ y ∈ List.range' 1 (p - 1), a * x % p = a * y % p → x = y := by
    have key : ∀ x y, 1 ≤ x → y < p → x ≤ y → a * x % p = a * y % p → x = y := fun x y hx hy hxy e => by
      have : p ∣ a * y - a * x := dvd_sub_of_mod e (Nat.mul_le_mul_left a hxy)
      rw [← Nat.mul_sub] at this
      rcases hp.euclid this with q | q
      · exact absurd q ha
      · by_cases z : y - x = 0
        · omega
        · have := Nat.le_of_dvd (by omega) q
          omega
    intro x hx y hy e
    rw [hmem] at hx hy
    rcases Nat.le_total x y with q | q
    · exact key x y hx.1 hy.2 q e
    · exact (key y x hy.1 hx.2 q e.symm).symm
  have hperm : ((List.range' 1 (p - 1)).map fun k => a * k % p).Perm (List.range' 1 (p - 1)) := by
    have n1 : ((List.range' 1 (p - 1)).map fun k => a * k % p).Nodup := nodup_map_on List.nodup_range' hinj
    have hs : ∀ x ∈ ((List.range' 1 (p - 1)).map fun k => a * k % p), x ∈ List.range' 1 (p - 1) := fun x hx => by
      obtain ⟨k, hk, rfl⟩ := List.mem_map.1 hx
      rw [hmem] at hk ⊢
      refine ⟨?_, Nat.mod_lt _ (by omega)⟩
      apply Nat.pos_of_ne_zero
      intro e
      rcases hp.euclid (Nat.dvd_of_mod_eq_zero e) with q | q
      · exact ha q
      · have := Nat.le_of_dvd (by omega) q
        omega
    exact (List.perm_ext_iff_of_nodup n1 List.nodup_range').2 fun x => ⟨hs x, mem_of_full n1 hs (by simp) x⟩
  have e1 := mod_prod (p := p) (a := a) (List.range' 1 (p - 1))
  rw [prod_perm hperm] at e1
  have hc := fact_cop hp (List.range' 1 (p - 1)) (fun x hx => (hmem x).1 hx)
  rw [List.length_range'] at e1
  generalize (List.range' 1 (p - 1)).foldr (· * ·) 1 = F at *
  have hpos : 1 ≤ a ^ (p - 1) := Nat.pos_of_ne_zero fun e => by
    have : a = 0 := (Nat.pow_eq_zero.1 e).1
    exact ha (this ▸ Nat.dvd_zero p)
  have : p ∣ a ^ (p - 1) * F - F := dvd_sub_of_mod e1 (by have := Nat.mul_le_mul_right F hpos; omega)
  rw [show a ^ (p - 1) * F - F = (a ^ (p - 1) - 1) * F by rw [Nat.sub_mul, Nat.one_mul]] at this
  rcases hp.euclid this with q | q
  · have := mod_of_dvd_sub q hpos
    have e : 1 % p = 1 := Nat.mod_eq_of_lt (by omega)
    exact this.symm.trans e
  · exact absurd q hc
theorem fermat_inv {p a : Nat} (hp : IsPr p) (ha : ¬ p ∣ a) : a * (a ^ (p - 2) % p) % p = 1 := by
  have h2 := hp.1
  rw [Nat.mul_mod, Nat.mod_mod, ← Nat.mul_mod, Nat.mul_comm, ← Nat.pow_succ, show (p - 2).succ = p - 1 by omega]
  exact fermat hp ha
end Go.Proofs.YtiedmlfiboalhaaGreat

/- Fn12 -/
namespace Go.Proofs.YtiedmlfiboalhaaGreat
set_option linter.unusedVariables false

def rowE (m : List (List Int)) (i : Nat) : List Int := m.getD i []
def ent (m : List (List Int)) (i j : Nat) : Int := (rowE m i).getD j 0
/-- Residues. -/
def IsR (p : Nat) (x : Int) : Prop := 0 ≤ x ∧ x < (p : Int)
def Res (p : Nat) (l : List Int) : Prop := ∀ x ∈ l, IsR p x
def ResM (p : Nat) (m : List (List Int)) : Prop := ∀ l ∈ m, Res p l
def WidE (c : Nat) (m : List (List Int)) : Prop := ∀ l ∈ m, l.length = c
def invP (p : Nat) (x : Int) : Int := ((x.toNat ^ (p - 2) % p : Nat) : Int)
def dvL (p : Nat) (b : Int) (l : List Int) : List Int := l.map fun x => x * invP p b % (p : Int)
def tkL (p : Nat) (t : Int) (l o : List Int) : List Int := if t = 0 then l else List.zipWith (fun x y => (x + ((p : Int) - t) * y) % (p : Int)) l o
def swE (m : List (List Int)) (i j : Nat) : List (List Int) := (m.set i (rowE m j)).set j (rowE m i)
/-- The line rt taken from the lines above k, but for the line top. -/
def clr (p c top : Nat) (rt : List Int) (m : List (List Int)) (k : Nat) : List (List Int) := (List.range m.length).map fun i => if i = top ∨ k ≤ i then rowE m i else tkL p (ent m i c) (rowE m i) rt
structure St12 where
  m : List (List Int)
  pv : List Nat
  f : Int
def step12 (p c : Nat) (s : St12) : St12 :=
  match (s.m.drop s.pv.length).findIdx? (fun l => l.getD c 0 != 0) with
  | none => s
  | some k =>
    let m1 := if 0 < k then swE s.m s.pv.length (s.pv.length + k) else s.m
    let f1 := if 0 < k then ((p : Int) - s.f) % (p : Int) else s.f
    let x := ent m1 s.pv.length c
    let rt := dvL p x (rowE m1 s.pv.length)
    ⟨clr p c s.pv.length rt (m1.set s.pv.length rt) m1.length, s.pv ++ [c], f1 * x % (p : Int)⟩
def red12 (p : Nat) (m : List (List Int)) : Nat → St12
  | 0 => ⟨m, [], 1⟩
  | c + 1 => step12 p c (red12 p m c)

theorem rowE_at {m : List (List Int)} {i : Nat} (h : i < m.length) : rowE m i = m[i] := by simp [rowE, h]
theorem WidE.at {c i : Nat} {m : List (List Int)} (h : WidE c m) (hi : i < m.length) : (rowE m i).length = c := by rw [rowE_at hi]; exact h _ (List.getElem_mem hi)
theorem ResM.at {p : Nat} {m : List (List Int)} (h : ResM p m) (i : Nat) : Res p (rowE m i) := by
  by_cases hi : i < m.length
  · rw [rowE_at hi]; exact h _ (List.getElem_mem hi)
  · intro x hx
    simp [rowE, show m[i]? = none by simp; omega] at hx
theorem Res.at {p : Nat} {l : List Int} (h : Res p l) {i : Nat} (hi : i < l.length) : IsR p l[i] := h _ (List.getElem_mem hi)
theorem Res.getD {p : Nat} (hp : 0 < p) {l : List Int} (h : Res p l) (i : Nat) : IsR p (l.getD i 0) := by
  by_cases hi : i < l.length
  · simp [hi]; exact h.at hi
  · simp [show l[i]? = none by simp; omega]; unfold IsR; omega
theorem WidE.set {c i : Nat} {m : List (List Int)} {r : List Int} (h : WidE c m) (hr : r.length = c) : WidE c (m.set i r) := fun x hx => by
  rcases List.mem_or_eq_of_mem_set hx with q | rfl
  · exact h x q
  · exact hr
theorem ResM.set {p i : Nat} {m : List (List Int)} {r : List Int} (h : ResM p m) (hr : Res p r) : ResM p (m.set i r) := fun x hx => by
  rcases List.mem_or_eq_of_mem_set hx with q | rfl
  · exact h x q
  · exact hr
theorem swE_wide {c i j : Nat} {m : List (List Int)} (h : WidE c m) (hi : i < m.length) (hj : j < m.length) : WidE c (swE m i j) := (h.set (h.at hj)).set (h.at hi)
theorem swE_res {p i j : Nat} {m : List (List Int)} (h : ResM p m) : ResM p (swE m i j) := (h.set (h.at j)).set (h.at i)
theorem emod_isR {p : Nat} (hp : 0 < p) (x : Int) : IsR p (x % (p : Int)) := ⟨Int.emod_nonneg _ (by omega), Int.emod_lt_of_pos _ (by omega)⟩
theorem dvL_res {p : Nat} (hp : 0 < p) (b : Int) (l : List Int) : Res p (dvL p b l) := fun x hx => by
  obtain ⟨y, _, rfl⟩ := List.mem_map.1 hx
  exact emod_isR hp _
theorem dvL_len (p : Nat) (b : Int) (l : List Int) : (dvL p b l).length = l.length := by simp [dvL]
theorem tkL_res {p : Nat} (hp : 0 < p) {t : Int} {l o : List Int} (h : Res p l) : Res p (tkL p t l o) := by
  unfold tkL
  split
  · exact h
  · intro x hx
    rw [List.zipWith_eq_zipWith_take_min, ← List.map_uncurry_zip_eq_zipWith] at hx
    obtain ⟨y, _, rfl⟩ := List.mem_map.1 hx
    exact emod_isR hp _
theorem tkL_len (p : Nat) (t : Int) {l o : List Int} (h : l.length = o.length) : (tkL p t l o).length = l.length := by
  unfold tkL
  split
  · rfl
  · simp [h]
theorem clr_len (p c top : Nat) (rt : List Int) (m : List (List Int)) (k : Nat) : (clr p c top rt m k).length = m.length := by simp [clr]
theorem clr_at {p c top : Nat} {rt : List Int} {m : List (List Int)} {k i : Nat} (h : i < m.length) : rowE (clr p c top rt m k) i = if i = top ∨ k ≤ i then rowE m i else tkL p (ent m i c) (rowE m i) rt := by
  simp [clr, rowE, h]
theorem ext_rowE {m n : List (List Int)} (hl : m.length = n.length) (h : ∀ i, i < m.length → rowE m i = rowE n i) : m = n := by
  refine List.ext_getElem hl fun i h1 h2 => ?_
  rw [← rowE_at h1, ← rowE_at h2]
  exact h i h1
theorem rowE_set {m : List (List Int)} {i j : Nat} {r : List Int} (h : i < m.length) : rowE (m.set i r) j = if i = j then r else rowE m j := by
  unfold rowE
  by_cases e : i = j
  · subst e; simp [h]
  · rw [if_neg e]; simp [List.getElem?_set_ne e]
theorem clr_zero (p c top : Nat) (rt : List Int) (m : List (List Int)) : clr p c top rt m 0 = m :=
  ext_rowE (clr_len ..) fun i hi => by
    rw [clr_len] at hi
    rw [clr_at hi, if_pos (.inr (Nat.zero_le _))]
theorem clr_succ {p c top : Nat} {rt : List Int} {m : List (List Int)} {i : Nat} (hi : i < m.length) (hne : i ≠ top) : clr p c top rt m (i + 1) = (clr p c top rt m i).set i (tkL p (ent m i c) (rowE m i) rt) :=
  ext_rowE (by simp [clr_len]) fun j hj => by
    rw [clr_len] at hj
    rw [rowE_set (by rw [clr_len]; exact hi), clr_at hj]
    by_cases e : i = j
    · subst e; rw [if_pos rfl, if_neg (by omega)]
    · rw [if_neg e, clr_at hj]
      by_cases q : j = top
      · rw [if_pos (.inl q), if_pos (.inl q)]
      · by_cases q2 : i + 1 ≤ j
        · rw [if_pos (.inr q2), if_pos (.inr (by omega))]
        · rw [if_neg (by omega), if_neg (by omega)]
theorem clr_top {p c top : Nat} {rt : List Int} {m : List (List Int)} : clr p c top rt m (top + 1) = clr p c top rt m top :=
  ext_rowE (by simp [clr_len]) fun j hj => by
    rw [clr_len] at hj
    rw [clr_at hj, clr_at hj]
    by_cases q : j = top
    · rw [if_pos (.inl q), if_pos (.inl q)]
    · by_cases q2 : top + 1 ≤ j
      · rw [if_pos (.inr q2), if_pos (.inr (by omega))]
      · rw [if_neg (by omega), if_neg (by omega)]
theorem clr_wide {p c top : Nat} {rt : List Int} {m : List (List Int)} {k n : Nat} (h : WidE n m) (hr : rt.length = n) : WidE n (clr p c top rt m k) := fun l hl => by
  obtain ⟨i, hi, e⟩ := List.mem_iff_getElem.1 hl
  rw [clr_len] at hi
  rw [← e, ← rowE_at, clr_at hi]
  split
  · exact h.at hi
  · rw [tkL_len _ _ (by rw [h.at hi, hr])]; exact h.at hi
theorem clr_res {p c top : Nat} (hp : 0 < p) {rt : List Int} {m : List (List Int)} {k : Nat} (h : ResM p m) : ResM p (clr p c top rt m k) := fun l hl => by
  obtain ⟨i, hi, e⟩ := List.mem_iff_getElem.1 hl
  rw [clr_len] at hi
  rw [← e, ← rowE_at, clr_at hi]
  split
  · exact h.at i
  · exact tkL_res hp (h.at i)
/-- A state is well formed. -/
structure Ok12 (p n c : Nat) (rows : Nat) (s : St12) : Prop where
  wid : WidE n s.m
  res : ResM p s.m
  len : s.m.length = rows
  piv : s.pv.length ≤ rows
  pvc : ∀ a ∈ s.pv, a < c
  fac : IsR p s.f
theorem step12_none {p c : Nat} {s : St12} (h : ∀ l ∈ s.m.drop s.pv.length, l.getD c 0 = 0) : step12 p c s = s := by
  unfold step12
  rw [List.findIdx?_eq_none_iff.2 (fun l hl => by have := h l hl; simpa using this)]
theorem step12_some {p c k : Nat} {s : St12} (hk : k < (s.m.drop s.pv.length).length) (h0 : ∀ j (h : j < k), ((s.m.drop s.pv.length)[j]'(by omega)).getD c 0 = 0) (h1 : ((s.m.drop s.pv.length)[k]).getD c 0 ≠ 0) : step12 p c s =
    let m1 := if 0 < k then swE s.m s.pv.length (s.pv.length + k) else s.m
    let f1 := if 0 < k then ((p : Int) - s.f) % (p : Int) else s.f
    let x := ent m1 s.pv.length c
    let rt := dvL p x (rowE m1 s.pv.length)
    ⟨clr p c s.pv.length rt (m1.set s.pv.length rt) m1.length, s.pv ++ [c], f1 * x % (p : Int)⟩ := by
  have e : (s.m.drop s.pv.length).findIdx? (fun l => l.getD c 0 != 0) = some k := List.findIdx?_eq_some_iff_getElem.2 ⟨hk, by simpa using h1, fun j hj => by simpa using h0 j hj⟩
  unfold step12
  rw [e]
theorem Ok12.step {p n c rows : Nat} {s : St12} (hp : 0 < p) (h : Ok12 p n c rows s) : Ok12 p n (c + 1) rows (step12 p c s) := by
  unfold step12
  split
  · exact ⟨h.wid, h.res, h.len, h.piv, fun a ha => Nat.lt_succ_of_lt (h.pvc a ha), h.fac⟩
  · rename_i k hk
    obtain ⟨hk1, -, -⟩ := List.findIdx?_eq_some_iff_getElem.1 hk
    rw [List.length_drop] at hk1
    have hl := h.len
    have w1 : WidE n (if 0 < k then swE s.m s.pv.length (s.pv.length + k) else s.m) := by
      split
      · exact swE_wide h.wid (by omega) (by omega)
      · exact h.wid
    have r1 : ResM p (if 0 < k then swE s.m s.pv.length (s.pv.length + k) else s.m) := by
      split
      · exact swE_res h.res
      · exact h.res
    have l1 : (if 0 < k then swE s.m s.pv.length (s.pv.length + k) else s.m).length = rows := by
      split
      · simp [swE, hl]
      · exact hl
    generalize (if 0 < k then swE s.m s.pv.length (s.pv.length + k) else s.m) = m1 at *
    have e1 : (dvL p (ent m1 s.pv.length c) (rowE m1 s.pv.length)).length = n := by rw [dvL_len]; exact w1.at (by omega)
    refine ⟨clr_wide (w1.set e1) e1, clr_res hp (r1.set (dvL_res hp _ _)), ?_, ?_, fun a ha => ?_, emod_isR hp _⟩
    · show (clr _ _ _ _ _ _).length = _
      rw [clr_len, List.length_set]; exact l1
    · simp; omega
    · rcases List.mem_append.1 ha with q | q
      · exact Nat.lt_succ_of_lt (h.pvc a q)
      · simp at q; omega
theorem Ok12.red {p n rows : Nat} {m : List (List Int)} (hp : 2 ≤ p) (hw : WidE n m) (hr : ResM p m) (hl : m.length = rows) : ∀ c, Ok12 p n c rows (red12 p m c)
  | 0 => ⟨hw, hr, hl, by simp [red12], fun a ha => by simp [red12] at ha, by simp [red12]; unfold IsR; omega⟩
  | c + 1 => (Ok12.red hp hw hr hl c).step (by omega)
end Go.Proofs.YtiedmlfiboalhaaGreat
