import Derived.Test.YtkklldokdnfkgaaGreatQEach9ToPr12
set_option maxRecDepth 100000
set_option maxHeartbeats 6400000
set_option linter.unusedVariables false
set_option linter.unusedSimpArgs false
namespace Go.Proofs.YtkklldokdnfkgaaGreat
def rowE (m : List (List Int)) (i : Nat) : List Int := m.getD i []
def ent (m : List (List Int)) (i j : Nat) : Int := (rowE m i).getD j 0
def IsR (p : Nat) (x : Int) : Prop := 0 ≤ x ∧ x < (p : Int)
def Res (p : Nat) (l : List Int) : Prop := ∀ x ∈ l,IsR p x
def ResM (p : Nat) (m : List (List Int)) : Prop := ∀ l ∈ m,Res p l
def WidE (c : Nat) (m : List (List Int)) : Prop := ∀ l ∈ m,l.length = c
def invP (p : Nat) (x : Int) : Int := ((x.toNat ^ (p - 2) % p : Nat) : Int)
def dvL (p : Nat) (b : Int) (l : List Int) : List Int := l.map fun x => x * invP p b % (p : Int)
def tkL (p : Nat) (t : Int) (l o : List Int) : List Int := if t = 0 then l else List.zipWith (fun x y => (x + ((p : Int) - t) * y) % (p : Int)) l o
def swE (m : List (List Int)) (i j : Nat) : List (List Int) := (m.set i (rowE m j)).set j (rowE m i)
def clr (p c top : Nat) (rt : List Int) (m : List (List Int)) (k : Nat) : List (List Int) := (List.range m.length).map fun i => if i = top ∨ k ≤ i then rowE m i else tkL p (ent m i c) (rowE m i) rt
structure St12 where
 m : List (List Int)
 pv : List Nat
 f : Int
def zZB (p c : Nat) (s : St12) : St12 :=
 match (s.m.drop s.pv.length).findIdx? (fun l => l.getD c 0 != 0) with
 | none => s
 | some k =>
  let m1 := if 0 < k then swE s.m s.pv.length (s.pv.length + k) else s.m
  let f1 := if 0 < k then ((p : Int) - s.f) % (p : Int) else s.f
  let x := ent m1 s.pv.length c
  let rt := dvL p x (rowE m1 s.pv.length)
  ⟨clr p c s.pv.length rt (m1.set s.pv.length rt) m1.length,s.pv ++ [c],f1 * x % (p : Int)⟩
def zXA (p : Nat) (m : List (List Int)) : Nat → St12
 | 0 => ⟨m,[],1⟩
 | c + 1 => zZB p c (zXA p m c)
theorem zPB {m : List (List Int)} {i : Nat} (h : i < m.length) : rowE m i = m[i] := by simp [rowE,h]
theorem WidE.at {c i : Nat} {m : List (List Int)} (h : WidE c m) (hi : i < m.length) : (rowE m i).length = c := by rw [zPB hi];exact h _ (List.getElem_mem hi)
theorem ResM.at {p : Nat} {m : List (List Int)} (h : ResM p m) (i : Nat) : Res p (rowE m i) := by
 by_cases hi : i < m.length
 ·rw [zPB hi];exact h _ (List.getElem_mem hi)
 ·intro x hx
  simp [rowE,show m[i]? = none by simp;omega] at hx
theorem Res.at {p : Nat} {l : List Int} (h : Res p l) {i : Nat} (hi : i < l.length) : IsR p l[i] := h _ (List.getElem_mem hi)
theorem Res.getD {p : Nat} (hp : 0 < p) {l : List Int} (h : Res p l) (i : Nat) : IsR p (l.getD i 0) := by
 by_cases hi : i < l.length
 ·simp [hi];exact h.at hi
 ·simp [show l[i]? = none by simp;omega];unfold IsR;omega
theorem WidE.set {c i : Nat} {m : List (List Int)} {r : List Int} (h : WidE c m) (hr : r.length = c) : WidE c (m.set i r) := fun x hx => by
 rcases List.mem_or_eq_of_mem_set hx with q | rfl
 ·exact h x q
 ·exact hr
theorem ResM.set {p i : Nat} {m : List (List Int)} {r : List Int} (h : ResM p m) (hr : Res p r) : ResM p (m.set i r) := fun x hx => by
 rcases List.mem_or_eq_of_mem_set hx with q | rfl
 ·exact h x q
 ·exact hr
theorem zuE {c i j : Nat} {m : List (List Int)} (h : WidE c m) (hi : i < m.length) (hj : j < m.length) : WidE c (swE m i j) := (h.set (h.at hj)).set (h.at hi)
theorem zwF {p i j : Nat} {m : List (List Int)} (h : ResM p m) : ResM p (swE m i j) := (h.set (h.at j)).set (h.at i)
theorem zxB {p : Nat} (hp : 0 < p) (x : Int) : IsR p (x % (p : Int)) := ⟨Int.emod_nonneg _ (by omega),Int.emod_lt_of_pos _ (by omega)⟩
theorem zHG {p : Nat} (hp : 0 < p) (b : Int) (l : List Int) : Res p (dvL p b l) := fun x hx => by
 obtain ⟨y,_,rfl⟩ := List.mem_map.1 hx;exact zxB hp _
theorem zKE (p : Nat) (b : Int) (l : List Int) : (dvL p b l).length = l.length := by simp [dvL]
theorem zNH {p : Nat} (hp : 0 < p) {t : Int} {l o : List Int} (h : Res p l) : Res p (tkL p t l o) := by
 unfold tkL
 split
 ·exact h
 ·intro x hx
  rw [List.zipWith_eq_zipWith_take_min,← List.map_uncurry_zip_eq_zipWith] at hx;obtain ⟨y,_,rfl⟩ := List.mem_map.1 hx;exact zxB hp _
theorem zuD (p : Nat) (t : Int) {l o : List Int} (h : l.length = o.length) : (tkL p t l o).length = l.length := by
 unfold tkL
 split
 ·rfl
 ·simp [h]
theorem zlA (p c top : Nat) (rt : List Int) (m : List (List Int)) (k : Nat) : (clr p c top rt m k).length = m.length := by simp [clr]
theorem zfB {p c top : Nat} {rt : List Int} {m : List (List Int)} {k i : Nat} (h : i < m.length) : rowE (clr p c top rt m k) i = if i = top ∨ k ≤ i then rowE m i else tkL p (ent m i c) (rowE m i) rt := by
 simp [clr,rowE,h]
theorem zED {m n : List (List Int)} (hl : m.length = n.length) (h : ∀ i,i < m.length → rowE m i = rowE n i) : m = n := by
 refine List.ext_getElem hl fun i h1 h2 => ?_
 rw [← zPB h1,← zPB h2];exact h i h1
theorem rowE_set {m : List (List Int)} {i j : Nat} {r : List Int} (h : i < m.length) : rowE (m.set i r) j = if i = j then r else rowE m j := by
 unfold rowE
 by_cases e : i = j
 ·subst e;simp [h]
 ·rw [if_neg e];simp [List.getElem?_set_ne e]
theorem zBH (p c top : Nat) (rt : List Int) (m : List (List Int)) : clr p c top rt m 0 = m :=
 zED (zlA ..) fun i hi => by
  rw [zlA] at hi;rw [zfB hi,if_pos (.inr (Nat.zero_le _))]
theorem zCH {p c top : Nat} {rt : List Int} {m : List (List Int)} {i : Nat} (hi : i < m.length) (hne : i ≠ top) : clr p c top rt m (i + 1) = (clr p c top rt m i).set i (tkL p (ent m i c) (rowE m i) rt) :=
 zED (by simp [zlA]) fun j hj => by
  rw [zlA] at hj;rw [rowE_set (by rw [zlA];exact hi),zfB hj]
  by_cases e : i = j
  ·subst e;rw [if_pos rfl,if_neg (by omega)]
  ·rw [if_neg e,zfB hj]
   by_cases q : j = top
   ·rw [if_pos (.inl q),if_pos (.inl q)]
   ·by_cases q2 : i + 1 ≤ j
    ·rw [if_pos (.inr q2),if_pos (.inr (by omega))]
    ·rw [if_neg (by omega),if_neg (by omega)]
theorem zrH {p c top : Nat} {rt : List Int} {m : List (List Int)} : clr p c top rt m (top + 1) = clr p c top rt m top :=
 zED (by simp [zlA]) fun j hj => by
  rw [zlA] at hj;rw [zfB hj,zfB hj]
  by_cases q : j = top
  ·rw [if_pos (.inl q),if_pos (.inl q)]
  ·by_cases q2 : top + 1 ≤ j
   ·rw [if_pos (.inr q2),if_pos (.inr (by omega))]
   ·rw [if_neg (by omega),if_neg (by omega)]
theorem clr_wide {p c top : Nat} {rt : List Int} {m : List (List Int)} {k n : Nat} (h : WidE n m) (hr : rt.length = n) : WidE n (clr p c top rt m k) := fun l hl => by
 obtain ⟨i,hi,e⟩ := List.mem_iff_getElem.1 hl;rw [zlA] at hi;rw [← e,← zPB,zfB hi]
 split
 ·exact h.at hi
 ·rw [zuD _ _ (by rw [h.at hi,hr])];exact h.at hi
theorem clr_res {p c top : Nat} (hp : 0 < p) {rt : List Int} {m : List (List Int)} {k : Nat} (h : ResM p m) : ResM p (clr p c top rt m k) := fun l hl => by
 obtain ⟨i,hi,e⟩ := List.mem_iff_getElem.1 hl;rw [zlA] at hi;rw [← e,← zPB,zfB hi]
 split
 ·exact h.at i
 ·exact zNH hp (h.at i)
structure Ok12 (p n c : Nat) (rows : Nat) (s : St12) : Prop where
 wid : WidE n s.m
 res : ResM p s.m
 len : s.m.length = rows
 piv : s.pv.length ≤ rows
 pvc : ∀ a ∈ s.pv,a < c
 fac : IsR p s.f
theorem step12_none {p c : Nat} {s : St12} (h : ∀ l ∈ s.m.drop s.pv.length,l.getD c 0 = 0) : zZB p c s = s := by
 unfold zZB;rw [List.findIdx?_eq_none_iff.2 (fun l hl => by have := h l hl;simpa using this)]
theorem zvD {p c k : Nat} {s : St12} (hk : k < (s.m.drop s.pv.length).length) (h0 : ∀ j (h : j < k),((s.m.drop s.pv.length)[j]'(by omega)).getD c 0 = 0) (h1 : ((s.m.drop s.pv.length)[k]).getD c 0 ≠ 0) : zZB p c s =
  let m1 := if 0 < k then swE s.m s.pv.length (s.pv.length + k) else s.m
  let f1 := if 0 < k then ((p : Int) - s.f) % (p : Int) else s.f
  let x := ent m1 s.pv.length c
  let rt := dvL p x (rowE m1 s.pv.length)
  ⟨clr p c s.pv.length rt (m1.set s.pv.length rt) m1.length,s.pv ++ [c],f1 * x % (p : Int)⟩ := by
 have e : (s.m.drop s.pv.length).findIdx? (fun l => l.getD c 0 != 0) = some k := List.findIdx?_eq_some_iff_getElem.2 ⟨hk,by simpa using h1,fun j hj => by simpa using h0 j hj⟩;unfold zZB;rw [e]
theorem Ok12.step {p n c rows : Nat} {s : St12} (hp : 0 < p) (h : Ok12 p n c rows s) : Ok12 p n (c + 1) rows (zZB p c s) := by
 unfold zZB
 split
 ·exact ⟨h.wid,h.res,h.len,h.piv,fun a ha => Nat.lt_succ_of_lt (h.pvc a ha),h.fac⟩
 ·rename_i k hk
  obtain ⟨hk1,-,-⟩ := List.findIdx?_eq_some_iff_getElem.1 hk;rw [List.length_drop] at hk1;have hl := h.len;have w1 : WidE n (if 0 < k then swE s.m s.pv.length (s.pv.length + k) else s.m) := by
   split
   ·exact zuE h.wid (by omega) (by omega)
   ·exact h.wid
  have r1 : ResM p (if 0 < k then swE s.m s.pv.length (s.pv.length + k) else s.m) := by
   split
   ·exact zwF h.res
   ·exact h.res
  have l1 : (if 0 < k then swE s.m s.pv.length (s.pv.length + k) else s.m).length = rows := by
   split
   ·simp [swE,hl]
   ·exact hl
  generalize (if 0 < k then swE s.m s.pv.length (s.pv.length + k) else s.m) = m1 at *;have e1 : (dvL p (ent m1 s.pv.length c) (rowE m1 s.pv.length)).length = n := by rw [zKE];exact w1.at (by omega)
  refine ⟨clr_wide (w1.set e1) e1,clr_res hp (r1.set (zHG hp _ _)),?_,?_,fun a ha => ?_,zxB hp _⟩
  ·show (clr _ _ _ _ _ _).length = _
   rw [zlA,List.length_set];exact l1
  ·simp;omega
  ·rcases List.mem_append.1 ha with q | q
   ·exact Nat.lt_succ_of_lt (h.pvc a q)
   ·simp at q;omega
theorem Ok12.red {p n rows : Nat} {m : List (List Int)} (hp : 2 ≤ p) (hw : WidE n m) (hr : ResM p m) (hl : m.length = rows) : ∀ c,Ok12 p n c rows (zXA p m c)
 | 0 => ⟨hw,hr,hl,by simp [zXA],fun a ha => by simp [zXA] at ha,by simp [zXA];unfold IsR;omega⟩
 | c + 1 => (Ok12.red hp hw hr hl c).step (by omega)
end Go.Proofs.YtkklldokdnfkgaaGreat
