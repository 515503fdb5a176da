import Derived.Test.YtmnecbniappnaaaGreatQTl19ToHs18
set_option maxRecDepth 100000
set_option maxHeartbeats 6400000
set_option linter.unusedVariables false
set_option linter.unusedSimpArgs false
namespace Go.Proofs.YtmnecbniappnaaaGreat
def lesX (X : Nat → Nat → Int) (i j : Nat) (s : Int) : Nat → Nat → Int := fun t c => if t = i then X i c - s * X j c else X t c
def mixX (X : Nat → Nat → Int) (i j : Nat) (x y u v : Int) : Nat → Nat → Int := fun t c => if t = i then x * X i c + y * X j c else if t = j then u * X i c + v * X j c else X t c
def negX (X : Nat → Nat → Int) (i : Nat) : Nat → Nat → Int := fun t c => if t = i then - X i c else X t c
def swpX (X : Nat → Nat → Int) (i j : Nat) : Nat → Nat → Int := fun t c => if t = i then X j c else if t = j then X i c else X t c
theorem zSB (X : Nat → Nat → Int) (i j : Nat) (s : Int) (c : Nat) : lesX X i j s i c = X i c - s * X j c := if_pos rfl
theorem zpA {X : Nat → Nat → Int} {i j t : Nat} {s : Int} (h : t ≠ i) : lesX X i j s t = X t := by funext c;exact if_neg h
theorem zHD (X : Nat → Nat → Int) (i j : Nat) (x y u v : Int) (c : Nat) : mixX X i j x y u v i c = x * X i c + y * X j c := if_pos rfl
theorem ziD {X : Nat → Nat → Int} {i j : Nat} (h : i ≠ j) (x y u v : Int) (c : Nat) : mixX X i j x y u v j c = u * X i c + v * X j c := by unfold mixX;rw [if_neg (Ne.symm h),if_pos rfl]
theorem zBC {X : Nat → Nat → Int} {i j t : Nat} {x y u v : Int} (h : t ≠ i) (h' : t ≠ j) : mixX X i j x y u v t = X t := by funext c;unfold mixX;rw [if_neg h,if_neg h']
theorem zxC (X : Nat → Nat → Int) (i c : Nat) : negX X i i c = - X i c := if_pos rfl
theorem zjB {X : Nat → Nat → Int} {i t : Nat} (h : t ≠ i) : negX X i t = X t := by funext c;exact if_neg h
section
variable {K n i j : Nat} {X : Nat → Nat → Int}
theorem zqF (hi : i < K) (hj : j < K) (hij : i ≠ j) (s : Int) (v : Nat → Int) : Cm19 K n (lesX X i j s) v ↔ Cm19 K n X v := by
 constructor
 ·intro h
  refine h.trans fun t ht => ?_
  by_cases q : t = i
  ·subst q
   exact ((Cm19.row X hi).add ((Cm19.row X hj).mul (-s))).congr fun c _ => by rw [zSB];grind
  ·rw [zpA q];exact Cm19.row X ht
 ·intro h
  refine h.trans fun t ht => ?_
  by_cases q : t = i
  ·subst q
   have a := Cm19.row (n := n) (lesX X t j s) hi;have b := Cm19.row (n := n) (lesX X t j s) hj;exact (a.add (b.mul s)).congr fun c _ => by rw [zSB,zpA (Ne.symm hij)];grind
  ·have := Cm19.row (n := n) (lesX X i j s) ht
   rwa [zpA q] at this
theorem cm_mixX (hi : i < K) (hj : j < K) (hij : i ≠ j) {x y u w : Int} (hd : x * w - y * u = 1) (v : Nat → Int) : Cm19 K n (mixX X i j x y u w) v ↔ Cm19 K n X v := by
 constructor
 ·intro h
  refine h.trans fun t ht => ?_
  by_cases q : t = i
  ·subst q
   exact (((Cm19.row X hi).mul x).add ((Cm19.row X hj).mul y)).congr fun c _ => by rw [zHD]
  ·by_cases q' : t = j
   ·subst q'
    exact (((Cm19.row X hi).mul u).add ((Cm19.row X hj).mul w)).congr fun c _ => by rw [ziD hij]
   ·rw [zBC q q'];exact Cm19.row X ht
 ·intro h
  have a := Cm19.row (n := n) (mixX X i j x y u w) hi;have b := Cm19.row (n := n) (mixX X i j x y u w) hj;refine h.trans fun t ht => ?_
  by_cases q : t = i
  ·subst q
   exact ((a.mul w).add (b.mul (-y))).congr fun c _ => by
    rw [zHD,ziD hij];have : X t c = (x * w - y * u) * X t c := by rw [hd,Int.one_mul]
    grind
  ·by_cases q' : t = j
   ·subst q'
    exact ((a.mul (-u)).add (b.mul x)).congr fun c _ => by
     rw [zHD,ziD hij];have : X t c = (x * w - y * u) * X t c := by rw [hd,Int.one_mul]
     grind
   ·have := Cm19.row (n := n) (mixX X i j x y u w) ht
    rwa [zBC q q'] at this
theorem cm_negX (hi : i < K) (v : Nat → Int) : Cm19 K n (negX X i) v ↔ Cm19 K n X v := by
 constructor
 ·intro h
  refine h.trans fun t ht => ?_
  by_cases q : t = i
  ·subst q
   exact ((Cm19.row X hi).mul (-1)).congr fun c _ => by rw [zxC];omega
  ·rw [zjB q];exact Cm19.row X ht
 ·intro h
  refine h.trans fun t ht => ?_
  by_cases q : t = i
  ·subst q
   exact ((Cm19.row (n := n) (negX X t) hi).mul (-1)).congr fun c _ => by rw [zxC];omega
  ·have := Cm19.row (n := n) (negX X i) ht
   rwa [zjB q] at this
theorem cm_swpX (hi : i < K) (hj : j < K) (v : Nat → Int) : Cm19 K n (swpX X i j) v ↔ Cm19 K n X v := by
 have a1 : ∀ {X : Nat → Nat → Int},swpX X i j i = X j := by intro X;funext c;exact if_pos rfl
 have a2 : ∀ {X : Nat → Nat → Int},swpX X i j j = X i := by
  intro X;funext c;unfold swpX
  by_cases q : j = i
  ·rw [if_pos q,q]
  ·rw [if_neg q,if_pos rfl]
 have a3 : ∀ {X : Nat → Nat → Int} {t : Nat},t ≠ i → t ≠ j → swpX X i j t = X t := by intro X t h h';funext c;unfold swpX;rw [if_neg h,if_neg h']
 constructor
 ·intro h
  refine h.trans fun t ht => ?_
  by_cases q : t = i
  ·subst q;rw [a1];exact Cm19.row X hj
  ·by_cases q' : t = j
   ·subst q';rw [a2];exact Cm19.row X hi
   ·rw [a3 q q'];exact Cm19.row X ht
 ·intro h
  refine h.trans fun t ht => ?_
  by_cases q : t = i
  ·subst q;have := Cm19.row (n := n) (swpX X t j) hj;rwa [a2] at this
  ·by_cases q' : t = j
   ·subst q';have := Cm19.row (n := n) (swpX X i t) hi;rwa [a1] at this
   ·have := Cm19.row (n := n) (swpX X i j) ht;rwa [a3 q q'] at this
theorem Cm19.only {Y : Nat → Nat → Int} (e : ∀ t j,t < K → j < n → X t j = Y t j) (v : Nat → Int) : Cm19 K n X v ↔ Cm19 K n Y v := ⟨fun h => h.lines e,fun h => h.lines fun t j ht hj => (e t j ht hj).symm⟩
end
def bd18 (T e : Nat) : Nat := (2 * T) ^ e * T
theorem zzB (T e : Nat) : bd18 T (e + 1) = 2 * T * bd18 T e := by unfold bd18;rw [Nat.pow_succ,Nat.mul_assoc,Nat.mul_comm ((2 * T) ^ e),Nat.mul_assoc,Nat.mul_comm T ((2 * T) ^ e)]
theorem zBE (T : Nat) : bd18 T 0 = T := by simp [bd18]
theorem zCB {T e f : Nat} (hT : 1 ≤ T) (h : e ≤ f) : bd18 T e ≤ bd18 T f := Nat.mul_le_mul_right _ (Nat.pow_le_pow_right (by omega) h)
theorem zbF {T : Nat} (hT : 1 ≤ T) (e : Nat) : T ≤ bd18 T e := by have := zCB hT (Nat.zero_le e);rwa [zBE] at this
theorem zJH {a s b : Int} {P Q T : Nat} (ha : a.natAbs ≤ P) (hs : s.natAbs ≤ P) (hb : b.natAbs ≤ T) (hT : 1 ≤ T) (hQ : Q = 2 * T * P) : (a - s * b).natAbs ≤ Q := by
 have h1 : (s * b).natAbs ≤ P * T := by rw [Int.natAbs_mul];exact Nat.mul_le_mul hs hb
 have h2 : P ≤ P * T := by have := Nat.mul_le_mul_left P hT;omega
 have h3 : 2 * T * P = P * T + P * T := by rw [Nat.mul_assoc,Nat.mul_comm T P];omega
 omega
theorem zIH {x a y b : Int} {P Q T : Nat} (hx : x.natAbs ≤ P) (ha : a.natAbs ≤ T) (hy : y.natAbs ≤ T) (hb : b.natAbs ≤ P) (hQ : Q = 2 * T * P) : (x * a + y * b).natAbs ≤ Q := by
 have h1 : (x * a).natAbs ≤ P * T := by rw [Int.natAbs_mul];exact Nat.mul_le_mul hx ha
 have h2 : (y * b).natAbs ≤ T * P := by rw [Int.natAbs_mul];exact Nat.mul_le_mul hy hb
 have h3 : 2 * T * P = P * T + T * P := by rw [Nat.mul_assoc,Nat.mul_comm P T];omega
 omega
structure Lv18 (n i r : Nat) (ρ γ : Nat → Nat) (X A : Nat → Nat → Int) (c p T : Nat) : Prop where
 ec : Ec18 n i r ρ γ X
 zr : ∀ j,j < c → X i j = 0
 pr : p ≤ r
 pb : ∀ a,a < p → γ a < c
 pa : ∀ a,p ≤ a → a < r → c ≤ γ a
 lat : ∀ v,Cm19 (i + 1) n X v ↔ Cm19 (i + 1) n A v
 keep : ∀ t,i < t → X t = A t
 b1 : ∀ a j,a < p → j < n → (X (ρ a) j).natAbs ≤ bd18 T p
 b2 : ∀ a j,p ≤ a → a < r → j < n → (X (ρ a) j).natAbs ≤ T
 b3 : ∀ j,j < n → (X i j).natAbs ≤ bd18 T p
 one : 1 ≤ T
section
variable {n i r c p T : Nat} {ρ γ : Nat → Nat} {X A : Nat → Nat → Int}
theorem Lv18.skip (h : Lv18 n i r ρ γ X A c p T) (h0 : X i c = 0) (hs : ¬ (p < r ∧ γ p = c)) : Lv18 n i r ρ γ X A (c + 1) p T :=
 ⟨h.ec,fun j hj => by
  by_cases q : j = c
  ·subst q;exact h0
  ·exact h.zr j (by omega),h.pr,fun a ha => by have := h.pb a ha;omega,fun a h1 h2 => by
  have := h.pa a h1 h2
  by_cases q : γ a = c
  ·by_cases q' : a = p
   ·subst q';exact absurd ⟨h2,q⟩ hs
   ·have := h.ec.up p a (by omega) h2;have := h.pa p (Nat.le_refl _) (by omega);omega
  ·omega,h.lat,h.keep,h.b1,h.b2,h.b3,h.one⟩
theorem Lv18.skipS (h : Lv18 n i r ρ γ X A c p T) (h0 : X i c = 0) (hp : p < r) (hc : γ p = c) : Lv18 n i r ρ γ X A (c + 1) (p + 1) T :=
 ⟨h.ec,fun j hj => by
  by_cases q : j = c
  ·subst q;exact h0
  ·exact h.zr j (by omega),by omega,fun a ha => by
  by_cases q : a = p
  ·subst q;omega
  ·have := h.pb a (by omega);omega,fun a h1 h2 => by have := h.ec.up p a (by omega) h2;omega,h.lat,h.keep,fun a j ha hj => by
  by_cases q : a = p
  ·subst q;exact Nat.le_trans (h.b2 a j (Nat.le_refl _) hp hj) (zbF h.one _)
  ·exact Nat.le_trans (h.b1 a j (by omega) hj) (zCB h.one (by omega)),fun a j h1 => h.b2 a j (by omega),fun j hj => Nat.le_trans (h.b3 j hj) (zCB h.one (by omega)),h.one⟩
theorem Lv18.ne (h : Lv18 n i r ρ γ X A c p T) {a : Nat} (ha : a < r) : ρ a ≠ i := by have := h.ec.rl a ha;omega
theorem Ec18.keepR {K : Nat} {Y : Nat → Nat → Int} (h : Ec18 n K r ρ γ X) (e : ∀ t,t < K → Y t = X t) : Ec18 n K r ρ γ Y :=
 ⟨h.up,h.cl,h.rl,h.inj,fun a j ha hj => by rw [e _ (h.rl a ha)];exact h.zero a j ha hj,fun a ha => by rw [e _ (h.rl a ha)];exact h.pos a ha,fun t ht hn j hj => by rw [e t ht];exact h.rest t ht hn j hj⟩
theorem Lv18.less (h : Lv18 n i r ρ γ X A c p T) (hp : p < r) (hc : γ p = c) {s : Int} (hs : X i c = s * X (ρ p) c) : Lv18 n i r ρ γ (lesX X i (ρ p) s) A (c + 1) (p + 1) T := by
 have hri := h.ec.rl p hp;have hne := h.ne hp;have hcn := h.ec.cl p hp;have hp0 := h.ec.pos p hp;rw [hc] at hp0 hcn;have hsa : s.natAbs ≤ bd18 T p := by
  have h1 := h.b3 c hcn;rw [hs,Int.natAbs_mul] at h1;have : s.natAbs * 1 ≤ s.natAbs * (X (ρ p) c).natAbs := Nat.mul_le_mul_left _ (by omega);omega
 refine ⟨h.ec.keepR fun t ht => zpA (by omega),fun j hj => ?_,by omega,fun a ha => ?_,fun a h1 h2 => by have := h.ec.up p a (by omega) h2;omega,fun v => (zqF (by omega) (by omega) (Ne.symm hne) s v).trans (h.lat v),fun t ht => (zpA (by omega)).trans (h.keep t ht),fun a j ha hj => ?_,fun a j h1 h2 hj => ?_,fun j hj => ?_,h.one⟩
 ·rw [zSB]
  by_cases q : j = c
  ·subst q;rw [hs];omega
  ·rw [h.zr j (by omega),h.ec.zero p j hp (by omega)];omega
 ·by_cases q : a = p
  ·subst q;omega
  ·have := h.pb a (by omega);omega
 ·have hal : a < r := by omega
  rw [zpA (h.ne hal)]
  by_cases q : a = p
  ·subst q;exact Nat.le_trans (h.b2 a j (Nat.le_refl _) hp hj) (zbF h.one _)
  ·exact Nat.le_trans (h.b1 a j (by omega) hj) (zCB h.one (by omega))
 ·rw [zpA (h.ne h2)];exact h.b2 a j (by omega) h2 hj
 ·rw [zSB]
  exact zJH (h.b3 j hj) hsa (h.b2 p j (Nat.le_refl _) hp hj) h.one (zzB T p)
theorem Lv18.mix (h : Lv18 n i r ρ γ X A c p T) (hp : p < r) (hc : γ p = c) {x y u v : Int} (hd : x * v - y * u = 1) (h0 : u * X (ρ p) c + v * X i c = 0) (h1 : 0 < x * X (ρ p) c + y * X i c)
  (hx : x.natAbs ≤ bd18 T p) (hu : u.natAbs ≤ bd18 T p) (hy : y.natAbs ≤ T) (hv : v.natAbs ≤ T) : Lv18 n i r ρ γ (mixX X (ρ p) i x y u v) A (c + 1) (p + 1) T := by
 have hri := h.ec.rl p hp;have hne := h.ne hp;have off : ∀ a,a < r → a ≠ p → mixX X (ρ p) i x y u v (ρ a) = X (ρ a) := fun a ha q => zBC (fun e => q (h.ec.inj a p ha hp e)) (h.ne ha)
 refine ⟨⟨h.ec.up,h.ec.cl,h.ec.rl,h.ec.inj,fun a j ha hj => ?_,fun a ha => ?_,fun t ht hn j hj => ?_⟩,fun j hj => ?_,by omega,fun a ha => ?_,fun a h1 h2 => by have := h.ec.up p a (by omega) h2;omega,fun w => (cm_mixX (by omega) (by omega) hne hd w).trans (h.lat w),fun t ht => (zBC (by omega) (by omega)).trans (h.keep t ht),fun a j ha hj => ?_,fun a j h1 h2 hj => ?_,fun j hj => ?_,h.one⟩
 ·by_cases q : a = p
  ·subst q;rw [zHD,h.ec.zero a j ha hj,h.zr j (by omega)];simp
  ·rw [off a ha q];exact h.ec.zero a j ha hj
 ·by_cases q : a = p
  ·subst q;rw [zHD,hc];exact h1
  ·rw [off a ha q];exact h.ec.pos a ha
 ·rw [zBC (fun e => hn p hp e.symm) (by omega)];exact h.ec.rest t ht hn j hj
 ·rw [ziD hne]
  by_cases q : j = c
  ·subst q;exact h0
  ·rw [h.zr j (by omega),h.ec.zero p j hp (by omega)];simp
 ·by_cases q : a = p
  ·subst q;omega
  ·have := h.pb a (by omega);omega
 ·by_cases q : a = p
  ·subst q
   rw [zHD];exact zIH hx (h.b2 a j (Nat.le_refl _) hp hj) hy (h.b3 j hj) (zzB T a)
  ·rw [off a (by omega) q];exact Nat.le_trans (h.b1 a j (by omega) hj) (zCB h.one (by omega))
 ·rw [off a h2 (by omega)];exact h.b2 a j (by omega) h2 hj
 ·rw [ziD hne]
  exact zIH hu (h.b2 p j (Nat.le_refl _) hp hj) hv (h.b3 j hj) (zzB T p)
end
structure Lo18 (n K r : Nat) (ρ γ : Nat → Nat) (X A : Nat → Nat → Int) (T : Nat) : Prop where
 ec : Ec18 n K r ρ γ X
 lat : ∀ v,Cm19 K n X v ↔ Cm19 K n A v
 keep : ∀ t,K ≤ t → X t = A t
 bd : ∀ t j,t < K → j < n → (X t j).natAbs ≤ bd18 T 64
def insF (p x : Nat) (f : Nat → Nat) : Nat → Nat := fun a => if a < p then f a else if a = p then x else f (a - 1)
theorem zqD {p x a : Nat} {f : Nat → Nat} (h : a < p) : insF p x f a = f a := if_pos h
theorem zsD (p x : Nat) (f : Nat → Nat) : insF p x f p = x := by unfold insF;rw [if_neg (by omega),if_pos rfl]
theorem zrD {p x a : Nat} {f : Nat → Nat} (h : p < a) : insF p x f a = f (a - 1) := by unfold insF;rw [if_neg (by omega),if_neg (by omega)]
section
variable {n i r c p T : Nat} {ρ γ : Nat → Nat} {X A : Nat → Nat → Int}
theorem Lv18.all (h : Lv18 n i r ρ γ X A c p T) (hn : n ≤ 64) : ∀ t j,t < i + 1 → j < n → (X t j).natAbs ≤ bd18 T 64 := fun t j ht hj => by
 have hr := h.ec.few;have hpr := h.pr
 by_cases q : t = i
 ·subst q;exact Nat.le_trans (h.b3 j hj) (zCB h.one (by omega))
 ·by_cases q' : ∃ a,a < r ∧ ρ a = t
  ·obtain ⟨a,ha,rfl⟩ := q'
   by_cases q2 : a < p
   ·exact Nat.le_trans (h.b1 a j q2 hj) (zCB h.one (by omega))
   ·exact Nat.le_trans (h.b2 a j (by omega) ha hj) (zbF h.one _)
  ·rw [h.ec.rest t (by omega) (fun a ha e => q' ⟨a,ha,e⟩) j hj];simp
theorem Lv18.none (h : Lv18 n i r ρ γ X A n p T) (hn : n ≤ 64) : Lo18 n (i + 1) r ρ γ X A T :=
 ⟨⟨h.ec.up,h.ec.cl,fun a ha => by have := h.ec.rl a ha;omega,h.ec.inj,h.ec.zero,h.ec.pos,fun t ht hnr j hj => by
  by_cases q : t = i
  ·subst q;exact h.zr j hj
  ·exact h.ec.rest t (by omega) hnr j hj⟩,h.lat,fun t ht => h.keep t (by omega),h.all hn⟩
theorem Lv18.found (h : Lv18 n i r ρ γ X A c p T) (hc : c < n) (h0 : 0 < X i c) (hs : ¬ (p < r ∧ γ p = c)) (hn : n ≤ 64) : Lo18 n (i + 1) (r + 1) (insF p i ρ) (insF p c γ) X A T := by
 have hpr := h.pr;have hgt : ∀ a,p ≤ a → a < r → c < γ a := fun a h1 h2 => by
  have := h.pa a h1 h2
  by_cases q : γ a = c
  ·by_cases q' : a = p
   ·subst q';exact absurd ⟨h2,q⟩ hs
   ·have := h.ec.up p a (by omega) h2;have := h.pa p (Nat.le_refl _) (by omega);omega
  ·omega
 have cas : ∀ a,a < r + 1 → (a < p ∧ insF p i ρ a = ρ a ∧ insF p c γ a = γ a) ∨ (a = p ∧ insF p i ρ a = i ∧ insF p c γ a = c) ∨ (p < a ∧ a - 1 < r ∧ insF p i ρ a = ρ (a - 1) ∧ insF p c γ a = γ (a - 1)) := fun a ha => by
  rcases Nat.lt_trichotomy a p with q | q | q
  ·exact .inl ⟨q,zqD q,zqD q⟩
  ·subst q;exact .inr (.inl ⟨rfl,zsD _ _ _,zsD _ _ _⟩)
  ·exact .inr (.inr ⟨q,by omega,zrD q,zrD q⟩)
 refine ⟨⟨fun a b hab hb => ?_,fun a ha => ?_,fun a ha => ?_,fun a b ha hb e => ?_,fun a j ha hj => ?_,fun a ha => ?_,fun t ht hnr j hj => ?_⟩,h.lat,fun t ht => h.keep t (by omega),h.all hn⟩
 ·rcases cas a (by omega) with ⟨a1,a2,a3⟩ | ⟨a1,a2,a3⟩ | ⟨a1,a2,a3,a4⟩ <;> rcases cas b hb with ⟨b1,b2,b3⟩ | ⟨b1,b2,b3⟩ | ⟨b1,b2,b3,b4⟩
  ·rw [a3,b3];exact h.ec.up a b hab (by omega)
  ·rw [a3,b3];exact h.pb a a1
  ·rw [a3,b4];exact h.ec.up a (b - 1) (by omega) b2
  ·omega
  ·omega
  ·rw [a3,b4];exact hgt _ (by omega) b2
  ·omega
  ·omega
  ·rw [a4,b4];exact h.ec.up (a - 1) (b - 1) (by omega) b2
 ·rcases cas a ha with ⟨a1,a2,a3⟩ | ⟨a1,a2,a3⟩ | ⟨a1,a2,a3,a4⟩
  ·rw [a3];exact h.ec.cl a (by omega)
  ·rw [a3];exact hc
  ·rw [a4];exact h.ec.cl _ a2
 ·rcases cas a ha with ⟨a1,a2,a3⟩ | ⟨a1,a2,a3⟩ | ⟨a1,a2,a3,a4⟩
  ·rw [a2];have := h.ec.rl a (by omega);omega
  ·rw [a2];omega
  ·rw [a3];have := h.ec.rl _ a2;omega
 ·rcases cas a ha with ⟨a1,a2,a3⟩ | ⟨a1,a2,a3⟩ | ⟨a1,a2,a3,a4⟩ <;> rcases cas b hb with ⟨b1,b2,b3⟩ | ⟨b1,b2,b3⟩ | ⟨b1,b2,b3,b4⟩
  ·rw [a2,b2] at e;exact h.ec.inj a b (by omega) (by omega) e
  ·rw [a2,b2] at e;exact absurd e (h.ne (by omega))
  ·rw [a2,b3] at e;have := h.ec.inj a (b - 1) (by omega) b2 e;omega
  ·rw [a2,b2] at e;exact absurd e.symm (h.ne (by omega))
  ·omega
  ·rw [a2,b3] at e;exact absurd e.symm (h.ne b2)
  ·rw [a3,b2] at e;have := h.ec.inj (a - 1) b a2 (by omega) e;omega
  ·rw [a3,b2] at e;exact absurd e (h.ne a2)
  ·rw [a3,b3] at e;have := h.ec.inj (a - 1) (b - 1) a2 b2 e;omega
 ·rcases cas a ha with ⟨a1,a2,a3⟩ | ⟨a1,a2,a3⟩ | ⟨a1,a2,a3,a4⟩
  ·rw [a2];rw [a3] at hj;exact h.ec.zero a j (by omega) hj
  ·rw [a2];rw [a3] at hj;exact h.zr j hj
  ·rw [a3];rw [a4] at hj;exact h.ec.zero _ j a2 hj
 ·rcases cas a ha with ⟨a1,a2,a3⟩ | ⟨a1,a2,a3⟩ | ⟨a1,a2,a3,a4⟩
  ·rw [a2,a3];exact h.ec.pos a (by omega)
  ·rw [a2,a3];exact h0
  ·rw [a3,a4];exact h.ec.pos _ a2
 ·have q : t ≠ i := fun e => hnr p (by omega) (by rw [zsD];exact e.symm)
  refine h.ec.rest t (by omega) (fun a ha => ?_) j hj
  by_cases q' : a < p
  ·have := hnr a (by omega);rwa [zqD q'] at this
  ·have := hnr (a + 1) (by omega);rwa [zrD (by omega)] at this
theorem Lv18.neg (h : Lv18 n i r ρ γ X A c p T) : Lv18 n i r ρ γ (negX X i) A c p T :=
 ⟨h.ec.keepR fun t ht => zjB (by omega),fun j hj => by rw [zxC,h.zr j hj];rfl,h.pr,h.pb,h.pa,fun v => (cm_negX (by omega) v).trans (h.lat v),fun t ht => (zjB (by omega)).trans (h.keep t ht),fun a j ha hj => by
  rw [zjB (h.ne (by have := h.pr;omega))];exact h.b1 a j ha hj,fun a j h1 h2 hj => by rw [zjB (h.ne h2)];exact h.b2 a j h1 h2 hj,fun j hj => by rw [zxC,Int.natAbs_neg];exact h.b3 j hj,h.one⟩
end
theorem Ec18.less {n K r a b : Nat} {ρ γ : Nat → Nat} {X : Nat → Nat → Int} (h : Ec18 n K r ρ γ X) (hab : a < b) (hb : b < r) (s : Int) : Ec18 n K r ρ γ (lesX X (ρ a) (ρ b) s) := by
 have hg := h.up a b hab hb;have off : ∀ d,d < r → d ≠ a → lesX X (ρ a) (ρ b) s (ρ d) = X (ρ d) := fun d hd q => zpA fun e => q (h.inj d a hd (by omega) e)
 refine ⟨h.up,h.cl,h.rl,h.inj,fun d j hd hj => ?_,fun d hd => ?_,fun t ht hn j hj => by rw [zpA fun e => hn a (by omega) e.symm];exact h.rest t ht hn j hj⟩
 ·by_cases q : d = a
  ·subst q;rw [zSB,h.zero d j hd hj,h.zero b j hb (by omega)];omega
  ·rw [off d hd q];exact h.zero d j hd hj
 ·by_cases q : d = a
  ·subst q;rw [zSB,h.zero b _ hb hg];have := h.pos d hd;omega
  ·rw [off d hd q];exact h.pos d hd
def Pr18 (a b r : Nat) (ρ γ : Nat → Nat) (X : Nat → Nat → Int) : Prop := Rd18 (a + 1) r ρ γ X ∧ ∀ d,a < d → d < b → 0 ≤ X (ρ a) (γ d) ∧ X (ρ a) (γ d) < X (ρ d) (γ d)
theorem Pr18.step {n K r a b : Nat} {ρ γ : Nat → Nat} {X : Nat → Nat → Int} (h : Ec18 n K r ρ γ X) (hp : Pr18 a b r ρ γ X) (hab : a < b) (hb : b < r) : Pr18 a (b + 1) r ρ γ (lesX X (ρ a) (ρ b) (X (ρ a) (γ b) / X (ρ b) (γ b))) := by
 have off : ∀ (s : Int) d,d < r → d ≠ a → lesX X (ρ a) (ρ b) s (ρ d) = X (ρ d) := fun s d hd q => zpA fun e => q (h.inj d a hd (by omega) e)
 refine ⟨fun d e h1 h2 h3 => by rw [off _ d (by omega) (by omega),off _ e h3 (by omega)];exact hp.1 d e h1 h2 h3,fun d h1 h2 => ?_⟩;rw [off _ d (by omega) (by omega),zSB]
 by_cases q : d = b
 ·subst q
  have p0 := h.pos d hb;have e1 := Int.emod_nonneg (X (ρ a) (γ d)) (show X (ρ d) (γ d) ≠ 0 by omega);have e2 := Int.emod_lt_of_pos (X (ρ a) (γ d)) p0;have e3 := Int.mul_ediv_add_emod (X (ρ a) (γ d)) (X (ρ d) (γ d));rw [Int.mul_comm] at e3;omega
 ·rw [h.zero b _ hb (h.up d b (by omega) hb)]
  have := hp.2 d h1 (by omega);omega
theorem Pr18.stay {r a b : Nat} {ρ γ : Nat → Nat} {X : Nat → Nat → Int} (hp : Pr18 a b r ρ γ X) (h : 0 ≤ X (ρ a) (γ b) ∧ X (ρ a) (γ b) < X (ρ b) (γ b)) : Pr18 a (b + 1) r ρ γ X := ⟨hp.1,fun d h1 h2 => by
 by_cases q : d = b
 ·subst q;exact h
 ·exact hp.2 d h1 (by omega)⟩
theorem Pr18.last {r a : Nat} {ρ γ : Nat → Nat} {X : Nat → Nat → Int} (hp : Pr18 a r r ρ γ X) : Rd18 a r ρ γ X := fun d e h1 h2 h3 => by
 by_cases q : d = a
 ·subst q;exact hp.2 e h2 h3
 ·exact hp.1 d e (by omega) h2 h3
theorem zwH {n K r : Nat} {ρ γ : Nat → Nat} {A : Nat → Nat → Int} : ∀ k,k ≤ r → ∀ X,Ec18 n K r ρ γ X → Rd18 k r ρ γ X → (∀ v,Cm19 K n X v ↔ Cm19 K n A v) →
  ∃ Y,Ec18 n K r ρ γ Y ∧ Rd18 0 r ρ γ Y ∧ (∀ v,Cm19 K n Y v ↔ Cm19 K n A v) ∧ ∀ a,k ≤ a → a < r → Y (ρ a) = X (ρ a)
 | 0,_,X,h,hd,e => ⟨X,h,hd,e,fun a _ _ => rfl⟩
 | k + 1,hk,X,h,hd,e => by
  have row : ∀ d b,b + d = r → k < b → ∀ X,Ec18 n K r ρ γ X → Pr18 k b r ρ γ X → (∀ v,Cm19 K n X v ↔ Cm19 K n A v) → ∃ Y,Ec18 n K r ρ γ Y ∧ Rd18 k r ρ γ Y ∧ (∀ v,Cm19 K n Y v ↔ Cm19 K n A v) ∧ ∀ a,k + 1 ≤ a → a < r → Y (ρ a) = X (ρ a) := by
   intro d
   induction d with
   | zero =>
    intro b hb _ X h hp e;obtain rfl : b = r := by omega
    exact ⟨X,h,hp.last,e,fun _ _ _ => rfl⟩
   | succ d ih =>
    intro b hb hkb X h hp e;obtain ⟨Y,y1,y2,y3,y4⟩ := ih (b + 1) (by omega) (by omega) _ (h.less hkb (by omega) _) (Pr18.step h hp hkb (by omega)) (fun v => (zqF (h.rl k (by omega)) (h.rl b (by omega)) (fun q => by have := h.inj k b (by omega) (by omega) q;omega) _ v).trans (e v));exact ⟨Y,y1,y2,y3,fun a h1 h2 => (y4 a h1 h2).trans (zpA fun q => by have := h.inj a k h2 (by omega) q;omega)⟩
  obtain ⟨Y,y1,y2,y3,y4⟩ := row (r - (k + 1)) (k + 1) (by omega) (by omega) X h ⟨hd,fun d h1 h2 => by omega⟩ e;obtain ⟨Z,z1,z2,z3,z4⟩ := zwH k (by omega) Y y1 y2 y3;exact ⟨Z,z1,z2,z3,fun a h1 h2 => (z4 a (by omega) h2).trans (y4 a h1 h2)⟩
structure Lw18 (m n K r : Nat) (ρ γ : Nat → Nat) (X A : Nat → Nat → Int) (T a b : Nat) : Prop where
 ec : Ec18 n K r ρ γ X
 lat : ∀ v,Cm19 K n X v ↔ Cm19 K n A v
 keep : ∀ t,K ≤ t → X t = A t
 pr : Pr18 a b r ρ γ X
 b1 : ∀ d j,d < a → d < r → j < n → (X (ρ d) j).natAbs ≤ bd18 T 64
 b2 : ∀ j,a < r → j < n → (X (ρ a) j).natAbs ≤ bd18 T (64 + (b - (a + 1)))
 b3 : ∀ d j,a < d → d < r → j < n → (X (ρ d) j).natAbs ≤ T
section
variable {m n K r T a b : Nat} {ρ γ : Nat → Nat} {X A : Nat → Nat → Int}
theorem Lo18.start (h : Lo18 n K r ρ γ X A T) : Lw18 m n K r ρ γ X A T r (r + 1) :=
 ⟨h.ec,h.lat,h.keep,⟨fun d e h1 h2 h3 => by omega,fun d h1 h2 => by omega⟩,fun d j _ hd hj => h.bd _ j (h.ec.rl d hd) hj,fun j h1 => by omega,fun d j h1 h2 => by omega⟩
theorem Lw18.small (h : Lw18 m n K r ρ γ X A T a b) (hT : Tb18 m n A T) (hK : K ≤ m) {k : Nat} (hk : k ≤ r) (hd : Rd18 k r ρ γ X) : ∀ d j,k ≤ d → d < r → j < n → (X (ρ d) j).natAbs ≤ T := fun d j h1 h2 hj => by
 obtain ⟨Y,y1,y2,y3,y4⟩ := zwH k hk X h.ec hd h.lat;rw [← y4 d h1 h2];exact hT.all K r ρ γ Y hK y1 y2 y3 _ j (h.ec.rl d h2) hj
theorem Lw18.next (h : Lw18 m n K r ρ γ X A T (a + 1) b) (hb : a + 1 < r → r ≤ b) (ha : a < r) (hT : Tb18 m n A T) (hK : K ≤ m) : Lw18 m n K r ρ γ X A T a (a + 1) := by
 have hd : Rd18 (a + 1) r ρ γ X := fun d e h1 h2 h3 => by
  by_cases q : d = a + 1
  ·subst q;exact h.pr.2 e h2 (by have := hb (by omega);omega)
  ·exact h.pr.1 d e (by omega) h2 h3
 refine ⟨h.ec,h.lat,h.keep,⟨hd,fun d h1 h2 => by omega⟩,fun d j h1 h2 hj => h.b1 d j (by omega) h2 hj,fun j _ hj => ?_,fun d j h1 h2 hj => h.small hT hK (by omega) hd d j (by omega) h2 hj⟩;exact Nat.le_trans (h.b1 a j (by omega) ha hj) (zCB hT.one (by omega))
theorem Lw18.stay (h : Lw18 m n K r ρ γ X A T a b) (hab : a < b) (hT : Tb18 m n A T) (hq : 0 ≤ X (ρ a) (γ b) ∧ X (ρ a) (γ b) < X (ρ b) (γ b)) : Lw18 m n K r ρ γ X A T a (b + 1) :=
 ⟨h.ec,h.lat,h.keep,h.pr.stay hq,h.b1,fun j ha hj => Nat.le_trans (h.b2 j ha hj) (zCB hT.one (by omega)),h.b3⟩
theorem zXF (x : Int) {y : Int} (hy : 0 < y) : (x / y).natAbs ≤ x.natAbs := Int.natAbs_ediv_le_natAbs x y
theorem Lw18.step (h : Lw18 m n K r ρ γ X A T a b) (hab : a < b) (hb : b < r) (hT : Tb18 m n A T) : Lw18 m n K r ρ γ (lesX X (ρ a) (ρ b) (X (ρ a) (γ b) / X (ρ b) (γ b))) A T a (b + 1) := by
 have off : ∀ (s : Int) d,d < r → d ≠ a → lesX X (ρ a) (ρ b) s (ρ d) = X (ρ d) := fun s d hd q => zpA fun e => q (h.ec.inj d a hd (by omega) e)
 have hra := h.ec.rl a (by omega);have hrb := h.ec.rl b hb;refine ⟨h.ec.less hab hb _,fun v => (zqF hra hrb (fun q => by have := h.ec.inj a b (by omega) hb q;omega) _ v).trans (h.lat v),fun t ht => (zpA (by omega)).trans (h.keep t ht),Pr18.step h.ec h.pr hab hb,fun d j h1 h2 hj => by rw [off _ d h2 (by omega)];exact h.b1 d j h1 h2 hj,fun j ha hj => ?_,fun d j h1 h2 hj => by rw [off _ d h2 (by omega)];exact h.b3 d j h1 h2 hj⟩;rw [zSB];refine zJH (h.b2 j ha hj) (Nat.le_trans (zXF _ (h.ec.pos b hb)) (h.b2 _ ha (h.ec.cl b hb))) (h.b3 b j hab hb hj) hT.one ?_;rw [show 64 + (b + 1 - (a + 1)) = (64 + (b - (a + 1))) + 1 by omega,zzB]
theorem Lw18.any (h : Lw18 m n K r ρ γ X A T a b) (hT : Tb18 m n A T) (hb : b ≤ a + 65) : ∀ t j,t < K → j < n → (X t j).natAbs ≤ bd18 T 128 := fun t j ht hj => by
 by_cases q' : ∃ d,d < r ∧ ρ d = t
 ·obtain ⟨d,hd,rfl⟩ := q'
  rcases Nat.lt_trichotomy d a with q | q | q
  ·exact Nat.le_trans (h.b1 d j q hd hj) (zCB hT.one (by omega))
  ·subst q;exact Nat.le_trans (h.b2 j hd hj) (zCB hT.one (by omega))
  ·exact Nat.le_trans (h.b3 d j q hd hj) (zbF hT.one _)
 ·rw [h.ec.rest t ht (fun d hd e => q' ⟨d,hd,e⟩) j hj];simp
end
structure Hb18 (m n K r : Nat) (ρ γ : Nat → Nat) (X A : Nat → Nat → Int) : Prop where
 ec : Ec18 n K r ρ γ X
 rd : Rd18 0 r ρ γ X
 lat : ∀ v,Cm19 K n X v ↔ Cm19 K n A v
 keep : ∀ t,K ≤ t → X t = A t
section
variable {m n K r T : Nat} {ρ γ : Nat → Nat} {X A : Nat → Nat → Int}
theorem Lw18.end_ {b : Nat} (h : Lw18 m n K r ρ γ X A T 0 b) (hb : 0 < r → r ≤ b) : Hb18 m n K r ρ γ X A :=
 ⟨h.ec,fun d e h1 h2 h3 => by
  by_cases q : d = 0
  ·subst q;exact h.pr.2 e h2 (by have := hb (by omega);omega)
  ·exact h.pr.1 d e (by omega) h2 h3,h.lat,h.keep⟩
theorem Hb18.first (m n : Nat) (ρ γ : Nat → Nat) (A : Nat → Nat → Int) : Hb18 m n 0 0 ρ γ A A :=
 ⟨⟨fun a b _ h => by omega,fun a h => by omega,fun a h => by omega,fun a b h => by omega,fun a j h => by omega,fun a h => by omega,fun t h => by omega⟩,fun a b _ _ h => by omega,fun v => Iff.rfl,fun t _ => rfl⟩
theorem Hb18.size (h : Hb18 m n K r ρ γ X A) (hT : Tb18 m n A T) (hK : K ≤ m) : ∀ t j,t < m → j < n → (X t j).natAbs ≤ T := fun t j ht hj => by
 by_cases q : t < K
 ·exact hT.all K r ρ γ X hK h.ec h.rd h.lat t j q hj
 ·rw [h.keep t (by omega)];exact hT.own t j ht hj
theorem Hb18.open_ (h : Hb18 m n K r ρ γ X A) (hT : Tb18 m n A T) (hK : K < m) : Lv18 n K r ρ γ X A 0 0 T := by
 have sz := h.size hT (by omega);refine ⟨h.ec,fun j hj => by omega,Nat.zero_le _,fun a ha => by omega,fun a _ _ => Nat.zero_le _,fun v => ?_,fun t ht => h.keep t (by omega),fun a j ha => by omega,fun a j _ ha hj => sz _ j (by have := h.ec.rl a ha;omega) hj,fun j hj => by rw [zBE];exact sz K j hK hj,hT.one⟩;have go : ∀ {Y Z : Nat → Nat → Int},(∀ v,Cm19 K n Y v ↔ Cm19 K n Z v) → Y K = Z K → Cm19 (K + 1) n Y v → Cm19 (K + 1) n Z v := fun {Y Z} e ek k => k.trans fun t ht => by
  by_cases q : t = K
  ·subst q;rw [ek];exact Cm19.row Z (by omega)
  ·exact ((e _).1 (Cm19.row Y (by omega))).more _ (by omega)
 have ek := h.keep K (Nat.le_refl _);exact ⟨go h.lat ek,go (fun v => (h.lat v).symm) ek.symm⟩
end
def ordR (ρ : Nat → Nat) (k : Nat) : Nat → Nat := fun l => if l = k then k else if ρ l = k then ρ k else ρ l
theorem Hb18.swap {m n r k : Nat} {ρ γ : Nat → Nat} {X A : Nat → Nat → Int} (h : Hb18 m n m r ρ γ X A) (hk : k < r) (hkm : k < m) (h0 : ∀ a,a < k → ρ a = a) : Hb18 m n m r (ordR ρ k) γ (swpX X (ρ k) k) A ∧ ∀ a,a < k + 1 → ordR ρ k a = a := by
 have hrk := h.ec.rl k hk;have key : ∀ a,a < r → swpX X (ρ k) k (ordR ρ k a) = X (ρ a) := fun a ha => by
  funext c
  unfold swpX ordR
  by_cases q : a = k
  ·subst q
   rw [if_pos rfl]
   by_cases q2 : a = ρ a
   ·rw [if_pos q2,← q2]
   ·rw [if_neg q2,if_pos rfl]
  ·rw [if_neg q]
   by_cases q2 : ρ a = k
   ·rw [if_pos q2,if_pos rfl,q2]
   ·rw [if_neg q2,if_neg (fun e => q (h.ec.inj a k ha hk e)),if_neg q2]
 have lt : ∀ a,a < r → ordR ρ k a < m := fun a ha => by
  unfold ordR
  split
  ·exact hkm
  ·split
   ·exact hrk
   ·exact h.ec.rl a ha
 have inj : ∀ a b,a < r → b < r → ordR ρ k a = ordR ρ k b → a = b := fun a b ha hb e => by
  have ij := fun x y hx hy => h.ec.inj x y hx hy
  unfold ordR at e
  by_cases qa : a = k <;> by_cases qb : b = k
  ·omega
  ·rw [if_pos qa,if_neg qb] at e
   by_cases q2 : ρ b = k
   ·rw [if_pos q2] at e;exact absurd (ij b k hb hk (by omega)) qb
   ·rw [if_neg q2] at e;omega
  ·rw [if_neg qa,if_pos qb] at e
   by_cases q2 : ρ a = k
   ·rw [if_pos q2] at e;exact absurd (ij a k ha hk (by omega)) qa
   ·rw [if_neg q2] at e;omega
  ·rw [if_neg qa,if_neg qb] at e
   by_cases q1 : ρ a = k <;> by_cases q2 : ρ b = k
   ·exact ij a b ha hb (by omega)
   ·rw [if_pos q1,if_neg q2] at e;exact absurd (ij b k hb hk e.symm) qb
   ·rw [if_neg q1,if_pos q2] at e;exact absurd (ij a k ha hk e) qa
   ·rw [if_neg q1,if_neg q2] at e;exact ij a b ha hb e
 refine ⟨⟨⟨h.ec.up,h.ec.cl,lt,inj,fun a j ha hj => by rw [key a ha];exact h.ec.zero a j ha hj,fun a ha => by rw [key a ha];exact h.ec.pos a ha,fun t ht hn j hj => ?_⟩,fun a b h1 h2 h3 => by rw [key a (by omega),key b h3];exact h.rd a b h1 h2 h3,fun v => (cm_swpX hrk hkm v).trans (h.lat v),fun t ht => ?_⟩,fun a ha => ?_⟩
 ·have q1 : t ≠ k := fun e => hn k hk (by unfold ordR;rw [if_pos rfl];exact e.symm)
  by_cases q2 : t = ρ k
  ·show (if t = ρ k then X k j else _) = 0
   rw [if_pos q2]
   by_cases q3 : ∃ a,a < r ∧ ρ a = k
   ·obtain ⟨a,ha,e⟩ := q3
    by_cases q4 : a = k
    ·subst q4;exact absurd (q2.trans e) q1
    ·exact absurd (by unfold ordR;rw [if_neg q4,if_pos e];exact q2.symm) (hn a ha)
   ·exact h.ec.rest k hkm (fun a ha e => q3 ⟨a,ha,e⟩) j hj
  ·show (if t = ρ k then X k j else if t = k then X (ρ k) j else X t j) = 0
   rw [if_neg q2,if_neg q1];refine h.ec.rest t ht (fun a ha e => ?_) j hj
   by_cases q4 : a = k
   ·subst q4;exact q2 e.symm
   ·exact hn a ha (by unfold ordR;rw [if_neg q4,if_neg (by omega)];exact e)
 ·funext c
  show (if t = ρ k then X k c else if t = k then X (ρ k) c else X t c) = A t c
  rw [if_neg (by omega),if_neg (by omega),h.keep t ht]
 ·unfold ordR
  by_cases q : a = k
  ·rw [if_pos q];exact q.symm
  ·rw [if_neg q,h0 a (by omega),if_neg q]
theorem Hb18.fin {m n r : Nat} {ρ γ : Nat → Nat} {X A : Nat → Nat → Int} (h : Hb18 m n m r ρ γ X A) (h0 : ∀ a,a < r → ρ a = a) : Hb18 m n m r id γ X A :=
 ⟨⟨h.ec.up,h.ec.cl,fun a ha => by have := h.ec.rl a ha;rwa [h0 a ha] at this,fun a b _ _ e => e,fun a j ha hj => by have := h.ec.zero a j ha hj;rwa [h0 a ha] at this,fun a ha => by have := h.ec.pos a ha;rwa [h0 a ha] at this,fun t ht hn j hj => h.ec.rest t ht (fun a ha => by rw [h0 a ha];exact hn a ha) j hj⟩,fun a b h1 h2 h3 => by have := h.rd a b h1 h2 h3;rwa [h0 a (by omega),h0 b h3] at this,h.lat,h.keep⟩
end Go.Proofs.YtmnecbniappnaaaGreat
