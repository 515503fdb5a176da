/-
 QUq13ToTo14: Uq13, Sp13, Gc14, Tb14, To14, joined.
-/
import Derived.Test.YtakkmpkkoecnhaaGreatQSr13ToAd14

set_option maxRecDepth 100000
set_option maxHeartbeats 6400000
set_option linter.unusedVariables false
set_option linter.unusedSimpArgs false
namespace Go.Proofs.YtakkmpkkoecnhaaGreat
section
variable {A : Nat → Nat → Int} {n i : Nat} {rs cs rs' cs' : List Nat} {odd odd' : Bool}
end
def Sp (n t : Nat) (L : Nat → Nat → Int) (v : Nat → Int) : Prop := ∃ (N : Int) (e : Nat → Int), N ≠ 0 ∧ ∀ j, j < n → N * v j = su t fun a => e a * L a j
section
variable {n t : Nat} {L : Nat → Nat → Int} {u v : Nat → Int}
theorem Sp.zero (h : ∀ j, j < n → v j = 0) : Sp n t L v := ⟨1, fun _ => 0, by decide, fun j hj => by rw [h j hj, ztD fun k _ => by simp]; simp⟩
theorem Sp.one {a : Nat} (ha : a < t) (h : ∀ j, j < n → v j = L a j) : Sp n t L v := ⟨1, dlz a, by decide, fun j hj => by
 rw [h j hj, zAB (i := a) ha fun k _ hk => by unfold dlz; rw [if_neg (Ne.symm hk)]; simp]; unfold dlz; simp⟩
theorem Sp.add (hu : Sp n t L u) (hv : Sp n t L v) : Sp n t L fun j => u j + v j := by
 obtain ⟨N, e, hN, he⟩ := hu; obtain ⟨M, f, hM, hf⟩ := hv; refine ⟨N * M, fun a => M * e a + N * f a, Int.mul_ne_zero hN hM, fun j hj => ?_⟩; have e1 : su t (fun a => (M * e a + N * f a) * L a j) = M * su t (fun a => e a * L a j) + N * su t (fun a => f a * L a j) := by
  rw [← zVB, ← zVB, ← zXE]; exact zKA fun k _ => by grind
 rw [e1, ← he j hj, ← hf j hj]
 grind
theorem Sp.mul (x : Int) (hu : Sp n t L u) : Sp n t L fun j => x * u j := by
 obtain ⟨N, e, hN, he⟩ := hu; refine ⟨N, fun a => x * e a, hN, fun j hj => ?_⟩; have e1 : su t (fun a => (x * e a) * L a j) = x * su t (fun a => e a * L a j) := by
  rw [← zVB]; exact zKA fun k _ => by grind
 rw [e1, ← he j hj]
 grind
theorem Sp.div {x : Int} (hx : x ≠ 0) (hu : Sp n t L fun j => x * u j) : Sp n t L u := by
 obtain ⟨N, e, hN, he⟩ := hu; exact ⟨N * x, e, Int.mul_ne_zero hN hx, fun j hj => by rw [← he j hj]; grind⟩
theorem Sp.congr (hu : Sp n t L u) (h : ∀ j, j < n → v j = u j) : Sp n t L v := by
 obtain ⟨N, e, hN, he⟩ := hu; exact ⟨N, e, hN, fun j hj => by rw [h j hj]; exact he j hj⟩
theorem Sp.sum {K : Nat → Nat → Int} (x : Nat → Int) : ∀ {s : Nat}, (∀ a, a < s → Sp n t L (K a)) → Sp n t L fun j => su s fun a => x a * K a j
 | 0, _ => Sp.zero fun j _ => rfl
 | s + 1, h => (Sp.sum x (s := s) fun a ha => h a (by omega)).add ((h s (by omega)).mul (x s))
end
def prn : Nat → (Nat → Int) → Int
 | 0, _ => 1
 | n + 1, N => N 0 * prn n fun k => N (k + 1)
theorem zzI : ∀ {n : Nat} {N : Nat → Int}, (∀ k, k < n → N k ≠ 0) → prn n N ≠ 0
 | 0, _, _ => by show (1 : Int) ≠ 0; decide
 | n + 1, N, h => Int.mul_ne_zero (h 0 (by omega)) (zzI fun k hk => h (k + 1) (by omega))
theorem zNE : ∀ (n : Nat) (N : Nat → Int) (A : Nat → Nat → Int), det n (fun a b => N a * A a b) = prn n N * det n A
 | 0, _, _ => rfl
 | n + 1, N, A => by
  rw [zCF, zCF]; unfold exd
  show _ = (N 0 * prn n fun k => N (k + 1)) * _
  rw [← zVB]; refine zKA fun j _ => ?_
  rw [zNE n (fun k => N (k + 1)) (fun r c => A (r + 1) (skd j c))]
  grind
theorem Sp.det0 {n t s : Nat} {L X : Nat → Nat → Int} (h : ∀ a, a < s → Sp n t L (X a)) (hts : t < s) {M : Nat → Nat} (hM : ∀ b, b < s → M b < n) : det s (fun a b => X a (M b)) = 0 := by
 have hc : ∀ a, ∃ (N : Int) (e : Nat → Int), N ≠ 0 ∧ (a < s → ∀ j, j < n → N * X a j = su t fun k => e k * L k j) := fun a => by
  by_cases q : a < s
  ·obtain ⟨N, e, h1, h2⟩ := h a q
   exact ⟨N, e, h1, fun _ => h2⟩
  ·exact ⟨1, fun _ => 0, by decide, fun q' => absurd q' q⟩
 have hN := fun a => (hc a).choose_spec
 obtain ⟨N, hNd⟩ : ∃ N : Nat → Int, N = fun a => (hc a).choose := ⟨_, rfl⟩
 have hE : ∀ a, ∃ e : Nat → Int, N a ≠ 0 ∧ (a < s → ∀ j, j < n → N a * X a j = su t fun k => e k * L k j) := fun a => by
  rw [hNd]; exact hN a
 obtain ⟨E, hEd⟩ : ∃ E : Nat → Nat → Int, E = fun a => (hE a).choose := ⟨_, rfl⟩
 have hF : ∀ a, N a ≠ 0 ∧ (a < s → ∀ j, j < n → N a * X a j = su t fun k => E a k * L k j) := fun a => by
  rw [hEd]; exact (hE a).choose_spec
 have e1 : det s (fun a b => N a * X a (M b)) = det s (muz s (fun a k => if k < t then E a k else 0) fun k b => L k (M b)) := zHA fun a b ha hb => by
  unfold muz; rw [(hF a).2 ha _ (hM b hb), zuI (r := t) (m := s) (by omega) (fun k h1 _ => by simp only []; rw [if_neg (by omega)]; simp)]; exact zKA fun k hk => by simp only []; rw [if_pos hk]
 have e2 : det s (fun a k => if k < t then E a k else 0) = 0 := by
  rw [← zpA]; exact (zcA s).nul (i := t) hts fun j _ => by rw [if_neg (by omega)]
 rw [zQG, e2, zNE s N (fun a b => X a (M b))] at e1; have e3 := zzI (n := s) (N := N) fun k _ => (hF k).1
 rcases Int.mul_eq_zero.1 (e1.trans (Int.zero_mul _)) with q | q
 ·exact absurd q e3
 ·exact q
section
variable {A : Nat → Nat → Int} {n i : Nat} {rs cs : List Nat} {odd : Bool}
end
section
variable {A B : Nat → Nat → Int} {n i k : Nat} {rs cs rs' cs' : List Nat} {odd odd' : Bool}
end

def vcl (A : Nat → Nat → Int) (n c i : Nat) : Int := if c < n then A i c else dlz (c - n) i
def dcl (A : Nat → Nat → Int) (m n : Nat) (f : Nat → Nat) : Int := det m fun p => vcl A n (f p)
def stf (f : Nat → Nat) (i c : Nat) : Nat → Nat := fun p => if p = i then c else f p
theorem zSD (A : Nat → Nat → Int) (m n : Nat) (f : Nat → Nat) (i c : Nat) : dcl A m n (stf f i c) = det m (stR (fun p => vcl A n (f p)) i (vcl A n c)) := by
 unfold dcl
 congr 1
 funext p k
 unfold stf stR
 split <;> rfl
theorem zsC {A : Nat → Nat → Int} {m n : Nat} {f g : Nat → Nat} (h : ∀ p, p < m → f p = g p) : dcl A m n f = dcl A m n g := zHA fun p k hp _ => by rw [h p hp]
theorem zIH {m k : Nat} (B : Nat → Nat → Int) (u : Nat → Int) (hk : k < m) : su m (fun i => det m (stR B i u) * B i k) = det m B * u k := by
 have h1 : ∀ i, i < m → det m (stR B i u) * B i k = su m fun t => u t * (adz m B t i * B i k) := fun i hi => by
  rw [← zTG B hi u, ← zmE]; exact zKA fun t _ => by grind
 rw [zKA h1, zlE]; have h2 : ∀ t, t < m → su m (fun i => u t * (adz m B t i * B i k)) = if t = k then u k * det m B else 0 := fun t ht => by
  rw [zVB, ztE B ht hk]
  by_cases q : t = k
  ·subst q; rw [if_pos rfl, if_pos rfl]
  ·rw [if_neg q, if_neg q, Int.mul_zero]
 rw [zKA h2, zAB hk (fun t _ ht => if_neg ht), if_pos rfl, Int.mul_comm]
theorem zOI {m p i : Nat} (B : Nat → Nat → Int) (u : Nat → Int) (hp : p < m) (hi : i < m) (h : i ≠ p) : det m (stR (stR B p u) i (B p)) = - det m (stR B i u) := by
 rw [← (zcA m).swap (A := stR B i u) hp hi (Ne.symm h)]
 congr 1
 funext r c
 unfold stR
 by_cases a : r = i
 ·rw [if_pos a, if_pos a, if_neg (Ne.symm h)]
 ·by_cases b : r = p
  ·rw [if_neg a, if_neg a, if_pos b, if_pos b, if_pos rfl]
  ·rw [if_neg a, if_neg a, if_neg b, if_neg b, if_neg a]
theorem su_pick14 {m i p : Nat} {F : Nat → Int} (hi : i < m) (hp : p < m) (h : i ≠ p) (hz : ∀ t, t < m → t ≠ i → t ≠ p → F t = 0) : su m F = F i + F p := by
 have e : ∀ t, t < m → F t = (if t = i then F i else 0) + (if t = p then F p else 0) := fun t ht => by
  by_cases a : t = i
  ·subst a; rw [if_pos rfl, if_neg h, Int.add_zero]
  ·by_cases b : t = p
   ·subst b; rw [if_neg a, if_pos rfl, Int.zero_add]
   ·rw [if_neg a, if_neg b, hz t ht a b]; rfl
 rw [zKA e, zXE, zAB hi (fun k _ hk => if_neg hk), zAB hp (fun k _ hk => if_neg hk), if_pos rfl, if_pos rfl]
structure Tbl (A : Nat → Nat → Int) (m n : Nat) (f g : Nat → Nat) (by_ : Nat → Nat → Int) (d : Int) : Prop where
 nz : d ≠ 0
 de : dcl A m n f = d
 be : ∀ i j, i < m → j < n → by_ i j = dcl A m n (stf f i (g j))
 fi : ∀ i j, i < m → j < m → f i = f j → i = j
 gi : ∀ i j, i < n → j < n → g i = g j → i = j
 fg : ∀ i j, i < m → j < n → f i ≠ g j
 fl : ∀ i, i < m → f i < n + m
 gl : ∀ j, j < n → g j < n + m
 cov : ∀ c, c < n + m → (∃ i, i < m ∧ f i = c) ∨ ∃ j, j < n ∧ g j = c
def exch (by_ : Nat → Nat → Int) (d : Int) (p q : Nat) (x : Nat → Nat → Int) : Nat → Nat → Int := fun i j => if i = p then (if j = q then d else by_ p j) else if j = q then - by_ i q else x i j
theorem Tbl.start (A : Nat → Nat → Int) (m n : Nat) : Tbl A m n (fun i => n + i) (fun j => j) A 1 := by
 have e : ∀ p k, vcl A n (n + p) k = dlz p k := fun p k => by unfold vcl; rw [if_neg (by omega), Nat.add_sub_cancel_left]
 refine ⟨by decide, ?_, fun i j hi hj => ?_, fun i j _ _ h => by omega, fun i j _ _ h => h, fun i j _ _ => by omega, fun i h => by omega, fun j h => by omega, fun c hc => ?_⟩
 ·unfold dcl
  rw [zHA (B := dlz) fun p k _ _ => e p k]; exact zTC m
 ·rw [zSD, zHA (B := stR dlz i fun k => su m fun t => A t j * dlz t k) fun r c hr hc => ?_, zHH dlz hi fun t => A t j, zTC, Int.mul_one]
  unfold stR
  by_cases q : r = i
  ·rw [if_pos q, if_pos q]
   show vcl A n j c = su m fun t => A t j * dlz t c
   rw [ztI hc]; unfold vcl; rw [if_pos hj]
  ·rw [if_neg q, if_neg q]; exact e r c
 ·by_cases q : c < n
  ·exact .inr ⟨c, q, rfl⟩
  ·exact .inl ⟨c - n, by omega, by omega⟩
theorem Tbl.comb {A : Nat → Nat → Int} {m n : Nat} {f g : Nat → Nat} {by_ : Nat → Nat → Int} {d : Int} (h : Tbl A m n f g by_ d) {j k : Nat} (hj : j < n) (hk : k < m) : d * vcl A n (g j) k = su m fun i => by_ i j * vcl A n (f i) k := by
 rw [zKA (g := fun i => det m (stR (fun p => vcl A n (f p)) i (vcl A n (g j))) * vcl A n (f i) k) fun i hi => by rw [h.be i j hi hj, zSD], zIH (fun p => vcl A n (f p)) (vcl A n (g j)) hk]; rw [← h.de]
 rfl
theorem Tbl.cross {A : Nat → Nat → Int} {m n : Nat} {f g : Nat → Nat} {by_ : Nat → Nat → Int} {d : Int} (h : Tbl A m n f g by_ d) {p q i j : Nat} (hp : p < m) (hq : q < n) (hi : i < m) (hj : j < n) (hip : i ≠ p) :
  by_ p q * by_ i j - by_ i q * by_ p j = d * dcl A m n (stf (stf f p (g q)) i (g j)) := by
 obtain ⟨B, hB⟩ : ∃ B, (fun r => vcl A n (f r)) = B := ⟨_, rfl⟩
 have e0 : dcl A m n (stf (stf f p (g q)) i (g j)) = det m (stR (stR B p (vcl A n (g q))) i (vcl A n (g j))) := by
  rw [zSD, ← hB]
  congr 2
  funext r k
  unfold stf stR
  split <;> rfl
 have hlin : ∀ x : Nat → Int, det m (stR (stR B p (vcl A n (g q))) i fun k => su m fun t => x t * B t k) = su m fun t => x t * det m (stR (stR B p (vcl A n (g q))) i (B t)) := fun x => (zcA m).sum hi x B m
 have h1 : d * det m (stR (stR B p (vcl A n (g q))) i (vcl A n (g j))) = su m fun t => by_ t j * det m (stR (stR B p (vcl A n (g q))) i (B t)) := by
  rw [← hlin, ← (zcA m).mul hi]; refine zHA fun r k hr hk => ?_
  unfold stR
  by_cases e : r = i
  ·rw [if_pos e, if_pos e]
   show d * vcl A n (g j) k = su m fun t => by_ t j * B t k
   rw [h.comb hj hk, ← hB]
  ·rw [if_neg e, if_neg e]
 rw [e0, h1]; have h2 : ∀ t, t < m → t ≠ i → t ≠ p → by_ t j * det m (stR (stR B p (vcl A n (g q))) i (B t)) = 0 := fun t ht h1 h2 => by
  rw [(zcA m).same (i := t) (k := i) ht hi h1 fun k _ => by
   unfold stR; rw [if_neg h1, if_neg h2, if_pos rfl], Int.mul_zero]
 rw [su_pick14 hi hp hip h2, zOI B _ hp hi hip]; have e1 : det m (stR (stR B p (vcl A n (g q))) i (B i)) = by_ p q := by
  rw [h.be p q hp hq, zSD, hB]
  congr 1
  funext r k
  unfold stR
  by_cases e : r = i
  ·subst e; rw [if_pos rfl, if_neg hip]
  ·rw [if_neg e]
 have e2 : det m (stR B i (vcl A n (g q))) = by_ i q := by rw [h.be i q hi hq, zSD, hB]
 rw [e1, e2]
 grind
theorem znE {f : Nat → Nat} {i c p : Nat} (h : p ≠ i) : stf f i c p = f p := if_neg h
theorem zhG {f : Nat → Nat} {i c : Nat} : stf f i c i = c := if_pos rfl
theorem Tbl.exchange {A : Nat → Nat → Int} {m n : Nat} {f g : Nat → Nat} {by_ x : Nat → Nat → Int} {d : Int} (h : Tbl A m n f g by_ d) {p q : Nat} (hp : p < m) (hq : q < n) (hnz : by_ p q ≠ 0) (hx : ∀ i j, i < m → j < n → i ≠ p → j ≠ q → d * x i j = by_ p q * by_ i j - by_ i q * by_ p j) :
  Tbl A m n (stf f p (g q)) (stf g q (f p)) (exch by_ d p q x) (by_ p q) := by
 refine ⟨hnz, (h.be p q hp hq).symm, fun i j hi hj => ?_, fun i j hi hj e => ?_, fun i j hi hj e => ?_, fun i j hi hj e => ?_, fun i hi => ?_, fun j hj => ?_, fun c hc => ?_⟩
 ·unfold exch
  by_cases ei : i = p
  ·subst ei
   rw [if_pos rfl]
   by_cases ej : j = q
   ·subst ej
    rw [if_pos rfl, zhG, ← h.de]; exact zsC fun r hr => by
     unfold stf
     by_cases e : r = i
     ·rw [if_pos e, e]
     ·rw [if_neg e, if_neg e]
   ·rw [if_neg ej, znE ej, h.be i j hi hj]
    exact zsC fun r hr => by
     unfold stf
     by_cases e : r = i
     ·rw [if_pos e, if_pos e]
     ·rw [if_neg e, if_neg e, if_neg e]
  ·rw [if_neg ei]
   by_cases ej : j = q
   ·subst ej
    rw [if_pos rfl, zhG, h.be i j hi hj, zSD, ← zOI _ _ hp hi ei, zSD]
    congr 2
    funext r k
    unfold stf stR
    split <;> rfl
   ·rw [if_neg ej, znE ej]
    have h1 := hx i j hi hj ei ej; rw [h.cross hp hq hi hj ei] at h1; exact Int.eq_of_mul_eq_mul_left h.nz h1
 ·unfold stf at e
  by_cases a : i = p <;> by_cases b : j = p
  ·omega
  ·rw [if_pos a, if_neg b] at e; exact absurd e.symm (h.fg j q hj hq)
  ·rw [if_neg a, if_pos b] at e; exact absurd e (h.fg i q hi hq)
  ·rw [if_neg a, if_neg b] at e; exact h.fi i j hi hj e
 ·unfold stf at e
  by_cases a : i = q <;> by_cases b : j = q
  ·omega
  ·rw [if_pos a, if_neg b] at e; exact absurd e (h.fg p j hp hj)
  ·rw [if_neg a, if_pos b] at e; exact absurd e.symm (h.fg p i hp hi)
  ·rw [if_neg a, if_neg b] at e; exact h.gi i j hi hj e
 ·unfold stf at e
  by_cases a : i = p <;> by_cases b : j = q
  ·rw [if_pos a, if_pos b] at e; exact absurd e.symm (h.fg p q hp hq)
  ·rw [if_pos a, if_neg b] at e; exact b (h.gi q j hq hj e).symm
  ·rw [if_neg a, if_pos b] at e; exact a (h.fi i p hi hp e)
  ·rw [if_neg a, if_neg b] at e; exact h.fg i j hi hj e
 ·unfold stf; split
  ·exact h.gl q hq
  ·exact h.fl i hi
 ·unfold stf; split
  ·exact h.fl p hp
  ·exact h.gl j hj
 ·rcases h.cov c hc with ⟨i, hi, e⟩ | ⟨j, hj, e⟩
  ·by_cases a : i = p
   ·exact .inr ⟨q, hq, by rw [zhG, ← a]; exact e⟩
   ·exact .inl ⟨i, hi, by rw [znE a]; exact e⟩
  ·by_cases b : j = q
   ·exact .inl ⟨p, hp, by rw [zhG, ← b]; exact e⟩
   ·exact .inr ⟨j, hj, by rw [znE b]; exact e⟩
def odA (x : Nat) : Bool → List Nat → Bool
 | o, [] => o
 | o, y :: l => odA x (o != decide (y < x)) l
def odl : Bool → List Nat → Bool
 | o, [] => o
 | o, x :: l => odl (odA x o l) l
theorem zrE (x : Nat) : ∀ (l : List Nat) (o : Bool), odA x o l = (o ^^ odA x false l)
 | [], o => by simp [odA]
 | y :: l, o => by
  show odA x (o != decide (y < x)) l = (o ^^ odA x (false != decide (y < x)) l)
  rw [zrE x l (o != _), zrE x l (false != _)]; cases o <;> cases decide (y < x) <;> cases odA x false l <;> rfl
theorem zIG : ∀ (l : List Nat) (o : Bool), odl o l = (o ^^ odl false l)
 | [], o => by simp [odl]
 | x :: l, o => by
  show odl (odA x o l) l = (o ^^ odl (odA x false l) l)
  rw [zIG l (odA x o l), zIG l (odA x false l), zrE x l o]; cases o <;> cases odA x false l <;> cases odl false l <;> rfl
theorem zuH (x c : Nat) : ∀ (l : List Nat) (o : Bool), odA x o (ins c l) = odA x o (c :: l)
 | [], o => rfl
 | y :: l, o => by
  unfold ins
  by_cases q : c < y
  ·rw [if_pos q]
  ·rw [if_neg q]
   show odA x (o != decide (y < x)) (ins c l) = odA x ((o != decide (c < x)) != decide (y < x)) l
   rw [zuH x c l]
   show odA x ((o != decide (y < x)) != decide (c < x)) l = _
   congr 1
   cases o <;> cases decide (y < x) <;> cases decide (c < x) <;> rfl
def srtR : List Nat → List Nat
 | [] => []
 | x :: l => ins x (srtR l)
theorem ztH (x : Nat) : ∀ (l : List Nat) (o : Bool), odA x o (srtR l) = odA x o l
 | [], o => rfl
 | c :: l, o => by
  show odA x o (ins c (srtR l)) = _
  rw [zuH]
  show odA x (o != decide (c < x)) (srtR l) = odA x (o != decide (c < x)) l
  exact ztH x l _
theorem zsG (x : Nat) : ∀ {l : List Nat}, (∀ y ∈ l, x < y) → odA x false l = false
 | [], _ => rfl
 | y :: l, h => by
  show odA x (false != decide (y < x)) l = false
  have : decide (y < x) = false := decide_eq_false (by have := h y (by simp); omega); rw [this]; exact zsG x fun z hz => h z (by simp [hz])
theorem Mv.insF (x : Nat) : ∀ {l : List Nat}, l.Pairwise (· < ·) → x ∉ l → Mv (x :: l) (Proofs.YtakkmpkkoecnhaaGreat.ins x l) (odA x false l)
 | [], _, _ => Mv.refl _
 | y :: l, h, hx => by
  have h' := List.pairwise_cons.1 h; unfold Proofs.YtakkmpkkoecnhaaGreat.ins
  by_cases q : x < y
  ·rw [if_pos q, zsG x fun z hz => by
    rcases List.mem_cons.1 hz with rfl | hz
    ·exact q
    ·have := h'.1 z hz; omega]
   exact Mv.refl _
  ·have hne : x ≠ y := fun e => hx (by simp [e])
   rw [if_neg q]; have e : odA x false (y :: l) = (true ^^ odA x false l) := by
    show odA x (false != decide (y < x)) l = _
    rw [zrE, decide_eq_true (show y < x by omega)]
    rfl
   rw [e]; exact ((Mv.two x y).app l).trans ((Mv.insF x h'.2 fun q => hx (by simp [q])).cons y)
theorem ziG : ∀ {l : List Nat}, l.Nodup → Mv l (srtR l) (odl false l) ∧ (srtR l).Pairwise (· < ·) ∧ (srtR l).length = l.length ∧ ∀ c, c ∈ srtR l ↔ c ∈ l
 | [], _ => ⟨Mv.refl _, by simp [srtR], rfl, fun c => by simp [srtR]⟩
 | x :: l, h => by
  have h' := List.nodup_cons.1 h; obtain ⟨h1, h2, h3, h4⟩ := ziG h'.2; have hx : x ∉ srtR l := fun q => h'.1 ((h4 x).1 q)
  refine ⟨?_, zFI h2 hx, by show (ins x (srtR l)).length = _; rw [zMG, h3]; rfl, fun c => by show c ∈ ins x (srtR l) ↔ _; rw [ins_mem, h4 c]; simp⟩; have e : odl false (x :: l) = (odl false l ^^ odA x false (srtR l)) := by
   show odl (odA x false l) l = _
   rw [zIG, ztH]; cases odA x false l <;> cases odl false l <;> rfl
  rw [e]; exact (h1.cons x).trans (Mv.insF x h2 hx)
theorem order14 {l : List Nat} {m : Nat} (h : l.Nodup) (hl : l.length = m) (hm : ∀ x ∈ l, x < m) : Mv l (List.range m) (odl false l) := by
 obtain ⟨h1, h2, h3, h4⟩ := ziG h; have e : srtR l = List.range m := by
  refine List.ext_getElem (by rw [h3, hl, List.length_range]) fun i a b => ?_
  have hi : i < m := by rw [h3, hl] at a; exact a
  have := zXH h2 (n := m) (fun x hx => hm x ((h4 x).1 hx)) (by rw [h3, hl]) hi; rw [List.getElem_range]
  simpa [List.getD_eq_getElem?_getD, List.getElem?_eq_getElem a] using this
 rw [← e]; exact h1
theorem zmH (s : Bool) : sgb s * sgb s = 1 := by cases s <;> rfl
theorem zrC {l : List Nat} {m : Nat} (h : l.Nodup) (hl : l.length = m) (hm : ∀ x ∈ l, x < m) (M : Nat → Nat → Int) : det m (fun a b => M a (l.getD b 0)) = sgb (odl false l) * det m M := by
 have e := order14 h hl hm M [] []; simp only [List.nil_append, List.append_nil] at e; unfold dl at e; rw [hl, List.length_range] at e; rw [e]
 congr 1
 exact zHA fun a b _ hb => by simp [hb]
theorem zBE {l : List Nat} (h : l.Nodup) {i j : Nat} (hi : i < l.length) (hj : j < l.length) (e : l.getD i 0 = l.getD j 0) : i = j := by
 have h' := List.pairwise_iff_getElem.1 h; rcases Nat.lt_trichotomy i j with q | q | q
 ·exact absurd (by simpa [hi, hj] using e) (h' i j hi hj q)
 ·exact q
 ·exact absurd (by simpa [hi, hj] using e.symm) (h' j i hj hi q)
theorem zqF (d : Int) : ∀ (t s : Nat) (Y : Nat → Nat → Int), (∀ a k, s ≤ a → a < s + t → k < s + t → Y a k = d * dlz a k) → det (s + t) Y = d ^ t * det s Y
 | 0, s, Y, _ => by simp
 | t + 1, s, Y, h => by
  have e : det (s + (t + 1)) Y = d * det (s + t) Y := by
   show det (s + t + 1) Y = _
   rw [← znB (s + t) Y, ← (zcA (s + t + 1)).mul (A := Y) (i := s + t) (by omega) d (dlz (s + t))]; refine zHA fun a k ha hk => ?_
   unfold stR
   by_cases q : a = s + t
   ·rw [if_pos q]; show Y a k = d * dlz (s + t) k; rw [h a k (by omega) (by omega) (by omega), q]
   ·rw [if_neg q]
  rw [e, zqF d t s Y fun a k h1 h2 h3 => h a k h1 (by omega) (by omega), Int.pow_succ]
  grind
theorem zsF {m : Nat} {X : Nat → Nat → Int} {d : Int} {S : List Nat} (hS : S.Nodup) (hl : ∀ p ∈ S, p < m) (h : ∀ p k, p < m → k < m → p ∉ S → X p k = d * dlz p k) :
  ∃ t, t + S.length = m ∧ det m X = d ^ t * det S.length fun a b => X (S.getD a 0) (S.getD b 0) := by
 obtain ⟨R, hR⟩ : ∃ R, (List.range m).filter (fun x => decide (x ∉ S)) = R := ⟨_, rfl⟩
 have mR : ∀ x, x ∈ R ↔ x < m ∧ x ∉ S := fun x => by rw [← hR]; simp
 have nR : R.Nodup := by rw [← hR]; exact List.Pairwise.filter _ List.nodup_range
 have nL : (S ++ R).Nodup := List.nodup_append.2 ⟨hS, nR, fun a ha b hb e => ((mR b).1 hb).2 (e ▸ ha)⟩; have pL : (S ++ R).Perm (List.range m) := (List.perm_ext_iff_of_nodup nL List.nodup_range).2 fun a => by
  rw [List.mem_append, mR, List.mem_range]
  constructor
  ·rintro (q | q)
   ·exact hl a q
   ·exact q.1
  ·intro q
   by_cases e : a ∈ S
   ·exact .inl e
   ·exact .inr ⟨q, e⟩
 have lL : (S ++ R).length = m := by rw [pL.length_eq, List.length_range]
 have bL : ∀ x ∈ S ++ R, x < m := fun x hx => by simpa using pL.mem_iff.1 hx
 have lt : S.length + R.length = m := by rw [← lL, List.length_append]
 refine ⟨R.length, by omega, ?_⟩; have e1 := zrC nL lL bL X; have e2 := zrC nL lL bL (fun a b => X ((S ++ R).getD b 0) ((S ++ R).getD a 0)); have e3 : det m (fun a b => X ((S ++ R).getD a 0) b) = sgb (odl false (S ++ R)) * det m X := by
  have := zrC nL lL bL (fun a b => X b a); rw [zpA m X] at this; rw [← this, ← zpA]
 have e4 : det m (fun a b => X ((S ++ R).getD a 0) ((S ++ R).getD b 0)) = det m X := by
  rw [zrC nL lL bL (fun a b => X ((S ++ R).getD a 0) b), e3, ← Int.mul_assoc, zmH, Int.one_mul]
 rw [← e4]; have hd := zqF d R.length S.length (fun a b => X ((S ++ R).getD a 0) ((S ++ R).getD b 0)) fun a k h1 h2 h3 => by
  have ea : (S ++ R).getD a 0 = R.getD (a - S.length) 0 := by simp [List.getElem?_append_right h1]
  have hin : (S ++ R).getD a 0 ∈ R := by
   rw [ea, List.getD_eq_getElem?_getD, List.getElem?_eq_getElem (show a - S.length < R.length by omega)]; exact List.getElem_mem _
  have hk : (S ++ R).getD k 0 ∈ S ++ R := by
   rw [List.getD_eq_getElem?_getD, List.getElem?_eq_getElem (show k < (S ++ R).length by omega)]; exact List.getElem_mem _
  show X ((S ++ R).getD a 0) ((S ++ R).getD k 0) = _
  rw [h _ _ ((mR _).1 hin).1 (bL _ hk) ((mR _).1 hin).2]; unfold dlz
  by_cases q : a = k
  ·subst q; rw [if_pos rfl, if_pos rfl]
  ·rw [if_neg q, if_neg fun e => q (zBE nL (by omega) (by omega) e)]
 rw [lt] at hd; rw [hd]
 congr 1
 exact zHA fun a b ha hb => by simp [List.getElem?_append_left ha, List.getElem?_append_left hb]
theorem minor14 {A : Nat → Nat → Int} {m n : Nat} {w : Nat → Nat} {rows cols : List Nat} (hr : rows.Nodup) (hm : ∀ p ∈ rows, p < m) (hc : cols.length = rows.length) (hn : ∀ c ∈ cols, c < n) (h1 : ∀ a, a < rows.length → w (rows.getD a 0) = cols.getD a 0) (h2 : ∀ p, p < m → p ∉ rows → w p = n + p) :
  dcl A m n w = det rows.length fun a b => A (rows.getD a 0) (cols.getD b 0) := by
 obtain ⟨t, _, e⟩ := zsF (X := fun p => vcl A n (w p)) (d := 1) hr hm fun p k hp hk hx => by
  show vcl A n (w p) k = _
  unfold vcl; rw [h2 p hp hx, if_neg (by omega), Nat.add_sub_cancel_left, Int.one_mul]
 unfold dcl; rw [e, Int.one_pow, Int.one_mul, ← zpA]; exact zHA fun a b ha hb => by
  show vcl A n (w (rows.getD b 0)) (rows.getD a 0) = _
  unfold vcl; rw [h1 b hb, if_pos (hn _ (by
   rw [List.getD_eq_getElem?_getD, List.getElem?_eq_getElem (show b < cols.length by omega)]; exact List.getElem_mem _))]
theorem zqH (d : Int) : ∀ n, prn n (fun _ => d) = d ^ n
 | 0 => by simp [prn]
 | n + 1 => by
  show d * prn n (fun _ => d) = _
  rw [zqH d n, Int.pow_succ, Int.mul_comm]
theorem Tbl.detOf {A : Nat → Nat → Int} {m n : Nat} {f g : Nat → Nat} {by_ : Nat → Nat → Int} {d : Int} (h : Tbl A m n f g by_ d) {w : Nat → Nat} {ord opn fre slt : List Nat}
  (lo : ord.length = m) (no : ord.Nodup) (mo : ∀ x ∈ ord, x < m) (o1 : opn.Nodup) (o2 : ∀ p ∈ opn, p < m) (hin : ∀ p, p < m → p ∉ opn → f (ord.getD p 0) = w p)
  (hop : ∀ t, t < opn.length → ord.getD (opn.getD t 0) 0 = fre.getD t 0 ∧ slt.getD t 0 < n ∧ g (slt.getD t 0) = w (opn.getD t 0)) :
  dcl A m n w * d ^ opn.length = sgb (odl false ord) * (det opn.length (fun a b => by_ (fre.getD a 0) (slt.getD b 0)) * d) := by
 have hod : ∀ p, p < m → ord.getD p 0 < m := fun p hp => mo _ (by
  rw [List.getD_eq_getElem?_getD, List.getElem?_eq_getElem (show p < ord.length by omega)]; exact List.getElem_mem _)
 obtain ⟨B, hB⟩ : ∃ B, (fun r => vcl A n (f r)) = B := ⟨_, rfl⟩
 have dB : det m B = d := by rw [← hB]; exact h.de
 obtain ⟨T, hT⟩ : ∃ T : Nat → Nat → Int, (fun p i => det m (stR B i (vcl A n (w p)))) = T := ⟨_, rfl⟩
 have T1 : ∀ p i, p < m → i < m → p ∉ opn → T p i = d * dlz (ord.getD p 0) i := fun p i hp hi hx => by
  rw [← hT]
  show det m (stR B i (vcl A n (w p))) = _
  rw [← hin p hp hx, show vcl A n (f (ord.getD p 0)) = B (ord.getD p 0) by rw [← hB]]; unfold dlz
  by_cases q : ord.getD p 0 = i
  ·rw [if_pos q, q, zrB, dB, Int.mul_one]
  ·rw [if_neg q, Int.mul_zero]
   exact (zcA m).same (hod p hp) hi q fun k _ => by rw [zRA, zJA _ q]
 have T2 : ∀ t i, t < opn.length → i < m → T (opn.getD t 0) i = by_ i (slt.getD t 0) := fun t i ht hi => by
  rw [← hT]
  show det m (stR B i (vcl A n (w (opn.getD t 0)))) = _
  rw [h.be i _ hi (hop t ht).2.1, zSD, hB, (hop t ht).2.2]
 have e1 : det m (fun p k => d * vcl A n (w p) k) = det m T * d := by
  rw [← dB, ← zQG]; refine zHA fun p k hp hk => ?_
  unfold muz; rw [dB, ← dB, ← hT, ← zIH B (vcl A n (w p)) hk]
 rw [zNE m (fun _ => d), zqH] at e1; have e2 := zrC no lo mo T; obtain ⟨t, ht, e3⟩ := zsF (X := fun p k => T p (ord.getD k 0)) (d := d) o1 o2 fun p k hp hk hx => by
  show T p (ord.getD k 0) = _
  rw [T1 p _ hp (hod k hk) hx]; unfold dlz
  by_cases q : p = k
  ·subst q; rw [if_pos rfl, if_pos rfl]
  ·rw [if_neg q, if_neg fun e => q (zBE no (by omega) (by omega) e)]
 have e4 : det opn.length (fun a b => T (opn.getD a 0) (ord.getD (opn.getD b 0) 0)) = det opn.length (fun a b => by_ (fre.getD a 0) (slt.getD b 0)) := by
  rw [← zpA]; exact zHA fun a b ha hb => by
   have hm := hod _ (o2 _ (show opn.getD a 0 ∈ opn by
    rw [List.getD_eq_getElem?_getD, List.getElem?_eq_getElem ha]; exact List.getElem_mem _))
   show T (opn.getD b 0) (ord.getD (opn.getD a 0) 0) = _
   rw [T2 b _ hb hm, (hop a ha).1]
 have e5 : det m T = sgb (odl false ord) * (d ^ t * det opn.length (fun a b => by_ (fre.getD a 0) (slt.getD b 0))) := by
  rw [← e4]; have := e3; rw [e2] at this; rw [← this, ← Int.mul_assoc, zmH, Int.one_mul]
 rw [e5, show d ^ m = d ^ t * d ^ opn.length by rw [← ht, Int.pow_add]] at e1; have hnz : d ^ t ≠ 0 := Int.pow_ne_zero h.nz; refine Int.eq_of_mul_eq_mul_left hnz ?_; have e6 : dcl A m n w = det m (fun p => vcl A n (w p)) := rfl; rw [e6]; rw [show d ^ t * (det m (fun p => vcl A n (w p)) * d ^ opn.length) = d ^ t * d ^ opn.length * det m fun p => vcl A n (w p) by grind]; rw [show (det m fun p => vcl A n (w p)) = det m fun a b => vcl A n (w a) b from rfl, e1]
 grind
theorem Tbl.rank0 {A : Nat → Nat → Int} {m n : Nat} {f g : Nat → Nat} {by_ : Nat → Nat → Int} {d : Int} (h : Tbl A m n f g by_ d) {P : List Nat} (hP : ∀ i, i < m → f i < n → i ∈ P) (hz : ∀ i j, i < m → j < n → n ≤ f i → g j < n → by_ i j = 0)
  {rows cols : Nat → Nat} {s : Nat} (hr : ∀ a, a < s → rows a < m) (hc : ∀ a, a < s → cols a < n) (hs : P.length < s) : det s (fun a b => A (rows a) (cols b)) = 0 := by
 obtain ⟨L, hL⟩ : ∃ L : Nat → Nat → Int, (fun a => vcl A n (f (P.getD a 0))) = L := ⟨_, rfl⟩
 have one : ∀ i, i < m → f i < n → Sp m P.length L (vcl A n (f i)) := fun i hi hf => by
  obtain ⟨a, ha, e⟩ := List.getElem_of_mem (hP i hi hf); exact Sp.one ha fun j _ => by
   rw [← hL]
   show _ = vcl A n (f (P.getD a 0)) j
   rw [List.getD_eq_getElem?_getD, List.getElem?_eq_getElem ha, Option.getD_some, e]
 have all : ∀ c, c < n → Sp m P.length L (vcl A n c) := fun c hc => by
  rcases h.cov c (by omega) with ⟨i, hi, e⟩ | ⟨j, hj, e⟩
  ·rw [← e]; exact one i hi (by omega)
  ·refine Sp.div h.nz (Sp.congr (u := fun k => su m fun i => by_ i j * vcl A n (f i) k) ?_ fun k hk => by rw [← e]; exact h.comb hj hk)
   rw [show (fun k => su m fun i => by_ i j * vcl A n (f i) k) = fun k => su m fun i => (fun _ : Nat => (1 : Int)) i * (fun i k => by_ i j * vcl A n (f i) k) i k by funext k; exact zKA fun i _ => by show _ = 1 * _; rw [Int.one_mul]]; refine Sp.sum _ fun i hi => ?_
   by_cases q : f i < n
   ·exact Sp.mul _ (one i hi q)
   ·exact Sp.zero fun k _ => by rw [hz i j hi hj (by omega) (by omega), Int.zero_mul]
 have := Sp.det0 (n := m) (X := fun a => vcl A n (cols a)) (fun a ha => all _ (hc a ha)) hs (M := rows) hr; rw [← zpA, ← this]; exact zHA fun a b ha hb => by
  show A (rows b) (cols a) = vcl A n (cols a) (rows b)
  unfold vcl; rw [if_pos (hc a ha)]
theorem dcl_abs {A : Nat → Nat → Int} {m n X : Nat} {f : Nat → Nat} (hm : m ≤ 64) (hX : 1 ≤ X) (h : ∀ i j, (A i j).natAbs ≤ X) : (dcl A m n f).natAbs ≤ (64 * X) ^ m := zRG hm fun i j _ _ => by
 unfold vcl
 split
 ·exact h _ _
 ·unfold dlz; split <;> simp <;> omega
end Go.Proofs.YtakkmpkkoecnhaaGreat
