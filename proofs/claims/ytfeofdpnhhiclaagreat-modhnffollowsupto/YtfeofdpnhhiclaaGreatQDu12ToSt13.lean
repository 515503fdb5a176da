/-
 QDu12ToSt13: Du12, Bz13, St13, joined.
-/
import Derived.Test.YtfeofdpnhhiclaaGreatQOf11ToDz12

set_option maxRecDepth 100000
set_option maxHeartbeats 6400000
set_option linter.unusedVariables false
set_option linter.unusedSimpArgs false
namespace Go.Proofs.YtfeofdpnhhiclaaGreat
def insd (j : Nat) (u : Nat → Int) (c : Nat) : Int := if c < j then u c else if c = j then 0 else u (c - 1)
def capd (j : Nat) (B : Nat → Nat → Int) : Nat → Nat → Int
 | 0,c => dlz j c
 | r + 1,c => insd j (B r) c
theorem zmE (j : Nat) (B : Nat → Nat → Int) (i : Nat) (u : Nat → Int) : capd j (stR B i u) = stR (capd j B) (i + 1) (insd j u) := by
 funext r c
 cases r with
 | zero => simp [capd,stR]
 | succ r =>
  show insd j (stR B i u r) c = if r + 1 = i + 1 then insd j u c else insd j (B r) c
  by_cases h : r = i
  ·subst h;rw [zZA,if_pos rfl]
  ·rw [zUA _ h,if_neg (by omega)]
theorem Alt.cap {n j : Nat} {F : (Nat → Nat → Int) → Int} (h : Alt (n + 1) F) (hj : j ≤ n) : Alt n fun B => F (capd j B) := by
 refine ⟨fun A B e => h.congr _ _ fun r c hr hc => ?_,fun A i u v x y hi => ?_,fun A i hi e => h.alt _ (i + 1) (by omega) fun c hc => ?_⟩
 ·cases r with
  | zero => rfl
  | succ r =>
   show insd j (A r) c = insd j (B r) c
   unfold insd
   split
   ·exact e r c (by omega) (by omega)
   ·split
    ·rfl
    ·exact e r (c - 1) (by omega) (by omega)
 ·show F (capd j (stR A i _)) = x * F (capd j (stR A i u)) + y * F (capd j (stR A i v))
  rw [zmE,zmE,zmE,← h.lin _ (i + 1) _ _ x y (by omega)]
  congr 2
  funext c
  unfold insd
  split
  ·rfl
  ·split
   ·simp
   ·rfl
 ·show insd j (A i) c = insd j (A (i + 1)) c
  unfold insd
  split
  ·exact e c (by omega)
  ·split
   ·rfl
   ·exact e (c - 1) (by omega)
theorem Alt.top {n : Nat} {F : (Nat → Nat → Int) → Int} (h : Alt (n + 1) F) : ∀ {j : Nat},j ≤ n → F (capd j dlz) = sgd j * F dlz
 | 0,_ => by
  show _ = 1 * _
  rw [Int.one_mul];refine h.congr _ _ fun r c _ _ => ?_
  cases r with
  | zero => rfl
  | succ r => show insd 0 (dlz r) c = _;unfold insd dlz;grind
 | j + 1,hj => by
  have h1 := Alt.top h (j := j) (by omega);have h2 := h.swap (A := capd j dlz) (i := 0) (k := j + 1) (by omega) (by omega) (by omega)
  show _ = - sgd j * _
  rw [Int.neg_mul,← h1,← h2];refine h.congr _ _ fun r c _ _ => ?_
  by_cases hr : r = j + 1
  ·subst hr
   rw [zZA]
   show insd (j + 1) (dlz j) c = dlz j c
   unfold insd dlz;grind
  ·rw [zUA _ hr]
   cases r with
   | zero =>
    rw [zZA]
    show dlz (j + 1) c = insd j (dlz j) c
    unfold insd dlz;grind
   | succ r =>
    rw [zUA _ (by omega)]
    show insd (j + 1) (dlz r) c = insd j (dlz r) c
    unfold insd dlz;grind
theorem Alt.clear {n j : Nat} {F : (Nat → Nat → Int) → Int} (h : Alt (n + 1) F) (hj : j ≤ n) (A : Nat → Nat → Int) : F (stR A 0 (dlz j)) = F (capd j fun r c => A (r + 1) (skd j c)) := by
 have key : ∀ k,k ≤ n → F (stR A 0 (dlz j)) = F (fun r c => if r = 0 then dlz j c else if r ≤ k then insd j (fun c => A r (skd j c)) c else A r c) := by
  intro k
  induction k with
  | zero => intro _;exact h.congr _ _ fun r c _ _ => by unfold stR;grind
  | succ k ih =>
   intro hk;rw [ih (by omega)];rw [← h.plus (A := fun r c => if r = 0 then dlz j c else if r ≤ k then insd j (fun c => A r (skd j c)) c else A r c) (i := k + 1) (k := 0) (by omega) (by omega) (by omega) (- A (k + 1) j)];refine h.congr _ _ fun r c _ _ => ?_
   by_cases hr : r = k + 1
   ·subst hr
    rw [zZA];simp only [Nat.add_one_ne_zero,if_false,if_true];rw [if_neg (by omega),if_pos (by omega)];unfold insd dlz skd;grind
   ·rw [zUA _ hr]
    grind
 rw [key n (Nat.le_refl n)];refine h.congr _ _ fun r c hr _ => ?_
 cases r with
 | zero => rfl
 | succ r =>
  show (if r + 1 = 0 then _ else if r + 1 ≤ n then _ else _) = insd j (fun c => A (r + 1) (skd j c)) c
  rw [if_neg (by omega),if_pos (by omega)]
def exd (n : Nat) (A : Nat → Nat → Int) : Int := su (n + 1) fun j => sgd j * A 0 j * det n (fun r c => A (r + 1) (skd j c))
theorem Alt.exp {n : Nat} (IH : ∀ G,Alt n G → ∀ B,G B = det n B * G dlz) {F : (Nat → Nat → Int) → Int} (h : Alt (n + 1) F) (A : Nat → Nat → Int) : F A = exd n A * F dlz := by
 have e0 : F A = F (stR A 0 fun c => su (n + 1) fun j => A 0 j * dlz j c) := h.congr _ _ fun r c _ hc => by
  by_cases hr : r = 0
  ·subst hr
   rw [zZA,zIB (i := c) hc fun k _ hk => by unfold dlz;rw [if_neg hk];simp];unfold dlz;simp
  ·rw [zUA _ hr]
 rw [e0,h.sum (by omega)];unfold exd;rw [← su_mulr];refine zaA fun j hj => ?_
 rw [h.clear (by omega),IH _ (h.cap (by omega)),h.top (by omega)]
 grind
theorem zkE : ∀ n : Nat,det n dlz = 1
 | 0 => rfl
 | n + 1 => by
  show su (n + 1) _ = 1
  rw [zIB (i := 0) (by omega) fun k _ hk => by unfold dlz;rw [if_neg hk];simp];have e : det n (fun r c => dlz (skd 0 r) (c + 1)) = 1 := by
   rw [← zkE n];exact zWA fun r c _ _ => by unfold dlz skd;grind
  rw [e];simp [sgd,dlz]
theorem Alt.eq : ∀ {n : Nat} {F : (Nat → Nat → Int) → Int},Alt n F → ∀ A,F A = det n A * F dlz
 | 0,F,h,A => by
  show F A = 1 * F dlz
  rw [Int.one_mul];exact h.congr _ _ fun i j hi _ => by omega
 | n + 1,F,h,A => by
  have h1 := Alt.exp (fun G hG B => Alt.eq hG B) h A;have h2 := Alt.exp (fun G hG B => Alt.eq hG B) (zWB (n + 1)) A;rw [zkE,Int.mul_one] at h2;rw [h2];exact h1
theorem det_row (n : Nat) (A : Nat → Nat → Int) : det (n + 1) A = exd n A := by
 have h2 := Alt.exp (fun G hG B => Alt.eq hG B) (zWB (n + 1)) A
 rwa [zkE,Int.mul_one] at h2
theorem zeB : ∀ (n : Nat) (A : Nat → Nat → Int),det n (fun i j => A j i) = det n A
 | 0,_ => rfl
 | n + 1,A => by
  rw [det_row n A];exact zaA fun i _ => by
   show sgd i * A 0 i * det n (fun r c => A (c + 1) (skd i r)) = sgd i * A 0 i * det n (fun r c => A (r + 1) (skd i c))
   rw [zeB n (fun r c => A (r + 1) (skd i c))]
theorem zJC : ∀ (n : Nat) (A : Nat → Nat → Int),det (n + 1) (stR A n (dlz n)) = det n A
 | 0,A => by
  show su 1 _ = 1
  rw [zIB (i := 0) (by omega) fun k _ hk => by omega];rw [zZA];simp [sgd,dlz,det]
 | n + 1,A => by
  show su (n + 2) _ = su (n + 1) _
  show su (n + 1) _ + sgd (n + 1) * stR A (n + 1) (dlz (n + 1)) (n + 1) 0 * _ = _
  have h0 : stR A (n + 1) (dlz (n + 1)) (n + 1) 0 = 0 := by rw [zZA];simp [dlz]
  rw [h0,Int.mul_zero,Int.zero_mul,Int.add_zero];refine zaA fun i hi => ?_
  have e : det (n + 1) (fun r c => stR A (n + 1) (dlz (n + 1)) (skd i r) (c + 1)) = det (n + 1) (stR (fun r c => A (skd i r) (c + 1)) n (dlz n)) := zWA fun r c hr hc => by
   by_cases q : r = n
   ·subst q
    have e1 : skd i r = r + 1 := by unfold skd;rw [if_neg (by omega)]
    rw [zZA,e1,zZA];simp [dlz]
   ·rw [zUA _ q,zUA _ (by unfold skd;split <;> omega)]
  rw [e,zJC n,zUA _ (by omega)]
theorem det_samecol {n a b : Nat} (A : Nat → Nat → Int) (ha : a < n) (hb : b < n) (hab : a ≠ b) (h : ∀ i,i < n → A i a = A i b) : det n A = 0 := by
 rw [← zeB];exact (zWB n).same ha hb hab fun j hj => h j hj
def bor (k : Nat) (R : Nat → Nat) (r : Nat) : Nat → Nat := fun a => if a < k then R a else r
def mi (A : Nat → Nat → Int) (R C : Nat → Nat) (k r j : Nat) : Int := det (k + 1) fun a b => A (bor k R r a) (bor k C j b)
def dd (A : Nat → Nat → Int) (R C : Nat → Nat) (k : Nat) : Int := det k fun a b => A (R a) (C b)
theorem zuB {k a r : Nat} {R : Nat → Nat} (h : a < k) : bor k R r a = R a := if_pos h
theorem ztD {k r : Nat} {R : Nat → Nat} : bor k R r k = r := if_neg (by omega)
theorem zYF (A : Nat → Nat → Int) (R C : Nat → Nat) (k : Nat) : mi A R C k (R k) (C k) = dd A R C (k + 1) := zWA fun i j hi hj => by
 have e : ∀ (X : Nat → Nat) a,a < k + 1 → bor k X (X k) a = X a := fun X a ha => by
  by_cases q : a < k
  ·exact zuB q
  ·obtain rfl : a = k := by omega
   exact ztD
 rw [e R i hi,e C j hj]
theorem zTG (A : Nat → Nat → Int) (R C : Nat → Nat) (r j : Nat) : mi A R C 0 r j = A r j := by
 show su 1 _ = _
 rw [zIB (i := 0) (by omega) fun k _ hk => by omega];simp [sgd,det,bor]
theorem zVG (A : Nat → Nat → Int) (R C : Nat → Nat) {k b : Nat} (r : Nat) (hb : b < k) : mi A R C k r (C b) = 0 :=
 det_samecol _ (show b < k + 1 by omega) (show k < k + 1 by omega) (by omega) fun i _ => by rw [zuB hb,ztD]
theorem zVH (A : Nat → Nat → Int) (R C : Nat → Nat) (k r : Nat) : ∃ e : Nat → Int,e k = dd A R C k ∧ ∀ j,mi A R C k r j = su (k + 1) fun a => e a * A (bor k R r a) j := by
 refine ⟨fun a => det (k + 1) (stR (fun b a => A (bor k R r a) (C b)) k (dlz a)),?_,fun j => ?_⟩
 ·show det (k + 1) (stR (fun b a => A (bor k R r a) (C b)) k (dlz k)) = _
  rw [zJC]
  show _ = det k _
  rw [← zeB];exact zWA fun i j hi hj => by rw [zuB hi]
 ·have e1 : mi A R C k r j = det (k + 1) (stR (fun b a => A (bor k R r a) (C b)) k fun a => su (k + 1) fun i => A (bor k R r i) j * dlz i a) := by
   unfold mi;rw [← zeB];refine zWA fun b a hb ha => ?_
   by_cases q : b = k
   ·subst q
    rw [zZA,ztD,zIB (i := a) ha fun i _ hi => by unfold dlz;rw [if_neg hi];simp];unfold dlz;simp
   ·rw [zUA _ q,zuB (R := C) (by omega)]
  rw [e1,(zWB (k + 1)).sum (by omega)];exact zaA fun a _ => Int.mul_comm _ _
theorem det_two (k : Nat) (B : Nat → Nat → Int) (u v : Nat → Int) (hu : ∀ j,j < k → u j = 0) (hv : ∀ j,j < k → v j = 0) :
  det (k + 2) (stR (stR B k u) (k + 1) v) = (u k * v (k + 1) - u (k + 1) * v k) * det k B := by
 have H := zWB (k + 2);have D1 : det (k + 2) (stR (stR B k (dlz k)) (k + 1) (dlz (k + 1))) = det k B := by
  rw [zJC (k + 1),zJC k]
 have D2 : det (k + 2) (stR (stR B k (dlz (k + 1))) (k + 1) (dlz k)) = - det k B := by
  rw [← D1];have := H.swap (A := stR (stR B k (dlz k)) (k + 1) (dlz (k + 1))) (i := k) (k := k + 1) (by omega) (by omega) (by omega);rw [← this];refine zWA fun i j _ _ => ?_
  by_cases q : i = k + 1
  ·subst q;rw [zZA,zZA,zUA _ (by omega),zZA]
  ·rw [zUA _ q,zUA _ q]
   by_cases q2 : i = k
   ·subst q2;rw [zZA,zZA,zZA]
   ·rw [zUA _ q2,zUA _ q2,zUA _ q,zUA _ q2]
 have D3 : ∀ x : Nat → Int,det (k + 2) (stR (stR B k x) (k + 1) x) = 0 := fun x => H.same (i := k) (k := k + 1) (by omega) (by omega) (by omega) fun j _ => by rw [zUA _ (by omega),zZA,zZA]
 have eu : ∀ (B : Nat → Nat → Int) (i : Nat) (u : Nat → Int),i < k + 2 → (∀ j,j < k → u j = 0) → ∀ B',(∀ a,a ≠ i → B' a = B a) → B' i = u → det (k + 2) B' = u k * det (k + 2) (stR B i (dlz k)) + u (k + 1) * det (k + 2) (stR B i (dlz (k + 1))) := fun B i u hi hu B' h1 h2 => by
  rw [← H.lin B i (dlz k) (dlz (k + 1)) (u k) (u (k + 1)) hi];refine zWA fun a j ha hj => ?_
  by_cases q : a = i
  ·subst q
   rw [zZA,h2]
   by_cases q1 : j = k
   ·subst q1;simp [dlz]
   ·by_cases q2 : j = k + 1
    ·subst q2;simp [dlz]
    ·rw [hu j (by omega)];simp [dlz,Ne.symm q1,Ne.symm q2]
  ·rw [zUA _ q,h1 a q]
 rw [eu (stR B k u) (k + 1) v (by omega) hv _ (fun a ha => zUA _ ha _) (zZA _ _ _)];have f : ∀ x : Nat → Int,det (k + 2) (stR (stR B k u) (k + 1) x) = u k * det (k + 2) (stR (stR B k (dlz k)) (k + 1) x) + u (k + 1) * det (k + 2) (stR (stR B k (dlz (k + 1))) (k + 1) x) := fun x => by
  rw [zgB (by omega : k ≠ k + 1),zgB (by omega : k ≠ k + 1),zgB (by omega : k ≠ k + 1)];exact eu (stR B (k + 1) x) k u (by omega) hu _ (fun a ha => zUA _ ha _) (zZA _ _ _)
 rw [f,f,D1,D2,D3,D3]
 grind
theorem zBG {n k i : Nat} (B : Nat → Nat → Int) (hi : i < n) (hk : k ≤ i) (e : Nat → Int) (p : Int) :
  det n (stR B i fun j => (su k fun a => e a * B a j) + p * B i j) = p * det n B := by
 have H := zWB n;rw [H.add hi,H.sum hi e B k,H.mul hi,zfC,zxC fun a ha => ?_,Int.zero_add];rw [H.same (A := stR B i (B a)) hi (show a < n by omega) (by omega) fun j _ => by rw [zZA,zUA _ (by omega)]]
 simp
theorem zUG (A : Nat → Nat → Int) (R C : Nat → Nat) (k r j : Nat) (hp : dd A R C k ≠ 0) :
  dd A R C (k + 1) * mi A R C k r j - mi A R C k r (C k) * mi A R C k (R k) j = dd A R C k * mi A R C (k + 1) r j := by
 obtain ⟨e,e0,he⟩ := zVH A R C k r;obtain ⟨f,f0,hf⟩ := zVH A R C k (R k);have HB : ∃ B : Nat → Nat → Int,B = fun a b => A (bor (k + 1) R r a) (bor (k + 1) C j b) := ⟨_,rfl⟩
 obtain ⟨B,hB⟩ := HB;have HG : ∃ G : Nat → Nat,G = bor (k + 1) C j := ⟨_,rfl⟩
 obtain ⟨G,hG⟩ := HG;have Glt : ∀ b,b < k → G b = C b := fun b hb => by rw [hG];exact zuB (by omega)
 have Gk : G k = C k := by rw [hG];exact zuB (by omega)
 have Gk1 : G (k + 1) = j := by rw [hG];exact ztD
 have Bat : ∀ a b,B a b = A (bor (k + 1) R r a) (G b) := fun a b => by rw [hB,hG]
 have row1 : ∀ b,(su k fun a => f a * B a b) + dd A R C k * B k b = mi A R C k (R k) (G b) := fun b => by
  rw [hf]
  show _ = (su k _) + f k * A (bor k R (R k) k) (G b)
  rw [f0,ztD,Bat,zuB (by omega : k < k + 1)]
  congr 1
  exact zaA fun a ha => by rw [Bat,zuB (by omega),zuB ha]
 have row2 : ∀ b,(su k fun a => e a * B a b) + dd A R C k * B (k + 1) b = mi A R C k r (G b) := fun b => by
  rw [he]
  show _ = (su k _) + e k * A (bor k R r k) (G b)
  rw [e0,ztD,Bat,ztD]
  congr 1
  exact zaA fun a ha => by rw [Bat,zuB (by omega),zuB ha]
 have h1 := zBG (n := k + 2) (k := k) (i := k + 1) B (by omega) (by omega) e (dd A R C k);have h2 := zBG (n := k + 2) (k := k) (i := k) (stR B (k + 1) fun b => (su k fun a => e a * B a b) + dd A R C k * B (k + 1) b) (by omega) (by omega) f (dd A R C k);have h3 := det_two k B (fun b => mi A R C k (R k) (G b)) (fun b => mi A R C k r (G b)) (fun b hb => by rw [Glt b hb];exact zVG A R C _ hb) (fun b hb => by rw [Glt b hb];exact zVG A R C _ hb);have e4 : det (k + 2) (stR (stR B k fun b => mi A R C k (R k) (G b)) (k + 1) fun b => mi A R C k r (G b)) = dd A R C k * (dd A R C k * det (k + 2) B) := by
  rw [← h1,← h2,zgB (by omega : k ≠ k + 1)];refine zWA fun a b _ _ => ?_
  by_cases q : a = k
  ·subst q
   rw [zZA,zZA,← row1,zUA _ (by omega)]
   congr 1
   exact zaA fun a' ha' => by rw [zUA _ (by omega)]
  ·rw [zUA _ q,zUA _ q]
   by_cases q2 : a = k + 1
   ·subst q2;rw [zZA,zZA,row2]
   ·rw [zUA _ q2,zUA _ q2]
 rw [e4] at h3;have e5 : det k B = dd A R C k := zWA fun a b ha hb => by rw [Bat,Glt b hb,zuB (by omega)]
 have e6 : det (k + 2) B = mi A R C (k + 1) r j := by rw [hB];rfl
 rw [e5,e6] at h3;simp only [Gk,Gk1] at h3;rw [zYF] at h3;have h4 : dd A R C k * (dd A R C k * mi A R C (k + 1) r j) = dd A R C k * (dd A R C (k + 1) * mi A R C k r j - mi A R C k r (C k) * mi A R C k (R k) j) := by rw [h3];grind
 exact (Int.eq_of_mul_eq_mul_left hp h4).symm
theorem zSH : ∀ {n : Nat} {f : Nat → Int} {X : Nat},(∀ k,k < n → (f k).natAbs ≤ X) → (su n f).natAbs ≤ n * X
 | 0,_,_,_ => by simp [su]
 | n + 1,f,X,h => by
  have h1 := zSH (n := n) (f := f) (X := X) fun k hk => h k (by omega)
  have h2 := h n (by omega);have : (su n f + f n).natAbs ≤ (su n f).natAbs + (f n).natAbs := Int.natAbs_add_le _ _
  show (su n f + f n).natAbs ≤ (n + 1) * X
  rw [Nat.succ_mul];omega
theorem zRG : ∀ i : Nat,(sgd i).natAbs = 1
 | 0 => rfl
 | i + 1 => by show (- sgd i).natAbs = 1;rw [Int.natAbs_neg];exact zRG i
theorem ziG {X N : Nat} : ∀ {n : Nat} {A : Nat → Nat → Int},n ≤ N → (∀ i j,i < n → j < n → (A i j).natAbs ≤ X) → (det n A).natAbs ≤ (N * X) ^ n
 | 0,_,_,_ => by simp [det]
 | n + 1,A,hn,h => by
  have h1 : (su (n + 1) fun i => sgd i * A i 0 * det n (fun r c => A (skd i r) (c + 1))).natAbs ≤ (n + 1) * (X * (N * X) ^ n) := zSH fun i hi => by
   have h2 := ziG (X := X) (N := N) (n := n) (A := fun r c => A (skd i r) (c + 1)) (by omega) fun a b ha hb => h (skd i a) (b + 1) (by unfold skd;split <;> omega) (by omega)
   rw [Int.natAbs_mul,Int.natAbs_mul,zRG,Nat.one_mul];exact Nat.mul_le_mul (h i 0 hi (by omega)) h2
  have h3 : (n + 1) * (X * (N * X) ^ n) ≤ N * (X * (N * X) ^ n) := Nat.mul_le_mul_right _ hn;have h4 : N * (X * (N * X) ^ n) = (N * X) ^ (n + 1) := by rw [Nat.pow_succ,Nat.mul_comm _ (N * X),Nat.mul_assoc]
  show (su (n + 1) _).natAbs ≤ _
  omega
theorem mi_abs {A : Nat → Nat → Int} {X N : Nat} (R C : Nat → Nat) {k r j : Nat} (hk : k + 1 ≤ N) (h : ∀ i j,(A i j).natAbs ≤ X) : (mi A R C k r j).natAbs ≤ (N * X) ^ (k + 1) := ziG hk fun _ _ _ _ => h _ _
def sgb (s : Bool) : Int := if s then -1 else 1
theorem sgb_xor (s t : Bool) : sgb (s ^^ t) = sgb s * sgb t := by cases s <;> cases t <;> rfl
def dl (M : Nat → Nat → Int) (l : List Nat) : Int := det l.length fun a b => M a (l.getD b 0)
def Mv (l l' : List Nat) (s : Bool) : Prop := ∀ (M : Nat → Nat → Int) (p t : List Nat),dl M (p ++ l ++ t) = sgb s * dl M (p ++ l' ++ t)
theorem Mv.refl (l : List Nat) : Mv l l false := fun M p t => by simp [sgb]
theorem Mv.trans {a b c : List Nat} {s t : Bool} (h : Mv a b s) (h' : Mv b c t) : Mv a c (s ^^ t) := fun M p q => by rw [h M p q,h' M p q,sgb_xor];grind
theorem Mv.app {l l' : List Nat} {s : Bool} (h : Mv l l' s) (c : List Nat) : Mv (l ++ c) (l' ++ c) s := fun M p t => by
 have := h M p (c ++ t)
 simpa using this
theorem Mv.cons {l l' : List Nat} {s : Bool} (h : Mv l l' s) (x : Nat) : Mv (x :: l) (x :: l') s := fun M p t => by
 have := h M (p ++ [x]) t
 simpa using this
theorem Mv.two (x y : Nat) : Mv [x,y] [y,x] true := fun M p t => by
 have hl : (p ++ [x,y] ++ t).length = (p ++ [y,x] ++ t).length := by simp
 have hi : p.length + 1 < (p ++ [y,x] ++ t).length := by simp
 unfold dl;rw [hl,← zeB _ (fun a b => M a ((p ++ [x,y] ++ t).getD b 0)),← zeB _ (fun a b => M a ((p ++ [y,x] ++ t).getD b 0))];have h1 := (zWB (p ++ [y,x] ++ t).length).swap1 (A := fun b a => M a ((p ++ [y,x] ++ t).getD b 0)) (i := p.length) hi
 show _ = -1 * _
 rw [Int.neg_one_mul,← h1];refine zWA fun b a hb ha => ?_
 have gx : ∀ (u v : Nat) (b : Nat),(p ++ [u,v] ++ t).getD b 0 = if b < p.length then p.getD b 0 else if b = p.length then u else if b = p.length + 1 then v else t.getD (b - p.length - 2) 0 := fun u v b => by
  simp only [List.getD_eq_getElem?_getD,List.append_assoc]
  by_cases q : b < p.length
  ·rw [if_pos q,List.getElem?_append_left q]
  ·rw [if_neg q,List.getElem?_append_right (by omega)]
   by_cases q1 : b = p.length
   ·subst q1;simp
   ·rw [if_neg q1]
    by_cases q2 : b = p.length + 1
    ·subst q2;simp
    ·rw [if_neg q2,show b - p.length = (b - p.length - 2) + 1 + 1 by omega];simp
 by_cases q : b = p.length + 1
 ·subst q
  rw [zZA,gx,gx];simp [show ¬ p.length + 1 < p.length by omega]
 ·rw [zUA _ q]
  by_cases q1 : b = p.length
  ·subst q1
   rw [zZA,gx,gx];simp [show ¬ p.length + 1 < p.length by omega]
  ·rw [zUA _ q1,gx,gx]
   by_cases q2 : b < p.length
   ·rw [if_pos q2,if_pos q2]
   ·rw [if_neg q2,if_neg q2,if_neg q1,if_neg q1,if_neg q,if_neg q]
def par : Nat → Bool
 | 0 => false
 | n + 1 => ! par n
theorem Mv.front (c : Nat) : ∀ l : List Nat,Mv (l ++ [c]) (c :: l) (par l.length)
 | [] => Mv.refl _
 | x :: l => by
  have h1 := (Mv.front c l).cons x;have h2 := (Mv.two x c).app l;have h3 := h1.trans h2;have e : (par l.length ^^ true) = par (x :: l).length := by simp [par]
  rw [e] at h3;exact h3
def ins (c : Nat) : List Nat → List Nat
 | [] => [c]
 | x :: l => if c < x then c :: x :: l else x :: ins c l
def abv (c : Nat) : List Nat → Nat
 | [] => 0
 | x :: l => (if c < x then 1 else 0) + abv c l
theorem zoG (c : Nat) : ∀ {l : List Nat},(∀ x ∈ l,c < x) → abv c l = l.length
 | [],_ => rfl
 | x :: l,h => by simp only [abv,List.length_cons];rw [if_pos (h x (by simp)),zoG c fun y hy => h y (by simp [hy])];omega
theorem znG (c : Nat) : ∀ l m : List Nat,abv c (l ++ m) = abv c l + abv c m
 | [],m => by simp [abv]
 | x :: l,m => by simp only [List.cons_append,abv,znG c l m];omega
theorem Mv.ins (c : Nat) : ∀ {l : List Nat},l.Pairwise (· < ·) → Mv (l ++ [c]) (ins c l) (par (abv c l))
 | [],_ => Mv.refl _
 | x :: l,h => by
  rw [List.pairwise_cons] at h;unfold Proofs.YtfeofdpnhhiclaaGreat.ins
  by_cases q : c < x
  ·rw [if_pos q,zoG c (l := x :: l) fun y hy => by
    rcases List.mem_cons.1 hy with rfl | hy
    ·exact q
    ·have := h.1 y hy;omega]
   exact Mv.front c (x :: l)
  ·rw [if_neg q]
   have e : abv c (x :: l) = abv c l := by simp only [abv];rw [if_neg q];omega
   rw [e];exact (Mv.ins c h.2).cons x
theorem ins_mem {c y : Nat} : ∀ {l : List Nat},y ∈ ins c l ↔ y = c ∨ y ∈ l
 | [] => by simp [ins]
 | x :: l => by
  unfold ins
  split
  ·simp
  ·rw [List.mem_cons,ins_mem (l := l),List.mem_cons]
   constructor
   ·rintro (h | h | h)
    ·exact .inr (.inl h)
    ·exact .inl h
    ·exact .inr (.inr h)
   ·rintro (h | h | h)
    ·exact .inr (.inl h)
    ·exact .inl h
    ·exact .inr (.inr h)
theorem zaG (c : Nat) : ∀ l : List Nat,(ins c l).length = l.length + 1
 | [] => rfl
 | x :: l => by
  unfold ins
  split
  ·rfl
  ·rw [List.length_cons,zaG c l,List.length_cons]
theorem zZH {c : Nat} : ∀ {l : List Nat},l.Pairwise (· < ·) → c ∉ l → (ins c l).Pairwise (· < ·)
 | [],_,_ => by simp [ins]
 | x :: l,h,hc => by
  have h' := List.pairwise_cons.1 h;unfold ins
  split
  ·next q =>
   refine List.pairwise_cons.2 ⟨fun y hy => ?_,h⟩;rcases List.mem_cons.1 hy with rfl | hy
   ·exact q
   ·have := h'.1 y hy;omega
  ·next q =>
   have hcx : c ≠ x := fun e => hc (by simp [e])
   refine List.pairwise_cons.2 ⟨fun y hy => ?_,zZH h'.2 fun hm => hc (by simp [hm])⟩;rcases ins_mem.1 hy with rfl | hy
   ·omega
   ·exact h'.1 y hy
def srt (cs : List Nat) : List Nat := cs.foldl (fun l c => ins c l) []
theorem zOG (cs : List Nat) (c : Nat) : srt (cs ++ [c]) = ins c (srt cs) := by simp [srt]
theorem zmG (c d : Nat) : ∀ l : List Nat,abv c (ins d l) = abv c (d :: l)
 | [] => rfl
 | x :: l => by
  unfold ins
  split
  ·rfl
  ·simp only [abv]
   rw [zmG c d l];simp only [abv];omega
theorem zUF (c : Nat) : ∀ (cs l : List Nat),abv c (cs.foldl (fun l c => ins c l) l) = abv c cs + abv c l
 | [],l => by simp [abv]
 | d :: cs,l => by
  rw [List.foldl_cons,zUF c cs,zmG];simp only [abv];omega
theorem abv_srt (c : Nat) (cs : List Nat) : abv c (srt cs) = abv c cs := by unfold srt;rw [zUF];simp [abv]
theorem zjH {l : List Nat} (h : l.Pairwise (· < ·)) {i j : Nat} (hij : i < j) (hj : j < l.length) : l.getD i 0 < l.getD j 0 := by
 have := List.pairwise_iff_getElem.1 h i j (by omega) hj hij
 simpa [show i < l.length by omega,hj] using this
section
variable (A : Nat → Nat → Int)
abbrev gd (l : List Nat) : Nat → Nat := fun a => l.getD a 0
structure Stz (n i : Nat) (rs cs : List Nat) (odd : Bool) : Prop where
 len : cs.length = rs.length
 up : rs.Pairwise (· < ·)
 lt : ∀ r ∈ rs,r < i
 cl : ∀ c ∈ cs,c < n
 nz : ∀ k,k ≤ rs.length → dd A (gd rs) (gd cs) k ≠ 0
 low : ∀ k j,k < rs.length → j < cs.getD k 0 → mi A (gd rs) (gd cs) k (rs.getD k 0) j = 0
 drop : ∀ r,r < i → r ∉ rs → ∃ k,k ≤ rs.length ∧ (∀ a,a < k → rs.getD a 0 < r) ∧ ∀ j,j < n → mi A (gd rs) (gd cs) k r j = 0
 srt : (srt cs).Pairwise (· < ·) ∧ (srt cs).length = cs.length ∧ (∀ c,c ∈ srt cs ↔ c ∈ cs)
 mv : Mv cs (Proofs.YtfeofdpnhhiclaaGreat.srt cs) odd
variable {A}
theorem zdB {R R' C C' : Nat → Nat} {k : Nat} (hR : ∀ a,a < k → R a = R' a) (hC : ∀ a,a < k → C a = C' a) (r j : Nat) : mi A R C k r j = mi A R' C' k r j := zWA fun a b ha hb => by
 have e : ∀ (X X' : Nat → Nat) (y a : Nat),(∀ a,a < k → X a = X' a) → bor k X y a = bor k X' y a := fun X X' y a h => by
  unfold bor
  split
  ·next q => exact h _ q
  ·rfl
 rw [e R R' r a hR,e C C' j b hC]
theorem dd_congr {R R' C C' : Nat → Nat} {k : Nat} (hR : ∀ a,a < k → R a = R' a) (hC : ∀ a,a < k → C a = C' a) : dd A R C k = dd A R' C' k := zWA fun a b ha hb => by rw [hR a ha,hC b hb]
theorem zLD {l m : List Nat} {a : Nat} (h : a < l.length) : gd (l ++ m) a = gd l a := by simp [gd,List.getElem?_append_left h]
theorem zcG {l : List Nat} {x : Nat} : gd (l ++ [x]) l.length = x := by simp [gd]
theorem Stz.start (n : Nat) : Stz A n 0 [] [] false :=
 ⟨rfl,List.Pairwise.nil,fun r h => by simp at h,fun r h => by simp at h,fun k hk => by
  obtain rfl : k = 0 := by simpa using hk
  simp [dd,det],fun k j hk => by simp at hk,fun r hr => by omega,⟨List.Pairwise.nil,rfl,fun c => Iff.rfl⟩,Mv.refl _⟩
theorem Stz.skip {n i : Nat} {rs cs : List Nat} {odd : Bool} (h : Stz A n i rs cs odd) (hz : ∀ j,j < n → mi A (gd rs) (gd cs) rs.length i j = 0) : Stz A n (i + 1) rs cs odd :=
 ⟨h.len,h.up,fun r hr => by have := h.lt r hr;omega,h.cl,h.nz,h.low,fun r hr hn => by
  by_cases q : r = i
  ·subst q
   exact ⟨rs.length,Nat.le_refl _,fun a ha => h.lt _ (by simp [ha]),hz⟩
  ·exact h.drop r (by omega) hn,h.srt,h.mv⟩
theorem Stz.keep {n i c : Nat} {rs cs : List Nat} {odd : Bool} (h : Stz A n i rs cs odd) (hc : c < n) (hn : mi A (gd rs) (gd cs) rs.length i c ≠ 0) (hz : ∀ j,j < c → mi A (gd rs) (gd cs) rs.length i j = 0) : Stz A n (i + 1) (rs ++ [i]) (cs ++ [c]) (odd ^^ par (abv c cs)) := by
 have hl := h.len;have oR : ∀ k,k ≤ rs.length → ∀ a,a < k → gd (rs ++ [i]) a = gd rs a := fun k hk a ha => zLD (by omega)
 have oC : ∀ k,k ≤ rs.length → ∀ a,a < k → gd (cs ++ [c]) a = gd cs a := fun k hk a ha => zLD (by omega)
 have eR : gd (rs ++ [i]) rs.length = i := zcG;have eC : gd (cs ++ [c]) rs.length = c := by rw [← hl];exact zcG
 have hmem : c ∉ cs := fun hm => by
  obtain ⟨b,hb,e⟩ := List.getElem_of_mem hm;have : gd cs b = c := by simp [gd,hb,e]
  exact hn (by rw [← this];exact zVG A _ _ _ (by omega))
 refine ⟨by simp [hl],?_,?_,?_,fun k hk => ?_,fun k j hk hj => ?_,fun r hr hnm => ?_,?_,?_⟩
 ·rw [List.pairwise_append]
  exact ⟨h.up,by simp,fun a ha b hb => by simp at hb;subst hb;exact h.lt a ha⟩
 ·intro r hr
  rcases List.mem_append.1 hr with q | q
  ·have := h.lt r q;omega
  ·simp at q;omega
 ·intro r hr
  rcases List.mem_append.1 hr with q | q
  ·exact h.cl r q
  ·simp at q;omega
 ·simp only [List.length_append,List.length_cons,List.length_nil] at hk
  by_cases q : k ≤ rs.length
  ·rw [dd_congr (oR k q) (oC k q)];exact h.nz k q
  ·obtain rfl : k = rs.length + 1 := by omega
   rw [← zYF,eR,eC,zdB (oR _ (Nat.le_refl _)) (oC _ (Nat.le_refl _))];exact hn
 ·simp only [List.length_append,List.length_cons,List.length_nil] at hk
  by_cases q : k < rs.length
  ·rw [zdB (oR k (by omega)) (oC k (by omega))]
   have e1 : (rs ++ [i]).getD k 0 = rs.getD k 0 := zLD q;have e2 : (cs ++ [c]).getD k 0 = cs.getD k 0 := zLD (by omega);rw [e1];rw [e2] at hj;exact h.low k j q hj
  ·obtain rfl : k = rs.length := by omega
   have e1 : (rs ++ [i]).getD rs.length 0 = i := eR;have e2 : (cs ++ [c]).getD rs.length 0 = c := eC;rw [zdB (oR _ (by omega)) (oC _ (by omega)),e1];rw [e2] at hj;exact hz j hj
 ·have q : r ≠ i := fun q => hnm (by simp [q])
  obtain ⟨k,h1,h2,h3⟩ := h.drop r (by omega) (fun hm => hnm (by simp [hm]));refine ⟨k,by simp;omega,fun a ha => ?_,fun j hj => ?_⟩
  ·have e1 : (rs ++ [i]).getD a 0 = rs.getD a 0 := zLD (by omega)
   rw [e1];exact h2 a ha
  ·rw [zdB (oR k h1) (oC k h1)];exact h3 j hj
 ·obtain ⟨h1,h2,h3⟩ := h.srt
  rw [zOG];refine ⟨zZH h1 (fun hm => hmem ((h3 c).1 hm)),by rw [zaG,h2];simp,fun d => ?_⟩;rw [ins_mem,h3,List.mem_append,List.mem_singleton];exact Or.comm
 ·rw [zOG]
  have h1 := h.mv.app [c];have h2 := Mv.ins c h.srt.1;rw [abv_srt] at h2;exact h1.trans h2
def detS (A : Nat → Nat → Int) (rs cs : List Nat) (odd : Bool) : Int := sgb odd * dd A (gd rs) (gd cs) rs.length
theorem Stz.core {n i : Nat} {rs cs : List Nat} {odd : Bool} (h : Stz A n i rs cs odd) : detS A rs cs odd = det rs.length fun a b => A (rs.getD a 0) ((Proofs.YtfeofdpnhhiclaaGreat.srt cs).getD b 0) := by
 have h1 := h.mv (fun a b => A (rs.getD a 0) b) [] [];simp only [List.nil_append,List.append_nil] at h1;unfold dl at h1;rw [h.srt.2.1,h.len] at h1;unfold detS dd
 show sgb odd * det rs.length (fun a b => A (rs.getD a 0) (cs.getD b 0)) = _
 rw [h1,← Int.mul_assoc];have : sgb odd * sgb odd = 1 := by cases odd <;> rfl
 rw [this,Int.one_mul]
end
end Go.Proofs.YtfeofdpnhhiclaaGreat
