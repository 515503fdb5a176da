/-
 QDz12ToRl17: Dz12, Du12, Bz13, St13, Sr13, Rl17, joined.
-/
import Derived.Test.YtmnecbniappnaaaGreatQEachM11ToPr12

set_option maxRecDepth 100000
set_option maxHeartbeats 6400000
set_option linter.unusedVariables false
set_option linter.unusedSimpArgs false
namespace Go.Proofs.YtmnecbniappnaaaGreat
def su : Nat → (Nat → Int) → Int
 | 0,_ => 0
 | n + 1,f => su n f + f n
theorem zMA : ∀ {n : Nat} {f g : Nat → Int},(∀ k,k < n → f k = g k) → su n f = su n g
 | 0,_,_,_ => rfl
 | n + 1,f,g,h => by
  show su n f + f n = su n g + g n
  rw [zMA (fun k hk => h k (by omega)),h n (by omega)]
theorem zOC : ∀ {n : Nat} {f : Nat → Int},(∀ k,k < n → f k = 0) → su n f = 0
 | 0,_,_ => rfl
 | n + 1,f,h => by
  show su n f + f n = 0
  rw [zOC (fun k hk => h k (by omega)),h n (by omega)];rfl
theorem zKE : ∀ (n : Nat) (f g : Nat → Int),su n (fun k => f k + g k) = su n f + su n g
 | 0,_,_ => rfl
 | n + 1,f,g => by
  show su n (fun k => f k + g k) + (f n + g n) = su n f + f n + (su n g + g n)
  rw [zKE n f g];omega
theorem zRB : ∀ (n : Nat) (c : Int) (f : Nat → Int),su n (fun k => c * f k) = c * su n f
 | 0,c,_ => by show (0 : Int) = c * 0;simp
 | n + 1,c,f => by
  show su n (fun k => c * f k) + c * f n = c * (su n f + f n)
  rw [zRB n c f,Int.mul_add]
theorem zkE (n : Nat) (c : Int) (f : Nat → Int) : su n (fun k => f k * c) = su n f * c := by
 rw [Int.mul_comm,← zRB];exact zMA fun k _ => Int.mul_comm _ _
theorem zcD : ∀ (n m : Nat) (f : Nat → Nat → Int),su n (fun i => su m (fun j => f i j)) = su m (fun j => su n (fun i => f i j))
 | 0,m,f => by
  show (0 : Int) = _
  exact (zOC fun k _ => rfl).symm
 | n + 1,m,f => by
  show su n (fun i => su m (fun j => f i j)) + su m (fun j => f n j) = su m (fun j => su n (fun i => f i j) + f n j)
  rw [zKE,zcD n m f]
theorem ztB : ∀ {n i : Nat} {f : Nat → Int},i < n → (∀ k,k < n → k ≠ i → f k = 0) → su n f = f i
 | 0,i,f,h,_ => by omega
 | n + 1,i,f,h,hz => by
  show su n f + f n = f i
  by_cases hi : i = n
  ·subst hi
   rw [zOC (fun k hk => hz k (by omega) (by omega))];omega
  ·rw [ztB (by omega : i < n) (fun k hk hne => hz k (by omega) hne),hz n (by omega) (by omega)];omega
theorem ziG : ∀ {n i : Nat} {f : Nat → Int},i + 1 < n → (∀ k,k < n → k ≠ i → k ≠ i + 1 → f k = 0) → f i + f (i + 1) = 0 → su n f = 0
 | 0,i,f,h,_,_ => by omega
 | n + 1,i,f,h,hz,hc => by
  show su n f + f n = 0
  by_cases hi : i + 1 = n
  ·subst hi
   rw [ztB (by omega : i < i + 1) (fun k hk hne => hz k (by omega) hne (by omega))];exact hc
  ·rw [ziG (by omega : i + 1 < n) (fun k hk h1 h2 => hz k (by omega) h1 h2) hc,hz n (by omega) (by omega) (by omega)];rfl
def skd (i k : Nat) : Nat := if k < i then k else k + 1
def sgd : Nat → Int
 | 0 => 1
 | n + 1 => - sgd n
def dlz (i j : Nat) : Int := if i = j then 1 else 0
def stR (A : Nat → Nat → Int) (i : Nat) (u : Nat → Int) : Nat → Nat → Int := fun r c => if r = i then u c else A r c
def det : Nat → (Nat → Nat → Int) → Int
 | 0,_ => 1
 | n + 1,A => su (n + 1) fun i => sgd i * A i 0 * det n (fun r c => A (skd i r) (c + 1))
theorem zPA : ∀ {n : Nat} {A B : Nat → Nat → Int},(∀ i j,i < n → j < n → A i j = B i j) → det n A = det n B
 | 0,_,_,_ => rfl
 | n + 1,A,B,h => zMA fun i hi => by
  show sgd i * A i 0 * det n (fun r c => A (skd i r) (c + 1)) = sgd i * B i 0 * det n (fun r c => B (skd i r) (c + 1))
  rw [h i 0 hi (by omega),zPA (A := fun r c => A (skd i r) (c + 1)) (B := fun r c => B (skd i r) (c + 1)) fun r c hr hc => h _ _ (by unfold skd;split <;> omega) (by omega)]
structure Alt (n : Nat) (F : (Nat → Nat → Int) → Int) : Prop where
 congr : ∀ A B : Nat → Nat → Int,(∀ i j,i < n → j < n → A i j = B i j) → F A = F B
 lin : ∀ (A : Nat → Nat → Int) (i : Nat) (u v : Nat → Int) (x y : Int),i < n → F (stR A i fun j => x * u j + y * v j) = x * F (stR A i u) + y * F (stR A i v)
 alt : ∀ (A : Nat → Nat → Int) (i : Nat),i + 1 < n → (∀ j,j < n → A i j = A (i + 1) j) → F A = 0
theorem zdB : ∀ n : Nat,Alt n (det n)
 | 0 => ⟨fun _ _ _ => rfl,fun _ i _ _ _ _ h => by omega,fun _ i h => by omega⟩
 | n + 1 => by
  have IH := zdB n;refine ⟨fun A B h => zPA h,fun A a u v x y ha => ?_,fun A a ha he => ?_⟩
  ·show su (n + 1) _ = x * su (n + 1) _ + y * su (n + 1) _
   rw [← zRB,← zRB,← zKE];refine zMA fun i hi => ?_
   by_cases hia : i = a
   ·subst hia
    have e : ∀ z : Nat → Int,det n (fun r c => stR A i z (skd i r) (c + 1)) = det n (fun r c => A (skd i r) (c + 1)) := fun z => zPA fun r c _ _ => if_neg (by unfold skd;split <;> omega)
    have e0 : ∀ z : Nat → Int,stR A i z i 0 = z 0 := fun z => if_pos rfl
    simp only [e,e0]
    grind
   ·have e0 : ∀ z : Nat → Int,stR A a z i 0 = A i 0 := fun z => if_neg hia
    obtain ⟨b,hb,hbn⟩ : ∃ b,skd i b = a ∧ b < n := ⟨if a < i then a else a - 1,by unfold skd;grind,by split <;> omega⟩
    have e : ∀ z : Nat → Int,det n (fun r c => stR A a z (skd i r) (c + 1)) = det n (stR (fun r c => A (skd i r) (c + 1)) b fun c => z (c + 1)) := fun z => zPA fun r c _ _ => by
     show (if skd i r = a then z (c + 1) else A (skd i r) (c + 1)) = if r = b then z (c + 1) else A (skd i r) (c + 1)
     by_cases hrb : r = b
     ·rw [if_pos (by rw [hrb];exact hb),if_pos hrb]
     ·rw [if_neg (by rw [← hb];unfold skd;grind),if_neg hrb]
    simp only [e,e0];rw [IH.lin _ b _ _ x y hbn]
    grind
  ·refine ziG (i := a) ha (fun i hi h1 h2 => ?_) ?_
   ·have h0 : det n (fun r c => A (skd i r) (c + 1)) = 0 := by
     refine IH.alt _ (if i < a then a - 1 else a) (by split <;> omega) fun j hj => ?_
     have e1 : skd i (if i < a then a - 1 else a) = a := by unfold skd;split <;> split <;> omega
     have e2 : skd i ((if i < a then a - 1 else a) + 1) = a + 1 := by unfold skd;split <;> split <;> omega
     show A (skd i (if i < a then a - 1 else a)) (j + 1) = A (skd i ((if i < a then a - 1 else a) + 1)) (j + 1)
     rw [e1,e2];exact he _ (by omega)
    rw [h0,Int.mul_zero]
   ·have e : det n (fun r c => A (skd a r) (c + 1)) = det n (fun r c => A (skd (a + 1) r) (c + 1)) := zPA fun r c hr hc => by
     by_cases hra : r = a
     ·subst hra
      have e1 : skd r r = r + 1 := by unfold skd;split <;> omega
      have e2 : skd (r + 1) r = r := by unfold skd;split <;> omega
      show A (skd r r) (c + 1) = A (skd (r + 1) r) (c + 1)
      rw [e1,e2];exact (he _ (by omega)).symm
     ·have e1 : skd a r = skd (a + 1) r := by unfold skd;split <;> split <;> omega
      show A (skd a r) (c + 1) = A (skd (a + 1) r) (c + 1)
      rw [e1]
    rw [e,he 0 (by omega)]
    show _ + - sgd a * _ * _ = 0
    grind
theorem zLD (A : Nat → Nat → Int) (i : Nat) : stR A i (A i) = A := by
 funext r c;unfold stR;split <;> simp_all
theorem ztC {A : Nat → Nat → Int} {i k : Nat} (h : i ≠ k) (u v : Nat → Int) : stR (stR A i u) k v = stR (stR A k v) i u := by
 funext r c;unfold stR;split <;> split <;> simp_all
theorem zJB (A : Nat → Nat → Int) (i : Nat) (u : Nat → Int) : stR A i u i = u := by funext c;simp [stR]
theorem ztA (A : Nat → Nat → Int) {i k : Nat} (h : k ≠ i) (u : Nat → Int) : stR A i u k = A k := by funext c;simp [stR,h]
section
variable {n : Nat} {F : (Nat → Nat → Int) → Int}
theorem Alt.add (h : Alt n F) {A : Nat → Nat → Int} {i : Nat} (hi : i < n) (u v : Nat → Int) : F (stR A i fun j => u j + v j) = F (stR A i u) + F (stR A i v) := by
 have := h.lin A i u v 1 1 hi
 simpa using this
theorem Alt.mul (h : Alt n F) {A : Nat → Nat → Int} {i : Nat} (hi : i < n) (x : Int) (u : Nat → Int) : F (stR A i fun j => x * u j) = x * F (stR A i u) := by
 have := h.lin A i u u x 0 hi
 simpa using this
theorem Alt.swap_of (h : Alt n F) {A : Nat → Nat → Int} {i k : Nat} (hi : i < n) (hk : k < n) (hik : i ≠ k)
  (h0 : ∀ u : Nat → Int,F (stR (stR A i u) k u) = 0) : F (stR (stR A i (A k)) k (A i)) = - F A := by
 have h1 := h0 fun j => A i j + A k j
 rw [h.add hk,ztC hik,ztC hik,h.add hi,h.add hi,ztC (Ne.symm hik),ztC (Ne.symm hik),ztC (Ne.symm hik),ztC (Ne.symm hik)] at h1;have h2 := h0 (A i);have h3 := h0 (A k);rw [h2,h3] at h1;rw [zLD A i,zLD A k] at h1;omega
theorem Alt.swap1 (h : Alt n F) {A : Nat → Nat → Int} {i : Nat} (hi : i + 1 < n) : F (stR (stR A i (A (i + 1))) (i + 1) (A i)) = - F A :=
 h.swap_of (by omega) hi (by omega) fun u => h.alt _ i hi fun j _ => by rw [zJB,ztA _ (by omega),zJB]
theorem Alt.equal (h : Alt n F) : ∀ (d : Nat) {A : Nat → Nat → Int} {i : Nat},i + d + 1 < n → (∀ j,j < n → A i j = A (i + d + 1) j) → F A = 0
 | 0,A,i,hi,he => h.alt A i hi he
 | d + 1,A,i,hi,he => by
  have h1 := h.swap1 (A := A) (i := i + d + 1) (by omega);have h2 := Alt.equal h d (A := stR (stR A (i + d + 1) (A (i + d + 1 + 1))) (i + d + 1 + 1) (A (i + d + 1))) (i := i) (by omega) (fun j hj => by
   rw [ztA _ (by omega),ztA _ (by omega),ztA _ (by omega),zJB];exact he j hj)
  rw [h2] at h1;omega
theorem Alt.same (h : Alt n F) {A : Nat → Nat → Int} {i k : Nat} (hi : i < n) (hk : k < n) (hik : i ≠ k) (he : ∀ j,j < n → A i j = A k j) : F A = 0 := by
 rcases Nat.lt_or_gt_of_ne hik with hl | hl
 ·obtain ⟨d,rfl⟩ : ∃ d,k = i + d + 1 := ⟨k - i - 1,by omega⟩
  exact h.equal d hk he
 ·obtain ⟨d,rfl⟩ : ∃ d,i = k + d + 1 := ⟨i - k - 1,by omega⟩
  exact h.equal d hi fun j hj => (he j hj).symm
theorem Alt.swap (h : Alt n F) {A : Nat → Nat → Int} {i k : Nat} (hi : i < n) (hk : k < n) (hik : i ≠ k) : F (stR (stR A i (A k)) k (A i)) = - F A :=
 h.swap_of hi hk hik fun u => h.same hi hk hik fun j _ => by rw [zJB,ztA _ hik,zJB]
theorem Alt.plus (h : Alt n F) {A : Nat → Nat → Int} {i k : Nat} (hi : i < n) (hk : k < n) (hik : i ≠ k) (t : Int) : F (stR A i fun j => A i j + t * A k j) = F A := by
 rw [h.add hi,h.mul hi,zLD,h.same (A := stR A i (A k)) hi hk hik fun j _ => by rw [zJB,ztA _ (Ne.symm hik)]];omega
theorem Alt.sum (h : Alt n F) {A : Nat → Nat → Int} {i : Nat} (hi : i < n) (x : Nat → Int) (U : Nat → Nat → Int) : ∀ m : Nat,F (stR A i fun j => su m fun k => x k * U k j) = su m fun k => x k * F (stR A i (U k))
 | 0 => by
  have := h.mul (A := A) hi 0 (fun _ => 0)
  simpa [su] using this
 | m + 1 => by
  show F (stR A i fun j => (su m fun k => x k * U k j) + x m * U m j) = (su m fun k => x k * F (stR A i (U k))) + x m * F (stR A i (U m))
  rw [h.add hi,Alt.sum h hi x U m,h.mul hi]
end
def insd (j : Nat) (u : Nat → Int) (c : Nat) : Int := if c < j then u c else if c = j then 0 else u (c - 1)
def capd (j : Nat) (B : Nat → Nat → Int) : Nat → Nat → Int
 | 0,c => dlz j c
 | r + 1,c => insd j (B r) c
theorem zzE (j : Nat) (B : Nat → Nat → Int) (i : Nat) (u : Nat → Int) : capd j (stR B i u) = stR (capd j B) (i + 1) (insd j u) := by
 funext r c
 cases r with
 | zero => simp [capd,stR]
 | succ r =>
  show insd j (stR B i u r) c = if r + 1 = i + 1 then insd j u c else insd j (B r) c
  by_cases h : r = i
  ·subst h;rw [zJB,if_pos rfl]
  ·rw [ztA _ h,if_neg (by omega)]
theorem Alt.cap {n j : Nat} {F : (Nat → Nat → Int) → Int} (h : Alt (n + 1) F) (hj : j ≤ n) : Alt n fun B => F (capd j B) := by
 refine ⟨fun A B e => h.congr _ _ fun r c hr hc => ?_,fun A i u v x y hi => ?_,fun A i hi e => h.alt _ (i + 1) (by omega) fun c hc => ?_⟩
 ·cases r with
  | zero => rfl
  | succ r =>
   show insd j (A r) c = insd j (B r) c
   unfold insd
   split
   ·exact e r c (by omega) (by omega)
   ·split
    ·rfl
    ·exact e r (c - 1) (by omega) (by omega)
 ·show F (capd j (stR A i _)) = x * F (capd j (stR A i u)) + y * F (capd j (stR A i v))
  rw [zzE,zzE,zzE,← h.lin _ (i + 1) _ _ x y (by omega)]
  congr 2
  funext c
  unfold insd
  split
  ·rfl
  ·split
   ·simp
   ·rfl
 ·show insd j (A i) c = insd j (A (i + 1)) c
  unfold insd
  split
  ·exact e c (by omega)
  ·split
   ·rfl
   ·exact e (c - 1) (by omega)
theorem Alt.top {n : Nat} {F : (Nat → Nat → Int) → Int} (h : Alt (n + 1) F) : ∀ {j : Nat},j ≤ n → F (capd j dlz) = sgd j * F dlz
 | 0,_ => by
  show _ = 1 * _
  rw [Int.one_mul];refine h.congr _ _ fun r c _ _ => ?_
  cases r with
  | zero => rfl
  | succ r => show insd 0 (dlz r) c = _;unfold insd dlz;grind
 | j + 1,hj => by
  have h1 := Alt.top h (j := j) (by omega);have h2 := h.swap (A := capd j dlz) (i := 0) (k := j + 1) (by omega) (by omega) (by omega)
  show _ = - sgd j * _
  rw [Int.neg_mul,← h1,← h2];refine h.congr _ _ fun r c _ _ => ?_
  by_cases hr : r = j + 1
  ·subst hr
   rw [zJB]
   show insd (j + 1) (dlz j) c = dlz j c
   unfold insd dlz;grind
  ·rw [ztA _ hr]
   cases r with
   | zero =>
    rw [zJB]
    show dlz (j + 1) c = insd j (dlz j) c
    unfold insd dlz;grind
   | succ r =>
    rw [ztA _ (by omega)]
    show insd (j + 1) (dlz r) c = insd j (dlz r) c
    unfold insd dlz;grind
theorem Alt.clear {n j : Nat} {F : (Nat → Nat → Int) → Int} (h : Alt (n + 1) F) (hj : j ≤ n) (A : Nat → Nat → Int) : F (stR A 0 (dlz j)) = F (capd j fun r c => A (r + 1) (skd j c)) := by
 have key : ∀ k,k ≤ n → F (stR A 0 (dlz j)) = F (fun r c => if r = 0 then dlz j c else if r ≤ k then insd j (fun c => A r (skd j c)) c else A r c) := by
  intro k
  induction k with
  | zero => intro _;exact h.congr _ _ fun r c _ _ => by unfold stR;grind
  | succ k ih =>
   intro hk;rw [ih (by omega)];rw [← h.plus (A := fun r c => if r = 0 then dlz j c else if r ≤ k then insd j (fun c => A r (skd j c)) c else A r c) (i := k + 1) (k := 0) (by omega) (by omega) (by omega) (- A (k + 1) j)];refine h.congr _ _ fun r c _ _ => ?_
   by_cases hr : r = k + 1
   ·subst hr
    rw [zJB];simp only [Nat.add_one_ne_zero,if_false,if_true];rw [if_neg (by omega),if_pos (by omega)];unfold insd dlz skd;grind
   ·rw [ztA _ hr]
    grind
 rw [key n (Nat.le_refl n)];refine h.congr _ _ fun r c hr _ => ?_
 cases r with
 | zero => rfl
 | succ r =>
  show (if r + 1 = 0 then _ else if r + 1 ≤ n then _ else _) = insd j (fun c => A (r + 1) (skd j c)) c
  rw [if_neg (by omega),if_pos (by omega)]
def exd (n : Nat) (A : Nat → Nat → Int) : Int := su (n + 1) fun j => sgd j * A 0 j * det n (fun r c => A (r + 1) (skd j c))
theorem Alt.exp {n : Nat} (IH : ∀ G,Alt n G → ∀ B,G B = det n B * G dlz) {F : (Nat → Nat → Int) → Int} (h : Alt (n + 1) F) (A : Nat → Nat → Int) : F A = exd n A * F dlz := by
 have e0 : F A = F (stR A 0 fun c => su (n + 1) fun j => A 0 j * dlz j c) := h.congr _ _ fun r c _ hc => by
  by_cases hr : r = 0
  ·subst hr
   rw [zJB,ztB (i := c) hc fun k _ hk => by unfold dlz;rw [if_neg hk];simp];unfold dlz;simp
  ·rw [ztA _ hr]
 rw [e0,h.sum (by omega)];unfold exd;rw [← zkE];refine zMA fun j hj => ?_
 rw [h.clear (by omega),IH _ (h.cap (by omega)),h.top (by omega)]
 grind
theorem zQD : ∀ n : Nat,det n dlz = 1
 | 0 => rfl
 | n + 1 => by
  show su (n + 1) _ = 1
  rw [ztB (i := 0) (by omega) fun k _ hk => by unfold dlz;rw [if_neg hk];simp];have e : det n (fun r c => dlz (skd 0 r) (c + 1)) = 1 := by
   rw [← zQD n];exact zPA fun r c _ _ => by unfold dlz skd;grind
  rw [e];simp [sgd,dlz]
theorem Alt.eq : ∀ {n : Nat} {F : (Nat → Nat → Int) → Int},Alt n F → ∀ A,F A = det n A * F dlz
 | 0,F,h,A => by
  show F A = 1 * F dlz
  rw [Int.one_mul];exact h.congr _ _ fun i j hi _ => by omega
 | n + 1,F,h,A => by
  have h1 := Alt.exp (fun G hG B => Alt.eq hG B) h A;have h2 := Alt.exp (fun G hG B => Alt.eq hG B) (zdB (n + 1)) A;rw [zQD,Int.mul_one] at h2;rw [h2];exact h1
theorem det_row (n : Nat) (A : Nat → Nat → Int) : det (n + 1) A = exd n A := by
 have h2 := Alt.exp (fun G hG B => Alt.eq hG B) (zdB (n + 1)) A
 rwa [zQD,Int.mul_one] at h2
theorem zHC : ∀ (n : Nat) (A : Nat → Nat → Int),det n (fun i j => A j i) = det n A
 | 0,_ => rfl
 | n + 1,A => by
  rw [det_row n A];exact zMA fun i _ => by
   show sgd i * A 0 i * det n (fun r c => A (c + 1) (skd i r)) = sgd i * A 0 i * det n (fun r c => A (r + 1) (skd i c))
   rw [zHC n (fun r c => A (r + 1) (skd i c))]
def muz (m : Nat) (A B : Nat → Nat → Int) : Nat → Nat → Int := fun i j => su m fun k => A i k * B k j
theorem muz_alt (n : Nat) (B : Nat → Nat → Int) : Alt n fun A => det n (muz n A B) := by
 have e : ∀ (A : Nat → Nat → Int) (i : Nat) (u : Nat → Int),muz n (stR A i u) B = stR (muz n A B) i fun j => su n fun k => u k * B k j := fun A i u => by
  funext r c
  unfold muz stR
  split <;> simp_all
 refine ⟨fun A C h => zPA fun i j hi hj => zMA fun k hk => by rw [h i k hi hk],fun A i u v x y hi => ?_,fun A i hi he => (zdB n).alt _ i hi fun j hj => zMA fun k hk => by rw [he k hk]⟩
 show det n (muz n (stR A i _) B) = x * det n (muz n (stR A i u) B) + y * det n (muz n (stR A i v) B)
 rw [e,e,e,← (zdB n).lin _ i _ _ x y hi]
 congr 2
 funext j
 rw [← zRB,← zRB,← zKE];exact zMA fun k _ => by grind
theorem det_mul (n : Nat) (A B : Nat → Nat → Int) : det n (muz n A B) = det n A * det n B := by
 have h := Alt.eq (muz_alt n B) A;rw [h]
 congr 1
 exact zPA fun i j hi _ => by
  show su n (fun k => dlz i k * B k j) = B i j
  rw [ztB (i := i) hi fun k _ hk => by unfold dlz;rw [if_neg (Ne.symm hk)];simp];unfold dlz;simp
theorem det_samecol {n a b : Nat} (A : Nat → Nat → Int) (ha : a < n) (hb : b < n) (hab : a ≠ b) (h : ∀ i,i < n → A i a = A i b) : det n A = 0 := by
 rw [← zHC];exact (zdB n).same ha hb hab fun j hj => h j hj
def bor (k : Nat) (R : Nat → Nat) (r : Nat) : Nat → Nat := fun a => if a < k then R a else r
def mi (A : Nat → Nat → Int) (R C : Nat → Nat) (k r j : Nat) : Int := det (k + 1) fun a b => A (bor k R r a) (bor k C j b)
theorem bor_lt {k a r : Nat} {R : Nat → Nat} (h : a < k) : bor k R r a = R a := if_pos h
theorem bor_eq {k r : Nat} {R : Nat → Nat} : bor k R r k = r := if_neg (by omega)
theorem mi_old (A : Nat → Nat → Int) (R C : Nat → Nat) {k b : Nat} (r : Nat) (hb : b < k) : mi A R C k r (C b) = 0 :=
 det_samecol _ (show b < k + 1 by omega) (show k < k + 1 by omega) (by omega) fun i _ => by rw [bor_lt hb,bor_eq]
theorem zjG : ∀ {n : Nat} {f : Nat → Int} {X : Nat},(∀ k,k < n → (f k).natAbs ≤ X) → (su n f).natAbs ≤ n * X
 | 0,_,_,_ => by simp [su]
 | n + 1,f,X,h => by
  have h1 := zjG (n := n) (f := f) (X := X) fun k hk => h k (by omega)
  have h2 := h n (by omega);have : (su n f + f n).natAbs ≤ (su n f).natAbs + (f n).natAbs := Int.natAbs_add_le _ _
  show (su n f + f n).natAbs ≤ (n + 1) * X
  rw [Nat.succ_mul];omega
theorem znG : ∀ i : Nat,(sgd i).natAbs = 1
 | 0 => rfl
 | i + 1 => by show (- sgd i).natAbs = 1;rw [Int.natAbs_neg];exact znG i
theorem zBH {X N : Nat} : ∀ {n : Nat} {A : Nat → Nat → Int},n ≤ N → (∀ i j,i < n → j < n → (A i j).natAbs ≤ X) → (det n A).natAbs ≤ (N * X) ^ n
 | 0,_,_,_ => by simp [det]
 | n + 1,A,hn,h => by
  have h1 : (su (n + 1) fun i => sgd i * A i 0 * det n (fun r c => A (skd i r) (c + 1))).natAbs ≤ (n + 1) * (X * (N * X) ^ n) := zjG fun i hi => by
   have h2 := zBH (X := X) (N := N) (n := n) (A := fun r c => A (skd i r) (c + 1)) (by omega) fun a b ha hb => h (skd i a) (b + 1) (by unfold skd;split <;> omega) (by omega)
   rw [Int.natAbs_mul,Int.natAbs_mul,znG,Nat.one_mul];exact Nat.mul_le_mul (h i 0 hi (by omega)) h2
  have h3 : (n + 1) * (X * (N * X) ^ n) ≤ N * (X * (N * X) ^ n) := Nat.mul_le_mul_right _ hn;have h4 : N * (X * (N * X) ^ n) = (N * X) ^ (n + 1) := by rw [Nat.pow_succ,Nat.mul_comm _ (N * X),Nat.mul_assoc]
  show (su (n + 1) _).natAbs ≤ _
  omega
section
variable (A : Nat → Nat → Int)
variable {A}
end
open Go.RowKit Go.Shelf
def Ivs (B : Nat) (w : World) (v : Value) (l : List Nat) : Prop := w.ownsRow B 3 1 v l.length (l.map fun (a : Nat) => Value.int .i64 (a : Int))
theorem Ivs.nil (B : Nat) (w : World) : Ivs B w (.slice none 0 0) [] := World.ownsRow_nil _ _ _ _
theorem Ivs.now {B : Nat} {w w' : World} {v : Value} {l : List Nat} (h : Ivs B w v l) (hb : Below w.heap.size w w') : Ivs B w' v l := zvB h fun b _ hlt => hb.block b hlt
theorem Ivs.form {B : Nat} {w : World} {v : Value} {l : List Nat} (h : Ivs B w v l) : ∃ a cap,v = .slice a l.length cap ∧ l.length ≤ cap ∧ (0 < l.length → ∃ g,a = some ⟨g,0,none⟩) := by
 obtain ⟨q1,⟨q2,q3⟩ | ⟨g,cap,cur,q2,q3,q4,q5,q6⟩⟩ := h
 ·exact ⟨none,0,by rw [q2,q3],by omega,fun q => by omega⟩
 ·exact ⟨_,cap,q2,by omega,fun _ => ⟨g,rfl⟩⟩
theorem Ivs.blk {B b : Nat} {w : World} {v : Value} {l : List Nat} (h : Ivs B w v l) (hb : v.ownBlock = some b) : B ≤ b ∧ ∃ L,w.heap[b]? = some (.cells L 3 (0,0)) := by
 obtain ⟨_,⟨r2,_⟩ | ⟨g2,cap,cur,r2,r3,r4,r5⟩⟩ := h
 ·rw [r2] at hb;cases hb
 ·rw [r2] at hb
  simp only [Value.ownBlock,Option.some.injEq] at hb;subst hb;exact ⟨r3,cur,r4⟩
theorem Tryz.infoI13 : (Tryz.prog.info? 3).map (fun i => (i.zero,i.size,i.bytes)) = some (some (.int .i64 0),1,8) := by kernel_rfl
theorem head_add13 (g j : Nat) : (⟨g,0,none⟩ : Addr).add j = ⟨g,j,none⟩ := by unfold Addr.add;split <;> simp_all
theorem zBB (w : World) {ops : Array Oper} {rest : List Oper} {o : Oper} {a : Act} {Q : Exit → Act → World → Prop}
  (hgd : o.guard = none) (s x : Operand) (hop : o.op = .call { callee := .builtin .append,args := #[s,x],argTypes := #[32,32] })
  (B : Nat) (v : Value) (l : List Nat) (t : Nat) (hs : a.eval s = v) (hP : Ivs B w v l) (gx : Nat) (hx : a.eval x = .slice (some ⟨gx,0,none⟩) 1 1) (hc : w.cell? ⟨gx,0,none⟩ = some (.int .i64 (t : Int))) (hlen : l.length ≤ 1000000) (hBs : B ≤ w.heap.size)
  (hK : ∀ g' cap' w',Hid (Ivs B w' (.slice (some ⟨g',0,none⟩) (l.length + 1) cap') (l ++ [t])) → Hid (w.grownBy w' v.ownBlock) → Hid (v.ownBlock = some g' ∨ g' = w.heap.size) → wpList Tryz.prog ops Q rest (a.put o.dst (.slice (some ⟨g',0,none⟩) (l.length + 1) cap')) w') :
  wpList Tryz.prog ops Q (o :: rest) a w := by
 obtain ⟨i,hi,hz,hsz,hby⟩ := info_parts Tryz.infoI13;refine wpList_append_lies w hgd s x 32 hop B 3 i (.int .i64 0) 1 8 Tryz.underlying32 hi hz hsz hby rfl (by omega) v l.length _ hs hP ⟨gx,0,none⟩ 1 1 [.int .i64 (t : Int)] hx rfl ?_ ?_ (by omega) (by unfold maxLen;omega) (by omega) hBs w.heap.size rfl ?_
 ·intro j u' hj
  match j,hj with
  | 0,hj => simp at hj;subst hj;rw [head_add13];exact hc
 ·intro u' hu'
  simp at hu';subst hu'
  rfl
 ·intro g' cap' w' k1 k2 k3 k4
  refine hK _ _ w' ?_ k2 k3;unfold Hid Ivs;rw [List.length_append,List.length_cons,List.length_nil,List.map_append];exact k1
theorem Touch.ty13 {g : Nat} {w w' : World} {ps : List (Value × Value)} (ht : Touch (· = g) w w') (hA : Arr w g ps) : Ty 40 w w' := by
 refine ⟨ht.size,fun b L T fr e hne => ?_⟩;refine (ht.block b (Array.getElem?_eq_some_iff.1 e).1 fun q => ?_).trans e;have q' : b = g := q;subst q';have := e.symm.trans (show w.heap[_]? = _ from hA.1);simp only [Option.some.injEq,Obj.cells.injEq] at this;exact hne this.2.1
theorem Arr.touch {g g' : Nat} {w w' : World} {ps : List (Value × Value)} (h : Arr w g' ps) (ht : Touch (· = g) w w') (hne : g' ≠ g) : Arr w' g' ps := ⟨(ht.block g' h.1.blk hne).trans h.1,h.2⟩
theorem Cel.ty13 {T T' : TypeId} {w w' : World} {b : Nat} {L : List Value} (h : Cel w b T L) (ht : Ty T' w w') (hT : T ≠ T') : Cel w' b T L := ht.2 b _ _ _ h hT
theorem Zms.at {w : World} {g t k : Nat} {ps : List (Value × Value)} {zs : List Int} (h : Zms w ps zs k) (hA : Arr w g ps) (ht : t < zs.length) :
  ∃ nv av lw cv,w.cell? ⟨g,t * 2,none⟩ = some (.bool nv) ∧ w.cell? ⟨g,t * 2 + 1,none⟩ = some (.slice av lw cv) ∧ w.frozen? ⟨g,t * 2,none⟩ = false ∧ w.frozen? ⟨g,t * 2 + 1,none⟩ = false ∧ Zm 0 w (.agg #[.bool nv,.slice av lw cv]) (zs.getD t 0) k := by
 have hp : ps[t]? = some (ps[t]'(by rw [h.1];exact ht)) := List.getElem?_eq_getElem _;obtain ⟨n0,a0,l0,c0,e⟩ := hA.2 _ (List.getElem_mem (l := ps) (n := t) (by rw [h.1];exact ht));have hz : zs[t]? = some (zs.getD t 0) := by simp [ht]
 have q := hA.at hp;have z := h.2 t _ _ hp hz;rw [e] at q z;exact ⟨n0,a0,l0,c0,q.1,q.2,hA.1.fz _,hA.1.fz _,z⟩
theorem Zms.more {w : World} {ps : List (Value × Value)} {zs : List Int} {k l : Nat} (h : Zms w ps zs k) (hl : k ≤ l) : Zms w ps zs l := ⟨h.1,fun j p z hp hz => (h.2 j p z hp hz).more hl⟩
end Go.Proofs.YtmnecbniappnaaaGreat
namespace Go.Proofs.YtmnecbniappnaaaGreat
open Go.RowKit
def gv17 (m n : Nat) (gs : Nat → Nat) : List Value := (List.range m).map fun i => rowv n (gs i)
theorem ztE {m n i : Nat} {gs : Nat → Nat} {r : List Value} (hi : i < m) : (gv17 m n gs ++ r)[i]? = some (rowv n (gs i)) := by
 rw [List.getElem?_append_left (by simpa [gv17] using hi)];simp [gv17,hi]
def Rw17 (w : World) (g n : Nat) (F : Nat → Int) (k : Nat) : Prop := ∃ ps,Arr w g ps ∧ Zms w ps ((List.range n).map F) k
theorem Rw17.now {w w' : World} {g n k : Nat} {F : Nat → Int} (h : Rw17 w g n F k) (hb : Below w.heap.size w w') : Rw17 w' g n F k := by
 obtain ⟨ps,h1,h2⟩ := h;exact ⟨ps,h1.step hb,h2.now hb⟩
theorem Rw17.ty {T : TypeId} {w w' : World} {g n k : Nat} {F : Nat → Int} (h : Rw17 w g n F k) (ht : Ty T w w') (h1 : 40 ≠ T) (h2 : 42 ≠ T) : Rw17 w' g n F k := by
 obtain ⟨ps,q1,q2⟩ := h;exact ⟨ps,⟨q1.1.ty13 ht h1,q1.2⟩,q2.ty ht h2⟩
theorem Rw17.touch {w w' : World} {g g' n k : Nat} {F : Nat → Int} {ps : List (Value × Value)} (h : Rw17 w g n F k) (ht : Touch (· = g') w w') (hA : Arr w g' ps) (hne : g ≠ g') : Rw17 w' g n F k := by
 obtain ⟨qs,q1,q2⟩ := h;exact ⟨qs,q1.touch ht hne,q2.ty (ht.ty13 hA) (by decide)⟩
theorem Rw17.congr {w : World} {g n k : Nat} {F G : Nat → Int} (h : Rw17 w g n F k) (e : ∀ j,j < n → F j = G j) : Rw17 w g n G k := by
 obtain ⟨ps,h1,h2⟩ := h;exact ⟨ps,h1,by rw [List.map_congr_left (g := F) fun t ht => (e t (by simpa using ht)).symm];exact h2⟩
theorem Rw17.blk {w : World} {g n k : Nat} {F : Nat → Int} (h : Rw17 w g n F k) : g < w.heap.size := by
 obtain ⟨ps,h1,h2⟩ := h;exact h1.1.blk
def Sh17 (B : Nat) (w : World) (lv : Value) (m n : Nat) (gs : Nat → Nat) (L : Nat → Nat → Int) (k : Nat) : Prop :=
 ((m = 0 ∧ lv = .slice none 0 0) ∨ (0 < m ∧ ∃ Lb cap r,lv = .slice (some ⟨Lb,0,none⟩) m cap ∧ m ≤ cap ∧ B ≤ Lb ∧ Cel w Lb 22 (gv17 m n gs ++ r))) ∧ (∀ i j,i < m → j < m → gs i = gs j → i = j) ∧ ∀ i,i < m → B ≤ gs i ∧ Rw17 w (gs i) n (L i) k
theorem Sh17.now {B m n k : Nat} {w w' : World} {lv : Value} {gs : Nat → Nat} {L : Nat → Nat → Int} (h : Sh17 B w lv m n gs L k) (hb : Below w.heap.size w w') : Sh17 B w' lv m n gs L k := by
 obtain ⟨h1,h4,h5⟩ := h;refine ⟨?_,h4,fun i hi => ⟨(h5 i hi).1,(h5 i hi).2.now hb⟩⟩;rcases h1 with h1 | ⟨h0,Lb,cap,r,e,e0,e1,e2⟩
 ·exact .inl h1
 ·exact .inr ⟨h0,Lb,cap,r,e,e0,e1,e2.step hb⟩
theorem Sh17.ty {T : TypeId} {B m n k : Nat} {w w' : World} {lv : Value} {gs : Nat → Nat} {L : Nat → Nat → Int} (h : Sh17 B w lv m n gs L k) (ht : Ty T w w') (t1 : 40 ≠ T) (t2 : 42 ≠ T) (t3 : 22 ≠ T) : Sh17 B w' lv m n gs L k := by
 obtain ⟨h1,h4,h5⟩ := h;refine ⟨?_,h4,fun i hi => ⟨(h5 i hi).1,(h5 i hi).2.ty ht t1 t2⟩⟩;rcases h1 with h1 | ⟨h0,Lb,cap,r,e,e0,e1,e2⟩
 ·exact .inl h1
 ·exact .inr ⟨h0,Lb,cap,r,e,e0,e1,e2.ty13 ht t3⟩
theorem Sh17.congr {B m n k : Nat} {w : World} {lv : Value} {gs : Nat → Nat} {L L' : Nat → Nat → Int} (h : Sh17 B w lv m n gs L k) (e : ∀ i j,i < m → j < n → L i j = L' i j) : Sh17 B w lv m n gs L' k :=
 ⟨h.1,h.2.1,fun i hi => ⟨(h.2.2 i hi).1,(h.2.2 i hi).2.congr fun j hj => e i j hi hj⟩⟩
theorem Sh17.line {B m n k Lb cap : Nat} {w : World} {gs : Nat → Nat} {L : Nat → Nat → Int} (h : Sh17 B w (.slice (some ⟨Lb,0,none⟩) m cap) m n gs L k) : B ≤ Lb ∧ m ≤ cap ∧ Lb < w.heap.size ∧ ∀ i,i < m → w.cell? ⟨Lb,i,none⟩ = some (rowv n (gs i)) ∧ w.frozen? ⟨Lb,i,none⟩ = false := by
 obtain ⟨h1,h4,h5⟩ := h;rcases h1 with ⟨_,h1⟩ | ⟨h0,Lb',cap',r,e,e0,e1,e2⟩
 ·cases h1
 ·simp only [Value.slice.injEq,Option.some.injEq,Addr.mk.injEq,and_true,true_and] at e
  obtain ⟨rfl,rfl⟩ := e;exact ⟨e1,e0,e2.blk,fun i hi => ⟨e2.at (ztE hi),e2.fz i⟩⟩
theorem Sh17.lineS {B m n k Lb cap i : Nat} {w : World} {gs : Nat → Nat} {L : Nat → Nat → Int} (h : Sh17 B w (.slice (some ⟨Lb,0,none⟩) m cap) m n gs L k) (hi : i < m) : w.cell? ⟨Lb,i,none⟩ = some (.slice (some ⟨gs i,0,none⟩) n n) := (h.line.2.2.2 i hi).1
theorem Rw17.at {w : World} {g n k j : Nat} {F : Nat → Int} (h : Rw17 w g n F k) (hj : j < n) : ∃ m a l c,w.cell? ⟨g,j * 2,none⟩ = some (.bool m) ∧ w.cell? ⟨g,j * 2 + 1,none⟩ = some (.slice a l c) ∧ w.frozen? ⟨g,j * 2,none⟩ = false ∧ w.frozen? ⟨g,j * 2 + 1,none⟩ = false ∧ Zm 0 w (.agg #[.bool m,.slice a l c]) (F j) k := by
 obtain ⟨ps,h1,h2⟩ := h;have hl : ps.length = n := by rw [h2.1];simp
 have hp : ps[j]? = some (ps[j]'(by omega)) := List.getElem?_eq_getElem (by omega);have hq : ((List.range n).map F)[j]? = some (F j) := by simp [hj]
 obtain ⟨m,a,l,c,e⟩ := h1.2 _ (List.getElem_mem (l := ps) (n := j) (by omega));have q := h1.at hp;have z := h2.2 j _ _ hp hq;rw [e] at q z;exact ⟨m,a,l,c,q.1,q.2,h1.1.fz _,h1.1.fz _,z⟩
theorem Rw17.put {w : World} {g n k j : Nat} {F : Nat → Int} {x y : Value} {z : Int} (h : Rw17 w g n F k) (hj : j < n) (hz : Zm 0 w (.agg #[x,y]) z k) : Rw17 ((w.setCell ⟨g,j * 2,none⟩ x).setCell ⟨g,j * 2 + 1,none⟩ y) g n (fun i => if i = j then z else F i) k ∧ Ty 40 w ((w.setCell ⟨g,j * 2,none⟩ x).setCell ⟨g,j * 2 + 1,none⟩ y) := by
 obtain ⟨ps,h1,h2⟩ := h;have hty : Ty 40 w ((w.setCell ⟨g,j * 2,none⟩ x).setCell ⟨g,j * 2 + 1,none⟩ y) := (Ty.set h1.1).trans (Ty.set (h1.1.set _ _));have hl : ps.length = n := by rw [h2.1];simp
 refine ⟨⟨ps.set j (x,y),h1.put (by rw [hl];exact hj) hz.zi.isI,by simp [hl],fun i p q hp hq => ?_⟩,hty⟩;have hin : i < n := by simpa using (List.getElem?_eq_some_iff.1 hq).1
 have hq' : (if i = j then z else F i) = q := by simpa [hin] using hq
 by_cases e : i = j
 ·subst e
  rw [List.getElem?_set_self (by rw [hl];exact hj),Option.some.injEq] at hp;rw [if_pos rfl] at hq';subst hp;subst hq';exact hz.ty hty (by decide)
 ·rw [List.getElem?_set_ne (by omega)] at hp
  rw [if_neg e] at hq';subst hq';exact (h2.2 i p (F i) hp (by simp [hin])).ty hty (by decide)
end Go.Proofs.YtmnecbniappnaaaGreat
