/-
 QBz13ToSr13: Bz13, St13, Sr13, joined.
-/
import Derived.Test.YtffkmeocmjohmaaGreatQDz12ToDu12
import Derived.Test.YtffkmeocmjohmaaGreatQEachM11ToPr12

set_option maxRecDepth 100000
set_option maxHeartbeats 6400000
set_option linter.unusedVariables false
set_option linter.unusedSimpArgs false
namespace Go.Proofs.YtffkmeocmjohmaaGreat
theorem zDC : ∀ (n : Nat) (A : Nat → Nat → Int),det (n + 1) (stR A n (dlz n)) = det n A
 | 0,A => by
  show su 1 _ = 1
  rw [zdB (i := 0) (by omega) fun k _ hk => by omega];rw [zTA];simp [sgd,dlz,det]
 | n + 1,A => by
  show su (n + 2) _ = su (n + 1) _
  show su (n + 1) _ + sgd (n + 1) * stR A (n + 1) (dlz (n + 1)) (n + 1) 0 * _ = _
  have h0 : stR A (n + 1) (dlz (n + 1)) (n + 1) 0 = 0 := by rw [zTA];simp [dlz]
  rw [h0,Int.mul_zero,Int.zero_mul,Int.add_zero];refine zUA fun i hi => ?_
  have e : det (n + 1) (fun r c => stR A (n + 1) (dlz (n + 1)) (skd i r) (c + 1)) = det (n + 1) (stR (fun r c => A (skd i r) (c + 1)) n (dlz n)) := zLA fun r c hr hc => by
   by_cases q : r = n
   ·subst q
    have e1 : skd i r = r + 1 := by unfold skd;rw [if_neg (by omega)]
    rw [zTA,e1,zTA];simp [dlz]
   ·rw [zOA _ q,zOA _ (by unfold skd;split <;> omega)]
  rw [e,zDC n,zOA _ (by omega)]
theorem det_comb {n r : Nat} (A : Nat → Nat → Int) (hr : r < n) (x : Nat → Int) : det n (stR A r fun j => su n fun k => x k * A k j) = x r * det n A := by
 rw [(zdA n).sum hr x A n,zdB hr fun k hk hne => ?_,zAC];rw [(zdA n).same (A := stR A r (A k)) hr hk (Ne.symm hne) fun j _ => by rw [zTA,zOA _ hne]]
 simp
theorem det_samecol {n a b : Nat} (A : Nat → Nat → Int) (ha : a < n) (hb : b < n) (hab : a ≠ b) (h : ∀ i,i < n → A i a = A i b) : det n A = 0 := by
 rw [← zPB];exact (zdA n).same ha hb hab fun j hj => h j hj
def bor (k : Nat) (R : Nat → Nat) (r : Nat) : Nat → Nat := fun a => if a < k then R a else r
def mi (A : Nat → Nat → Int) (R C : Nat → Nat) (k r j : Nat) : Int := det (k + 1) fun a b => A (bor k R r a) (bor k C j b)
def dd (A : Nat → Nat → Int) (R C : Nat → Nat) (k : Nat) : Int := det k fun a b => A (R a) (C b)
theorem zvB {k a r : Nat} {R : Nat → Nat} (h : a < k) : bor k R r a = R a := if_pos h
theorem zpD {k r : Nat} {R : Nat → Nat} : bor k R r k = r := if_neg (by omega)
theorem zmH (A : Nat → Nat → Int) (R C : Nat → Nat) (k : Nat) : mi A R C k (R k) (C k) = dd A R C (k + 1) := zLA fun i j hi hj => by
 have e : ∀ (X : Nat → Nat) a,a < k + 1 → bor k X (X k) a = X a := fun X a ha => by
  by_cases q : a < k
  ·exact zvB q
  ·obtain rfl : a = k := by omega
   exact zpD
 rw [e R i hi,e C j hj]
theorem zHH (A : Nat → Nat → Int) (R C : Nat → Nat) (r j : Nat) : mi A R C 0 r j = A r j := by
 show su 1 _ = _
 rw [zdB (i := 0) (by omega) fun k _ hk => by omega];simp [sgd,det,bor]
theorem zJH (A : Nat → Nat → Int) (R C : Nat → Nat) {k b : Nat} (r : Nat) (hb : b < k) : mi A R C k r (C b) = 0 :=
 det_samecol _ (show b < k + 1 by omega) (show k < k + 1 by omega) (by omega) fun i _ => by rw [zvB hb,zpD]
theorem zEI (A : Nat → Nat → Int) (R C : Nat → Nat) (k r : Nat) : ∃ e : Nat → Int,e k = dd A R C k ∧ ∀ j,mi A R C k r j = su (k + 1) fun a => e a * A (bor k R r a) j := by
 refine ⟨fun a => det (k + 1) (stR (fun b a => A (bor k R r a) (C b)) k (dlz a)),?_,fun j => ?_⟩
 ·show det (k + 1) (stR (fun b a => A (bor k R r a) (C b)) k (dlz k)) = _
  rw [zDC]
  show _ = det k _
  rw [← zPB];exact zLA fun i j hi hj => by rw [zvB hi]
 ·have e1 : mi A R C k r j = det (k + 1) (stR (fun b a => A (bor k R r a) (C b)) k fun a => su (k + 1) fun i => A (bor k R r i) j * dlz i a) := by
   unfold mi;rw [← zPB];refine zLA fun b a hb ha => ?_
   by_cases q : b = k
   ·subst q
    rw [zTA,zpD,zdB (i := a) ha fun i _ hi => by unfold dlz;rw [if_neg hi];simp];unfold dlz;simp
   ·rw [zOA _ q,zvB (R := C) (by omega)]
  rw [e1,(zdA (k + 1)).sum (by omega)];exact zUA fun a _ => Int.mul_comm _ _
theorem det_two (k : Nat) (B : Nat → Nat → Int) (u v : Nat → Int) (hu : ∀ j,j < k → u j = 0) (hv : ∀ j,j < k → v j = 0) :
  det (k + 2) (stR (stR B k u) (k + 1) v) = (u k * v (k + 1) - u (k + 1) * v k) * det k B := by
 have H := zdA (k + 2);have D1 : det (k + 2) (stR (stR B k (dlz k)) (k + 1) (dlz (k + 1))) = det k B := by
  rw [zDC (k + 1),zDC k]
 have D2 : det (k + 2) (stR (stR B k (dlz (k + 1))) (k + 1) (dlz k)) = - det k B := by
  rw [← D1];have := H.swap (A := stR (stR B k (dlz k)) (k + 1) (dlz (k + 1))) (i := k) (k := k + 1) (by omega) (by omega) (by omega);rw [← this];refine zLA fun i j _ _ => ?_
  by_cases q : i = k + 1
  ·subst q;rw [zTA,zTA,zOA _ (by omega),zTA]
  ·rw [zOA _ q,zOA _ q]
   by_cases q2 : i = k
   ·subst q2;rw [zTA,zTA,zTA]
   ·rw [zOA _ q2,zOA _ q2,zOA _ q,zOA _ q2]
 have D3 : ∀ x : Nat → Int,det (k + 2) (stR (stR B k x) (k + 1) x) = 0 := fun x => H.same (i := k) (k := k + 1) (by omega) (by omega) (by omega) fun j _ => by rw [zOA _ (by omega),zTA,zTA]
 have eu : ∀ (B : Nat → Nat → Int) (i : Nat) (u : Nat → Int),i < k + 2 → (∀ j,j < k → u j = 0) → ∀ B',(∀ a,a ≠ i → B' a = B a) → B' i = u → det (k + 2) B' = u k * det (k + 2) (stR B i (dlz k)) + u (k + 1) * det (k + 2) (stR B i (dlz (k + 1))) := fun B i u hi hu B' h1 h2 => by
  rw [← H.lin B i (dlz k) (dlz (k + 1)) (u k) (u (k + 1)) hi];refine zLA fun a j ha hj => ?_
  by_cases q : a = i
  ·subst q
   rw [zTA,h2]
   by_cases q1 : j = k
   ·subst q1;simp [dlz]
   ·by_cases q2 : j = k + 1
    ·subst q2;simp [dlz]
    ·rw [hu j (by omega)];simp [dlz,Ne.symm q1,Ne.symm q2]
  ·rw [zOA _ q,h1 a q]
 rw [eu (stR B k u) (k + 1) v (by omega) hv _ (fun a ha => zOA _ ha _) (zTA _ _ _)];have f : ∀ x : Nat → Int,det (k + 2) (stR (stR B k u) (k + 1) x) = u k * det (k + 2) (stR (stR B k (dlz k)) (k + 1) x) + u (k + 1) * det (k + 2) (stR (stR B k (dlz (k + 1))) (k + 1) x) := fun x => by
  rw [zeB (by omega : k ≠ k + 1),zeB (by omega : k ≠ k + 1),zeB (by omega : k ≠ k + 1)];exact eu (stR B (k + 1) x) k u (by omega) hu _ (fun a ha => zOA _ ha _) (zTA _ _ _)
 rw [f,f,D1,D2,D3,D3]
 grind
theorem zaG {n k i : Nat} (B : Nat → Nat → Int) (hi : i < n) (hk : k ≤ i) (e : Nat → Int) (p : Int) :
  det n (stR B i fun j => (su k fun a => e a * B a j) + p * B i j) = p * det n B := by
 have H := zdA n;rw [H.add hi,H.sum hi e B k,H.mul hi,zAC,zWD fun a ha => ?_,Int.zero_add];rw [H.same (A := stR B i (B a)) hi (show a < n by omega) (by omega) fun j _ => by rw [zTA,zOA _ (by omega)]]
 simp
theorem zIH (A : Nat → Nat → Int) (R C : Nat → Nat) (k r j : Nat) (hp : dd A R C k ≠ 0) :
  dd A R C (k + 1) * mi A R C k r j - mi A R C k r (C k) * mi A R C k (R k) j = dd A R C k * mi A R C (k + 1) r j := by
 obtain ⟨e,e0,he⟩ := zEI A R C k r;obtain ⟨f,f0,hf⟩ := zEI A R C k (R k);have HB : ∃ B : Nat → Nat → Int,B = fun a b => A (bor (k + 1) R r a) (bor (k + 1) C j b) := ⟨_,rfl⟩
 obtain ⟨B,hB⟩ := HB;have HG : ∃ G : Nat → Nat,G = bor (k + 1) C j := ⟨_,rfl⟩
 obtain ⟨G,hG⟩ := HG;have Glt : ∀ b,b < k → G b = C b := fun b hb => by rw [hG];exact zvB (by omega)
 have Gk : G k = C k := by rw [hG];exact zvB (by omega)
 have Gk1 : G (k + 1) = j := by rw [hG];exact zpD
 have Bat : ∀ a b,B a b = A (bor (k + 1) R r a) (G b) := fun a b => by rw [hB,hG]
 have row1 : ∀ b,(su k fun a => f a * B a b) + dd A R C k * B k b = mi A R C k (R k) (G b) := fun b => by
  rw [hf]
  show _ = (su k _) + f k * A (bor k R (R k) k) (G b)
  rw [f0,zpD,Bat,zvB (by omega : k < k + 1)]
  congr 1
  exact zUA fun a ha => by rw [Bat,zvB (by omega),zvB ha]
 have row2 : ∀ b,(su k fun a => e a * B a b) + dd A R C k * B (k + 1) b = mi A R C k r (G b) := fun b => by
  rw [he]
  show _ = (su k _) + e k * A (bor k R r k) (G b)
  rw [e0,zpD,Bat,zpD]
  congr 1
  exact zUA fun a ha => by rw [Bat,zvB (by omega),zvB ha]
 have h1 := zaG (n := k + 2) (k := k) (i := k + 1) B (by omega) (by omega) e (dd A R C k);have h2 := zaG (n := k + 2) (k := k) (i := k) (stR B (k + 1) fun b => (su k fun a => e a * B a b) + dd A R C k * B (k + 1) b) (by omega) (by omega) f (dd A R C k);have h3 := det_two k B (fun b => mi A R C k (R k) (G b)) (fun b => mi A R C k r (G b)) (fun b hb => by rw [Glt b hb];exact zJH A R C _ hb) (fun b hb => by rw [Glt b hb];exact zJH A R C _ hb);have e4 : det (k + 2) (stR (stR B k fun b => mi A R C k (R k) (G b)) (k + 1) fun b => mi A R C k r (G b)) = dd A R C k * (dd A R C k * det (k + 2) B) := by
  rw [← h1,← h2,zeB (by omega : k ≠ k + 1)];refine zLA fun a b _ _ => ?_
  by_cases q : a = k
  ·subst q
   rw [zTA,zTA,← row1,zOA _ (by omega)]
   congr 1
   exact zUA fun a' ha' => by rw [zOA _ (by omega)]
  ·rw [zOA _ q,zOA _ q]
   by_cases q2 : a = k + 1
   ·subst q2;rw [zTA,zTA,row2]
   ·rw [zOA _ q2,zOA _ q2]
 rw [e4] at h3;have e5 : det k B = dd A R C k := zLA fun a b ha hb => by rw [Bat,Glt b hb,zvB (by omega)]
 have e6 : det (k + 2) B = mi A R C (k + 1) r j := by rw [hB];rfl
 rw [e5,e6] at h3;simp only [Gk,Gk1] at h3;rw [zmH] at h3;have h4 : dd A R C k * (dd A R C k * mi A R C (k + 1) r j) = dd A R C k * (dd A R C (k + 1) * mi A R C k r j - mi A R C k r (C k) * mi A R C k (R k) j) := by rw [h3];grind
 exact (Int.eq_of_mul_eq_mul_left hp h4).symm
theorem zsG : ∀ {n : Nat} {f : Nat → Int} {X : Nat},(∀ k,k < n → (f k).natAbs ≤ X) → (su n f).natAbs ≤ n * X
 | 0,_,_,_ => by simp [su]
 | n + 1,f,X,h => by
  have h1 := zsG (n := n) (f := f) (X := X) fun k hk => h k (by omega)
  have h2 := h n (by omega);have : (su n f + f n).natAbs ≤ (su n f).natAbs + (f n).natAbs := Int.natAbs_add_le _ _
  show (su n f + f n).natAbs ≤ (n + 1) * X
  rw [Nat.succ_mul];omega
theorem zZF : ∀ i : Nat,(sgd i).natAbs = 1
 | 0 => rfl
 | i + 1 => by show (- sgd i).natAbs = 1;rw [Int.natAbs_neg];exact zZF i
theorem zWH {X N : Nat} : ∀ {n : Nat} {A : Nat → Nat → Int},n ≤ N → (∀ i j,i < n → j < n → (A i j).natAbs ≤ X) → (det n A).natAbs ≤ (N * X) ^ n
 | 0,_,_,_ => by simp [det]
 | n + 1,A,hn,h => by
  have h1 : (su (n + 1) fun i => sgd i * A i 0 * det n (fun r c => A (skd i r) (c + 1))).natAbs ≤ (n + 1) * (X * (N * X) ^ n) := zsG fun i hi => by
   have h2 := zWH (X := X) (N := N) (n := n) (A := fun r c => A (skd i r) (c + 1)) (by omega) fun a b ha hb => h (skd i a) (b + 1) (by unfold skd;split <;> omega) (by omega)
   rw [Int.natAbs_mul,Int.natAbs_mul,zZF,Nat.one_mul];exact Nat.mul_le_mul (h i 0 hi (by omega)) h2
  have h3 : (n + 1) * (X * (N * X) ^ n) ≤ N * (X * (N * X) ^ n) := Nat.mul_le_mul_right _ hn;have h4 : N * (X * (N * X) ^ n) = (N * X) ^ (n + 1) := by rw [Nat.pow_succ,Nat.mul_comm _ (N * X),Nat.mul_assoc]
  show (su (n + 1) _).natAbs ≤ _
  omega
theorem mi_abs {A : Nat → Nat → Int} {X N : Nat} (R C : Nat → Nat) {k r j : Nat} (hk : k + 1 ≤ N) (h : ∀ i j,(A i j).natAbs ≤ X) : (mi A R C k r j).natAbs ≤ (N * X) ^ (k + 1) := zWH hk fun _ _ _ _ => h _ _
def sgb (s : Bool) : Int := if s then -1 else 1
theorem sgb_xor (s t : Bool) : sgb (s ^^ t) = sgb s * sgb t := by cases s <;> cases t <;> rfl
def dl (M : Nat → Nat → Int) (l : List Nat) : Int := det l.length fun a b => M a (l.getD b 0)
def Mv (l l' : List Nat) (s : Bool) : Prop := ∀ (M : Nat → Nat → Int) (p t : List Nat),dl M (p ++ l ++ t) = sgb s * dl M (p ++ l' ++ t)
theorem Mv.refl (l : List Nat) : Mv l l false := fun M p t => by simp [sgb]
theorem Mv.trans {a b c : List Nat} {s t : Bool} (h : Mv a b s) (h' : Mv b c t) : Mv a c (s ^^ t) := fun M p q => by rw [h M p q,h' M p q,sgb_xor];grind
theorem Mv.app {l l' : List Nat} {s : Bool} (h : Mv l l' s) (c : List Nat) : Mv (l ++ c) (l' ++ c) s := fun M p t => by
 have := h M p (c ++ t)
 simpa using this
theorem Mv.cons {l l' : List Nat} {s : Bool} (h : Mv l l' s) (x : Nat) : Mv (x :: l) (x :: l') s := fun M p t => by
 have := h M (p ++ [x]) t
 simpa using this
theorem Mv.two (x y : Nat) : Mv [x,y] [y,x] true := fun M p t => by
 have hl : (p ++ [x,y] ++ t).length = (p ++ [y,x] ++ t).length := by simp
 have hi : p.length + 1 < (p ++ [y,x] ++ t).length := by simp
 unfold dl;rw [hl,← zPB _ (fun a b => M a ((p ++ [x,y] ++ t).getD b 0)),← zPB _ (fun a b => M a ((p ++ [y,x] ++ t).getD b 0))];have h1 := (zdA (p ++ [y,x] ++ t).length).swap1 (A := fun b a => M a ((p ++ [y,x] ++ t).getD b 0)) (i := p.length) hi
 show _ = -1 * _
 rw [Int.neg_one_mul,← h1];refine zLA fun b a hb ha => ?_
 have gx : ∀ (u v : Nat) (b : Nat),(p ++ [u,v] ++ t).getD b 0 = if b < p.length then p.getD b 0 else if b = p.length then u else if b = p.length + 1 then v else t.getD (b - p.length - 2) 0 := fun u v b => by
  simp only [List.getD_eq_getElem?_getD,List.append_assoc]
  by_cases q : b < p.length
  ·rw [if_pos q,List.getElem?_append_left q]
  ·rw [if_neg q,List.getElem?_append_right (by omega)]
   by_cases q1 : b = p.length
   ·subst q1;simp
   ·rw [if_neg q1]
    by_cases q2 : b = p.length + 1
    ·subst q2;simp
    ·rw [if_neg q2,show b - p.length = (b - p.length - 2) + 1 + 1 by omega];simp
 by_cases q : b = p.length + 1
 ·subst q
  rw [zTA,gx,gx];simp [show ¬ p.length + 1 < p.length by omega]
 ·rw [zOA _ q]
  by_cases q1 : b = p.length
  ·subst q1
   rw [zTA,gx,gx];simp [show ¬ p.length + 1 < p.length by omega]
  ·rw [zOA _ q1,gx,gx]
   by_cases q2 : b < p.length
   ·rw [if_pos q2,if_pos q2]
   ·rw [if_neg q2,if_neg q2,if_neg q1,if_neg q1,if_neg q,if_neg q]
def par : Nat → Bool
 | 0 => false
 | n + 1 => ! par n
theorem Mv.front (c : Nat) : ∀ l : List Nat,Mv (l ++ [c]) (c :: l) (par l.length)
 | [] => Mv.refl _
 | x :: l => by
  have h1 := (Mv.front c l).cons x;have h2 := (Mv.two x c).app l;have h3 := h1.trans h2;have e : (par l.length ^^ true) = par (x :: l).length := by simp [par]
  rw [e] at h3;exact h3
def ins (c : Nat) : List Nat → List Nat
 | [] => [c]
 | x :: l => if c < x then c :: x :: l else x :: ins c l
def abv (c : Nat) : List Nat → Nat
 | [] => 0
 | x :: l => (if c < x then 1 else 0) + abv c l
theorem zcH (c : Nat) : ∀ {l : List Nat},(∀ x ∈ l,c < x) → abv c l = l.length
 | [],_ => rfl
 | x :: l,h => by simp only [abv,List.length_cons];rw [if_pos (h x (by simp)),zcH c fun y hy => h y (by simp [hy])];omega
theorem zbH (c : Nat) : ∀ l m : List Nat,abv c (l ++ m) = abv c l + abv c m
 | [],m => by simp [abv]
 | x :: l,m => by simp only [List.cons_append,abv,zbH c l m];omega
theorem Mv.ins (c : Nat) : ∀ {l : List Nat},l.Pairwise (· < ·) → Mv (l ++ [c]) (ins c l) (par (abv c l))
 | [],_ => Mv.refl _
 | x :: l,h => by
  rw [List.pairwise_cons] at h;unfold Proofs.YtffkmeocmjohmaaGreat.ins
  by_cases q : c < x
  ·rw [if_pos q,zcH c (l := x :: l) fun y hy => by
    rcases List.mem_cons.1 hy with rfl | hy
    ·exact q
    ·have := h.1 y hy;omega]
   exact Mv.front c (x :: l)
  ·rw [if_neg q]
   have e : abv c (x :: l) = abv c l := by simp only [abv];rw [if_neg q];omega
   rw [e];exact (Mv.ins c h.2).cons x
theorem ins_mem {c y : Nat} : ∀ {l : List Nat},y ∈ ins c l ↔ y = c ∨ y ∈ l
 | [] => by simp [ins]
 | x :: l => by
  unfold ins
  split
  ·simp
  ·rw [List.mem_cons,ins_mem (l := l),List.mem_cons]
   constructor
   ·rintro (h | h | h)
    ·exact .inr (.inl h)
    ·exact .inl h
    ·exact .inr (.inr h)
   ·rintro (h | h | h)
    ·exact .inr (.inl h)
    ·exact .inl h
    ·exact .inr (.inr h)
theorem zOH (c : Nat) : ∀ l : List Nat,(ins c l).length = l.length + 1
 | [] => rfl
 | x :: l => by
  unfold ins
  split
  ·rfl
  ·rw [List.length_cons,zOH c l,List.length_cons]
theorem zKI {c : Nat} : ∀ {l : List Nat},l.Pairwise (· < ·) → c ∉ l → (ins c l).Pairwise (· < ·)
 | [],_,_ => by simp [ins]
 | x :: l,h,hc => by
  have h' := List.pairwise_cons.1 h;unfold ins
  split
  ·next q =>
   refine List.pairwise_cons.2 ⟨fun y hy => ?_,h⟩;rcases List.mem_cons.1 hy with rfl | hy
   ·exact q
   ·have := h'.1 y hy;omega
  ·next q =>
   have hcx : c ≠ x := fun e => hc (by simp [e])
   refine List.pairwise_cons.2 ⟨fun y hy => ?_,zKI h'.2 fun hm => hc (by simp [hm])⟩;rcases ins_mem.1 hy with rfl | hy
   ·omega
   ·exact h'.1 y hy
def srt (cs : List Nat) : List Nat := cs.foldl (fun l c => ins c l) []
theorem ztG (cs : List Nat) (c : Nat) : srt (cs ++ [c]) = ins c (srt cs) := by simp [srt]
theorem zaH (c d : Nat) : ∀ l : List Nat,abv c (ins d l) = abv c (d :: l)
 | [] => rfl
 | x :: l => by
  unfold ins
  split
  ·rfl
  ·simp only [abv]
   rw [zaH c d l];simp only [abv];omega
theorem zQF (c : Nat) : ∀ (cs l : List Nat),abv c (cs.foldl (fun l c => ins c l) l) = abv c cs + abv c l
 | [],l => by simp [abv]
 | d :: cs,l => by
  rw [List.foldl_cons,zQF c cs,zaH];simp only [abv];omega
theorem abv_srt (c : Nat) (cs : List Nat) : abv c (srt cs) = abv c cs := by unfold srt;rw [zQF];simp [abv]
section
variable (A : Nat → Nat → Int)
abbrev gd (l : List Nat) : Nat → Nat := fun a => l.getD a 0
structure Stz (n i : Nat) (rs cs : List Nat) (odd : Bool) : Prop where
 len : cs.length = rs.length
 up : rs.Pairwise (· < ·)
 lt : ∀ r ∈ rs,r < i
 cl : ∀ c ∈ cs,c < n
 nz : ∀ k,k ≤ rs.length → dd A (gd rs) (gd cs) k ≠ 0
 low : ∀ k j,k < rs.length → j < cs.getD k 0 → mi A (gd rs) (gd cs) k (rs.getD k 0) j = 0
 drop : ∀ r,r < i → r ∉ rs → ∃ k,k ≤ rs.length ∧ (∀ a,a < k → rs.getD a 0 < r) ∧ ∀ j,j < n → mi A (gd rs) (gd cs) k r j = 0
 srt : (srt cs).Pairwise (· < ·) ∧ (srt cs).length = cs.length ∧ (∀ c,c ∈ srt cs ↔ c ∈ cs)
 mv : Mv cs (Proofs.YtffkmeocmjohmaaGreat.srt cs) odd
variable {A}
theorem zBC {R R' C C' : Nat → Nat} {k : Nat} (hR : ∀ a,a < k → R a = R' a) (hC : ∀ a,a < k → C a = C' a) (r j : Nat) : mi A R C k r j = mi A R' C' k r j := zLA fun a b ha hb => by
 have e : ∀ (X X' : Nat → Nat) (y a : Nat),(∀ a,a < k → X a = X' a) → bor k X y a = bor k X' y a := fun X X' y a h => by
  unfold bor
  split
  ·next q => exact h _ q
  ·rfl
 rw [e R R' r a hR,e C C' j b hC]
theorem dd_congr {R R' C C' : Nat → Nat} {k : Nat} (hR : ∀ a,a < k → R a = R' a) (hC : ∀ a,a < k → C a = C' a) : dd A R C k = dd A R' C' k := zLA fun a b ha hb => by rw [hR a ha,hC b hb]
theorem zCD {l m : List Nat} {a : Nat} (h : a < l.length) : gd (l ++ m) a = gd l a := by simp [gd,List.getElem?_append_left h]
theorem zTH {l : List Nat} {x : Nat} : gd (l ++ [x]) l.length = x := by simp [gd]
theorem Stz.start (n : Nat) : Stz A n 0 [] [] false :=
 ⟨rfl,List.Pairwise.nil,fun r h => by simp at h,fun r h => by simp at h,fun k hk => by
  obtain rfl : k = 0 := by simpa using hk
  simp [dd,det],fun k j hk => by simp at hk,fun r hr => by omega,⟨List.Pairwise.nil,rfl,fun c => Iff.rfl⟩,Mv.refl _⟩
theorem Stz.skip {n i : Nat} {rs cs : List Nat} {odd : Bool} (h : Stz A n i rs cs odd) (hz : ∀ j,j < n → mi A (gd rs) (gd cs) rs.length i j = 0) : Stz A n (i + 1) rs cs odd :=
 ⟨h.len,h.up,fun r hr => by have := h.lt r hr;omega,h.cl,h.nz,h.low,fun r hr hn => by
  by_cases q : r = i
  ·subst q
   exact ⟨rs.length,Nat.le_refl _,fun a ha => h.lt _ (by simp [ha]),hz⟩
  ·exact h.drop r (by omega) hn,h.srt,h.mv⟩
theorem Stz.keep {n i c : Nat} {rs cs : List Nat} {odd : Bool} (h : Stz A n i rs cs odd) (hc : c < n) (hn : mi A (gd rs) (gd cs) rs.length i c ≠ 0) (hz : ∀ j,j < c → mi A (gd rs) (gd cs) rs.length i j = 0) : Stz A n (i + 1) (rs ++ [i]) (cs ++ [c]) (odd ^^ par (abv c cs)) := by
 have hl := h.len;have oR : ∀ k,k ≤ rs.length → ∀ a,a < k → gd (rs ++ [i]) a = gd rs a := fun k hk a ha => zCD (by omega)
 have oC : ∀ k,k ≤ rs.length → ∀ a,a < k → gd (cs ++ [c]) a = gd cs a := fun k hk a ha => zCD (by omega)
 have eR : gd (rs ++ [i]) rs.length = i := zTH;have eC : gd (cs ++ [c]) rs.length = c := by rw [← hl];exact zTH
 have hmem : c ∉ cs := fun hm => by
  obtain ⟨b,hb,e⟩ := List.getElem_of_mem hm;have : gd cs b = c := by simp [gd,hb,e]
  exact hn (by rw [← this];exact zJH A _ _ _ (by omega))
 refine ⟨by simp [hl],?_,?_,?_,fun k hk => ?_,fun k j hk hj => ?_,fun r hr hnm => ?_,?_,?_⟩
 ·rw [List.pairwise_append]
  exact ⟨h.up,by simp,fun a ha b hb => by simp at hb;subst hb;exact h.lt a ha⟩
 ·intro r hr
  rcases List.mem_append.1 hr with q | q
  ·have := h.lt r q;omega
  ·simp at q;omega
 ·intro r hr
  rcases List.mem_append.1 hr with q | q
  ·exact h.cl r q
  ·simp at q;omega
 ·simp only [List.length_append,List.length_cons,List.length_nil] at hk
  by_cases q : k ≤ rs.length
  ·rw [dd_congr (oR k q) (oC k q)];exact h.nz k q
  ·obtain rfl : k = rs.length + 1 := by omega
   rw [← zmH,eR,eC,zBC (oR _ (Nat.le_refl _)) (oC _ (Nat.le_refl _))];exact hn
 ·simp only [List.length_append,List.length_cons,List.length_nil] at hk
  by_cases q : k < rs.length
  ·rw [zBC (oR k (by omega)) (oC k (by omega))]
   have e1 : (rs ++ [i]).getD k 0 = rs.getD k 0 := zCD q;have e2 : (cs ++ [c]).getD k 0 = cs.getD k 0 := zCD (by omega);rw [e1];rw [e2] at hj;exact h.low k j q hj
  ·obtain rfl : k = rs.length := by omega
   have e1 : (rs ++ [i]).getD rs.length 0 = i := eR;have e2 : (cs ++ [c]).getD rs.length 0 = c := eC;rw [zBC (oR _ (by omega)) (oC _ (by omega)),e1];rw [e2] at hj;exact hz j hj
 ·have q : r ≠ i := fun q => hnm (by simp [q])
  obtain ⟨k,h1,h2,h3⟩ := h.drop r (by omega) (fun hm => hnm (by simp [hm]));refine ⟨k,by simp;omega,fun a ha => ?_,fun j hj => ?_⟩
  ·have e1 : (rs ++ [i]).getD a 0 = rs.getD a 0 := zCD (by omega)
   rw [e1];exact h2 a ha
  ·rw [zBC (oR k h1) (oC k h1)];exact h3 j hj
 ·obtain ⟨h1,h2,h3⟩ := h.srt
  rw [ztG];refine ⟨zKI h1 (fun hm => hmem ((h3 c).1 hm)),by rw [zOH,h2];simp,fun d => ?_⟩;rw [ins_mem,h3,List.mem_append,List.mem_singleton];exact Or.comm
 ·rw [ztG]
  have h1 := h.mv.app [c];have h2 := Mv.ins c h.srt.1;rw [abv_srt] at h2;exact h1.trans h2
def detS (A : Nat → Nat → Int) (rs cs : List Nat) (odd : Bool) : Int := sgb odd * dd A (gd rs) (gd cs) rs.length
theorem Stz.core {n i : Nat} {rs cs : List Nat} {odd : Bool} (h : Stz A n i rs cs odd) : detS A rs cs odd = det rs.length fun a b => A (rs.getD a 0) ((Proofs.YtffkmeocmjohmaaGreat.srt cs).getD b 0) := by
 have h1 := h.mv (fun a b => A (rs.getD a 0) b) [] [];simp only [List.nil_append,List.append_nil] at h1;unfold dl at h1;rw [h.srt.2.1,h.len] at h1;unfold detS dd
 show sgb odd * det rs.length (fun a b => A (rs.getD a 0) (cs.getD b 0)) = _
 rw [h1,← Int.mul_assoc];have : sgb odd * sgb odd = 1 := by cases odd <;> rfl
 rw [this,Int.one_mul]
end
open Go.RowKit Go.Shelf
def Ivs (B : Nat) (w : World) (v : Value) (l : List Nat) : Prop := w.ownsRow B 3 1 v l.length (l.map fun (a : Nat) => Value.int .i64 (a : Int))
theorem Ivs.nil (B : Nat) (w : World) : Ivs B w (.slice none 0 0) [] := World.ownsRow_nil _ _ _ _
theorem Ivs.now {B : Nat} {w w' : World} {v : Value} {l : List Nat} (h : Ivs B w v l) (hb : Below w.heap.size w w') : Ivs B w' v l := zTB h fun b _ hlt => hb.block b hlt
theorem Ivs.form {B : Nat} {w : World} {v : Value} {l : List Nat} (h : Ivs B w v l) : ∃ a cap,v = .slice a l.length cap ∧ l.length ≤ cap ∧ (0 < l.length → ∃ g,a = some ⟨g,0,none⟩) := by
 obtain ⟨q1,⟨q2,q3⟩ | ⟨g,cap,cur,q2,q3,q4,q5,q6⟩⟩ := h
 ·exact ⟨none,0,by rw [q2,q3],by omega,fun q => by omega⟩
 ·exact ⟨_,cap,q2,by omega,fun _ => ⟨g,rfl⟩⟩
theorem Ivs.blk {B b : Nat} {w : World} {v : Value} {l : List Nat} (h : Ivs B w v l) (hb : v.ownBlock = some b) : B ≤ b ∧ ∃ L,w.heap[b]? = some (.cells L 3 (0,0)) := by
 obtain ⟨_,⟨r2,_⟩ | ⟨g2,cap,cur,r2,r3,r4,r5⟩⟩ := h
 ·rw [r2] at hb;cases hb
 ·rw [r2] at hb
  simp only [Value.ownBlock,Option.some.injEq] at hb;subst hb;exact ⟨r3,cur,r4⟩
theorem Ivs.at {B g cap n : Nat} {w : World} {l : List Nat} (h : Ivs B w (.slice (some ⟨g,0,none⟩) n cap) l) {i : Nat} (hi : i < l.length) : w.cell? ⟨g,i,none⟩ = some (.int .i64 (l.getD i 0 : Nat)) := by
 obtain ⟨q1,⟨q2,q3⟩ | ⟨g',cap',cur,q2,q3,q4,q5,q6⟩⟩ := h
 ·cases q2
 ·simp only [Value.slice.injEq,Option.some.injEq,Addr.mk.injEq,and_true] at q2
  obtain ⟨rfl,rfl,rfl⟩ := q2;have h1 : w.ownsRow B 3 1 (.slice (some ⟨g,0,none⟩) l.length cap) l.length (l.map fun (a : Nat) => Value.int .i64 (a : Int)) := ⟨q1,.inr ⟨g,cap,cur,rfl,q3,q4,q5,q6⟩⟩
  rw [h1.cellAt i (by omega)];simp [hi]
theorem Ivs.keep {B : Nat} {w w' : World} {v : Value} {l : List Nat} (h : Ivs B w v l) (hk : ∀ (b : Nat) (L : Array Value),v.ownBlock = some b → w.heap[b]? = some (.cells L 3 (0,0)) → w'.heap[b]? = some (.cells L 3 (0,0))) : Ivs B w' v l := zTB h fun b hb hlt => by
 obtain ⟨_,L,e⟩ := h.blk hb;rw [e];exact hk b L hb e
theorem Tryz.infoI13 : (Tryz.prog.info? 3).map (fun i => (i.zero,i.size,i.bytes)) = some (some (.int .i64 0),1,8) := by kernel_rfl
theorem zCE (g j : Nat) : (⟨g,0,none⟩ : Addr).add j = ⟨g,j,none⟩ := by unfold Addr.add;split <;> simp_all
theorem zxA (w : World) {ops : Array Oper} {rest : List Oper} {o : Oper} {a : Act} {Q : Exit → Act → World → Prop}
  (hgd : o.guard = none) (s x : Operand) (hop : o.op = .call { callee := .builtin .append,args := #[s,x],argTypes := #[26,26] })
  (B : Nat) (v : Value) (l : List Nat) (t : Nat) (hs : a.eval s = v) (hP : Ivs B w v l) (gx : Nat) (hx : a.eval x = .slice (some ⟨gx,0,none⟩) 1 1) (hc : w.cell? ⟨gx,0,none⟩ = some (.int .i64 (t : Int))) (hlen : l.length ≤ 1000000) (hBs : B ≤ w.heap.size)
  (hK : ∀ g' cap' w',Hid (Ivs B w' (.slice (some ⟨g',0,none⟩) (l.length + 1) cap') (l ++ [t])) → Hid (w.grownBy w' v.ownBlock) → Hid (v.ownBlock = some g' ∨ g' = w.heap.size) → wpList Tryz.prog ops Q rest (a.put o.dst (.slice (some ⟨g',0,none⟩) (l.length + 1) cap')) w') :
  wpList Tryz.prog ops Q (o :: rest) a w := by
 obtain ⟨i,hi,hz,hsz,hby⟩ := info_parts Tryz.infoI13;refine wpList_append_lies w hgd s x 26 hop B 3 i (.int .i64 0) 1 8 Tryz.underlying26 hi hz hsz hby rfl (by omega) v l.length _ hs hP ⟨gx,0,none⟩ 1 1 [.int .i64 (t : Int)] hx rfl ?_ ?_ (by omega) (by unfold maxLen;omega) (by omega) hBs w.heap.size rfl ?_
 ·intro j u' hj
  match j,hj with
  | 0,hj => simp at hj;subst hj;rw [zCE];exact hc
 ·intro u' hu'
  simp at hu';subst hu'
  rfl
 ·intro g' cap' w' k1 k2 k3 k4
  refine hK _ _ w' ?_ k2 k3;unfold Hid Ivs;rw [List.length_append,List.length_cons,List.length_nil,List.map_append];exact k1
def lnz (A : Nat → Nat → Int) (n : Nat) (rs cs : List Nat) : List (List Int) := (List.range rs.length).map fun k => (List.range n).map fun j => mi A (gd rs) (gd cs) k (gd rs k) j
theorem zRB (A : Nat → Nat → Int) (n : Nat) (rs cs : List Nat) : (lnz A n rs cs).length = rs.length := by simp [lnz]
theorem zFI {A : Nat → Nat → Int} {n : Nat} {rs cs : List Nat} {k : Nat} (hk : k < rs.length) : zOB (lnz A n rs cs) k = (List.range n).map fun j => mi A (gd rs) (gd cs) k (gd rs k) j := by
 simp [zOB,lnz,hk]
theorem lnz_app {A : Nat → Nat → Int} {n : Nat} {rs cs : List Nat} (hl : cs.length = rs.length) (r c : Nat) : lnz A n (rs ++ [r]) (cs ++ [c]) = lnz A n rs cs ++ [(List.range n).map fun j => mi A (gd rs) (gd cs) rs.length r j] := by
 unfold lnz;rw [List.length_append,List.length_singleton,List.range_succ,List.map_append,List.map_singleton];have oR : ∀ k,k ≤ rs.length → ∀ a,a < k → gd (rs ++ [r]) a = gd rs a := fun k hk a ha => zCD (by omega)
 have oC : ∀ k,k ≤ rs.length → ∀ a,a < k → gd (cs ++ [c]) a = gd cs a := fun k hk a ha => zCD (by omega)
 congr 1
 ·refine List.map_congr_left fun k hk => ?_
  have hk' : k < rs.length := by simpa using hk
  refine List.map_congr_left fun j _ => ?_
  rw [zCD hk',zBC (oR k (by omega)) (oC k (by omega))]
 ·congr 1
  refine List.map_congr_left fun j _ => ?_
  rw [zTH,zBC (oR _ (Nat.le_refl _)) (oC _ (Nat.le_refl _))]
theorem zYA.ty13 {g : Nat} {w w' : World} {ps : List (Value × Value)} (ht : zYA (· = g) w w') (hA : Arr w g ps) : Ty 45 w w' := by
 refine ⟨ht.size,fun b L T fr e hne => ?_⟩;refine (ht.block b (Array.getElem?_eq_some_iff.1 e).1 fun q => ?_).trans e;have q' : b = g := q;subst q';have := e.symm.trans (show w.heap[_]? = _ from hA.1);simp only [Option.some.injEq,Obj.cells.injEq] at this;exact hne this.2.1
theorem Arr.touch {g g' : Nat} {w w' : World} {ps : List (Value × Value)} (h : Arr w g' ps) (ht : zYA (· = g) w w') (hne : g' ≠ g) : Arr w' g' ps := ⟨(ht.block g' h.1.blk hne).trans h.1,h.2⟩
theorem Ivs.touch {B g : Nat} {w w' : World} {v : Value} {l : List Nat} {ps : List (Value × Value)} (h : Ivs B w v l) (ht : zYA (· = g) w w') (hA : Arr w g ps) : Ivs B w' v l := h.keep fun b L _ e => (ht.ty13 hA).2 b _ _ _ e (by decide)
theorem Cel.ty13 {T T' : TypeId} {w w' : World} {b : Nat} {L : List Value} (h : Cel w b T L) (ht : Ty T' w w') (hT : T ≠ T') : Cel w' b T L := ht.2 b _ _ _ h hT
theorem ShtM.blk {B c k b : Nat} {w : World} {lv : Value} {gs : List Nat} {m : List (List Int)} (h : ShtM B w lv c gs m k) (hb : lv.ownBlock = some b) : B ≤ b ∧ ∃ L,w.heap[b]? = some (.cells L 33 (0,0)) := by
 obtain ⟨⟨_,⟨r2,_⟩ | ⟨g2,cap,cur,r2,r3,r4,r5⟩⟩,_⟩ := h
 ·rw [r2] at hb;cases hb
 ·rw [r2] at hb
  simp only [Value.ownBlock,Option.some.injEq] at hb;subst hb;exact ⟨r3,cur,r4⟩
theorem ShtM.touch {B c k g : Nat} {w w' : World} {lv : Value} {gs : List Nat} {m : List (List Int)} {ps : List (Value × Value)} (h : ShtM B w lv c gs m k) (ht : zYA (· = g) w w') (hA : Arr w g ps) (hg : ∀ x ∈ gs,x ≠ g) : ShtM B w' lv c gs m k := by
 have h0 := h;obtain ⟨h1,h2,h3,h4,h5,h6⟩ := h;refine ⟨zTB h1 fun b hb hlt => ?_,h2,h3,h4,h5,fun j g' hg' => ?_⟩
 ·obtain ⟨_,L,e⟩ := h0.blk hb
  rw [e];exact (ht.ty13 hA).2 b _ _ _ e (by decide)
 ·obtain ⟨qs,q1,q2⟩ := h6 j g' hg'
  exact ⟨qs,q1.touch ht (hg g' (List.mem_of_getElem? hg')),q2.ty (ht.ty13 hA) (by decide)⟩
theorem ShtM.ints {B c k : Nat} {w w' : World} {lv : Value} {gs : List Nat} {m : List (List Int)} (h : ShtM B w lv c gs m k) (ht : Ty 3 w w') : ShtM B w' lv c gs m k := by
 have h0 := h;obtain ⟨h1,h2,h3,h4,h5,h6⟩ := h;refine ⟨zTB h1 fun b hb hlt => ?_,h2,h3,h4,h5,fun j g' hg' => ?_⟩
 ·obtain ⟨_,L,e⟩ := h0.blk hb
  rw [e];exact ht.2 b _ _ _ e (by decide)
 ·obtain ⟨qs,q1,q2⟩ := h6 j g' hg'
  exact ⟨qs,⟨q1.1.ty13 ht (by decide),q1.2⟩,q2.ty ht (by decide)⟩
def Srs (A : Nat → Nat → Int) (B : Nat) (w : World) (Bs n : Nat) (rs cs : List Nat) (odd : Bool) (ks : List Nat) (k : Nat) : Prop :=
 ∃ rv cv lv,Cel w Bs 106 [rv,cv,lv,.bool odd] ∧ Ivs B w rv rs ∧ Ivs B w cv cs ∧ ShtM B w lv n ks (lnz A n rs cs) k ∧ (∀ b,rv.ownBlock = some b → cv.ownBlock ≠ some b)
theorem Srs.now {A : Nat → Nat → Int} {B Bs n k : Nat} {w w' : World} {rs cs ks : List Nat} {odd : Bool} (h : Srs A B w Bs n rs cs odd ks k) (hb : Below w.heap.size w w') : Srs A B w' Bs n rs cs odd ks k := by
 obtain ⟨rv,cv,lv,h1,h2,h3,h4,h5⟩ := h;exact ⟨rv,cv,lv,h1.step hb,h2.now hb,h3.now hb,h4.kc (zMD hb),h5⟩
theorem Srs.kc {A : Nat → Nat → Int} {B Bs n k : Nat} {w w' : World} {rs cs ks : List Nat} {odd : Bool} (h : Srs A B w Bs n rs cs odd ks k) (hk : Kc w w') : Srs A B w' Bs n rs cs odd ks k := by
 obtain ⟨rv,cv,lv,h1,h2,h3,h4,h5⟩ := h;exact ⟨rv,cv,lv,hk.cel h1,h2.keep fun b L _ e => hk.2 b _ e rfl,h3.keep fun b L _ e => hk.2 b _ e rfl,h4.kc hk,h5⟩
theorem ShtM.at {B c k : Nat} {w : World} {lv : Value} {gs : List Nat} {m : List (List Int)} (h : ShtM B w lv c gs m k) {i g t : Nat} (hg : gs[i]? = some g) (ht : t < c) :
  ∃ nv av lw cv,w.cell? ⟨g,t * 2,none⟩ = some (.bool nv) ∧ w.cell? ⟨g,t * 2 + 1,none⟩ = some (.slice av lw cv) ∧ Zm 0 w (.agg #[.bool nv,.slice av lw cv]) ((zOB m i).getD t 0) k := by
 obtain ⟨h1,h2,h3,h4,h5,h6⟩ := h;have hi : i < gs.length := (List.getElem?_eq_some_iff.1 hg).1;obtain ⟨ps,p1,p2⟩ := h6 i g hg;have hl : (zOB m i).length = c := h5.at (by omega);have hp : ps[t]? = some (ps[t]'(by rw [p2.1];omega)) := List.getElem?_eq_getElem _;obtain ⟨n0,a0,l0,c0,e⟩ := p1.2 _ (List.getElem_mem (l := ps) (n := t) (by rw [p2.1];omega));have hz : (zOB m i)[t]? = some ((zOB m i).getD t 0) := by simp [show t < (zOB m i).length by omega]
 have q := p1.at hp;have z := p2.2 t _ _ hp hz;rw [e] at q z;exact ⟨n0,a0,l0,c0,q.1,q.2,z⟩
theorem Zms.at {w : World} {g t k : Nat} {ps : List (Value × Value)} {zs : List Int} (h : Zms w ps zs k) (hA : Arr w g ps) (ht : t < zs.length) :
  ∃ nv av lw cv,w.cell? ⟨g,t * 2,none⟩ = some (.bool nv) ∧ w.cell? ⟨g,t * 2 + 1,none⟩ = some (.slice av lw cv) ∧ w.frozen? ⟨g,t * 2,none⟩ = false ∧ w.frozen? ⟨g,t * 2 + 1,none⟩ = false ∧ Zm 0 w (.agg #[.bool nv,.slice av lw cv]) (zs.getD t 0) k := by
 have hp : ps[t]? = some (ps[t]'(by rw [h.1];exact ht)) := List.getElem?_eq_getElem _;obtain ⟨n0,a0,l0,c0,e⟩ := hA.2 _ (List.getElem_mem (l := ps) (n := t) (by rw [h.1];exact ht));have hz : zs[t]? = some (zs.getD t 0) := by simp [ht]
 have q := hA.at hp;have z := h.2 t _ _ hp hz;rw [e] at q z;exact ⟨n0,a0,l0,c0,q.1,q.2,hA.1.fz _,hA.1.fz _,z⟩
theorem Zms.put {w : World} {g t k : Nat} {ps : List (Value × Value)} {zs : List Int} (h : Zms w ps zs k) (hA : Arr w g ps) (ht : t < zs.length) {x y : Value} {z : Int} (hz : Zm 0 w (.agg #[x,y]) z k) :
  Arr (putp w g t x y) g (ps.set t (x,y)) ∧ Zms (putp w g t x y) (ps.set t (x,y)) (zs.set t z) k ∧ Ty 45 w (putp w g t x y) := by
 have hT : Ty 45 w (putp w g t x y) := (Ty.set hA.1).trans (Ty.set (hA.1.set _ _));refine ⟨hA.put (by rw [h.1];exact ht) hz.zi.isI,⟨by simp [h.1],fun j p z' hp hzz => ?_⟩,hT⟩
 by_cases r : j = t
 ·subst r
  rw [List.getElem?_set_self (by rw [h.1];exact ht),Option.some.injEq] at hp;rw [List.getElem?_set_self ht,Option.some.injEq] at hzz;subst hp hzz;exact hz.ty hT (by decide)
 ·rw [List.getElem?_set_ne (by omega)] at hp hzz
  exact (h.2 j p z' hp hzz).ty hT (by decide)
theorem Zms.more {w : World} {ps : List (Value × Value)} {zs : List Int} {k l : Nat} (h : Zms w ps zs k) (hl : k ≤ l) : Zms w ps zs l := ⟨h.1,fun j p z hp hz => (h.2 j p z hp hz).more hl⟩
theorem ShtM.form {B c k : Nat} {w : World} {lv : Value} {gs : List Nat} {m : List (List Int)} (h : ShtM B w lv c gs m k) : ∃ a cap,lv = .slice a m.length cap ∧ m.length ≤ cap ∧ (0 < m.length → ∃ L,a = some ⟨L,0,none⟩ ∧ B ≤ L ∧ L < w.heap.size) := h.sht.form
theorem ShtM.line {B c k L cap n : Nat} {w : World} {gs : List Nat} {m : List (List Int)} (h : ShtM B w (.slice (some ⟨L,0,none⟩) n cap) c gs m k) {i g : Nat} (hg : gs[i]? = some g) : w.cell? ⟨L,i,none⟩ = some (.slice (some ⟨g,0,none⟩) c c) := by
 have h0 := h;obtain ⟨a,cap',e,_,_⟩ := h.form;simp only [Value.slice.injEq] at e;obtain ⟨-,rfl,-⟩ := e;exact (h0.sht.line hg).1
end Go.Proofs.YtffkmeocmjohmaaGreat
