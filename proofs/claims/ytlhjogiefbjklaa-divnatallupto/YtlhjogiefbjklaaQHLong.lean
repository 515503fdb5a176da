import Derived.Test.YtlhjogiefbjklaaQOff3
set_option maxRecDepth 100000
set_option maxHeartbeats 6400000
set_option linter.unusedVariables false
set_option linter.unusedSimpArgs false
namespace Go.Proofs.Ytlhjogiefbjklaa
open Go.RowKit
theorem hsplit_eq {zs zs1 : List Int} {j : Nat} {X : Int} (h : HF zs) (h1 : HF zs1) (hl : zs1.length = zs.length) (hj : j ≤ zs.length) (he : hval zs1 = hval zs + hpw j * X) : hval (zs1.drop j) = hval (zs.drop j) + X := by
 rw [zpA hj,zpA (zs := zs1) (j := j) (by omega)] at he;have a1 := zQA (h.take j);have a2 := zQA (h1.take j);rw [show (zs.take j).length = j by simp;omega] at a1;rw [show (zs1.take j).length = j by simp;omega] at a2;have b1 := zDA (h.take j);have b2 := zDA (h1.take j);generalize hval (zs.take j) = a at *;generalize hval (zs1.take j) = b at *;generalize hval (zs.drop j) = A at *;generalize hval (zs1.drop j) = B at *;generalize hpw j = P at *;have e : P * (B - A - X) = a - b := by rw [Int.mul_sub,Int.mul_sub];omega
 rcases Int.lt_trichotomy (B - A - X) 0 with q | q | q
 ·have := Int.mul_le_mul_of_nonneg_left (show B - A - X ≤ -1 by omega) (show 0 ≤ P by omega)
  rw [Int.mul_neg,Int.mul_one] at this;omega
 ·omega
 ·have := Int.mul_le_mul_of_nonneg_left (show 1 ≤ B - A - X by omega) (show 0 ≤ P by omega)
  rw [Int.mul_one] at this;omega
theorem zzD {zs : List Int} {n : Nat} (h : HF zs) (hv : hval zs < hpw n) : hval (zs.drop n) = 0 := by
 by_cases hn : n ≤ zs.length
 ·rw [zpA hn] at hv
  have b1 := zDA (h.take n);have b2 := zDA (h.drop n);have hP := zWA n;generalize hval (zs.take n) = a at *;generalize hval (zs.drop n) = A at *;generalize hpw n = P at *
  by_cases q : A = 0
  ·exact q
  ·have := Int.mul_le_mul_of_nonneg_left (show 1 ≤ A by omega) (show 0 ≤ P by omega)
   rw [Int.mul_one] at this;omega
 ·rw [List.drop_eq_nil_of_le (by omega)];rfl
def zPD (V : Int) (M L : Nat) (ds Q R : List Int) (k : Nat) : Prop :=
 R.length = L ∧ HF R ∧ Q.length = M ∧ HF Q ∧ (∀ i (h : i < Q.length),i < k → Q[i] = 0) ∧ V = hval Q * hval ds + hval R ∧ hval (R.drop k) < hval ds
def zdB (V : Int) (M L : Nat) (ds Q R : List Int) (j : Nat) : Prop :=
 R.length = L ∧ HF R ∧ Q.length = M ∧ HF Q ∧ (∀ i (h : i < Q.length),i < j → Q[i] = 0) ∧ V = hval Q * hval ds + hval R ∧ hval (R.drop j) + Q.getD j 0 * hval ds < hwB * hval ds
theorem zPD.in {V : Int} {M L : Nat} {ds Q R : List Int} {j : Nat} (h : zPD V M L ds Q R (j + 1)) (hj : j < M) (hL : j < L) : zdB V M L ds Q R j := by
 obtain ⟨h1,h2,h3,h4,h5,h6,h7⟩ := h;refine ⟨h1,h2,h3,h4,fun i hi hij => h5 i hi (by omega),h6,?_⟩;have hz : Q.getD j 0 = 0 := by have := h5 j (by omega) (by omega);simp [show j < Q.length by omega,this]
 have hr := h2.get (show j < R.length by omega);rw [hz,List.drop_eq_getElem_cons (show j < R.length by omega)]
 show R[j] + hwB * hval (R.drop (j + 1)) + 0 * hval ds < _
 unfold IsH hwB at *;omega
theorem zdB.next {V : Int} {M L : Nat} {ds Q R : List Int} {j : Nat} (h : zdB V M L ds Q R j) (hn : ¬ hval ds ≤ hval (R.drop j)) : zPD V M L ds Q R j := by
 obtain ⟨h1,h2,h3,h4,h5,h6,h7⟩ := h;exact ⟨h1,h2,h3,h4,h5,h6,by omega⟩
theorem zdB.below {V : Int} {M L : Nat} {ds Q R : List Int} {j : Nat} (h : zdB V M L ds Q R j) (hd : HF ds) : hval (R.drop j) < hwB * hval ds := by
 obtain ⟨h1,h2,h3,h4,h5,h6,h7⟩ := h;have a1 := (zWC h4 j).1;have a2 := Int.mul_nonneg a1 (zDA hd);omega
theorem zdB.above {V : Int} {M L : Nat} {ds Q R : List Int} {j : Nat} (h : zdB V M L ds Q R j) (hd : HF ds) : hval (R.drop (j + ds.length + 1)) = 0 := by
 have h0 := h.below hd;obtain ⟨h1,h2,h3,h4,h5,h6,h7⟩ := h;have := zzD (h2.drop j) (n := ds.length + 1) (by
  have a1 := zQA hd;have a2 : hwB * hval ds ≤ hwB * hpw ds.length := Int.mul_le_mul_of_nonneg_left (by omega) (by unfold hwB;omega)
  show _ < hwB * hpw ds.length
  omega)
 rw [List.drop_drop,← Nat.add_assoc] at this;exact this
theorem zdB.head {V : Int} {M L : Nat} {ds Q R : List Int} {j N : Nat} (h : zdB V M L ds Q R j) (hd : HF ds) (hN : ds.length = N + 1) (hl : j + N < L) :
  hval (R.drop (j + N)) = R.getD (j + N) 0 + 4294967296 * R.getD (j + N + 1) 0 := by
 have ha := h.above hd;obtain ⟨h1,h2,h3,h4,h5,h6,h7⟩ := h;rw [hN,show j + (N + 1) + 1 = j + N + 2 by omega] at ha;rw [List.drop_eq_getElem_cons (show j + N < R.length by omega)]
 show R[j + N] + hwB * hval (R.drop (j + N + 1)) = _
 have e1 : R.getD (j + N) 0 = R[j + N]'(by omega) := by simp [show j + N < R.length by omega]
 rw [e1]
 by_cases q : j + N + 1 < R.length
 ·rw [List.drop_eq_getElem_cons q]
  show R[j + N] + hwB * (R[j + N + 1] + hwB * hval (R.drop (j + N + 1 + 1))) = _
  have e2 : R.getD (j + N + 1) 0 = R[j + N + 1] := by simp [q]
  rw [e2,show j + N + 1 + 1 = j + N + 2 by omega,ha];unfold hwB;omega
 ·rw [List.drop_eq_nil_of_le (by omega)]
  have e2 : R.getD (j + N + 1) 0 = 0 := by simp [List.getElem?_eq_none (show R.length ≤ j + N + 1 by omega)]
  rw [e2];simp [hval]
theorem zdB.fits {V : Int} {M L : Nat} {ds Q R : List Int} {j N : Nat} {n t : Int} (h : zdB V M L ds Q R j) (hd : HF ds) (hN : ds.length = N + 1) (hl : j + N < L) (ht : t = R.getD (j + N) 0 + 4294967296 * R.getD (j + N + 1) 0) (hn0 : 0 ≤ n)
  (hn : n * (ds[N] + 1) ≤ t) : n * hval ds ≤ hval (R.drop j) := by
 have hh := h.head hd hN hl;obtain ⟨h1,h2,h3,h4,h5,h6,h7⟩ := h;have e := zpA (zs := R.drop j) (j := N) (by rw [List.length_drop];omega);rw [List.drop_drop,hh,← ht] at e;have b1 := zDA ((h2.drop j).take N);have hb : hval ds = hval (ds.take N) + ds[N] * hpw N := by
  have := zNA ds N (by omega)
  rwa [← hN,List.take_length] at this
 have b2 := zQA (hd.take N);rw [show (ds.take N).length = N by simp;omega] at b2;have hP := zWA N;have a1 : hval ds ≤ (ds[N] + 1) * hpw N := by rw [hb,Int.add_mul,Int.one_mul];omega
 have a2 := Int.mul_le_mul_of_nonneg_left a1 hn0;have a3 := Int.mul_le_mul_of_nonneg_right hn (Int.le_of_lt hP);rw [Int.mul_assoc] at a3;rw [Int.mul_comm t] at a3;omega
theorem zdB.word {V : Int} {M L : Nat} {ds Q R : List Int} {j : Nat} {n : Int} (h : zdB V M L ds Q R j) (hd : HF ds) (hj : j < M) (hp : 0 < hval ds) (hn0 : 0 ≤ n) (hn : n * hval ds ≤ hval (R.drop j)) : n < 4294967296 ∧ 0 ≤ Q[j]'(by rw [h.2.2.1];exact hj) ∧ Q[j]'(by rw [h.2.2.1];exact hj) + n < 4294967296 := by
 obtain ⟨h1,h2,h3,h4,h5,h6,h7⟩ := h;have hq : Q.getD j 0 = Q[j]'(by omega) := by simp [show j < Q.length by omega]
 have hq0 := (h4.get (show j < Q.length by omega)).1;rw [hq] at h7;have key : (Q[j]'(by omega) + n) * hval ds < hwB * hval ds := by rw [Int.add_mul];omega
 have k2 := Int.lt_of_mul_lt_mul_right key (Int.le_of_lt hp);unfold hwB at k2;exact ⟨by omega,hq0,k2⟩
theorem zdB.step {V : Int} {M L : Nat} {ds Q R R2 : List Int} {j : Nat} {n : Int} (h : zdB V M L ds Q R j) (hd : HF ds) (hj : j < M) (hjl : j ≤ L) (hp : 0 < hval ds) (hn0 : 1 ≤ n) (hn : n * hval ds ≤ hval (R.drop j)) (hl : R2.length = R.length) (hf : HF R2) (hv : hval R2 = hval R - hpw j * (n * hval ds)) :
  zdB V M L ds (Q.set j (Q[j]'(by rw [h.2.2.1];exact hj) + n)) R2 j ∧ hval R2 < hval R := by
 obtain ⟨w1,w2,w3⟩ := h.word hd hj hp (by omega) hn;obtain ⟨h1,h2,h3,h4,h5,h6,h7⟩ := h;have hd2 := hsplit_eq (j := j) (X := -(n * hval ds)) h2 hf hl (by omega) (by rw [hv,Int.mul_neg];omega);have hq : Q.getD j 0 = Q[j]'(by omega) := by simp [show j < Q.length by omega]
 rw [hq] at h7;have hpos := Int.mul_pos (show 0 < n by omega) hp;refine ⟨⟨hl.trans h1,hf,by rw [List.length_set];exact h3,h4.set j (by unfold IsH hwB;omega),fun i hi hij => ?_,?_,?_⟩,?_⟩
 ·rw [List.getElem_set_ne (by omega)];exact h5 i (by simpa using hi) hij
 ·rw [zCB Q j _ (by omega),show Q[j]'(by omega) + n - Q[j]'(by omega) = n by omega,hv,h6,Int.add_mul,Int.mul_assoc n,Int.mul_left_comm n]
  omega
 ·have e : (Q.set j (Q[j]'(by omega) + n)).getD j 0 = Q[j]'(by omega) + n := by simp [show j < Q.length by omega]
  rw [e,hd2,Int.add_mul];omega
 ·have := Int.mul_pos (zWA j) hpos
  omega
theorem zdB.off {V : Int} {M L : Nat} {ds Q R : List Int} {j : Nat} {n : Int} (h : zdB V M L ds Q R j) (hjl : j ≤ L) (hn : n * hval ds ≤ hval (R.drop j)) : hpw j * (n * hval ds) ≤ hval R := by
 obtain ⟨h1,h2,_⟩ := h;have e := zpA (zs := R) (j := j) (by omega);have b1 := zDA (h2.take j);have b2 := Int.mul_le_mul_of_nonneg_left hn (Int.le_of_lt (zWA j));omega
def zcB (L zs : List Int) (k : Nat) (W r : Int) : Prop :=
 zs.length = L.length ∧ HF zs ∧ (∀ j (h : j < zs.length) (h' : j < L.length),j < k → zs[j] = L[j]) ∧ hval L = hval (L.take k) + hpw k * (W * hval (zs.drop k) + r)
theorem zcB.start {L : List Int} (hL : HF L) (W : Int) : zcB L L L.length W 0 := ⟨rfl,hL,fun j _ _ _ => rfl,by simp [hval]⟩
theorem hword_sum (a p x W V r q r' : Int) (h : q * W + r' = r * hwB + x) : a + x * p + hwB * p * (W * V + r) = a + p * (W * (q + hwB * V) + r') := by
 have e : r' = r * hwB + x - q * W := by omega
 subst e;simp only [Int.mul_add,Int.mul_sub,Int.mul_comm,Int.mul_left_comm];omega
theorem zcB.step {L zs : List Int} {k : Nat} {W r q r' : Int} (h : zcB L zs (k + 1) W r) (hk : k < L.length) (hq : IsH q) (he : q * W + r' = r * hwB + L[k]) : zcB L (zs.set k q) k W r' := by
 obtain ⟨h1,h2,h3,h4⟩ := h;refine ⟨by rw [List.length_set];exact h1,h2.set k hq,fun j hj hj' hjk => ?_,?_⟩
 ·rw [List.getElem_set_ne (by omega)];exact h3 j (by simpa using hj) hj' (by omega)
 ·rw [h4,zFD (by omega),zNA L k hk]
  show _ = _ + hpw k * (W * (q + hwB * hval (zs.drop (k + 1))) + r')
  exact hword_sum _ _ _ _ _ _ _ _ he
theorem zcB.done {L zs : List Int} {W r : Int} (h : zcB L zs 0 W r) : hval L = W * hval zs + r := by
 have := h.2.2.2
 simpa [hval,hpw] using this
theorem hdiv_word {r x W : Int} (hr0 : 0 ≤ r) (hr1 : r < W) (hx0 : 0 ≤ x) (hx1 : x < 4294967296) (hW1 : W < 4294967296) :
  0 ≤ r * 4294967296 + x ∧ r * 4294967296 + x ≤ 18446744073709551615 ∧ IsH ((r * 4294967296 + x) / W) ∧ 0 ≤ (r * 4294967296 + x) % W ∧ (r * 4294967296 + x) % W < W ∧ (r * 4294967296 + x) / W * W + (r * 4294967296 + x) % W = r * hwB + x := by
 have hW : 0 < W := by omega
 have e1 := Int.emod_nonneg (r * 4294967296 + x) (show W ≠ 0 by omega);have e2 := Int.emod_lt_of_pos (r * 4294967296 + x) hW;have e3 := Int.mul_ediv_add_emod (r * 4294967296 + x) W;have e4 : 0 ≤ (r * 4294967296 + x) / W := Int.ediv_nonneg (by omega) (by omega);have e5 : (r * 4294967296 + x) / W < 4294967296 := by
  refine Int.ediv_lt_of_lt_mul hW ?_;have : (r + 1) * 4294967296 ≤ W * 4294967296 := Int.mul_le_mul_of_nonneg_right (by omega) (by omega);rw [Int.mul_comm 4294967296];omega
 refine ⟨by omega,by omega,⟨e4,by unfold hwB;exact e5⟩,e1,e2,?_⟩;rw [Int.mul_comm,e3];rfl
theorem unscale {f r D E Q R Z : Int} (hf : 0 < f) (hr0 : 0 ≤ r) (hr1 : r < f) (h1 : R = f * Z + r) (h2 : f * D = Q * (f * E) + R) (h3 : R < f * E) (hz : 0 ≤ Z) : D = E * Q + Z ∧ Z < E := by
 have e : f * (D - E * Q - Z) = r := by
  rw [Int.mul_sub,Int.mul_sub];have : Q * (f * E) = f * (E * Q) := by rw [Int.mul_left_comm,Int.mul_comm Q]
  omega
 have e2 : D - E * Q - Z = 0 := by
  rcases Int.lt_trichotomy (D - E * Q - Z) 0 with q | q | q
  ·have := Int.mul_le_mul_of_nonneg_left (show D - E * Q - Z ≤ -1 by omega) (Int.le_of_lt hf)
   rw [Int.mul_neg,Int.mul_one] at this;omega
  ·exact q
  ·have := Int.mul_le_mul_of_nonneg_left (show 1 ≤ D - E * Q - Z by omega) (Int.le_of_lt hf)
   rw [Int.mul_one] at this;omega
 refine ⟨by omega,?_⟩;have e3 : f * Z < f * E := by omega
 exact Int.lt_of_mul_lt_mul_left e3 (Int.le_of_lt hf)
end Go.Proofs.Ytlhjogiefbjklaa
