/-
 QHLongToLong3: HLong, Guess, Long3, joined.
-/
import Derived.Test.YtppddlbkdoebmaaQOff3
import Derived.Test.YtppddlbkdoebmaaQDivPartsToScale3

set_option maxRecDepth 100000
set_option maxHeartbeats 6400000
set_option linter.unusedVariables false
set_option linter.unusedSimpArgs false
namespace Go.Proofs.Ytppddlbkdoebmaa
open Go.RowKit
theorem hsplit_eq {zs zs1 : List Int} {j : Nat} {X : Int} (h : HF zs) (h1 : HF zs1) (hl : zs1.length = zs.length) (hj : j ≤ zs.length) (he : hval zs1 = hval zs + hpw j * X) : hval (zs1.drop j) = hval (zs.drop j) + X := by
 rw [zwA hj,zwA (zs := zs1) (j := j) (by omega)] at he;have a1 := zVA (h.take j);have a2 := zVA (h1.take j);rw [show (zs.take j).length = j by simp;omega] at a1;rw [show (zs1.take j).length = j by simp;omega] at a2;have b1 := zDA (h.take j);have b2 := zDA (h1.take j);generalize hval (zs.take j) = a at *;generalize hval (zs1.take j) = b at *;generalize hval (zs.drop j) = A at *;generalize hval (zs1.drop j) = B at *;generalize hpw j = P at *;have e : P * (B - A - X) = a - b := by rw [Int.mul_sub,Int.mul_sub];omega
 rcases Int.lt_trichotomy (B - A - X) 0 with q | q | q
 ·have := Int.mul_le_mul_of_nonneg_left (show B - A - X ≤ -1 by omega) (show 0 ≤ P by omega)
  rw [Int.mul_neg,Int.mul_one] at this;omega
 ·omega
 ·have := Int.mul_le_mul_of_nonneg_left (show 1 ≤ B - A - X by omega) (show 0 ≤ P by omega)
  rw [Int.mul_one] at this;omega
theorem zCF {zs : List Int} {n : Nat} (h : HF zs) (hv : hval zs < hpw n) : hval (zs.drop n) = 0 := by
 by_cases hn : n ≤ zs.length
 ·rw [zwA hn] at hv
  have b1 := zDA (h.take n);have b2 := zDA (h.drop n);have hP := zcA n;generalize hval (zs.take n) = a at *;generalize hval (zs.drop n) = A at *;generalize hpw n = P at *
  by_cases q : A = 0
  ·exact q
  ·have := Int.mul_le_mul_of_nonneg_left (show 1 ≤ A by omega) (show 0 ≤ P by omega)
   rw [Int.mul_one] at this;omega
 ·rw [List.drop_eq_nil_of_le (by omega)];rfl
def zzD (V : Int) (M L : Nat) (ds Q R : List Int) (k : Nat) : Prop :=
 R.length = L ∧ HF R ∧ Q.length = M ∧ HF Q ∧ (∀ i (h : i < Q.length),i < k → Q[i] = 0) ∧ V = hval Q * hval ds + hval R ∧ hval (R.drop k) < hval ds
def zzB (V : Int) (M L : Nat) (ds Q R : List Int) (j : Nat) : Prop :=
 R.length = L ∧ HF R ∧ Q.length = M ∧ HF Q ∧ (∀ i (h : i < Q.length),i < j → Q[i] = 0) ∧ V = hval Q * hval ds + hval R ∧ hval (R.drop j) + Q.getD j 0 * hval ds < hwB * hval ds
theorem zzD.in {V : Int} {M L : Nat} {ds Q R : List Int} {j : Nat} (h : zzD V M L ds Q R (j + 1)) (hj : j < M) (hL : j < L) : zzB V M L ds Q R j := by
 obtain ⟨h1,h2,h3,h4,h5,h6,h7⟩ := h;refine ⟨h1,h2,h3,h4,fun i hi hij => h5 i hi (by omega),h6,?_⟩;have hz : Q.getD j 0 = 0 := by have := h5 j (by omega) (by omega);simp [show j < Q.length by omega,this]
 have hr := h2.get (show j < R.length by omega);rw [hz,List.drop_eq_getElem_cons (show j < R.length by omega)]
 show R[j] + hwB * hval (R.drop (j + 1)) + 0 * hval ds < _
 unfold IsH hwB at *;omega
theorem zzB.next {V : Int} {M L : Nat} {ds Q R : List Int} {j : Nat} (h : zzB V M L ds Q R j) (hn : ¬ hval ds ≤ hval (R.drop j)) : zzD V M L ds Q R j := by
 obtain ⟨h1,h2,h3,h4,h5,h6,h7⟩ := h;exact ⟨h1,h2,h3,h4,h5,h6,by omega⟩
theorem zzB.below {V : Int} {M L : Nat} {ds Q R : List Int} {j : Nat} (h : zzB V M L ds Q R j) (hd : HF ds) : hval (R.drop j) < hwB * hval ds := by
 obtain ⟨h1,h2,h3,h4,h5,h6,h7⟩ := h;have a1 := (zFD h4 j).1;have a2 := Int.mul_nonneg a1 (zDA hd);omega
theorem zzB.above {V : Int} {M L : Nat} {ds Q R : List Int} {j : Nat} (h : zzB V M L ds Q R j) (hd : HF ds) : hval (R.drop (j + ds.length + 1)) = 0 := by
 have h0 := h.below hd;obtain ⟨h1,h2,h3,h4,h5,h6,h7⟩ := h;have := zCF (h2.drop j) (n := ds.length + 1) (by
  have a1 := zVA hd;have a2 : hwB * hval ds ≤ hwB * hpw ds.length := Int.mul_le_mul_of_nonneg_left (by omega) (by unfold hwB;omega)
  show _ < hwB * hpw ds.length
  omega)
 rw [List.drop_drop,← Nat.add_assoc] at this;exact this
theorem zzB.head {V : Int} {M L : Nat} {ds Q R : List Int} {j N : Nat} (h : zzB V M L ds Q R j) (hd : HF ds) (hN : ds.length = N + 1) (hl : j + N < L) :
  hval (R.drop (j + N)) = R.getD (j + N) 0 + 4294967296 * R.getD (j + N + 1) 0 := by
 have ha := h.above hd;obtain ⟨h1,h2,h3,h4,h5,h6,h7⟩ := h;rw [hN,show j + (N + 1) + 1 = j + N + 2 by omega] at ha;rw [List.drop_eq_getElem_cons (show j + N < R.length by omega)]
 show R[j + N] + hwB * hval (R.drop (j + N + 1)) = _
 have e1 : R.getD (j + N) 0 = R[j + N]'(by omega) := by simp [show j + N < R.length by omega]
 rw [e1]
 by_cases q : j + N + 1 < R.length
 ·rw [List.drop_eq_getElem_cons q]
  show R[j + N] + hwB * (R[j + N + 1] + hwB * hval (R.drop (j + N + 1 + 1))) = _
  have e2 : R.getD (j + N + 1) 0 = R[j + N + 1] := by simp [q]
  rw [e2,show j + N + 1 + 1 = j + N + 2 by omega,ha];unfold hwB;omega
 ·rw [List.drop_eq_nil_of_le (by omega)]
  have e2 : R.getD (j + N + 1) 0 = 0 := by simp [List.getElem?_eq_none (show R.length ≤ j + N + 1 by omega)]
  rw [e2];simp [hval]
theorem zzB.fits {V : Int} {M L : Nat} {ds Q R : List Int} {j N : Nat} {n t : Int} (h : zzB V M L ds Q R j) (hd : HF ds) (hN : ds.length = N + 1) (hl : j + N < L) (ht : t = R.getD (j + N) 0 + 4294967296 * R.getD (j + N + 1) 0) (hn0 : 0 ≤ n)
  (hn : n * (ds[N] + 1) ≤ t) : n * hval ds ≤ hval (R.drop j) := by
 have hh := h.head hd hN hl;obtain ⟨h1,h2,h3,h4,h5,h6,h7⟩ := h;have e := zwA (zs := R.drop j) (j := N) (by rw [List.length_drop];omega);rw [List.drop_drop,hh,← ht] at e;have b1 := zDA ((h2.drop j).take N);have hb : hval ds = hval (ds.take N) + ds[N] * hpw N := by
  have := zQA ds N (by omega)
  rwa [← hN,List.take_length] at this
 have b2 := zVA (hd.take N);rw [show (ds.take N).length = N by simp;omega] at b2;have hP := zcA N;have a1 : hval ds ≤ (ds[N] + 1) * hpw N := by rw [hb,Int.add_mul,Int.one_mul];omega
 have a2 := Int.mul_le_mul_of_nonneg_left a1 hn0;have a3 := Int.mul_le_mul_of_nonneg_right hn (Int.le_of_lt hP);rw [Int.mul_assoc] at a3;rw [Int.mul_comm t] at a3;omega
theorem zzB.word {V : Int} {M L : Nat} {ds Q R : List Int} {j : Nat} {n : Int} (h : zzB V M L ds Q R j) (hd : HF ds) (hj : j < M) (hp : 0 < hval ds) (hn0 : 0 ≤ n) (hn : n * hval ds ≤ hval (R.drop j)) : n < 4294967296 ∧ 0 ≤ Q[j]'(by rw [h.2.2.1];exact hj) ∧ Q[j]'(by rw [h.2.2.1];exact hj) + n < 4294967296 := by
 obtain ⟨h1,h2,h3,h4,h5,h6,h7⟩ := h;have hq : Q.getD j 0 = Q[j]'(by omega) := by simp [show j < Q.length by omega]
 have hq0 := (h4.get (show j < Q.length by omega)).1;rw [hq] at h7;have key : (Q[j]'(by omega) + n) * hval ds < hwB * hval ds := by rw [Int.add_mul];omega
 have k2 := Int.lt_of_mul_lt_mul_right key (Int.le_of_lt hp);unfold hwB at k2;exact ⟨by omega,hq0,k2⟩
theorem zzB.step {V : Int} {M L : Nat} {ds Q R R2 : List Int} {j : Nat} {n : Int} (h : zzB V M L ds Q R j) (hd : HF ds) (hj : j < M) (hjl : j ≤ L) (hp : 0 < hval ds) (hn0 : 1 ≤ n) (hn : n * hval ds ≤ hval (R.drop j)) (hl : R2.length = R.length) (hf : HF R2) (hv : hval R2 = hval R - hpw j * (n * hval ds)) :
  zzB V M L ds (Q.set j (Q[j]'(by rw [h.2.2.1];exact hj) + n)) R2 j ∧ hval R2 < hval R := by
 obtain ⟨w1,w2,w3⟩ := h.word hd hj hp (by omega) hn;obtain ⟨h1,h2,h3,h4,h5,h6,h7⟩ := h;have hd2 := hsplit_eq (j := j) (X := -(n * hval ds)) h2 hf hl (by omega) (by rw [hv,Int.mul_neg];omega);have hq : Q.getD j 0 = Q[j]'(by omega) := by simp [show j < Q.length by omega]
 rw [hq] at h7;have hpos := Int.mul_pos (show 0 < n by omega) hp;refine ⟨⟨hl.trans h1,hf,by rw [List.length_set];exact h3,h4.set j (by unfold IsH hwB;omega),fun i hi hij => ?_,?_,?_⟩,?_⟩
 ·rw [List.getElem_set_ne (by omega)];exact h5 i (by simpa using hi) hij
 ·rw [zQB Q j _ (by omega),show Q[j]'(by omega) + n - Q[j]'(by omega) = n by omega,hv,h6,Int.add_mul,Int.mul_assoc n,Int.mul_left_comm n]
  omega
 ·have e : (Q.set j (Q[j]'(by omega) + n)).getD j 0 = Q[j]'(by omega) + n := by simp [show j < Q.length by omega]
  rw [e,hd2,Int.add_mul];omega
 ·have := Int.mul_pos (zcA j) hpos
  omega
theorem zzB.off {V : Int} {M L : Nat} {ds Q R : List Int} {j : Nat} {n : Int} (h : zzB V M L ds Q R j) (hjl : j ≤ L) (hn : n * hval ds ≤ hval (R.drop j)) : hpw j * (n * hval ds) ≤ hval R := by
 obtain ⟨h1,h2,_⟩ := h;have e := zwA (zs := R) (j := j) (by omega);have b1 := zDA (h2.take j);have b2 := Int.mul_le_mul_of_nonneg_left hn (Int.le_of_lt (zcA j));omega
def zyB (L zs : List Int) (k : Nat) (W r : Int) : Prop :=
 zs.length = L.length ∧ HF zs ∧ (∀ j (h : j < zs.length) (h' : j < L.length),j < k → zs[j] = L[j]) ∧ hval L = hval (L.take k) + hpw k * (W * hval (zs.drop k) + r)
theorem zyB.start {L : List Int} (hL : HF L) (W : Int) : zyB L L L.length W 0 := ⟨rfl,hL,fun j _ _ _ => rfl,by simp [hval]⟩
theorem hword_sum (a p x W V r q r' : Int) (h : q * W + r' = r * hwB + x) : a + x * p + hwB * p * (W * V + r) = a + p * (W * (q + hwB * V) + r') := by
 have e : r' = r * hwB + x - q * W := by omega
 subst e;simp only [Int.mul_add,Int.mul_sub,Int.mul_comm,Int.mul_left_comm];omega
theorem zyB.step {L zs : List Int} {k : Nat} {W r q r' : Int} (h : zyB L zs (k + 1) W r) (hk : k < L.length) (hq : IsH q) (he : q * W + r' = r * hwB + L[k]) : zyB L (zs.set k q) k W r' := by
 obtain ⟨h1,h2,h3,h4⟩ := h;refine ⟨by rw [List.length_set];exact h1,h2.set k hq,fun j hj hj' hjk => ?_,?_⟩
 ·rw [List.getElem_set_ne (by omega)];exact h3 j (by simpa using hj) hj' (by omega)
 ·rw [h4,zpD (by omega),zQA L k hk]
  show _ = _ + hpw k * (W * (q + hwB * hval (zs.drop (k + 1))) + r')
  exact hword_sum _ _ _ _ _ _ _ _ he
theorem zyB.done {L zs : List Int} {W r : Int} (h : zyB L zs 0 W r) : hval L = W * hval zs + r := by
 have := h.2.2.2
 simpa [hval,hpw] using this
theorem hdiv_word {r x W : Int} (hr0 : 0 ≤ r) (hr1 : r < W) (hx0 : 0 ≤ x) (hx1 : x < 4294967296) (hW1 : W < 4294967296) :
  0 ≤ r * 4294967296 + x ∧ r * 4294967296 + x ≤ 18446744073709551615 ∧ IsH ((r * 4294967296 + x) / W) ∧ 0 ≤ (r * 4294967296 + x) % W ∧ (r * 4294967296 + x) % W < W ∧ (r * 4294967296 + x) / W * W + (r * 4294967296 + x) % W = r * hwB + x := by
 have hW : 0 < W := by omega
 have e1 := Int.emod_nonneg (r * 4294967296 + x) (show W ≠ 0 by omega);have e2 := Int.emod_lt_of_pos (r * 4294967296 + x) hW;have e3 := Int.mul_ediv_add_emod (r * 4294967296 + x) W;have e4 : 0 ≤ (r * 4294967296 + x) / W := Int.ediv_nonneg (by omega) (by omega);have e5 : (r * 4294967296 + x) / W < 4294967296 := by
  refine Int.ediv_lt_of_lt_mul hW ?_;have : (r + 1) * 4294967296 ≤ W * 4294967296 := Int.mul_le_mul_of_nonneg_right (by omega) (by omega);rw [Int.mul_comm 4294967296];omega
 refine ⟨by omega,by omega,⟨e4,by unfold hwB;exact e5⟩,e1,e2,?_⟩;rw [Int.mul_comm,e3];rfl
theorem unscale {f r D E Q R Z : Int} (hf : 0 < f) (hr0 : 0 ≤ r) (hr1 : r < f) (h1 : R = f * Z + r) (h2 : f * D = Q * (f * E) + R) (h3 : R < f * E) (hz : 0 ≤ Z) : D = E * Q + Z ∧ Z < E := by
 have e : f * (D - E * Q - Z) = r := by
  rw [Int.mul_sub,Int.mul_sub];have : Q * (f * E) = f * (E * Q) := by rw [Int.mul_left_comm,Int.mul_comm Q]
  omega
 have e2 : D - E * Q - Z = 0 := by
  rcases Int.lt_trichotomy (D - E * Q - Z) 0 with q | q | q
  ·have := Int.mul_le_mul_of_nonneg_left (show D - E * Q - Z ≤ -1 by omega) (Int.le_of_lt hf)
   rw [Int.mul_neg,Int.mul_one] at this;omega
  ·exact q
  ·have := Int.mul_le_mul_of_nonneg_left (show 1 ≤ D - E * Q - Z by omega) (Int.le_of_lt hf)
   rw [Int.mul_one] at this;omega
 refine ⟨by omega,?_⟩;have e3 : f * Z < f * E := by omega
 exact Int.lt_of_mul_lt_mul_left e3 (Int.le_of_lt hf)
theorem zWE {bs : List Int} {N : Nat} (h : bs.length = N + 1) : val bs = val (bs.take N) + bs[N] * pw N := by
 have := zOA bs N (by omega)
 rwa [← h,List.take_length] at this
theorem val_top2 {ps : List Int} {N : Nat} (h : ps.length = N + 2) : val ps = val (ps.take N) + (ps[N] + wB * ps[N + 1]) * pw N := by
 rw [zWE (N := N + 1) h,zOA ps N (by omega),pw];generalize pw N = P;generalize val (ps.take N) = V;generalize ps[N] = a;generalize ps[N + 1] = b
 grind
theorem guess_ok {ps bs : List Int} {N : Nat} {q r : Int} (hp : WF ps) (hb : WF bs) (h1 : ps.length = N + 2) (h2 : bs.length = N + 1) (hq : 0 ≤ q) (hr : r < bs[N]) (he : q * bs[N] + r = ps[N + 1] * wB + ps[N]) : val ps < (q + 1) * val bs := by
 rw [val_top2 h1,zWE h2];have l1 := zXA (hp.take N);have l2 := val_nonneg (hb.take N);rw [show (ps.take N).length = N by simp;omega] at l1;have hP := zhA N;generalize pw N = P at *;generalize val (ps.take N) = V at *;generalize val (bs.take N) = U at *;generalize bs[N] = t at *;generalize ps[N] = a at *;generalize ps[N + 1] = b at *;have e1 : a + wB * b + 1 ≤ (q + 1) * t := by rw [Int.add_mul,Int.one_mul,Int.mul_comm wB];omega
 have e2 := Int.mul_le_mul_of_nonneg_right e1 (Int.le_of_lt hP);have e3 : 0 ≤ (q + 1) * U := Int.mul_nonneg (by omega) l2;rw [Int.mul_add (q + 1),← Int.mul_assoc];rw [Int.add_mul (a + wB * b),Int.one_mul] at e2;omega
theorem guess_any {B : Nat} {w : World} {v u : Value} {ps bs : List Int} {N : Nat} (h : Sl B w v ps) (h' : Sl B w u bs) (h1 : ps.length = N + 2) (h2 : bs.length = N + 1) (hlt : val ps < wB * val bs) :
  Calls Try.prog 70 #[v,u] w fun e w' => (∃ d,e = .returned (.int .u64 d) ∧ IsW d ∧ val ps < (d + 1) * val bs) ∧ ∃ n,w' = w.drewN n := by
 obtain ⟨hwp,a,cap,rfl,hlc,hcm,hm⟩ := h;obtain ⟨hwb,a',cap',rfl,hlc',hcm',hm'⟩ := h';rcases hm with e | ⟨b,off,rfl,hbB,hc⟩
 ·subst e;simp at h1
 rcases hm' with e | ⟨b',off',rfl,hbB',hc'⟩
 ·subst e;simp at h2
 have HG : Hid (∀ q r : Int,0 ≤ q → r < bs[N] → q * bs[N] + r = ps[N + 1] * wB + ps[N] → val ps < (q + 1) * val bs) := fun q r q1 q2 q3 => guess_ok hwp hwb h1 h2 q1 q2 q3
 have HLT := hid hlt;have w1 := hwp.get (show N < ps.length by omega);have w2 := hwp.get (show N + 1 < ps.length by omega);have w3 := hwb.get (show N < bs.length by omega);have c1 : ∀ q,(w.drewN q).cell? ⟨b,off + (N + 1),none⟩ = some (.int .u64 ps[N + 1]) := fun q => by simpa using hc (N + 1) (by omega)
 have c2 : ∀ q,(w.drewN q).cell? ⟨b,off + N,none⟩ = some (.int .u64 ps[N]) := fun q => by simpa using hc N (by omega)
 have c3 : ∀ q,(w.drewN q).cell? ⟨b',off' + N,none⟩ = some (.int .u64 bs[N]) := fun q => by simpa using hc' N (by omega)
 have c1' : w.cell? ⟨b,off + (N + 1),none⟩ = some (.int .u64 ps[N + 1]) := c1 0;have c2' : w.cell? ⟨b,off + N,none⟩ = some (.int .u64 ps[N]) := c2 0;have c3' : w.cell? ⟨b',off' + N,none⟩ = some (.int .u64 bs[N]) := c3 0;rw [h1,h2];rw [h1] at hlc hcm;rw [h2] at hlc' hcm';clear hc hc' hlt;generalize ps[N + 1] = p1 at *;generalize ps[N] = p0 at *;generalize bs[N] = t at *;have eN : ((N + 1 : Nat) : Int) - 1 = (N : Int) := by omega
 have HEND : Hid (IsW 18446744073709551615 ∧ val ps < (18446744073709551615 + 1) * val bs) := ⟨by unfold IsW wB;omega,HLT.out⟩
 clear h1 h2 hwp hwb HLT
 by_cases hge : t ≤ p1
 ·clear HG
  go_enter Try.func70,Try.ntmps70;go_wp2_with fail;go_quiet (fail);go_wp2;go_ret;exact ⟨⟨_,rfl,HEND.out⟩,_,rfl⟩
 ·obtain ⟨q,r,hq,hr0,hr1,he,hdiv⟩ := zIF w2 w1 w3 (by omega)
  have HQ := hid (HG.out q r hq.1 hr1 he);clear HG he;go_enter Try.func70,Try.ntmps70;go_wp2_with fail;go_quiet (fail);go_wp2_with fail;go_quiet ((go_at_call 19;exact (hdiv _).mono (fun e w'' h => ⟨h.1,by obtain ⟨_,n,h2⟩ := h;exact ⟨_,by rw [h2,World.drewN_drewN,Nat.add_assoc]⟩⟩)));go_wp2;go_ret;exact ⟨⟨q,rfl,hq,HQ.out⟩,by first | exact ⟨_,rfl⟩ | exact ⟨_,World.drewN_drewN _ _ _⟩⟩
theorem zYD {zs : List Int} {j : Nat} (hj : j ≤ zs.length) : val zs = val (zs.take j) + pw j * val (zs.drop j) := by
 have h := zfA (zs.take j) (zs.drop j);rw [List.take_append_drop,show (zs.take j).length = j by simp;omega] at h;exact h
theorem WF.dropped {xs : List Int} (h : WF xs) (n : Nat) : WF (xs.drop n) := fun x hx => h x (List.mem_of_mem_drop hx)
theorem split_eq {zs zs1 : List Int} {j : Nat} {X : Int} (h : WF zs) (h1 : WF zs1) (hl : zs1.length = zs.length) (hj : j ≤ zs.length) (he : val zs1 = val zs + pw j * X) : val (zs1.drop j) = val (zs.drop j) + X := by
 rw [zYD hj,zYD (zs := zs1) (j := j) (by omega)] at he;have a1 := zXA (h.take j);have a2 := zXA (h1.take j);rw [show (zs.take j).length = j by simp;omega] at a1;rw [show (zs1.take j).length = j by simp;omega] at a2;have b1 := val_nonneg (h.take j);have b2 := val_nonneg (h1.take j);generalize val (zs.take j) = a at *;generalize val (zs1.take j) = b at *;generalize val (zs.drop j) = A at *;generalize val (zs1.drop j) = B at *;generalize pw j = P at *;have e : P * (B - A - X) = a - b := by rw [Int.mul_sub,Int.mul_sub];omega
 rcases Int.lt_trichotomy (B - A - X) 0 with q | q | q
 ·have := Int.mul_le_mul_of_nonneg_left (show B - A - X ≤ -1 by omega) (show 0 ≤ P by omega)
  rw [Int.mul_neg,Int.mul_one] at this;omega
 ·omega
 ·have := Int.mul_le_mul_of_nonneg_left (show 1 ≤ B - A - X by omega) (show 0 ≤ P by omega)
  rw [Int.mul_one] at this;omega
theorem top_zero {zs : List Int} {n : Nat} (h : WF zs) (hn : n ≤ zs.length) (hv : val zs < pw n) : val (zs.drop n) = 0 := by
 rw [zYD hn] at hv;have b1 := val_nonneg (h.take n);have b2 := val_nonneg (h.dropped n);have hP := zhA n;generalize val (zs.take n) = a at *;generalize val (zs.drop n) = A at *;generalize pw n = P at *
 by_cases q : A = 0
 ·exact q
 ·have := Int.mul_le_mul_of_nonneg_left (show 1 ≤ A by omega) (show 0 ≤ P by omega)
  rw [Int.mul_one] at this;omega
def zOB (zs0 bs qs zs : List Int) (k : Nat) : Prop :=
 zs.length = zs0.length ∧ WF zs ∧ qs.length + bs.length = zs0.length ∧ WF qs ∧ (∀ i (h : i < qs.length),i < k → qs[i] = 0) ∧ val zs0 = val qs * val bs + val zs ∧ val (zs.drop k) < val bs
def zaB (zs bs zs1 : List Int) (j : Nat) (D c : Int) : Prop :=
 zs1.length = zs.length ∧ WF zs1 ∧ val zs1 - pw (j + bs.length + 1) * c = val zs - pw j * (val bs * D) ∧ zs1.drop (j + bs.length + 1) = zs.drop (j + bs.length + 1) ∧ val (zs.drop j) < (D + 1) * val bs ∧ IsW D
theorem zOB.above {zs0 bs qs zs : List Int} {j : Nat} (h : zOB zs0 bs qs zs (j + 1)) (hb : WF bs) (hj : j < qs.length) : val (zs.drop (j + bs.length + 1)) = 0 := by
 obtain ⟨h1,h2,h3,h4,h5,h6,h7⟩ := h;have := top_zero (h2.dropped (j + 1)) (n := bs.length) (by rw [List.length_drop];omega) (Int.lt_trans h7 (zXA hb));rw [List.drop_drop] at this;rw [show j + bs.length + 1 = j + 1 + bs.length by omega];exact this
theorem zOB.part {zs0 bs qs zs : List Int} {j : Nat} (h : zOB zs0 bs qs zs (j + 1)) (hb : WF bs) (hj : j < qs.length) : val ((zs.drop j).take (bs.length + 1)) = val (zs.drop j) := by
 have ha := h.above hb hj;obtain ⟨h1,h2,h3,h4,h5,h6,h7⟩ := h;have := zYD (zs := zs.drop j) (j := bs.length + 1) (by rw [List.length_drop];omega);rw [List.drop_drop,← Nat.add_assoc,ha,Int.mul_zero,Int.add_zero] at this;exact this.symm
theorem zOB.small {zs0 bs qs zs : List Int} {j : Nat} (h : zOB zs0 bs qs zs (j + 1)) (hj : j < qs.length) : val (zs.drop j) < wB * val bs := by
 obtain ⟨h1,h2,h3,h4,h5,h6,h7⟩ := h;have hz : j < zs.length := by omega
 rw [List.drop_eq_getElem_cons hz];have hw := h2.get hz
 show zs[j] + wB * val (zs.drop (j + 1)) < _
 unfold IsW wB at *;omega
theorem zaB.one {zs0 bs qs zs zs1 : List Int} {j : Nat} {D c : Int} (hL : zOB zs0 bs qs zs (j + 1)) (hb : WF bs) (hj : j < qs.length) (h : zaB zs bs zs1 j D c) :
  val (zs1.drop j) - pw (bs.length + 1) * c = val (zs.drop j) - D * val bs ∧ val (zs1.drop j) < pw (bs.length + 1) ∧ 0 ≤ val (zs1.drop j) := by
 have ha := hL.above hb hj;obtain ⟨h1,h2,h3,h4,h5,h6,h7⟩ := hL;obtain ⟨d1,d2,d3,d4,d5,d6⟩ := h;refine ⟨?_,?_,val_nonneg (d2.dropped j)⟩
 ·have := split_eq (j := j) (X := pw (bs.length + 1) * c - val bs * D) h2 d2 d1 (by omega) (by
   rw [Nat.add_assoc,zDD] at d3;rw [Int.mul_sub,← Int.mul_assoc];omega)
  rw [this,Int.mul_comm D];omega
 ·have e := zYD (zs := zs1.drop j) (j := bs.length + 1) (by rw [List.length_drop];omega)
  rw [List.drop_drop,← Nat.add_assoc,d4,ha,Int.mul_zero,Int.add_zero] at e;rw [e];have := zXA ((d2.dropped j).take (bs.length + 1))
  rwa [show ((zs1.drop j).take (bs.length + 1)).length = bs.length + 1 by rw [List.length_take,List.length_drop];omega] at this
theorem zaB.over {zs0 bs qs zs zs1 : List Int} {j : Nat} {D : Int} (hL : zOB zs0 bs qs zs (j + 1)) (hb : WF bs) (hj : j < qs.length) (h : zaB zs bs zs1 j D 1) : val (zs.drop j) < D * val bs ∧ 1 ≤ D := by
 obtain ⟨e1,e2,e3⟩ := h.one hL hb hj;have e4 : val (zs.drop j) < D * val bs := by omega
 refine ⟨e4,?_⟩;have e5 := val_nonneg (hL.2.1.dropped j);have e6 := h.2.2.2.2.2.1
 by_cases q : D = 0
 ·subst q;omega
 ·omega
theorem zaB.step {zs0 bs qs zs zs1 zs2 : List Int} {j : Nat} {D c : Int} (hL : zOB zs0 bs qs zs (j + 1)) (hb : WF bs) (hj : j < qs.length) (h : zaB zs bs zs1 j D 1) (hl : zs2.length = zs1.length) (hw : WF zs2)
  (hv : val zs2 + pw (j + bs.length + 1) * c = val zs1 + pw j * val bs) (hd : zs2.drop (j + bs.length + 1) = zs1.drop (j + bs.length + 1)) : zaB zs bs zs2 j (D - 1) (1 - c) := by
 obtain ⟨e4,e5⟩ := h.over hL hb hj;obtain ⟨d1,d2,d3,d4,d5,d6⟩ := h;refine ⟨hl.trans d1,hw,?_,hd.trans d4,by rw [Int.sub_add_cancel];exact e4,by unfold IsW wB at *;omega⟩;rw [Int.mul_sub,Int.mul_one,Int.mul_sub,Int.mul_one,Int.mul_sub];omega
theorem zOB.next {zs0 bs qs zs zs1 : List Int} {j : Nat} {D : Int} (hL : zOB zs0 bs qs zs (j + 1)) (hb : WF bs) (hj : j < qs.length) (h : zaB zs bs zs1 j D 0) : zOB zs0 bs (qs.set j D) zs1 j := by
 obtain ⟨e1,e2,e3⟩ := h.one hL hb hj;obtain ⟨h1,h2,h3,h4,h5,h6,h7⟩ := hL;obtain ⟨d1,d2,d3,d4,d5,d6⟩ := h;refine ⟨d1.trans h1,d2,by rw [List.length_set];exact h3,h4.set j d6,fun i hi hij => ?_,?_,?_⟩
 ·rw [List.getElem_set_ne (by omega)];exact h5 i (by simpa using hi) (by omega)
 ·rw [zIB qs j D hj,h5 j hj (by omega),Int.sub_zero,Int.add_mul,h6]
  rw [Int.mul_zero,Int.sub_zero] at d3;rw [d3];have : D * pw j * val bs = pw j * (val bs * D) := by rw [Int.mul_comm D,Int.mul_assoc,Int.mul_comm D]
  omega
 ·rw [Int.add_mul,Int.one_mul] at d5
  omega
theorem zOB.start {zs0 bs : List Int} {m : Nat} (h : WF zs0) (hl : m + bs.length = zs0.length) (hv : val (zs0.drop m) < val bs) : zOB zs0 bs (List.replicate m 0) zs0 m := by
 have hz : WF (List.replicate m 0) := fun x hx => by rw [List.eq_of_mem_replicate hx];unfold IsW wB;omega
 refine ⟨rfl,h,by simpa using hl,hz,fun i hi _ => by simp,?_,hv⟩;have : val (List.replicate m 0) = 0 := by rw [zNA hz,zZF (fun x hx => List.eq_of_mem_replicate hx)];rfl
 rw [this];omega
end Go.Proofs.Ytppddlbkdoebmaa
