/-
 QGuessToLong3: Guess, Long3, joined.
-/
import Derived.Test.YtlhjogiefbjklaaQDivParts

set_option maxRecDepth 100000
set_option maxHeartbeats 6400000
set_option linter.unusedVariables false
set_option linter.unusedSimpArgs false
namespace Go.Proofs.Ytlhjogiefbjklaa
open Go.RowKit
theorem zfD {bs : List Int} {N : Nat} (h : bs.length = N + 1) : val bs = val (bs.take N) + bs[N] * pw N := by
 have := zOA bs N (by omega)
 rwa [← h,List.take_length] at this
theorem val_top2 {ps : List Int} {N : Nat} (h : ps.length = N + 2) : val ps = val (ps.take N) + (ps[N] + wB * ps[N + 1]) * pw N := by
 rw [zfD (N := N + 1) h,zOA ps N (by omega),pw];generalize pw N = P;generalize val (ps.take N) = V;generalize ps[N] = a;generalize ps[N + 1] = b
 grind
theorem guess_ok {ps bs : List Int} {N : Nat} {q r : Int} (hp : WF ps) (hb : WF bs) (h1 : ps.length = N + 2) (h2 : bs.length = N + 1) (hq : 0 ≤ q) (hr : r < bs[N]) (he : q * bs[N] + r = ps[N + 1] * wB + ps[N]) : val ps < (q + 1) * val bs := by
 rw [val_top2 h1,zfD h2];have l1 := zVA (hp.take N);have l2 := val_nonneg (hb.take N);rw [show (ps.take N).length = N by simp;omega] at l1;have hP := zhA N;generalize pw N = P at *;generalize val (ps.take N) = V at *;generalize val (bs.take N) = U at *;generalize bs[N] = t at *;generalize ps[N] = a at *;generalize ps[N + 1] = b at *;have e1 : a + wB * b + 1 ≤ (q + 1) * t := by rw [Int.add_mul,Int.one_mul,Int.mul_comm wB];omega
 have e2 := Int.mul_le_mul_of_nonneg_right e1 (Int.le_of_lt hP);have e3 : 0 ≤ (q + 1) * U := Int.mul_nonneg (by omega) l2;rw [Int.mul_add (q + 1),← Int.mul_assoc];rw [Int.add_mul (a + wB * b),Int.one_mul] at e2;omega
theorem guess_any {B : Nat} {w : World} {v u : Value} {ps bs : List Int} {N : Nat} (h : Sl B w v ps) (h' : Sl B w u bs) (h1 : ps.length = N + 2) (h2 : bs.length = N + 1) (hlt : val ps < wB * val bs) :
  Calls Try.prog 70 #[v,u] w fun e w' => (∃ d,e = .returned (.int .u64 d) ∧ IsW d ∧ val ps < (d + 1) * val bs) ∧ ∃ n,w' = w.drewN n := by
 obtain ⟨hwp,a,cap,rfl,hlc,hcm,hm⟩ := h;obtain ⟨hwb,a',cap',rfl,hlc',hcm',hm'⟩ := h';rcases hm with e | ⟨b,off,rfl,hbB,hc⟩
 ·subst e;simp at h1
 rcases hm' with e | ⟨b',off',rfl,hbB',hc'⟩
 ·subst e;simp at h2
 have HG : Hid (∀ q r : Int,0 ≤ q → r < bs[N] → q * bs[N] + r = ps[N + 1] * wB + ps[N] → val ps < (q + 1) * val bs) := fun q r q1 q2 q3 => guess_ok hwp hwb h1 h2 q1 q2 q3
 have HLT := hid hlt;have w1 := hwp.get (show N < ps.length by omega);have w2 := hwp.get (show N + 1 < ps.length by omega);have w3 := hwb.get (show N < bs.length by omega);have c1 : ∀ q,(w.drewN q).cell? ⟨b,off + (N + 1),none⟩ = some (.int .u64 ps[N + 1]) := fun q => by simpa using hc (N + 1) (by omega)
 have c2 : ∀ q,(w.drewN q).cell? ⟨b,off + N,none⟩ = some (.int .u64 ps[N]) := fun q => by simpa using hc N (by omega)
 have c3 : ∀ q,(w.drewN q).cell? ⟨b',off' + N,none⟩ = some (.int .u64 bs[N]) := fun q => by simpa using hc' N (by omega)
 have c1' : w.cell? ⟨b,off + (N + 1),none⟩ = some (.int .u64 ps[N + 1]) := c1 0;have c2' : w.cell? ⟨b,off + N,none⟩ = some (.int .u64 ps[N]) := c2 0;have c3' : w.cell? ⟨b',off' + N,none⟩ = some (.int .u64 bs[N]) := c3 0;rw [h1,h2];rw [h1] at hlc hcm;rw [h2] at hlc' hcm';clear hc hc' hlt;generalize ps[N + 1] = p1 at *;generalize ps[N] = p0 at *;generalize bs[N] = t at *;have eN : ((N + 1 : Nat) : Int) - 1 = (N : Int) := by omega
 have HEND : Hid (IsW 18446744073709551615 ∧ val ps < (18446744073709551615 + 1) * val bs) := ⟨by unfold IsW wB;omega,HLT.out⟩
 clear h1 h2 hwp hwb HLT
 by_cases hge : t ≤ p1
 ·clear HG
  go_enter Try.func70,Try.ntmps70;go_wp2_with fail;go_quiet (fail);go_wp2;go_ret;exact ⟨⟨_,rfl,HEND.out⟩,_,rfl⟩
 ·obtain ⟨q,r,hq,hr0,hr1,he,hdiv⟩ := zEE w2 w1 w3 (by omega)
  have HQ := hid (HG.out q r hq.1 hr1 he);clear HG he;go_enter Try.func70,Try.ntmps70;go_wp2_with fail;go_quiet (fail);go_wp2_with fail;go_quiet ((go_at_call 19;exact (hdiv _).mono (fun e w'' h => ⟨h.1,by obtain ⟨_,n,h2⟩ := h;exact ⟨_,by rw [h2,World.drewN_drewN,Nat.add_assoc]⟩⟩)));go_wp2;go_ret;exact ⟨⟨q,rfl,hq,HQ.out⟩,by first | exact ⟨_,rfl⟩ | exact ⟨_,World.drewN_drewN _ _ _⟩⟩
theorem zoC {zs : List Int} {j : Nat} (hj : j ≤ zs.length) : val zs = val (zs.take j) + pw j * val (zs.drop j) := by
 have h := zbA (zs.take j) (zs.drop j);rw [List.take_append_drop,show (zs.take j).length = j by simp;omega] at h;exact h
theorem WF.dropped {xs : List Int} (h : WF xs) (n : Nat) : WF (xs.drop n) := fun x hx => h x (List.mem_of_mem_drop hx)
theorem split_eq {zs zs1 : List Int} {j : Nat} {X : Int} (h : WF zs) (h1 : WF zs1) (hl : zs1.length = zs.length) (hj : j ≤ zs.length) (he : val zs1 = val zs + pw j * X) : val (zs1.drop j) = val (zs.drop j) + X := by
 rw [zoC hj,zoC (zs := zs1) (j := j) (by omega)] at he;have a1 := zVA (h.take j);have a2 := zVA (h1.take j);rw [show (zs.take j).length = j by simp;omega] at a1;rw [show (zs1.take j).length = j by simp;omega] at a2;have b1 := val_nonneg (h.take j);have b2 := val_nonneg (h1.take j);generalize val (zs.take j) = a at *;generalize val (zs1.take j) = b at *;generalize val (zs.drop j) = A at *;generalize val (zs1.drop j) = B at *;generalize pw j = P at *;have e : P * (B - A - X) = a - b := by rw [Int.mul_sub,Int.mul_sub];omega
 rcases Int.lt_trichotomy (B - A - X) 0 with q | q | q
 ·have := Int.mul_le_mul_of_nonneg_left (show B - A - X ≤ -1 by omega) (show 0 ≤ P by omega)
  rw [Int.mul_neg,Int.mul_one] at this;omega
 ·omega
 ·have := Int.mul_le_mul_of_nonneg_left (show 1 ≤ B - A - X by omega) (show 0 ≤ P by omega)
  rw [Int.mul_one] at this;omega
theorem top_zero {zs : List Int} {n : Nat} (h : WF zs) (hn : n ≤ zs.length) (hv : val zs < pw n) : val (zs.drop n) = 0 := by
 rw [zoC hn] at hv;have b1 := val_nonneg (h.take n);have b2 := val_nonneg (h.dropped n);have hP := zhA n;generalize val (zs.take n) = a at *;generalize val (zs.drop n) = A at *;generalize pw n = P at *
 by_cases q : A = 0
 ·exact q
 ·have := Int.mul_le_mul_of_nonneg_left (show 1 ≤ A by omega) (show 0 ≤ P by omega)
  rw [Int.mul_one] at this;omega
def zBB (zs0 bs qs zs : List Int) (k : Nat) : Prop :=
 zs.length = zs0.length ∧ WF zs ∧ qs.length + bs.length = zs0.length ∧ WF qs ∧ (∀ i (h : i < qs.length),i < k → qs[i] = 0) ∧ val zs0 = val qs * val bs + val zs ∧ val (zs.drop k) < val bs
def zJB (zs bs zs1 : List Int) (j : Nat) (D c : Int) : Prop :=
 zs1.length = zs.length ∧ WF zs1 ∧ val zs1 - pw (j + bs.length + 1) * c = val zs - pw j * (val bs * D) ∧ zs1.drop (j + bs.length + 1) = zs.drop (j + bs.length + 1) ∧ val (zs.drop j) < (D + 1) * val bs ∧ IsW D
theorem zBB.above {zs0 bs qs zs : List Int} {j : Nat} (h : zBB zs0 bs qs zs (j + 1)) (hb : WF bs) (hj : j < qs.length) : val (zs.drop (j + bs.length + 1)) = 0 := by
 obtain ⟨h1,h2,h3,h4,h5,h6,h7⟩ := h;have := top_zero (h2.dropped (j + 1)) (n := bs.length) (by rw [List.length_drop];omega) (Int.lt_trans h7 (zVA hb));rw [List.drop_drop] at this;rw [show j + bs.length + 1 = j + 1 + bs.length by omega];exact this
theorem zBB.part {zs0 bs qs zs : List Int} {j : Nat} (h : zBB zs0 bs qs zs (j + 1)) (hb : WF bs) (hj : j < qs.length) : val ((zs.drop j).take (bs.length + 1)) = val (zs.drop j) := by
 have ha := h.above hb hj;obtain ⟨h1,h2,h3,h4,h5,h6,h7⟩ := h;have := zoC (zs := zs.drop j) (j := bs.length + 1) (by rw [List.length_drop];omega);rw [List.drop_drop,← Nat.add_assoc,ha,Int.mul_zero,Int.add_zero] at this;exact this.symm
theorem zBB.small {zs0 bs qs zs : List Int} {j : Nat} (h : zBB zs0 bs qs zs (j + 1)) (hj : j < qs.length) : val (zs.drop j) < wB * val bs := by
 obtain ⟨h1,h2,h3,h4,h5,h6,h7⟩ := h;have hz : j < zs.length := by omega
 rw [List.drop_eq_getElem_cons hz];have hw := h2.get hz
 show zs[j] + wB * val (zs.drop (j + 1)) < _
 unfold IsW wB at *;omega
theorem zJB.one {zs0 bs qs zs zs1 : List Int} {j : Nat} {D c : Int} (hL : zBB zs0 bs qs zs (j + 1)) (hb : WF bs) (hj : j < qs.length) (h : zJB zs bs zs1 j D c) :
  val (zs1.drop j) - pw (bs.length + 1) * c = val (zs.drop j) - D * val bs ∧ val (zs1.drop j) < pw (bs.length + 1) ∧ 0 ≤ val (zs1.drop j) := by
 have ha := hL.above hb hj;obtain ⟨h1,h2,h3,h4,h5,h6,h7⟩ := hL;obtain ⟨d1,d2,d3,d4,d5,d6⟩ := h;refine ⟨?_,?_,val_nonneg (d2.dropped j)⟩
 ·have := split_eq (j := j) (X := pw (bs.length + 1) * c - val bs * D) h2 d2 d1 (by omega) (by
   rw [Nat.add_assoc,zsC] at d3;rw [Int.mul_sub,← Int.mul_assoc];omega)
  rw [this,Int.mul_comm D];omega
 ·have e := zoC (zs := zs1.drop j) (j := bs.length + 1) (by rw [List.length_drop];omega)
  rw [List.drop_drop,← Nat.add_assoc,d4,ha,Int.mul_zero,Int.add_zero] at e;rw [e];have := zVA ((d2.dropped j).take (bs.length + 1))
  rwa [show ((zs1.drop j).take (bs.length + 1)).length = bs.length + 1 by rw [List.length_take,List.length_drop];omega] at this
theorem zJB.over {zs0 bs qs zs zs1 : List Int} {j : Nat} {D : Int} (hL : zBB zs0 bs qs zs (j + 1)) (hb : WF bs) (hj : j < qs.length) (h : zJB zs bs zs1 j D 1) : val (zs.drop j) < D * val bs ∧ 1 ≤ D := by
 obtain ⟨e1,e2,e3⟩ := h.one hL hb hj;have e4 : val (zs.drop j) < D * val bs := by omega
 refine ⟨e4,?_⟩;have e5 := val_nonneg (hL.2.1.dropped j);have e6 := h.2.2.2.2.2.1
 by_cases q : D = 0
 ·subst q;omega
 ·omega
theorem zJB.step {zs0 bs qs zs zs1 zs2 : List Int} {j : Nat} {D c : Int} (hL : zBB zs0 bs qs zs (j + 1)) (hb : WF bs) (hj : j < qs.length) (h : zJB zs bs zs1 j D 1) (hl : zs2.length = zs1.length) (hw : WF zs2)
  (hv : val zs2 + pw (j + bs.length + 1) * c = val zs1 + pw j * val bs) (hd : zs2.drop (j + bs.length + 1) = zs1.drop (j + bs.length + 1)) : zJB zs bs zs2 j (D - 1) (1 - c) := by
 obtain ⟨e4,e5⟩ := h.over hL hb hj;obtain ⟨d1,d2,d3,d4,d5,d6⟩ := h;refine ⟨hl.trans d1,hw,?_,hd.trans d4,by rw [Int.sub_add_cancel];exact e4,by unfold IsW wB at *;omega⟩;rw [Int.mul_sub,Int.mul_one,Int.mul_sub,Int.mul_one,Int.mul_sub];omega
theorem zBB.next {zs0 bs qs zs zs1 : List Int} {j : Nat} {D : Int} (hL : zBB zs0 bs qs zs (j + 1)) (hb : WF bs) (hj : j < qs.length) (h : zJB zs bs zs1 j D 0) : zBB zs0 bs (qs.set j D) zs1 j := by
 obtain ⟨e1,e2,e3⟩ := h.one hL hb hj;obtain ⟨h1,h2,h3,h4,h5,h6,h7⟩ := hL;obtain ⟨d1,d2,d3,d4,d5,d6⟩ := h;refine ⟨d1.trans h1,d2,by rw [List.length_set];exact h3,h4.set j d6,fun i hi hij => ?_,?_,?_⟩
 ·rw [List.getElem_set_ne (by omega)];exact h5 i (by simpa using hi) (by omega)
 ·rw [zwA qs j D hj,h5 j hj (by omega),Int.sub_zero,Int.add_mul,h6]
  rw [Int.mul_zero,Int.sub_zero] at d3;rw [d3];have : D * pw j * val bs = pw j * (val bs * D) := by rw [Int.mul_comm D,Int.mul_assoc,Int.mul_comm D]
  omega
 ·rw [Int.add_mul,Int.one_mul] at d5
  omega
theorem zBB.start {zs0 bs : List Int} {m : Nat} (h : WF zs0) (hl : m + bs.length = zs0.length) (hv : val (zs0.drop m) < val bs) : zBB zs0 bs (List.replicate m 0) zs0 m := by
 have hz : WF (List.replicate m 0) := fun x hx => by rw [List.eq_of_mem_replicate hx];unfold IsW wB;omega
 refine ⟨rfl,h,by simpa using hl,hz,fun i hi _ => by simp,?_,hv⟩;have : val (List.replicate m 0) = 0 := by rw [zMA hz,zTE (fun x hx => List.eq_of_mem_replicate hx)];rfl
 rw [this];omega
end Go.Proofs.Ytlhjogiefbjklaa
