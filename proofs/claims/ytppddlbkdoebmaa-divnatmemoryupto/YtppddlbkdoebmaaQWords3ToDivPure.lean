/-
 QWords3ToDivPure: Words3, DivPure, joined.
-/
import Derived.Test.YtppddlbkdoebmaaQTrim3ToBits
import Derived.Test.YtppddlbkdoebmaaQSplitToJoin

set_option maxRecDepth 100000
set_option maxHeartbeats 6400000
set_option linter.unusedVariables false
set_option linter.unusedSimpArgs false
namespace Go.Proofs.Ytppddlbkdoebmaa
open Go.RowKit
def zNB (T : List Int) (j : Nat) : Int := T.getD (2 * j) 0 + 4294967296 * T.getD (2 * j + 1) 0
theorem pairAt_next (a b : Int) (T : List Int) (j : Nat) : zNB (a :: b :: T) (j + 1) = zNB T j := by
 unfold zNB;rw [show 2 * (j + 1) + 1 = (2 * j + 1) + 2 by omega,show 2 * (j + 1) = 2 * j + 2 by omega]
 simp
theorem zQC (j : Nat) : zNB [] j = 0 := by simp [zNB]
theorem zhC : ∀ (W D : List Int),(∀ j (h : j < W.length),W[j] = zNB D j) → D.length ≤ 2 * W.length → val W = hval D
 | [],D,_,h => by
  have : D = [] := List.eq_nil_of_length_eq_zero (by simp at h;simpa using h);subst this;rfl
 | x :: r,[],h,_ => by
  have h0 := h 0 (by simp);rw [zQC] at h0;have := zhC r [] (fun j hj => by have := h (j + 1) (by simpa using hj);rw [zQC] at this;rw [zQC];simpa using this) (by simp)
  show x + wB * val r = 0
  rw [this];simp at h0
  show x + wB * hval [] = 0
  rw [h0];simp [hval]
 | x :: r,[a],h,hl => by
  have h0 := h 0 (by simp);have := zhC r [] (fun j hj => by
   have := h (j + 1) (by simpa using hj);rw [zQC];simp only [List.getElem_cons_succ] at this;rw [this];simp [zNB]) (by simp)
  show x + wB * val r = a + hwB * hval []
  rw [this];simp [zNB] at h0;rw [h0];simp [hval]
 | x :: r,a :: b :: T,h,hl => by
  have h0 := h 0 (by simp);have := zhC r T (fun j hj => by
   have := h (j + 1) (by simpa using hj);rw [pairAt_next] at this
   simpa using this) (by simp at hl;omega)
  show x + wB * val r = a + hwB * (b + hwB * hval T)
  rw [this];simp [zNB] at h0;rw [h0];unfold hwB wB;omega
theorem zFB (D : List Int) (i m : Nat) (h : i < D.length) : (D.take (i + 1)).getD m 0 = if m = i then D[i] else (D.take i).getD m 0 := by
 simp only [List.getD_eq_getElem?_getD,List.getElem?_take]
 by_cases q : m = i
 ·subst q;simp [h]
 ·rw [if_neg q]
  by_cases q2 : m < i
  ·rw [if_pos (by omega),if_pos q2]
  ·rw [if_neg (by omega),if_neg q2]
theorem zFD {D : List Int} (h : HF D) (m : Nat) : 0 ≤ D.getD m 0 ∧ D.getD m 0 < 4294967296 := by
 by_cases q : m < D.length
 ·have := h.get q
  unfold IsH hwB at this;simp [q];omega
 ·simp [List.getElem?_eq_none (show D.length ≤ m by omega)]
def zLB (D W : List Int) (i : Nat) : Prop := W.length = (D.length + 1) / 2 ∧ ∀ j (h : j < W.length),W[j] = zNB (D.take i) j
theorem zLB.wf {D W : List Int} {i : Nat} (h : zLB D W i) (hD : HF D) : WF W := fun x hx => by
 obtain ⟨j,hj,rfl⟩ := List.getElem_of_mem hx;rw [h.2 j hj];have h1 := zFD (hD.take i) (2 * j);have h2 := zFD (hD.take i) (2 * j + 1);unfold zNB IsW wB;omega
theorem zLB.even {D W : List Int} {i : Nat} (h : zLB D W i) (hi : i < D.length) (he : i % 2 = 0) : ∃ hj : i / 2 < W.length,zLB D (W.set (i / 2) D[i]) (i + 1) := by
 obtain ⟨h1,h2⟩ := h;refine ⟨by omega,by rw [List.length_set];exact h1,fun j hj => ?_⟩;rw [List.length_set] at hj;have h3 := h2 j hj;unfold zNB at h3 ⊢;rw [zFB D i _ hi,zFB D i _ hi,if_neg (show ¬ 2 * j + 1 = i by omega)]
 by_cases q : i / 2 = j
 ·subst q
  rw [List.getElem_set_self,if_pos (by omega)];have : (D.take i).getD (2 * (i / 2) + 1) 0 = 0 := by
   simp only [List.getD_eq_getElem?_getD,List.getElem?_take];rw [if_neg (by omega)];rfl
  rw [this];omega
 ·rw [List.getElem_set_ne q,if_neg (by omega)];exact h3
theorem zLB.odd {D W : List Int} {i : Nat} (h : zLB D W i) (hD : HF D) (hi : i < D.length) (he : i % 2 = 1) :
  ∃ hj : i / 2 < W.length,0 ≤ W[i / 2] ∧ W[i / 2] < 4294967296 ∧ zLB D (W.set (i / 2) (W[i / 2] + D[i] * 4294967296)) (i + 1) := by
 obtain ⟨h1,h2⟩ := h;have hj : i / 2 < W.length := by omega
 have hz : (D.take i).getD (2 * (i / 2) + 1) 0 = 0 := by
  simp only [List.getD_eq_getElem?_getD,List.getElem?_take];rw [if_neg (by omega)];rfl
 have h4 := h2 (i / 2) hj;have h5 := zFD (hD.take i) (2 * (i / 2));unfold zNB at h4;rw [hz] at h4;refine ⟨hj,by omega,by omega,by rw [List.length_set];exact h1,fun j hj' => ?_⟩;rw [List.length_set] at hj';have h3 := h2 j hj';unfold zNB at h3 ⊢;rw [zFB D i _ hi,zFB D i _ hi,if_neg (show ¬ 2 * j = i by omega)]
 by_cases q : i / 2 = j
 ·subst q
  rw [List.getElem_set_self,if_pos (by omega),h4];omega
 ·rw [List.getElem_set_ne q,if_neg (by omega)];exact h3
theorem zLB.done {D W : List Int} (h : zLB D W D.length) (hD : zMA D) : zFA W ∧ val W = hval D := by
 have hw := h.wf hD.1;obtain ⟨h1,h2⟩ := h;rw [List.take_length] at h2;refine ⟨⟨hw,?_⟩,zhC W D h2 (by omega)⟩;refine wid_is (Nat.le_refl _) (fun j hj hj' => by omega) (fun hp hl => ?_);obtain ⟨n,hn⟩ : ∃ n,D.length = n + 1 := ⟨D.length - 1,by omega⟩
 obtain ⟨hlt,hne⟩ := zSC (xs := D) (n := n) (by rw [← hn];exact hD.2);rw [h2 _ hl];unfold zNB;have a1 := zFD hD.1 (2 * (W.length - 1));have a2 := zFD hD.1 (2 * (W.length - 1) + 1);have a3 := (hD.1.get hlt).1
 by_cases q : n % 2 = 0
 ·have e : 2 * (W.length - 1) = n := by omega
  rw [e] at a2 ⊢;have : D.getD n 0 = D[n] := by simp [hlt]
  rw [this];omega
 ·have e : 2 * (W.length - 1) + 1 = n := by omega
  have e' : D.getD (2 * (W.length - 1) + 1) 0 = D[n] := by rw [e];simp [hlt]
  rw [e'];omega
theorem zoA {w : World} {v : Value} {xs : List Int} (h : Sl w.heap.size w v xs) (hD : HF xs) (hlen : xs.length ≤ 17592186044416) :
  Calls Try.prog 43 #[v] w (Told w (hval xs)) := by
 have hs := h;obtain ⟨hw,a,cap,rfl,hlc,hcm,hm⟩ := h;have HT := zZA hs;have l1 := zIA xs;have hsl := zkB hs;obtain ⟨_,a',cap',he,_,_,hm'⟩ := hsl;simp only [Value.slice.injEq] at he;obtain ⟨rfl,_,rfl⟩ := he;have HM := hid hm';have HL := hid (length_lst xs);have HC := hid (hcanon_lst' hD);have HVL := hid (hval_lst' xs);generalize lst xs = L at *;obtain ⟨n,hn⟩ : ∃ n,wid xs = n := ⟨_,rfl⟩
 rw [hn] at HT HL l1;have HST : Hid (zLB L (List.replicate ((n + 1) / 2) 0) 0) := ⟨by rw [List.length_replicate,HL.out],fun j hj => by simp [zNB]⟩
 clear hm hm' hs hn hD;go_enter Try.func43,Try.ntmps43;go_wp2_with fail;refine HT.mono ?_;rintro e w1 ⟨rfl,rfl⟩;clear HT;go_wp2_with (at_make;refine wpList_make_words _ rfl _ _ rfl _ _ ((n + 1) / 2) ((n + 1) / 2) rfl rfl (by first | rfl | omega) (by first | rfl | omega) (Nat.le_refl _) (by omega) ?_)
 intro w2 hrow hb2 hsz2;have hrow' := hid hrow;have hb2' := hid hb2;clear hrow hb2 hsz2;go_wp2_with fail
 go_loopw [4] (fun i wr => ∃ (k : Nat) (W : List Int),k ≤ n ∧ i = .int .i64 k ∧ Hid (zLB L W k) ∧ Row wr w1.heap.size (ws W) ∧ Below w1.heap.size w1 wr) (fun i _ => n - (intOf i).toNat)
 case atStart => exact ⟨0,_,Nat.zero_le _,rfl,HST,hrow'.out,hb2'.out⟩
 case round =>
  clear hrow' hb2' HST;obtain ⟨k,W,hk,rfl,HA,hr,hb⟩ := hrel
  by_cases hlt : k < n
  ·have hk2 : k < L.length := by have := HL.out;omega
   rcases HM.out with e | ⟨b,off,rfl,hbg,hcy⟩
   ·subst e;simp at hk2
   have hxw := HC.out.1.get hk2;unfold IsH hwB at hxw;obtain ⟨hx0,hx1⟩ := hxw;have c2 : wr.cell? ⟨b,off + k,none⟩ = some (.int .u64 L[k]) := (hb.cell (p := ⟨b,off + k,none⟩) hbg).trans (hcy k hk2);have cf : wr.frozen? ⟨w1.heap.size,k / 2,none⟩ = false := hr.frozen _;have i0 : (0 : Int) ≤ (k : Int) := by omega
   have i2 : (k : Int) / 2 < (((n + 1) / 2 : Nat) : Int) := by omega
   have i3 : (0 : Int) ≤ (k : Int) / 2 := by omega
   by_cases hev : k % 2 = 0
   ·obtain ⟨hj,hA⟩ := HA.out.even hk2 hev
    have c1 : wr.cell? ⟨w1.heap.size,k / 2,none⟩ = some (.int .u64 W[k / 2]) := Row.word (r := []) (by simpa using hr) hj;have HA' := hid hA;have HR2 : Hid (Row (wr.setCell ⟨w1.heap.size,k / 2,none⟩ (.int .u64 L[k])) w1.heap.size (ws (W.set (k / 2) L[k]))) := by
     have := Row.setWord (r := []) (by simpa using hr) hj L[k];unfold Hid;simpa using this
    have HB2 := hid (hb.setCell (p := ⟨w1.heap.size,k / 2,none⟩) (Nat.le_refl _) (.int .u64 L[k]));have hz : ((k : Int) % 2 == 0) = true := by rw [beq_iff_eq];omega
    have hz' : ((k : Int) % 2) = 0 := by omega
    generalize W[k / 2] = z at *;clear hcy hr hb hA HA;generalize L[k] = x at *;go_wp2;go_roundw
    case rel => exact ⟨k + 1,_,by omega,by go_num,HA',HR2.out,HB2.out⟩
    case measure => simp [intOf];omega
   ·obtain ⟨hj,hz0,hz1,hA⟩ := HA.out.odd HC.out.1 hk2 (by omega)
    have c1 : wr.cell? ⟨w1.heap.size,k / 2,none⟩ = some (.int .u64 W[k / 2]) := Row.word (r := []) (by simpa using hr) hj;have HA' := hid hA;have HR2 : Hid (Row (wr.setCell ⟨w1.heap.size,k / 2,none⟩ (.int .u64 (W[k / 2] + L[k] * 4294967296))) w1.heap.size (ws (W.set (k / 2) (W[k / 2] + L[k] * 4294967296)))) := by
     have := Row.setWord (r := []) (by simpa using hr) hj (W[k / 2] + L[k] * 4294967296);unfold Hid;simpa using this
    have HB2 := hid (hb.setCell (p := ⟨w1.heap.size,k / 2,none⟩) (Nat.le_refl _) (.int .u64 (W[k / 2] + L[k] * 4294967296)));have hz : ((k : Int) % 2 == 0) = false := by rw [beq_eq_false_iff_ne];omega
    generalize W[k / 2] = z at *;clear hcy hr hb hA HA;generalize L[k] = x at *;generalize W.set (k / 2) (z + x * 4294967296) = W' at *;go_wp2_with fail;go_region;go_wp2;go_roundw
    case rel => exact ⟨k + 1,_,by omega,by go_num,HA',HR2.out.drewN 1,HB2.out.drew⟩
    case measure => simp [intOf];omega
  ·obtain rfl : k = n := by omega
   have HE := HA.out;rw [← HL.out] at HE;have hd := HE.done HC.out;have hll := HE.1;clear HE;go_wp2;go_ret;refine ⟨W,_,rfl,⟨hd.1.1,.inr ⟨w1.heap.size,[],Nat.le_refl _,?_,?_,?_⟩⟩,hd.1,by rw [hd.2,HVL.out],hb⟩
   ·rw [hll,HL.out];simp;omega
   ·rw [hll,HL.out];simp
   ·simpa using hr
def zbB (y1 y0 u d q r : Nat) : Prop := q * y1 + r = u ∧ u * 4294967296 + d < (q + 1) * (y1 * 4294967296 + y0)
def zaG (y1 y0 u d q : Nat) : Prop := q < 4294967296 ∧ q * (y1 * 4294967296 + y0) ≤ u * 4294967296 + d ∧ u * 4294967296 + d < (q + 1) * (y1 * 4294967296 + y0)
theorem mul_two (q y1 y0 : Nat) : q * (y1 * 4294967296 + y0) = q * y1 * 4294967296 + q * y0 := by rw [Nat.mul_add,Nat.mul_assoc]
theorem over_aux {B y1 y0 u d q r : Nat} (h1 : q * y1 + r = u) (ht : r * B + d < q * y0) : u * B + d < q * (y1 * B + y0) := by
 subst h1;rw [Nat.mul_add,← Nat.mul_assoc,Nat.add_mul];omega
theorem zcF {B y1 y0 u d q r : Nat} (h1 : q * y1 + r = u) (ht : q * y0 ≤ r * B + d) : q * (y1 * B + y0) ≤ u * B + d := by
 subst h1;rw [Nat.mul_add,← Nat.mul_assoc,Nat.add_mul];omega
theorem zbB.start {y1 y0 u d : Nat} (hy : 0 < y1) (hd : d < 4294967296) : zbB y1 y0 u d (u / y1) (u % y1) := by
 have h1 := Nat.div_add_mod u y1;have h2 := Nat.mod_lt u hy;rw [Nat.mul_comm] at h1;refine ⟨h1,?_⟩;rw [mul_two,Nat.add_mul,Nat.one_mul];omega
theorem zbB.over {y1 y0 u d q r : Nat} (h : zbB y1 y0 u d q r) (hu : u < y1 * 4294967296 + y0) (hd : d < 4294967296) (ht : 4294967296 ≤ q ∨ r * 4294967296 + d < q * y0) :
  ∃ k,q = k + 1 ∧ zbB y1 y0 u d k (r + y1) := by
 obtain ⟨h1,h2⟩ := h;have h3 : u * 4294967296 + d < q * (y1 * 4294967296 + y0) := by
  rcases ht with ht | ht
  ·obtain ⟨Y,hY⟩ : ∃ Y,Y = y1 * 4294967296 + y0 := ⟨_,rfl⟩
   rw [← hY] at hu ⊢;have h5 := Nat.mul_le_mul_right Y ht;obtain ⟨m,hm⟩ : ∃ m,m = q * Y := ⟨_,rfl⟩
   rw [← hm] at h5 ⊢;have h6 : 4294967296 * (u + 1) ≤ 4294967296 * Y := Nat.mul_le_mul_left _ hu;have h7 := Nat.le_trans h6 h5;clear hm h2 h1 hY h5 h6 hu ht;omega
  ·exact over_aux h1 ht
 have h4 : q ≠ 0 := fun e => by subst e;simp at h3
 obtain ⟨k,rfl⟩ := Nat.exists_eq_succ_of_ne_zero h4;refine ⟨k,rfl,?_,h3⟩;rw [Nat.succ_mul] at h1;omega
theorem zbB.small {y1 y0 u d q r : Nat} (h : zbB y1 y0 u d q r) (hu : u < y1 * 4294967296 + y0) (hy0 : y0 < 4294967296) (hr : 4294967296 ≤ r) : zaG y1 y0 u d q := by
 obtain ⟨h1,h2⟩ := h;have hq : q < 4294967296 := by
  refine Nat.lt_of_not_le fun hq => ?_
  have := Nat.mul_le_mul_right y1 hq;omega
 refine ⟨hq,zcF h1 ?_,h2⟩;have h5 : q * y0 ≤ 4294967295 * 4294967295 := Nat.mul_le_mul (by omega) (by omega);exact Nat.le_trans h5 (by clear h5 h1 h2;omega)
theorem zbB.stop {y1 y0 u d q r : Nat} (h : zbB y1 y0 u d q r) (hq : q < 4294967296) (ht : q * y0 ≤ r * 4294967296 + d) : zaG y1 y0 u d q := by
 obtain ⟨h1,h2⟩ := h;exact ⟨hq,zcF h1 ht,h2⟩
theorem zaG.rest {y1 y0 u d q : Nat} (h : zaG y1 y0 u d q) : ∃ v,q * (y1 * 4294967296 + y0) + v = u * 4294967296 + d ∧ v < y1 * 4294967296 + y0 := by
 obtain ⟨h1,h2,h3⟩ := h;rw [Nat.add_mul,Nat.one_mul] at h3;exact ⟨u * 4294967296 + d - q * (y1 * 4294967296 + y0),by omega,by omega⟩
theorem zbB.mul_fits {y0 q : Nat} (hq : q < 4294967296) (hy0 : y0 < 4294967296) : q * y0 < 18446744073709551616 := by
 have : q * y0 ≤ 4294967295 * 4294967295 := Nat.mul_le_mul (by omega) (by omega);omega
theorem zuB {x lo y P Y u un q1 q0 v z : Nat} (hP : 0 < P) (hY : Y = y * P) (hu : u * 18446744073709551616 + un = (x * 18446744073709551616 + lo) * P)
  (h1 : q1 * Y + v = u * 4294967296 + un / 4294967296) (h0 : q0 * Y + z = v * 4294967296 + un % 4294967296) (hz : z < Y) :
  ∃ r,z = r * P ∧ r < y ∧ (q1 * 4294967296 + q0) * y + r = x * 18446744073709551616 + lo := by
 have e1 : (q1 * 4294967296 + q0) * Y + z = (x * 18446744073709551616 + lo) * P := by
  rw [Nat.add_mul,Nat.mul_right_comm,← hu];clear hu hY;obtain ⟨a,ha⟩ : ∃ a,a = q1 * Y := ⟨_,rfl⟩
  obtain ⟨b,hb⟩ : ∃ b,b = q0 * Y := ⟨_,rfl⟩
  rw [← ha] at h1 ⊢;rw [← hb] at h0 ⊢;clear ha hb;omega
 subst hY;rw [← Nat.mul_assoc] at e1;obtain ⟨A,hA⟩ : ∃ A,A = (q1 * 4294967296 + q0) * y := ⟨_,rfl⟩
 obtain ⟨T,hT⟩ : ∃ T,T = x * 18446744073709551616 + lo := ⟨_,rfl⟩
 rw [← hA,← hT] at e1;rw [← hA,← hT];clear hA hT h1 h0 hu;have hle : A ≤ T := by
  refine Nat.le_of_mul_le_mul_right (c := P) ?_ hP;omega
 obtain ⟨r,rfl⟩ := Nat.exists_eq_add_of_le hle;rw [Nat.add_mul] at e1;refine ⟨r,by omega,?_,rfl⟩;have : z = r * P := by omega
 rw [this] at hz;exact Nat.lt_of_mul_lt_mul_right hz
theorem lead_up {y : Nat} (h0 : y ≠ 0) (h : y < 2 ^ 64) : bitLen y ≤ 64 ∧ 0 < bitLen y ∧ y * 2 ^ (64 - bitLen y) < 18446744073709551616 ∧ 9223372036854775808 ≤ y * 2 ^ (64 - bitLen y) := by
 have e : bitLen y = Nat.log2 y + 1 := by unfold bitLen;rw [if_neg h0]
 have h1 : Nat.log2 y < 64 := (Nat.log2_lt h0).2 h;have h2 : y < 2 ^ (Nat.log2 y + 1) := Nat.lt_log2_self;have h3 : 2 ^ Nat.log2 y ≤ y := Nat.log2_self_le h0;have h4 := Nat.mul_lt_mul_of_pos_right h2 (Nat.two_pow_pos (64 - (Nat.log2 y + 1)));have h5 := Nat.mul_le_mul_right (2 ^ (64 - (Nat.log2 y + 1))) h3;rw [← Nat.pow_add,show Nat.log2 y + 1 + (64 - (Nat.log2 y + 1)) = 64 by omega] at h4;rw [← Nat.pow_add,show Nat.log2 y + (64 - (Nat.log2 y + 1)) = 63 by omega] at h5;rw [e];exact ⟨by omega,by omega,by omega,by omega⟩
end Go.Proofs.Ytppddlbkdoebmaa
