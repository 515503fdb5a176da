/-
 QWords3ToScale3: Words3, Scale3, joined.
-/
import Derived.Test.YtkdobgbicnemcaaGreatDoorQR5CmpToTrim3
import Derived.Test.YtkdobgbicnemcaaGreatDoorQSplitToRDigits
import Derived.Test.YtkdobgbicnemcaaGreatDoorQDivWordToLong3

set_option maxRecDepth 100000
set_option maxHeartbeats 6400000
set_option linter.unusedVariables false
set_option linter.unusedSimpArgs false
namespace Go.Proofs.YtkdobgbicnemcaaGreatDoor
open Go.RowKit
def zcB (T : List Int) (j : Nat) : Int := T.getD (2 * j) 0 + 4294967296 * T.getD (2 * j + 1) 0
theorem pairAt_next (a b : Int) (T : List Int) (j : Nat) : zcB (a :: b :: T) (j + 1) = zcB T j := by
 unfold zcB;rw [show 2 * (j + 1) + 1 = (2 * j + 1) + 2 by omega,show 2 * (j + 1) = 2 * j + 2 by omega]
 simp
theorem zmC (j : Nat) : zcB [] j = 0 := by simp [zcB]
theorem zJD : ∀ (W D : List Int),(∀ j (h : j < W.length),W[j] = zcB D j) → D.length ≤ 2 * W.length → val W = hval D
 | [],D,_,h => by
  have : D = [] := List.eq_nil_of_length_eq_zero (by simp at h;simpa using h);subst this;rfl
 | x :: r,[],h,_ => by
  have h0 := h 0 (by simp);rw [zmC] at h0;have := zJD r [] (fun j hj => by have := h (j + 1) (by simpa using hj);rw [zmC] at this;rw [zmC];simpa using this) (by simp)
  show x + wB * val r = 0
  rw [this];simp at h0
  show x + wB * hval [] = 0
  rw [h0];simp [hval]
 | x :: r,[a],h,hl => by
  have h0 := h 0 (by simp);have := zJD r [] (fun j hj => by
   have := h (j + 1) (by simpa using hj);rw [zmC];simp only [List.getElem_cons_succ] at this;rw [this];simp [zcB]) (by simp)
  show x + wB * val r = a + hwB * hval []
  rw [this];simp [zcB] at h0;rw [h0];simp [hval]
 | x :: r,a :: b :: T,h,hl => by
  have h0 := h 0 (by simp);have := zJD r T (fun j hj => by
   have := h (j + 1) (by simpa using hj);rw [pairAt_next] at this
   simpa using this) (by simp at hl;omega)
  show x + wB * val r = a + hwB * (b + hwB * hval T)
  rw [this];simp [zcB] at h0;rw [h0];unfold hwB wB;omega
theorem zSB (D : List Int) (i m : Nat) (h : i < D.length) : (D.take (i + 1)).getD m 0 = if m = i then D[i] else (D.take i).getD m 0 := by
 simp only [List.getD_eq_getElem?_getD,List.getElem?_take]
 by_cases q : m = i
 ·subst q;simp [h]
 ·rw [if_neg q]
  by_cases q2 : m < i
  ·rw [if_pos (by omega),if_pos q2]
  ·rw [if_neg (by omega),if_neg q2]
theorem zvD {D : List Int} (h : HF D) (m : Nat) : 0 ≤ D.getD m 0 ∧ D.getD m 0 < 4294967296 := by
 by_cases q : m < D.length
 ·have := h.get q
  unfold IsH hwB at this;simp [q];omega
 ·simp [List.getElem?_eq_none (show D.length ≤ m by omega)]
def zaB (D W : List Int) (i : Nat) : Prop := W.length = (D.length + 1) / 2 ∧ ∀ j (h : j < W.length),W[j] = zcB (D.take i) j
theorem zaB.wf {D W : List Int} {i : Nat} (h : zaB D W i) (hD : HF D) : WF W := fun x hx => by
 obtain ⟨j,hj,rfl⟩ := List.getElem_of_mem hx;rw [h.2 j hj];have h1 := zvD (hD.take i) (2 * j);have h2 := zvD (hD.take i) (2 * j + 1);unfold zcB IsW wB;omega
theorem zaB.even {D W : List Int} {i : Nat} (h : zaB D W i) (hi : i < D.length) (he : i % 2 = 0) : ∃ hj : i / 2 < W.length,zaB D (W.set (i / 2) D[i]) (i + 1) := by
 obtain ⟨h1,h2⟩ := h;refine ⟨by omega,by rw [List.length_set];exact h1,fun j hj => ?_⟩;rw [List.length_set] at hj;have h3 := h2 j hj;unfold zcB at h3 ⊢;rw [zSB D i _ hi,zSB D i _ hi,if_neg (show ¬ 2 * j + 1 = i by omega)]
 by_cases q : i / 2 = j
 ·subst q
  rw [List.getElem_set_self,if_pos (by omega)];have : (D.take i).getD (2 * (i / 2) + 1) 0 = 0 := by
   simp only [List.getD_eq_getElem?_getD,List.getElem?_take];rw [if_neg (by omega)];rfl
  rw [this];omega
 ·rw [List.getElem_set_ne q,if_neg (by omega)];exact h3
theorem zaB.odd {D W : List Int} {i : Nat} (h : zaB D W i) (hD : HF D) (hi : i < D.length) (he : i % 2 = 1) :
  ∃ hj : i / 2 < W.length,0 ≤ W[i / 2] ∧ W[i / 2] < 4294967296 ∧ zaB D (W.set (i / 2) (W[i / 2] + D[i] * 4294967296)) (i + 1) := by
 obtain ⟨h1,h2⟩ := h;have hj : i / 2 < W.length := by omega
 have hz : (D.take i).getD (2 * (i / 2) + 1) 0 = 0 := by
  simp only [List.getD_eq_getElem?_getD,List.getElem?_take];rw [if_neg (by omega)];rfl
 have h4 := h2 (i / 2) hj;have h5 := zvD (hD.take i) (2 * (i / 2));unfold zcB at h4;rw [hz] at h4;refine ⟨hj,by omega,by omega,by rw [List.length_set];exact h1,fun j hj' => ?_⟩;rw [List.length_set] at hj';have h3 := h2 j hj';unfold zcB at h3 ⊢;rw [zSB D i _ hi,zSB D i _ hi,if_neg (show ¬ 2 * j = i by omega)]
 by_cases q : i / 2 = j
 ·subst q
  rw [List.getElem_set_self,if_pos (by omega),h4];omega
 ·rw [List.getElem_set_ne q,if_neg (by omega)];exact h3
theorem zaB.done {D W : List Int} (h : zaB D W D.length) (hD : zBC D) : zHA W ∧ val W = hval D := by
 have hw := h.wf hD.1;obtain ⟨h1,h2⟩ := h;rw [List.take_length] at h2;refine ⟨⟨hw,?_⟩,zJD W D h2 (by omega)⟩;refine wid_is (Nat.le_refl _) (fun j hj hj' => by omega) (fun hp hl => ?_);obtain ⟨n,hn⟩ : ∃ n,D.length = n + 1 := ⟨D.length - 1,by omega⟩
 obtain ⟨hlt,hne⟩ := ztF (xs := D) (n := n) (by rw [← hn];exact hD.2);rw [h2 _ hl];unfold zcB;have a1 := zvD hD.1 (2 * (W.length - 1));have a2 := zvD hD.1 (2 * (W.length - 1) + 1);have a3 := (hD.1.get hlt).1
 by_cases q : n % 2 = 0
 ·have e : 2 * (W.length - 1) = n := by omega
  rw [e] at a2 ⊢;have : D.getD n 0 = D[n] := by simp [hlt]
  rw [this];omega
 ·have e : 2 * (W.length - 1) + 1 = n := by omega
  have e' : D.getD (2 * (W.length - 1) + 1) 0 = D[n] := by rw [e];simp [hlt]
  rw [e'];omega
theorem zHF {w : World} {v : Value} {xs : List Int} (h : Sl w.heap.size w v xs) (hD : HF xs) (hlen : xs.length ≤ 17592186044416) :
  Calls Tryz.prog 130 #[v] w (Told w (hval xs)) := by
 have hs := h;obtain ⟨hw,a,cap,rfl,hlc,hcm,hm⟩ := h;have HT := zHC hs;have l1 := zRA xs;have hsl := zIF hs;obtain ⟨_,a',cap',he,_,_,hm'⟩ := hsl;simp only [Value.slice.injEq] at he;obtain ⟨rfl,_,rfl⟩ := he;have HM := hid hm';have HL := hid (length_lst xs);have HC := hid (hcanon_lst' hD);have HVL := hid (hval_lst' xs);generalize lst xs = L at *;obtain ⟨n,hn⟩ : ∃ n,wid xs = n := ⟨_,rfl⟩
 rw [hn] at HT HL l1;have HST : Hid (zaB L (List.replicate ((n + 1) / 2) 0) 0) := ⟨by rw [List.length_replicate,HL.out],fun j hj => by simp [zcB]⟩
 clear hm hm' hs hn hD;go_enter Tryz.func130,Tryz.ntmps130;go_wp2_with fail;refine HT.mono ?_;rintro e w1 ⟨rfl,rfl⟩;clear HT;go_wp2_with (at_make;refine wpList_make_words _ rfl _ _ rfl _ _ ((n + 1) / 2) ((n + 1) / 2) rfl rfl (by first | rfl | omega) (by first | rfl | omega) (Nat.le_refl _) (by omega) ?_)
 intro w2 hrow hb2 hsz2;have hrow' := hid hrow;have hb2' := hid hb2;clear hrow hb2 hsz2;go_wp2_with fail
 go_loopw [4] (fun i wr => ∃ (k : Nat) (W : List Int),k ≤ n ∧ i = .int .i64 k ∧ Hid (zaB L W k) ∧ Row wr w1.heap.size (ws W) ∧ Below w1.heap.size w1 wr) (fun i _ => n - (intOf i).toNat)
 case atStart => exact ⟨0,_,Nat.zero_le _,rfl,HST,hrow'.out,hb2'.out⟩
 case round =>
  clear hrow' hb2' HST;obtain ⟨k,W,hk,rfl,HA,hr,hb⟩ := hrel
  by_cases hlt : k < n
  ·have hk2 : k < L.length := by have := HL.out;omega
   rcases HM.out with e | ⟨b,off,rfl,hbg,hcy⟩
   ·subst e;simp at hk2
   have hxw := HC.out.1.get hk2;unfold IsH hwB at hxw;obtain ⟨hx0,hx1⟩ := hxw;have c2 : wr.cell? ⟨b,off + k,none⟩ = some (.int .u64 L[k]) := (hb.cell (p := ⟨b,off + k,none⟩) hbg).trans (hcy k hk2);have cf : wr.frozen? ⟨w1.heap.size,k / 2,none⟩ = false := hr.frozen _;have i0 : (0 : Int) ≤ (k : Int) := by omega
   have i2 : (k : Int) / 2 < (((n + 1) / 2 : Nat) : Int) := by omega
   have i3 : (0 : Int) ≤ (k : Int) / 2 := by omega
   by_cases hev : k % 2 = 0
   ·obtain ⟨hj,hA⟩ := HA.out.even hk2 hev
    have c1 : wr.cell? ⟨w1.heap.size,k / 2,none⟩ = some (.int .u64 W[k / 2]) := Row.word (r := []) (by simpa using hr) hj;have HA' := hid hA;have HR2 : Hid (Row (wr.setCell ⟨w1.heap.size,k / 2,none⟩ (.int .u64 L[k])) w1.heap.size (ws (W.set (k / 2) L[k]))) := by
     have := Row.setWord (r := []) (by simpa using hr) hj L[k];unfold Hid;simpa using this
    have HB2 := hid (hb.setCell (p := ⟨w1.heap.size,k / 2,none⟩) (Nat.le_refl _) (.int .u64 L[k]));have hz : ((k : Int) % 2 == 0) = true := by rw [beq_iff_eq];omega
    have hz' : ((k : Int) % 2) = 0 := by omega
    generalize W[k / 2] = z at *;clear hcy hr hb hA HA;generalize L[k] = x at *;go_wp2;go_roundw
    case rel => exact ⟨k + 1,_,by omega,by go_num,HA',HR2.out,HB2.out⟩
    case measure => simp [intOf];omega
   ·obtain ⟨hj,hz0,hz1,hA⟩ := HA.out.odd HC.out.1 hk2 (by omega)
    have c1 : wr.cell? ⟨w1.heap.size,k / 2,none⟩ = some (.int .u64 W[k / 2]) := Row.word (r := []) (by simpa using hr) hj;have HA' := hid hA;have HR2 : Hid (Row (wr.setCell ⟨w1.heap.size,k / 2,none⟩ (.int .u64 (W[k / 2] + L[k] * 4294967296))) w1.heap.size (ws (W.set (k / 2) (W[k / 2] + L[k] * 4294967296)))) := by
     have := Row.setWord (r := []) (by simpa using hr) hj (W[k / 2] + L[k] * 4294967296);unfold Hid;simpa using this
    have HB2 := hid (hb.setCell (p := ⟨w1.heap.size,k / 2,none⟩) (Nat.le_refl _) (.int .u64 (W[k / 2] + L[k] * 4294967296)));have hz : ((k : Int) % 2 == 0) = false := by rw [beq_eq_false_iff_ne];omega
    generalize W[k / 2] = z at *;clear hcy hr hb hA HA;generalize L[k] = x at *;generalize W.set (k / 2) (z + x * 4294967296) = W' at *;go_wp2_with fail;go_region;go_wp2;go_roundw
    case rel => exact ⟨k + 1,_,by omega,by go_num,HA',HR2.out.drewN 1,HB2.out.drew⟩
    case measure => simp [intOf];omega
  ·obtain rfl : k = n := by omega
   have HE := HA.out;rw [← HL.out] at HE;have hd := HE.done HC.out;have hll := HE.1;clear HE;go_wp2;go_ret;refine ⟨W,_,rfl,⟨hd.1.1,.inr ⟨w1.heap.size,[],Nat.le_refl _,?_,?_,?_⟩⟩,hd.1,by rw [hd.2,HVL.out],hb⟩
   ·rw [hll,HL.out];simp;omega
   ·rw [hll,HL.out];simp
   ·simpa using hr
def zVC (D T : List Int) (f : Int) (k : Nat) (c : Int) : Prop :=
 T.length = D.length + 1 ∧ HF T ∧ (∀ j (h : j < T.length),k ≤ j → T[j] = 0) ∧ hval T + hpw k * c = f * hval (D.take k)
theorem zVC.start (D : List Int) (f : Int) : zVC D (List.replicate (D.length + 1) 0) f 0 0 :=
 ⟨by simp,zOH _,fun j h _ => by simp,by rw [zmD];simp [hval]⟩
theorem zVC.step {D T : List Int} {f c x lo hi : Int} {k : Nat} (h : zVC D T f k c) (hk : k < D.length) (hx : D[k] = x) (hl : IsH lo) (he : lo + hwB * hi = x * f + c) : zVC D (T.set k lo) f (k + 1) hi := by
 obtain ⟨h1,h2,h3,h4⟩ := h;refine ⟨by rw [List.length_set];exact h1,h2.set k hl,fun j hj hkj => ?_,?_⟩
 ·rw [List.getElem_set_ne (by omega)];exact h3 j (by simpa using hj) (by omega)
 ·rw [zXD T k lo (by omega),h3 k (by omega) (Nat.le_refl _),zDB D k hk,hx,hpw]
  generalize hpw k = P at *;generalize hval T = Z at *;generalize hval (D.take k) = X at *;have e : lo = x * f + c - hwB * hi := by omega
  subst e
  grind
theorem zVC.done {D T : List Int} {f c : Int} (h : zVC D T f D.length c) (hc : IsH c) : HF (T.set D.length c) ∧ hval (T.set D.length c) = f * hval D := by
 obtain ⟨h1,h2,h3,h4⟩ := h;refine ⟨h2.set _ hc,?_⟩;rw [zXD T D.length c (by omega),h3 D.length (by omega) (Nat.le_refl _)];rw [List.take_length] at h4;rw [Int.sub_zero,Int.mul_comm];exact h4
theorem zJF {x f c : Int} (hx0 : 0 ≤ x) (hx1 : x < 4294967296) (hf0 : 0 ≤ f) (hf1 : f < 4294967296) (hc0 : 0 ≤ c) (hc1 : c < 4294967296) : 0 ≤ x * f ∧ x * f ≤ 18446744065119617025 := by
 refine ⟨Int.mul_nonneg hx0 hf0,?_⟩;have h1 := Int.mul_le_mul_of_nonneg_right (show x ≤ 4294967295 by omega) hf0;have h2 := Int.mul_le_mul_of_nonneg_left (show f ≤ 4294967295 by omega) (show (0 : Int) ≤ 4294967295 by omega);omega
theorem zbE {w : World} {v : Value} {D : List Int} {f : Int} (h : Sl w.heap.size w v D) (hD : HF D) (hf0 : 0 ≤ f) (hf1 : f < 4294967296) (hlen : D.length ≤ 17592186044416) :
  Calls Tryz.prog 150 #[v,.int .u64 f] w fun e w' => ∃ T,e = .returned (.slice (some ⟨w.heap.size,0,none⟩) (D.length + 1) (D.length + 1)) ∧ T.length = D.length + 1 ∧ HF T ∧ hval T = f * hval D ∧ Row w' w.heap.size (ws T) ∧ Below w.heap.size w w' := by
 obtain ⟨hw,a,cap,rfl,hlc,hcm,hm⟩ := h;have HST := hid (zVC.start D f);have HM := hid hm;have HD := hid hD;obtain ⟨n,hn⟩ : ∃ n,D.length = n := ⟨_,rfl⟩
 rw [hn] at hlc hlen HST;rw [hn];have HN := hid hn;clear hm hD hn;go_enter Tryz.func150,Tryz.ntmps150;go_wp2_with (at_make;refine wpList_make_words _ rfl _ _ rfl _ _ (n + 1) (n + 1) rfl rfl (by first | rfl | omega) (by first | rfl | omega) (Nat.le_refl _) (by omega) ?_)
 intro w2 hrow hb2 hsz2;have hrow' := hid hrow;have hb2' := hid hb2;clear hrow hb2 hsz2;go_wp2_with fail
 go_loopw [6,7] (fun c i wr => ∃ (k : Nat) (T : List Int) (cc : Int),k ≤ n ∧ i = .int .i64 k ∧ c = .int .u64 cc ∧ 0 ≤ cc ∧ cc < 4294967296 ∧ Hid (zVC D T f k cc) ∧ Row wr w.heap.size (ws T) ∧ Below w.heap.size w wr) (fun _ i _ => n - (intOf i).toNat)
 case atStart => exact ⟨0,_,0,Nat.zero_le _,rfl,rfl,by omega,by omega,HST,hrow'.out,hb2'.out⟩
 case round =>
  clear hrow' hb2' HST;obtain ⟨k,T,cc,hk,rfl,rfl,hc0,hc1,HA,hr,hb⟩ := hrel;have hTl : T.length = n + 1 := by rw [HA.out.1,HN.out]
  by_cases hlt : k < n
  ·have hk2 : k < D.length := by have := HN.out;omega
   rcases HM.out with e | ⟨b,off,rfl,hbg,hcy⟩
   ·subst e;simp at hk2
   have hxw := HD.out.get hk2;unfold IsH hwB at hxw;obtain ⟨hx0,hx1⟩ := hxw;obtain ⟨p0,p1⟩ := zJF hx0 hx1 hf0 hf1 hc0 hc1;obtain ⟨p,hp⟩ : ∃ p,p = D[k] * f := ⟨_,rfl⟩
   rw [← hp] at p0 p1;have ep : D[k] * f = p := hp.symm;have c2 : wr.cell? ⟨b,off + k,none⟩ = some (.int .u64 D[k]) := (hb.cell (p := ⟨b,off + k,none⟩) hbg).trans (hcy k hk2);have cf : wr.frozen? ⟨w.heap.size,k,none⟩ = false := hr.frozen _;have c1 : wr.cell? ⟨w.heap.size,k,none⟩ = some (.int .u64 (T[k]'(by omega))) := Row.word (r := []) (by simpa using hr) (by omega);have HA' := hid (HA.out.step (lo := (p + cc) % 4294967296) (hi := (p + cc) / 4294967296) hk2 rfl (by unfold IsH hwB;omega) (by rw [ep];unfold hwB;omega));have HR2 : Hid (Row (wr.setCell ⟨w.heap.size,k,none⟩ (.int .u64 ((p + cc) % 4294967296))) w.heap.size (ws (T.set k ((p + cc) % 4294967296)))) := by
    have := Row.setWord (r := []) (by simpa using hr) (show k < T.length by omega) ((p + cc) % 4294967296);unfold Hid;simpa using this
   have HB2 := hid (hb.setCell (p := ⟨w.heap.size,k,none⟩) (Nat.le_refl _) (.int .u64 ((p + cc) % 4294967296)));have i0 : (0 : Int) ≤ (k : Int) := by omega
   clear hcy hr hb HA hp;generalize T[k]'(by omega) = z at *;generalize D[k] = x at *;go_wp2;go_roundw
   case rel => exact ⟨k + 1,_,_,by omega,by go_num,rfl,by omega,by omega,HA',HR2.out,HB2.out⟩
   case measure => simp [intOf];omega
  ·obtain rfl : k = n := by omega
   have HE := HA.out;rw [← HN.out] at HE;have hd := HE.done (by unfold IsH hwB;omega);rw [HN.out] at hd;have cf : wr.frozen? ⟨w.heap.size,k,none⟩ = false := hr.frozen _;have c1 : wr.cell? ⟨w.heap.size,k,none⟩ = some (.int .u64 (T[k]'(by omega))) := Row.word (r := []) (by simpa using hr) (by omega);have HR2 : Hid (Row (wr.setCell ⟨w.heap.size,k,none⟩ (.int .u64 cc)) w.heap.size (ws (T.set k cc))) := by
    have := Row.setWord (r := []) (by simpa using hr) (show k < T.length by omega) cc;unfold Hid;simpa using this
   have HB2 := hid (hb.setCell (p := ⟨w.heap.size,k,none⟩) (Nat.le_refl _) (.int .u64 cc));have HDN := hid hd;clear HE hd hr hb HM;generalize T[k]'(by omega) = z at *;go_wp2;go_ret;exact ⟨T.set k cc,rfl,by rw [List.length_set];exact hTl,HDN.out.1,HDN.out.2,HR2.out,HB2.out⟩
theorem zDH {R : List Int} {i : Nat} {z z' c' t V P c : Int} (hi : i < R.length) (hz : R[i] = z) (he : z' - hwB * c' = z - t) (hv : hval R - hpw i * c = V - P) : hval (R.set i z') - hpw (i + 1) * c' = V - (P + hpw i * (t - c)) := by
 rw [zXD R i z' hi,hz,hpw];generalize hpw i = Q at *;generalize hval R = X at *;have e : z' = z - t + hwB * c' := by omega
 subst e
 grind
def zcD (R0 bs R : List Int) (q : Int) (s k : Nat) (c : Int) : Prop := R.length = R0.length ∧ HF R ∧ hval R - hpw (s + k) * c = hval R0 - hpw s * (q * hval (bs.take k))
theorem zcD.start {R0 bs : List Int} (h : HF R0) (q : Int) (s : Nat) : zcD R0 bs R0 q s 0 0 := ⟨rfl,h,by simp [hval]⟩
theorem zcD.in {R0 bs R : List Int} {q c z z' c' x : Int} {s k : Nat} (h : zcD R0 bs R q s k c) (hk : k < bs.length) (hx : bs[k] = x) (hi : s + k < R.length) (hz : R[s + k] = z) (hz' : IsH z') (he : z' - hwB * c' = z - (c + q * x)) : zcD R0 bs (R.set (s + k) z') q s (k + 1) c' := by
 obtain ⟨h1,h2,h3⟩ := h;refine ⟨by rw [List.length_set];exact h1,h2.set _ hz',?_⟩;have := zDH hi hz he h3;rw [show s + (k + 1) = s + k + 1 by omega,this,zDB bs k hk,hx,zcG];generalize hpw s = P at *;generalize hpw k = K at *;generalize hval (bs.take k) = X at *
 grind
theorem zcD.out {R0 bs R : List Int} {q c z z' c' : Int} {s k : Nat} (h : zcD R0 bs R q s k c) (hk : bs.length ≤ k) (hi : s + k < R.length) (hz : R[s + k] = z) (hz' : IsH z') (he : z' - hwB * c' = z - c) : zcD R0 bs (R.set (s + k) z') q s (k + 1) c' := by
 obtain ⟨h1,h2,h3⟩ := h;refine ⟨by rw [List.length_set];exact h1,h2.set _ hz',?_⟩;have := zDH hi hz he h3;rw [show s + (k + 1) = s + k + 1 by omega,this,List.take_of_length_le hk,List.take_of_length_le (by omega),Int.sub_self,Int.mul_zero,Int.add_zero]
theorem zcD.done {R0 bs R : List Int} {q : Int} {s k : Nat} (h : zcD R0 bs R q s k 0) (hk : bs.length ≤ k) : hval R = hval R0 - hpw s * (q * hval bs) := by
 obtain ⟨h1,h2,h3⟩ := h;rw [List.take_of_length_le hk,Int.mul_zero,Int.sub_zero] at h3;exact h3
theorem zcD.last {R0 bs R : List Int} {q c : Int} {s k : Nat} (h : zcD R0 bs R q s k c) (hk : bs.length ≤ k) (hl : s + k = R.length) (hc : 0 ≤ c) (hge : hpw s * (q * hval bs) ≤ hval R0) : c = 0 := by
 obtain ⟨h1,h2,h3⟩ := h;rw [List.take_of_length_le hk,hl] at h3;have h4 := zJB h2
 by_cases q : c = 0
 ·exact q
 ·have := Int.mul_le_mul_of_nonneg_left (show 1 ≤ c by omega) (Int.le_of_lt (ziB R.length))
  rw [Int.mul_one] at this;omega
end Go.Proofs.YtkdobgbicnemcaaGreatDoor
