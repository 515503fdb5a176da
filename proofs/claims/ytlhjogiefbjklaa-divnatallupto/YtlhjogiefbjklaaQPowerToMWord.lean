/-
 QPowerToMWord: Power, MWord, joined.
-/
import Derived.Test.YtlhjogiefbjklaaQMulAllToPow
import Derived.Test.YtlhjogiefbjklaaQDivMod

set_option maxRecDepth 100000
set_option maxHeartbeats 6400000
set_option linter.unusedVariables false
set_option linter.unusedSimpArgs false
namespace Go.Proofs.Ytlhjogiefbjklaa
open Go.RowKit
theorem amgm {x r : Int} (hx : 0 ≤ x) (hr : 0 ≤ r) : ∀ n : Nat,((n : Int) + 1) * (r * x ^ n) ≤ (n : Int) * x ^ (n + 1) + r ^ (n + 1)
 | 0 => by simp [Int.pow_succ]
 | n + 1 => by
  have ih := amgm hx hr n;have h1 := Int.mul_le_mul_of_nonneg_right ih hr;have hp : 0 ≤ x ^ n := Int.pow_nonneg hx;have hs : 0 ≤ (x - r) * (x - r) := by
   rcases Int.le_total 0 (x - r) with h | h
   ·exact Int.mul_nonneg h h
   ·exact Int.mul_nonneg_of_nonpos_of_nonpos h h
  have h2 := Int.mul_nonneg (Int.mul_nonneg (show (0 : Int) ≤ (n : Int) + 1 by omega) hp) hs;rw [Int.pow_succ x (n + 1),Int.pow_succ x n,Int.pow_succ r (n + 1),Int.pow_succ r n];rw [Int.pow_succ x n,Int.pow_succ r n] at h1;generalize x ^ n = X at *;generalize r ^ n = R at *
  push_cast
  generalize (n : Int) = m at *
  grind
theorem zgB {x y : Int} (hx : 0 ≤ x) (h : x ≤ y) : ∀ n : Nat,x ^ n ≤ y ^ n
 | 0 => by simp
 | n + 1 => by
  rw [Int.pow_succ,Int.pow_succ];exact Int.mul_le_mul (zgB hx h n) h hx (Int.pow_nonneg (by omega))
theorem zYD {a x r : Int} {n : Nat} (hx : 0 < x) (hr : 0 ≤ r) (h : r ^ (n + 1) ≤ a) : r ≤ ((n : Int) * x + a / x ^ n) / ((n : Int) + 1) := by
 have hk : (0 : Int) < (n : Int) + 1 := by omega
 rw [Int.le_ediv_iff_mul_le hk];have hp : 0 < x ^ n := Int.pow_pos hx;have h2 : r * ((n : Int) + 1) - (n : Int) * x ≤ a / x ^ n := by
  rw [Int.le_ediv_iff_mul_le hp];have h1 := amgm (Int.le_of_lt hx) hr n;rw [Int.pow_succ x n] at h1;rw [Int.sub_mul];generalize x ^ n = X at *;have e1 : r * ((n : Int) + 1) * X = ((n : Int) + 1) * (r * X) := by grind
  have e2 : (n : Int) * x * X = (n : Int) * (X * x) := by grind
  rw [e1,e2];omega
 omega
theorem zyC {a x r : Int} {n : Nat} (hx : 0 < x) (hr : 0 ≤ r) (ha : 0 ≤ a) (h : a < (r + 1) ^ (n + 1)) (hxr : r < x) : ((n : Int) * x + a / x ^ n) / ((n : Int) + 1) < x := by
 have hk : (0 : Int) < (n : Int) + 1 := by omega
 have hp : 0 < x ^ n := Int.pow_pos hx;have h1 := zgB (x := r + 1) (y := x) (by omega) (by omega) (n + 1);rw [Int.pow_succ x n] at h1;have h2 : a / x ^ n < x := Int.ediv_lt_of_lt_mul hp (by rw [Int.mul_comm];omega);refine Int.ediv_lt_of_lt_mul hk ?_;have e : x * ((n : Int) + 1) = (n : Int) * x + x := by grind
 have e' : ((n : Int) + 1) * x = (n : Int) * x + x := by grind
 first | (rw [e];omega) | (rw [e'];omega)
theorem pow_half (X : Int) (n : Nat) : X ^ n = if n % 2 = 1 then X ^ (n / 2) * X ^ (n / 2) * X else X ^ (n / 2) * X ^ (n / 2) := by
 split
 ·rename_i h
  rw [← Int.pow_add,← Int.pow_succ]
  congr 1
  omega
 ·rename_i h
  rw [← Int.pow_add]
  congr 1
  omega
def zdF (N : Nat) : Prop := ∀ (w : World) (va : Value) (xs : List Int) (n : Nat),Sl w.heap.size w va xs → xs.length ≤ 1073741824 → xs.length * n ≤ 8589934592 → n < 4294967296 → n < N → Calls Try.prog 91 #[va,.int .i64 (n : Int)] w (zzA w (val xs ^ n))
theorem power_step {w : World} {va : Value} {xs : List Int} {n : Nat} (ha : Sl w.heap.size w va xs) (lx : xs.length ≤ 1073741824) (ln : xs.length * n ≤ 8589934592) (hn32 : n < 4294967296) (IH : zdF n) : Calls Try.prog 91 #[va,.int .i64 (n : Int)] w (zzA w (val xs ^ n)) := by
 by_cases hn : n ≤ 256
 ·have HP := pow_some ha lx hn
  have z : (n : Int) ≤ 256 := by omega
  clear ha IH;go_enter Try.func91,Try.ntmps91;go_wp2_with fail;refine HP.mono ?_;rintro e w1 ⟨zs,r,rfl,m1,c1,v1,b1⟩;have M1 := hid m1;have B1 := hid b1;clear HP m1 b1;go_wp2;go_ret;exact ⟨zs,r,rfl,M1.out,c1,v1,B1.out⟩
 ·have z : ¬ (n : Int) ≤ 256 := by omega
  have e2 : (n : Int) / 2 = ((n / 2 : Nat) : Int) := by omega
  have hl2 : xs.length * (n / 2) ≤ xs.length * n := Nat.mul_le_mul_left _ (Nat.div_le_self _ _);have HP := hid (IH w va xs (n / 2) ha lx (by omega) (by omega) (by omega));have X0 := hid (val_nonneg ha.1);have X1 := hid (zVA ha.1);have HA := hid ha;have PH := hid (pow_half (val xs) n);obtain ⟨h,hh⟩ : ∃ h,n / 2 = h := ⟨_,rfl⟩
  rw [hh] at HP e2 hl2 PH;clear ha IH hh;go_enter Try.func91,Try.ntmps91;go_wp2_with fail;refine HP.out.mono ?_;rintro e w1 ⟨zs,r,rfl,m1,c1,v1,b1⟩;have l1 := zuC X0.out X1.out c1 v1;have HS := hid (znB m1.sl (by omega));have V1 := hid v1;have B1 := hid b1;clear HP v1 b1;go_wp2_with fail;refine HS.out.mono ?_;rintro e w2 ⟨zs2,r2,rfl,m2,c2,v2,b2⟩;have l2 := zuC (e := h + h) X0.out X1.out c2 (by rw [v2,V1.out,← Int.pow_add]);have hl3 : xs.length * (h + h) ≤ 2 * (xs.length * n) := by rw [Nat.mul_add];omega
  have V2 := hid v2;have B2 := hid (zAA B1.out b2);have M2 := hid (m2.mono B1.out.size);clear HS m1 v2 b2
  by_cases hodd : n % 2 = 1
  ·have z2 : ((n : Int) % 2 == 1) = true := by rw [beq_iff_eq];omega
   have z3 : (n : Int) % 2 = 1 := by omega
   have HM := hid (zME m2.sl (HA.out.now B2.out) (by omega));clear m2;go_wp2_with fail;refine HM.out.mono ?_;rintro e w3 ⟨zs3,r3,rfl,m3,c3,v3,b3⟩;have M3 := hid (m3.mono B2.out.size);have B3 := hid (zAA B2.out b3);have V3 := hid v3;clear HM m3 b3 v3;go_wp2;go_ret;exact ⟨zs3,r3,rfl,M3.out,c3,by rw [V3.out,V2.out,V1.out,PH.out,if_pos hodd],B3.out⟩
  ·have z2 : ((n : Int) % 2 == 1) = false := by rw [beq_eq_false_iff_ne];omega
   clear m2;go_wp2;go_ret;exact ⟨zs2,r2,rfl,M2.out,c2,by rw [V2.out,V1.out,PH.out,if_neg hodd],B2.out⟩
theorem zZE : ∀ N,zdF N
 | 0 => fun w va xs n _ _ _ _ h => by omega
 | N + 1 => fun w va xs n ha lx ln h32 h => power_step ha lx ln h32 (fun w' va' xs' n' ha' lx' ln' h32' h' => zZE N w' va' xs' n' ha' lx' ln' h32' (by omega))
theorem zuD {w : World} {va : Value} {xs : List Int} {n : Nat} (ha : Sl w.heap.size w va xs) (lx : xs.length ≤ 1073741824) (ln : xs.length * n ≤ 8589934592) (h32 : n < 4294967296) : Calls Try.prog 91 #[va,.int .i64 (n : Int)] w (zzA w (val xs ^ n)) :=
 zZE _ w va xs n ha lx ln h32 (Nat.lt_succ_self _)
theorem zAC {w : World} {va : Value} {xs : List Int} (ha : Sl w.heap.size w va xs) {W : Int} (hW : IsW W) (hl : xs.length < 35184372088832) :
  Calls Try.prog 85 #[va,.int .u64 W] w (zzA w (val xs * W)) := by
 obtain ⟨a,ca,rfl⟩ : ∃ a ca,va = .slice a xs.length ca := by obtain ⟨_,a,ca,e,_⟩ := ha;exact ⟨a,ca,e⟩
 have HT1 := hid (zFB ha);have l1 := zGA xs;have SX := hid (ha.taken l1)
 change Hid (Sl w.heap.size w _ (lst xs)) at SX
 have CX := hid (canon_lst ha.1);have LX := hid (length_lst xs);rw [← val_lst xs];generalize lst xs = X at *;generalize wid xs = n at *;clear ha;have HW := hid hW;go_enter Try.func85,Try.ntmps85;go_wp2_with fail;refine HT1.out.mono ?_;rintro e w1 ⟨rfl,rfl⟩;clear HT1;go_wp2_with (at_make;refine wpList_make_words _ rfl _ _ rfl _ _ (n + 1) (n + 1) rfl rfl (by omega) (by omega) (Nat.le_refl _) (by omega) ?_)
 intro w2 hrow hb2 hsz2;have HA := hid (zYC (o := 0) (len := n + 1) (cap := n + 1) (r := []) (zmB (n + 1)) (by simpa using hrow) (by simp;omega) (SX.out.below hb2 (Nat.le_refl _)) HW.out (by rw [LX.out];simp) (by rw [LX.out];omega));rw [LX.out] at HA;have HB2 := hid hb2;clear hrow hb2 hsz2;go_wp2_with fail;refine HA.out.mono ?_;rintro e w3 ⟨zs',c,rfl,hzl,hwz',hc,hv,hd,hr3,hb3⟩;rw [Nat.zero_add] at hv hd;have hzl' : zs'.length = n + 1 := by rw [hzl];simp
 have D3 : zs'.drop n = List.replicate (0 + 1) 0 := by rw [hd];simp
 obtain ⟨hk3,hz3⟩ := zLC D3;have c3 : w3.cell? ⟨w1.heap.size,n,none⟩ = some (.int .u64 zs'[n]) := hr3.word hk3;have cf : w3.frozen? ⟨w1.heap.size,n,none⟩ = false := hr3.frozen _;have HV4 : Hid (val (zs'.set n c) = val X * W) := by
  unfold Hid;rw [zwA zs' n c hk3,hz3];rw [zeB] at hv;have : pw 0 = 1 := rfl;rw [this] at hv
  grind
 have HR4 := hid (hr3.setWord hk3 c);have HB4 := hid ((HB2.out.trans hb3).setCell (p := ⟨w1.heap.size,n,none⟩) (Nat.le_refl _) (.int .u64 c));have HW4 := hid (hwz'.set n hc);have HL4 : Hid ((zs'.set n c).length = n + 1) := by unfold Hid;rw [List.length_set,hzl']
 generalize zs'[n] = z at *;generalize zs'.set n c = zs'' at *;clear hd D3 hr3 hb3 hv hzl hwz' HA HB2 hzl';go_wp2_with fail;have hr5 : Row (w3.setCell ⟨w1.heap.size,n,none⟩ (.int .u64 c)) w1.heap.size (ws zs'') := by simpa using HR4.out
 have hsl := Row.sl (r := []) (by simpa using hr5) HW4.out (cap := n + 1) (by rw [HL4.out];exact Nat.le_refl _) (by omega) hr5.lt;rw [HL4.out] at hsl;refine (zFB hsl).mono ?_;rintro e w5 ⟨rfl,rfl⟩;go_wp2;go_ret;exact ⟨lst zs'',_,rfl,trim_mine (Nat.le_refl _) HW4.out (by rw [HL4.out];omega) hr5,canon_lst HW4.out,by rw [val_lst];exact HV4.out,HB4.out⟩
end Go.Proofs.Ytlhjogiefbjklaa
