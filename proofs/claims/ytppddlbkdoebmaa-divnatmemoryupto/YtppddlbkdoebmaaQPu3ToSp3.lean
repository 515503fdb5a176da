/-
 QPu3ToSp3: Pu3, Sp3, joined.
-/
import Derived.Test.YtppddlbkdoebmaaQGh3ToBo3
import Derived.Test.YtppddlbkdoebmaaQBitByBitToOnto

set_option maxRecDepth 100000
set_option maxHeartbeats 6400000
set_option linter.unusedVariables false
set_option linter.unusedSimpArgs false
namespace Go.Proofs.Ytppddlbkdoebmaa
open Go.RowKit
def InAt (D Z : List Int) (f n : Int) (k : Nat) (c : Int) : Prop :=
 Z.length = D.length ∧ HF Z ∧ (∀ j,k ≤ j → Z[j]? = D[j]?) ∧ hval (Z.take k) + hpw k * c = f * hval (D.take k) + n
theorem InAt.start {D : List Int} (h : HF D) (f n : Int) : InAt D D f n 0 n := ⟨rfl,h,fun _ _ => rfl,by simp [hval,hpw]⟩
theorem InAt.at {D Z : List Int} {f n c : Int} {k : Nat} (h : InAt D Z f n k c) (hk : k < D.length) : Z[k]'(by rw [h.1];exact hk) = D[k] := by
 have h1 := h.2.2.1 k (Nat.le_refl _);rw [List.getElem?_eq_getElem hk,List.getElem?_eq_getElem (by rw [h.1];exact hk)] at h1;exact Option.some.inj h1
theorem InAt.step {D Z : List Int} {f n c x lo hi : Int} {k : Nat} (h : InAt D Z f n k c) (hk : k < D.length) (hx : D[k] = x) (hl : IsH lo) (he : lo + hwB * hi = f * x + c) : InAt D (Z.set k lo) f n (k + 1) hi := by
 obtain ⟨h1,h2,h3,h4⟩ := h;have hkz : k < (Z.set k lo).length := by rw [List.length_set,h1];exact hk
 refine ⟨by rw [List.length_set,h1],h2.set k hl,fun j hj => ?_,?_⟩
 ·rw [List.getElem?_set_ne (by omega)];exact h3 j (by omega)
 ·rw [zQA _ k hkz,zQA D k hk]
  have e1 : (Z.set k lo)[k]'hkz = lo := by simp
  have e2 : (Z.set k lo).take k = Z.take k := List.take_set_of_le (Nat.le_refl k);rw [e1,e2,hx]
  show hval (Z.take k) + lo * hpw k + hwB * hpw k * hi = _
  have e3 : hwB * hpw k * hi = hpw k * (hwB * hi) := by rw [Int.mul_comm hwB,Int.mul_assoc]
  have e4 : lo * hpw k = hpw k * lo := Int.mul_comm _ _;have e5 : hpw k * (lo + hwB * hi) = hpw k * (f * x + c) := by rw [he]
  rw [Int.mul_add,Int.mul_add] at e5;have e6 : f * (hval (D.take k) + x * hpw k) = f * hval (D.take k) + hpw k * (f * x) := by
   rw [Int.mul_add]
   congr 1
   rw [Int.mul_comm x,← Int.mul_assoc,Int.mul_comm f,Int.mul_assoc]
  rw [e6,e3,e4];omega
theorem InAt.done {D Z : List Int} {f n c : Int} (h : InAt D Z f n D.length c) (hc : 0 ≤ c) (hf : f * hval D + n < hpw D.length) : hval Z = f * hval D + n := by
 obtain ⟨h1,h2,h3,h4⟩ := h;rw [List.take_of_length_le (Nat.le_of_eq h1),List.take_of_length_le (Nat.le_refl _)] at h4;have h5 := zDA h2;have h6 := zcA D.length;rcases Int.lt_or_le 0 c with q | q
 ·have : hpw D.length * 1 ≤ hpw D.length * c := Int.mul_le_mul_of_nonneg_left (by omega) (by omega)
  omega
 ·have : c = 0 := by omega
  subst this
  simpa using h4
def PuH3 (w : World) (g : Nat) (D : List Int) (r : List Value) (f n m : Int) (N gk : Nat) (s4 s5 : Value) (wx : World) : Prop :=
 ∃ (k : Nat) (c : Int) (Z : List Int),s4 = .int .u64 c ∧ s5 = .int .i64 (k : Int) ∧ k ≤ N ∧ gk = N - k ∧ 0 ≤ c ∧ c < m ∧ InAt D Z f n k c ∧ Row wx g (ws Z ++ r) ∧ Below g w wx ∧ Only g w wx
theorem zpE {w : World} {g cap : Nat} {D : List Int} {r : List Value} {n : Int} (hD : HF D) (hrow : Row w g (ws D ++ r)) (hn0 : 0 ≤ n) (hn4 : n < 4) (hlen : D.length ≤ 35184372088832) (hfit : 4 * hval D + n < hpw D.length) :
  Calls Try.prog 44 #[.slice (some ⟨g,0,none⟩) D.length cap,.int .u64 n] w fun e w' =>
   e = .returned (.tuple #[]) ∧ ∃ Z,Z.length = D.length ∧ HF Z ∧ hval Z = 4 * hval D + n ∧ Row w' g (ws Z ++ r) ∧ Below g w w' ∧ Only g w w' := by
 obtain ⟨N,hN⟩ : ∃ N,D.length = N := ⟨_,rfl⟩
 have HNN := hid hN;have J0 : Hid (PuH3 w g D r 4 n 4 N N (.int .u64 n) (.int .i64 0) w) := ⟨0,n,D,rfl,rfl,Nat.zero_le _,rfl,hn0,hn4,InAt.start hD 4 n,hrow,Below.refl _ _,Only.refl _ _⟩
 have HF4 := hid hfit;have HDD := hid hD;rw [hN] at hlen ⊢;clear hrow hfit hD hN;go_enter Try.func44,Try.ntmps44;go_wp2_with fail
 go_loopg [4,5] N (fun gk s4 s5 wx => PuH3 w g D r 4 n 4 N gk s4 s5 wx)
 case atStart => exact J0.out
 case round =>
  clear J0;obtain ⟨k,c,Z,rfl,rfl,hkN,hgk,hc0,hc4,hI,hR,hB,hO⟩ := hrel;have HI := hid hI;have HR := hid hR;have HB := hid hB;have HO := hid hO;have HG := hid hgk;clear hI hR hB hO hgk
  by_cases hlt : k < N
  ·have hk : k < D.length := by have := HNN.out;omega
   have hkz : k < Z.length := by rw [HI.out.1];exact hk
   have hx := HDD.out.get hk;unfold IsH hwB at hx;have ez := HI.out.at hk;have c1 := HR.out.word hkz;rw [ez] at c1;have cf : wr.frozen? ⟨g,k,none⟩ = false := HR.out.frozen _;obtain ⟨x,hxx⟩ : ∃ x,D[k] = x := ⟨_,rfl⟩
   rw [hxx] at c1 hx;obtain ⟨hx0,hx1⟩ := hx;obtain ⟨lo,hlo⟩ : ∃ lo,(x * 4 + c) % 4294967296 = lo := ⟨_,rfl⟩
   have HS := hid (HI.out.step (lo := (x * 4 + c) % 4294967296) (hi := (x * 4 + c) / 4294967296) hk hxx (by unfold IsH hwB;omega) (by unfold hwB;omega));have hlt' : (k : Int) < (N : Int) := by omega
   have k0 : (0 : Int) ≤ (k : Int) := by omega
   have HNX : Hid (PuH3 w g D r 4 n 4 N (N - (k + 1)) (.int .u64 ((x * 4 + c) / 4294967296)) (.int .i64 ((k + 1 : Nat) : Int)) (wr.setCell ⟨g,k,none⟩ (.int .u64 ((x * 4 + c) % 4294967296)))) :=
    ⟨k + 1,_,_,rfl,rfl,by omega,rfl,by omega,by omega,HS.out,HR.out.setWord hkz _,HB.out.setCell (p := ⟨g,k,none⟩) (Nat.le_refl _) _,HO.out.set k _⟩
   have HM : Hid (N - (k + 1) < gk) := by unfold Hid;rw [HG.out];omega
   clear HS HI HR HB HO HG ez hxx hlo;go_wp2_with fail;go_roundg (N - (k + 1))
   case rel => exact HNX.out
   case measure => exact HM.out
  ·obtain rfl : k = N := by omega
   have hd := HI.out;rw [← HNN.out] at hd;have hv := hd.done hc0 HF4.out;have FIN : Hid (∃ Z,Z.length = k ∧ HF Z ∧ hval Z = 4 * hval D + n ∧ Row wr g (ws Z ++ r) ∧ Below g w wr ∧ Only g w wr) := ⟨Z,by rw [HI.out.1,HNN.out],HI.out.2.1,hv,HR.out,HB.out,HO.out⟩
   clear hd hv HI HR HB HO HG;go_wp2;go_end0;exact ⟨rfl,FIN.out⟩
theorem zqB : ∀ m,hpw m = ((2 ^ (32 * m) : Nat) : Int)
 | 0 => rfl
 | m + 1 => by
  show hwB * hpw m = _
  rw [zqB m,show 32 * (m + 1) = 32 + 32 * m by omega,Nat.pow_add];unfold hwB;rw [Int.natCast_mul]
  rfl
theorem zOG {D : List Int} (hD : HF D) {v : Nat} (hv : hval D = (v : Int)) {j : Nat} (hj : j < D.length) : D[j] = (((v / 2 ^ (32 * j)) % 2 ^ 32 : Nat) : Int) := by
 have h1 := zwA (zs := D) (j := j) (by omega);have h2 := zVA (hD.take j);have h3 := zDA (hD.take j);have e1 : (D.take j).length = j := by simp;omega
 rw [e1,zqB] at h2;rw [List.drop_eq_getElem_cons hj,zqB,hv] at h1;have h4 := hD.get hj;unfold IsH hwB at h4;have h5 := zDA (hD.drop (j + 1));obtain ⟨lo,hlo⟩ : ∃ lo : Nat,hval (D.take j) = (lo : Int) := ⟨(hval (D.take j)).toNat,by omega⟩
 obtain ⟨hi,hhi⟩ : ∃ hi : Nat,hval (D.drop (j + 1)) = (hi : Int) := ⟨(hval (D.drop (j + 1))).toNat,by omega⟩
 obtain ⟨x,hx⟩ : ∃ x : Nat,D[j] = (x : Int) := ⟨D[j].toNat,by omega⟩
 have e2 : hval (D[j] :: D.drop (j + 1)) = D[j] + hwB * hval (D.drop (j + 1)) := rfl;rw [e2,hlo,hhi,hx] at h1;rw [hlo] at h2;rw [hx] at h4 ⊢;have hP := Nat.two_pow_pos (32 * j);generalize 2 ^ (32 * j) = P at *;have e3 : v = lo + P * (x + 4294967296 * hi) := by
  have : (v : Int) = ((lo + P * (x + 4294967296 * hi) : Nat) : Int) := by rw [h1];unfold hwB;rw [Int.natCast_add,Int.natCast_mul,Int.natCast_add,Int.natCast_mul];rfl
  exact_mod_cast this
 have h2' : lo < P := by exact_mod_cast h2
 have e4 : v / P = x + 4294967296 * hi := by rw [e3,Nat.add_mul_div_left _ _ hP,Nat.div_eq_of_lt h2',Nat.zero_add]
 rw [e4,show (2 : Nat) ^ 32 = 4294967296 from rfl];have h6 : x < 4294967296 := by omega
 rw [Nat.add_mul_mod_self_left,Nat.mod_eq_of_lt h6]
theorem pair_h {v j m : Nat} (hm : m < 16) : (v / 2 ^ (32 * j)) % 2 ^ 32 / 2 ^ (2 * m) % 4 = v / 4 ^ (16 * j + m) % 4 := by
 have e1 : (2 : Nat) ^ 32 = 2 ^ (2 * m) * 2 ^ (32 - 2 * m) := by rw [← Nat.pow_add];congr 1;omega
 rw [e1,Nat.mod_mul_right_div_self];have e2 : 4 ∣ (2 : Nat) ^ (32 - 2 * m) := ⟨2 ^ (30 - 2 * m),by rw [show 32 - 2 * m = 2 + (30 - 2 * m) by omega,Nat.pow_add]⟩
 rw [Nat.mod_mod_of_dvd _ e2,Nat.div_div_eq_div_mul,← Nat.pow_add]
 congr 2
 rw [show (4 : Nat) = 2 ^ 2 from rfl,← Nat.pow_mul]
 congr 1
 omega
theorem four_next (v k : Nat) : v / 4 ^ k = 4 * (v / 4 ^ (k + 1)) + v / 4 ^ k % 4 := by
 have e : v / 4 ^ (k + 1) = v / 4 ^ k / 4 := by rw [Nat.pow_succ,Nat.div_div_eq_div_mul]
 rw [e];omega
theorem zqE {A r s p : Nat} (hA : A = r * r + s) (hs : s ≤ 2 * r) (hp : p < 4) :
  (4 * r + 1 ≤ 4 * s + p → 4 * A + p = (2 * r + 1) * (2 * r + 1) + (4 * s + p - (4 * r + 1)) ∧ 4 * s + p - (4 * r + 1) ≤ 2 * (2 * r + 1)) ∧
  (4 * s + p < 4 * r + 1 → 4 * A + p = 2 * r * (2 * r) + (4 * s + p) ∧ 4 * s + p ≤ 2 * (2 * r)) := by
 subst hA;have e1 : (2 * r + 1) * (2 * r + 1) = 4 * (r * r) + 4 * r + 1 := by
  rw [Nat.add_mul,Nat.mul_add];have : 2 * r * (2 * r) = 4 * (r * r) := by rw [Nat.mul_assoc,Nat.mul_left_comm r 2 r,← Nat.mul_assoc]
  omega
 have e2 : 2 * r * (2 * r) = 4 * (r * r) := by rw [Nat.mul_assoc,Nat.mul_left_comm r 2 r,← Nat.mul_assoc]
 rw [e1,e2];exact ⟨fun h => ⟨by omega,by omega⟩,fun h => ⟨by omega,by omega⟩⟩
theorem root_small {v r s k L : Nat} (hv : v < 4 ^ L) (h : v / 4 ^ k = r * r + s) : r < 2 ^ L := by
 rcases Nat.lt_or_ge r (2 ^ L) with q | q
 ·exact q
 ·have h1 := Nat.mul_le_mul q q
  rw [← Nat.pow_add,show L + L = 2 * L by omega,Nat.pow_mul] at h1;have h2 : v / 4 ^ k ≤ v := Nat.div_le_self _ _;have : (2 : Nat) ^ 2 = 4 := rfl;rw [this] at h1;omega
theorem root_done {v r s : Nat} (h : v / 4 ^ 0 = r * r + s) (hs : s ≤ 2 * r) : zlA r v 2 ∧ s = v - r * r := by
 rw [Nat.pow_zero,Nat.div_one] at h;refine ⟨⟨?_,?_⟩,by omega⟩
 ·rw [Nat.pow_two];omega
 ·rw [Nat.pow_two,Nat.add_mul,Nat.mul_add];omega
end Go.Proofs.Ytppddlbkdoebmaa
