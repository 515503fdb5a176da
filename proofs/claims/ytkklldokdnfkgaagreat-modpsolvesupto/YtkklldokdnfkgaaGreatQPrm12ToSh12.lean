/-
 QPrm12ToSh12: Prm12, Touch, Sh12, joined.
-/
import Derived.Test.YtkklldokdnfkgaaGreatQWordsToCarry
import Derived.Test.YtkklldokdnfkgaaGreatQEach9ToPr12
import Derived.Test.YtkklldokdnfkgaaGreatQFn12
import Derived.Test.YtkklldokdnfkgaaGreatQZStoreToLst9

set_option maxRecDepth 100000
set_option maxHeartbeats 6400000
set_option linter.unusedVariables false
set_option linter.unusedSimpArgs false
namespace Go.Proofs.YtkklldokdnfkgaaGreat
open Go.RowKit
def prB (n : Nat) : Bool := decide (2 ≤ n) && (List.range n).all fun d => decide (d < 2) || decide (n % d ≠ 0)
theorem zyE (n : Nat) : prB n = true ↔ IsPr n := by
 unfold prB;simp only [Bool.and_eq_true,decide_eq_true_eq,List.all_eq_true,List.mem_range,Bool.or_eq_true];refine ⟨fun ⟨h1,h2⟩ => ⟨h1,fun d hd => ?_⟩,fun h => ⟨h.1,fun d hd => ?_⟩⟩
 ·have hle := Nat.le_of_dvd (by omega) hd
  by_cases e : d = n
  ·exact .inr e
  ·rcases h2 d (by omega) with q | q
   ·left
    have : d ≠ 0 := fun z => by subst z;have := Nat.eq_zero_of_zero_dvd hd;omega
    omega
   ·exact absurd (Nat.mod_eq_zero_of_dvd hd) q
 ·by_cases q : d < 2
  ·exact .inl q
  ·right
   intro e;rcases h.2 d (Nat.dvd_of_mod_eq_zero e) with k | k <;> omega
theorem zxE {n : Nat} (h : IsPr n) : prB n = true := (zyE n).2 h
theorem zIC {n : Nat} (h : ¬ IsPr n) : prB n = false := by
 rcases Bool.eq_false_or_eq_true (prB n) with q | q
 ·exact absurd ((zyE n).1 q) h
 ·exact q
theorem zPF {x : Int} (h0 : 0 ≤ x) (h1 : x ≤ 18446744073709551615) : IntKind.u64.wrap x = x := by rw [IntKind.wrap_u64];omega
theorem zOF {x : Nat} (h1 : x ≤ 18446744073709551615) : IntKind.u64.wrap (x : Int) = (x : Int) := zPF (by omega) (by omega)
theorem zCI (a b : Nat) : (a : Int).tmod (b : Int) = ((a % b : Nat) : Int) := by rw [Int.tmod_eq_emod_of_nonneg (by omega)];rfl
theorem zjI (a b : Nat) : (a : Int) % (b : Int) = ((a % b : Nat) : Int) := rfl
theorem zEE {w : World} {n : Nat} (hn : n < 2147483648) :
  Calls Tryz.prog 37 #[.int .u64 (n : Int)] w fun e w' => e = .returned (.bool (prB n)) ∧ w' = w := by
 by_cases h2 : n % 2 = 0
 ·have hm : (n : Int) % 2 = 0 := by omega
  have hm' : (n : Int).tmod 2 = 0 := by rw [Int.tmod_eq_emod_of_nonneg (by omega)];exact hm
  have FIN : Hid (((n : Int) == 2) = prB n) := by
   unfold Hid
   by_cases e : n = 2
   ·rw [zxE ((zgF h2).2 e)];simp;omega
   ·rw [zIC (fun q => e ((zgF h2).1 q))];simp;omega
  go_enter Tryz.func37,Tryz.ntmps37;go_wp2;go_ret;exact ⟨by rw [← FIN.out];rfl,rfl⟩
 ·have hm : (n : Int) % 2 = 1 := by omega
  have hm' : (n : Int).tmod 2 = 1 := by rw [Int.tmod_eq_emod_of_nonneg (by omega)];exact hm
  have H2 : Hid (n % 2 = 1) := by unfold Hid;omega
  clear h2;go_enter Tryz.func37,Tryz.ntmps37;go_wp2
  go_loop [3] (fun i => ∃ k : Nat,i = .int .u64 (k : Int) ∧ 3 ≤ k ∧ k ≤ 46345 ∧ k % 2 = 1 ∧ ∀ e,3 ≤ e → e % 2 = 1 → e < k → ¬ e ∣ n) (fun i => 50000 - (intOf i).toNat)
  case atStart => exact ⟨3,rfl,by omega,by omega,by omega,fun e h1 h2 h3 => by omega⟩
  case round =>
   obtain ⟨k,rfl,hk3,hk4,hk2,hz⟩ := hrel;have HZ := hid hz;have HK2 := hid hk2;clear hz hk2;have hk46 : k * k ≤ 46345 * 46345 := Nat.mul_le_mul hk4 hk4;obtain ⟨q,hq⟩ : ∃ q,k * k = q := ⟨_,rfl⟩
   have hw : IntKind.u64.wrap ((k : Int) * (k : Int)) = (q : Int) := by
    rw [← hq];have := zOF (x := k * k) (by omega)
    simpa using this
   have HQ := hid hq;rw [hq] at hk46;clear hq
   by_cases hle : q ≤ n
   ·have hle' : (q : Int) ≤ (n : Int) := by omega
    have hk46' : k ≤ 46341 := by
     have := HQ.out
     apply Classical.byContradiction
     intro z;have := Nat.mul_le_mul (show 46342 ≤ k by omega) (show 46342 ≤ k by omega);omega
    have hk0 : ¬ (k : Int) = 0 := by omega
    have ht := zCI n k;have ht2 := zjI n k
    by_cases hd : n % k = 0
    ·rw [hd] at ht ht2
     have FIN : Hid (false = prB n) := by
      unfold Hid;rw [zIC (zkG (d := k) (by omega) (by have := HQ.out;omega) (Nat.dvd_of_mod_eq_zero hd))]
     clear hd;go_wp2;go_ret;exact ⟨by rw [← FIN.out];rfl,rfl⟩
    ·obtain ⟨m,hmm⟩ : ∃ m,n % k = m := ⟨_,rfl⟩
     rw [hmm] at ht ht2;have hm0 : ¬ ((m : Int) = 0) := by omega
     have HD : Hid (¬ n % k = 0) := hd;have hw2 : IntKind.u64.wrap ((k : Int) + 2) = ((k + 2 : Nat) : Int) := zOF (x := k + 2) (by omega);clear hd hmm;go_wp2;go_round
     case rel =>
      have h2 := H2.out;have h3 := HK2.out;refine ⟨k + 2,rfl,by omega,by omega,by omega,fun e h1 h4 h5 => ?_⟩
      by_cases e1 : e < k
      ·exact HZ.out e h1 h4 e1
      ·obtain rfl : e = k := by omega
       exact fun z => HD.out (Nat.mod_eq_zero_of_dvd z)
     case measure => simp [intOf];omega
   ·have hle' : ¬ (q : Int) ≤ (n : Int) := by omega
    have FIN : Hid (decide (1 < (n : Int)) = prB n) := by
     unfold Hid;have h2 := H2.out
     by_cases e : 1 < n
     ·rw [zxE (ispr_odd e h2 HZ.out (by have := HQ.out;omega))];simp;omega
     ·rw [zIC (fun z => e (by have := z.1;omega))];simp;omega
    clear HQ HZ HK2;go_wp2;go_ret;exact ⟨by rw [← FIN.out];rfl,rfl⟩
def blw : Nat → Nat
 | 0 => 0
 | n + 1 => if prB n = true then n else blw n
theorem blw_small {n : Nat} (h : n ≤ 2) : blw n = 0 := by
 match n,h with
 | 0,_ => rfl
 | 1,_ => rfl
 | 2,_ => decide
theorem below_any {w : World} {n : Nat} (hn : n ≤ 2147483648) :
  Calls Tryz.prog 16 #[.int .u64 (n : Int)] w fun e w' => e = .returned (.tuple #[.int .u64 (blw n : Int),.int .i64 (if blw n = 0 then 6 else 0)]) ∧ w' = w := by
 have hlt : ¬ (2147483648 : Int) < (n : Int) := by omega
 obtain ⟨b,hb⟩ : ∃ b,blw n = b := ⟨_,rfl⟩
 rw [hb];have HB := hid hb;clear hb;obtain ⟨E,hE⟩ : ∃ E : Int,(if b = 0 then 6 else 0) = E := ⟨_,rfl⟩
 rw [hE];have HE := hid hE;clear hE;go_enter Tryz.func16,Tryz.ntmps16;go_wp2
 go_loop [0] (fun i => ∃ k : Nat,i = .int .u64 (k : Int) ∧ k ≤ n ∧ blw k = b) (fun i => (intOf i).toNat)
 case atStart => exact ⟨n,rfl,Nat.le_refl _,HB.out⟩
 case round =>
  obtain ⟨k,rfl,hk,hkb⟩ := hrel;have KB := hid hkb;clear hkb
  by_cases h2 : 2 < k
  ·obtain ⟨j,rfl⟩ : ∃ j,k = j + 1 := ⟨k - 1,by omega⟩
   have h2' : (2 : Int) < ((j + 1 : Nat) : Int) := by omega
   have hw : IntKind.u64.wrap (((j + 1 : Nat) : Int) - 1) = (j : Int) := by rw [zPF] <;> omega
   have HP := hid (zEE (w := w) (n := j) (by omega));obtain ⟨c,hc⟩ : ∃ c,prB j = c := ⟨_,rfl⟩
   rw [hc] at HP;have HC := hid hc;clear hc;go_wp2_with fail;refine HP.out.mono ?_;rintro e w1 ⟨rfl,rfl⟩;clear HP;rcases Bool.eq_false_or_eq_true c with q | q
   ·subst q
    go_wp2;go_ret2;have h1 := KB.out;unfold blw at h1;rw [if_pos HC.out] at h1;have h3 := HE.out;rw [if_neg (by omega)] at h3;subst h1 h3;exact ⟨rfl,rfl⟩
   ·subst q
    go_wp2;go_round
    case rel =>
     have h1 := KB.out;unfold blw at h1;rw [if_neg (by rw [HC.out];decide)] at h1;exact ⟨j,rfl,by omega,h1⟩
    case measure => simp [intOf]
  ·have h2' : ¬ (2 : Int) < (k : Int) := by omega
   have h3 : b = 0 := by rw [← KB.out];exact blw_small (by omega)
   have h4 := HE.out;rw [if_pos h3] at h4;subst h3 h4;clear KB;go_wp2;go_ret2;exact ⟨rfl,rfl⟩
theorem lawPrime_no {w : World} {n : Nat} (hn : n < 2 ∨ 2147483648 ≤ n) :
  Calls Tryz.prog 6 #[.int .u64 (n : Int)] w fun e w' => e = .returned (.bool false) ∧ w' = w := by
 by_cases h : n < 2
 ·have h' : (n : Int) < 2 := by omega
  go_enter Tryz.func6,Tryz.ntmps6;go_wp2;go_ret;exact ⟨rfl,rfl⟩
 ·have h' : ¬ (n : Int) < 2 := by omega
  have h2 : (2147483648 : Int) ≤ (n : Int) := by omega
  clear hn;go_enter Tryz.func6,Tryz.ntmps6;go_wp2;go_ret;exact ⟨rfl,rfl⟩
theorem lawPrime_any {w : World} {n : Nat} (hn2 : 2 ≤ n) (hn : n < 2147483648) :
  Calls Tryz.prog 6 #[.int .u64 (n : Int)] w fun e w' => e = .returned (.bool (prB n)) ∧ w' = w := by
 have h' : ¬ (n : Int) < 2 := by omega
 have h2 : ¬ (2147483648 : Int) ≤ (n : Int) := by omega
 go_enter Tryz.func6,Tryz.ntmps6;go_wp2
 go_loop [3] (fun i => ∃ k : Nat,i = .int .u64 (k : Int) ∧ 2 ≤ k ∧ k ≤ 46345 ∧ ∀ e,2 ≤ e → e < k → ¬ e ∣ n) (fun i => 50000 - (intOf i).toNat)
 case atStart => exact ⟨2,rfl,by omega,by omega,fun e h1 h3 => by omega⟩
 case round =>
  obtain ⟨k,rfl,hk3,hk4,hz⟩ := hrel;clear h' h2;have HN2 := hid hn2;clear hn2;have HZ := hid hz;clear hz;have hk46 : k * k ≤ 46345 * 46345 := Nat.mul_le_mul hk4 hk4;obtain ⟨q,hq⟩ : ∃ q,k * k = q := ⟨_,rfl⟩
  have hw : IntKind.u64.wrap ((k : Int) * (k : Int)) = (q : Int) := by
   rw [← hq];have := zOF (x := k * k) (by omega)
   simpa using this
  have HQ := hid hq;rw [hq] at hk46;clear hq
  by_cases hle : q ≤ n
  ·have hle' : (q : Int) ≤ (n : Int) := by omega
   have hk46' : k ≤ 46341 := by
    have := HQ.out
    apply Classical.byContradiction
    intro z;have := Nat.mul_le_mul (show 46342 ≤ k by omega) (show 46342 ≤ k by omega);omega
   have hk0 : ¬ (k : Int) = 0 := by omega
   have ht := zCI n k;have ht2 := zjI n k
   by_cases hd : n % k = 0
   ·rw [hd] at ht ht2
    have FIN : Hid (false = prB n) := by
     unfold Hid;rw [zIC (zkG (d := k) (by omega) (by have := HQ.out;omega) (Nat.dvd_of_mod_eq_zero hd))]
    clear hd;go_wp2;go_ret;exact ⟨by rw [← FIN.out];rfl,rfl⟩
   ·obtain ⟨m,hmm⟩ : ∃ m,n % k = m := ⟨_,rfl⟩
    rw [hmm] at ht ht2;have hm0 : ¬ ((m : Int) = 0) := by omega
    have HD : Hid (¬ n % k = 0) := hd;obtain ⟨k1,hk1⟩ : ∃ k1,k + 1 = k1 := ⟨_,rfl⟩
    have hw2 : IntKind.u64.wrap ((k : Int) + 1) = (k1 : Int) := by rw [← hk1];exact zOF (x := k + 1) (by omega)
    have HK1 := hid hk1;clear hd hmm hk1;go_wp2;go_round
    case rel =>
     have hk1 := HK1.out;refine ⟨k1,rfl,by omega,by omega,fun e h1 h5 => ?_⟩
     by_cases e1 : e < k
     ·exact HZ.out e h1 e1
     ·obtain rfl : e = k := by omega
      exact fun z => HD.out (Nat.mod_eq_zero_of_dvd z)
    case measure => have hk1 := HK1.out;simp [intOf];omega
  ·have hle' : ¬ (q : Int) ≤ (n : Int) := by omega
   have FIN : Hid (true = prB n) := by
    unfold Hid;rw [zxE (zpG HN2.out HZ.out (by have := HQ.out;omega))]
   clear HQ HZ;go_wp2;go_ret;exact ⟨by rw [← FIN.out];rfl,rfl⟩
structure zoA (S : Nat → Prop) (w w' : World) : Prop where
 os : w'.os = w.os
 tape : w'.tape = w.tape
 output : w'.output = w.output
 size : w.heap.size ≤ w'.heap.size
 block : ∀ k,k < w.heap.size → ¬ S k → w'.heap[k]? = w.heap[k]?
theorem zoA.refl (S : Nat → Prop) (w : World) : zoA S w w := ⟨rfl,rfl,rfl,Nat.le_refl _,fun _ _ _ => rfl⟩
theorem zoA.trans {S : Nat → Prop} {a b c : World} (h : zoA S a b) (k : zoA S b c) : zoA S a c :=
 ⟨k.os.trans h.os,k.tape.trans h.tape,k.output.trans h.output,Nat.le_trans h.size k.size,fun i hi hS => (k.block i (Nat.lt_of_lt_of_le hi h.size) hS).trans (h.block i hi hS)⟩
theorem zoA.ofBelow {S : Nat → Prop} {w w' : World} (h : Below w.heap.size w w') : zoA S w w' := ⟨h.os,h.tape,h.output,h.size,fun k hk _ => h.block k hk⟩
theorem zoA.setCell {S : Nat → Prop} {w0 w : World} (h : zoA S w0 w) {g : Nat} (hg : w0.heap.size ≤ g ∨ S g) (j : Nat) (x : Value) : zoA S w0 (w.setCell ⟨g,j,none⟩ x) := by
 have b := (Below.refl g w).setCell (p := ⟨g,j,none⟩) (Nat.le_refl _) x;refine ⟨b.os.trans h.os,b.tape.trans h.tape,b.output.trans h.output,Nat.le_trans h.size b.size,fun k hk hS => ?_⟩;rw [Below.heap_setCell w _ x k (fun e => by subst e;rcases hg with q | q;(· exact absurd hk (by omega));exact hS q)];exact h.block k hk hS
theorem zoA.cell {S : Nat → Prop} {w w' : World} (h : zoA S w w') {b : Nat} (hb : b < w.heap.size) (hS : ¬ S b) (j : Nat) : w'.cell? ⟨b,j,none⟩ = w.cell? ⟨b,j,none⟩ :=
 World.cell?_of_block (h.block b hb hS)
theorem zoA.row {S : Nat → Prop} {w w' : World} (h : zoA S w w') {g : Nat} {L : List Value} (hr : Row w g L) (hS : ¬ S g) : Row w' g L := (h.block g hr.lt hS).trans hr
abbrev shv (p c : Nat) (lv : Value) : Value := .agg #[.int .u64 (p : Int),.int .i64 (c : Int),lv]
abbrev shc (p c : Nat) (lv : Value) : List Value := [.int .u64 (p : Int),.int .i64 (c : Int),lv]
abbrev shO (p c : Nat) (lv : Value) : Obj := .cells #[.int .u64 (p : Int),.int .i64 (c : Int),lv] 54
theorem zVA (w : World) (o1 : Obj) : Below w.heap.size w (w.alloc o1) ∧ (w.alloc o1).heap.size = w.heap.size + 1 := ⟨(Below.refl _ _).alloc (Nat.le_refl _) _,by simp⟩
theorem zMH {p : Nat} {x : Int} (h : 0 ≤ x) : x.tmod (p : Int) = x % (p : Int) := Int.tmod_eq_emod_of_nonneg h
theorem zzC {p : Nat} {x y : Int} (hp : p < 2147483648) (hx : IsR p x) (hy : IsR p y) : 0 ≤ x * y ∧ x * y ≤ 4611686014132420609 := by
 unfold IsR at hx hy;refine ⟨Int.mul_nonneg hx.1 hy.1,?_⟩;have h1 : x * y ≤ 2147483647 * y := Int.mul_le_mul_of_nonneg_right (by omega) hy.1;omega
theorem zXE {p : Nat} {x y : Int} (hp : p < 2147483648) (hx : IsR p x) (hy : IsR p y) : IntKind.u64.wrap (x * y) = x * y := by
 have := zzC hp hx hy;exact zPF this.1 (by omega)
theorem zdH {w : World} {p c : Nat} {a : Option Addr} {l k : Nat} {x : Int} (hp : 2 ≤ p) (hp2 : p < 2147483648) (hx : IsR p x) :
  Calls Tryz.prog 30 #[shv p c (.slice a l k),.int .u64 x] w fun e w' => e = .returned (.int .u64 (((p : Int) - x) % (p : Int))) ∧ Below w.heap.size w w' := by
 obtain ⟨W0,hW⟩ : ∃ W0,w.alloc (shO p c (.slice a l k)) = W0 := ⟨_,rfl⟩
 obtain ⟨b0,sz0⟩ := zVA w (shO p c (.slice a l k));rw [hW] at b0 sz0;have P1 : Hid (Cel W0 w.heap.size 54 (shc p c (.slice a l k))) := by unfold Hid;rw [← hW];exact Cel.new w _ _
 have x0 := P1.out.at (i := 0) rfl;rw [← hW] at x0;obtain ⟨Y,hY⟩ : ∃ Y,(p : Int) - x = Y := ⟨_,rfl⟩
 have hw : IntKind.u64.wrap ((p : Int) - x) = Y := by unfold IsR at hx;rw [zPF,hY] <;> omega
 rw [hY];have ht : Y.tmod (p : Int) = Y % (p : Int) := zMH (by unfold IsR at hx;omega);have hp0 : ¬ (p : Int) = 0 := by omega
 generalize Y % (p : Int) = z at *;have G0 := hid b0;have EW := hid hW;clear b0 sz0 hW hx hY P1;go_enter Tryz.func30,Tryz.ntmps30;go_wp2;go_ret;exact ⟨rfl,by rw [EW.out];exact G0.out⟩
theorem pow_half (X R p : Nat) (hR : R % 2 = 0) : ∀ P,(P * (X * X % p) ^ (R / 2)) % p = (P * X ^ R) % p := fun P => by
 have e : X ^ R = (X * X) ^ (R / 2) := by
  rw [← Nat.pow_two,← Nat.pow_mul]
  congr 1
  omega
 rw [e,Nat.mul_mod,Nat.pow_mod,Nat.mod_mod,← Nat.pow_mod,← Nat.mul_mod]
theorem pow_half1 (X R p : Nat) (hR : R % 2 = 1) : ∀ P,((P * X % p) * (X * X % p) ^ (R / 2)) % p = (P * X ^ R) % p := fun P => by
 have e : X ^ R = X * (X * X) ^ (R / 2) := by
  rw [← Nat.pow_two,← Nat.pow_mul,Nat.mul_comm X,← Nat.pow_succ]
  congr 1
  omega
 rw [e,Nat.mul_mod,Nat.pow_mod,Nat.mod_mod,Nat.mod_mod,← Nat.pow_mod,← Nat.mul_mod,Nat.mul_assoc]
theorem inverse12 {w : World} {p c : Nat} {a : Option Addr} {l k : Nat} {x : Int} (hp : 2 ≤ p) (hp2 : p < 2147483648) (hx : IsR p x) :
  Calls Tryz.prog 69 #[shv p c (.slice a l k),.int .u64 x] w fun e w' => e = .returned (.int .u64 (invP p x)) ∧ Below w.heap.size w w' := by
 obtain ⟨X0,rfl⟩ : ∃ X0 : Nat,x = (X0 : Int) := ⟨x.toNat,by unfold IsR at hx;omega⟩
 have hX0 : X0 < p := by unfold IsR at hx;omega
 obtain ⟨V,hV⟩ : ∃ V,X0 ^ (p - 2) % p = V := ⟨_,rfl⟩
 have HF : Hid (invP p (X0 : Int) = (V : Int)) := by unfold Hid invP;rw [Int.toNat_natCast,hV]
 have HV := hid hV;clear hV hx;rw [HF.out];obtain ⟨W0,hW⟩ : ∃ W0,w.alloc (shO p c (.slice a l k)) = W0 := ⟨_,rfl⟩
 obtain ⟨b0,sz0⟩ := zVA w (shO p c (.slice a l k));rw [hW] at b0 sz0;have P1 : Hid (Cel W0 w.heap.size 54 (shc p c (.slice a l k))) := by unfold Hid;rw [← hW];exact Cel.new w _ _
 have x0 := P1.out.at (i := 0) rfl;have x0' := x0;rw [← hW] at x0;have G0 := hid b0;have EW := hid hW;have hp0 : ¬ (p : Int) = 0 := by omega
 obtain ⟨R0,hR0⟩ : ∃ R0,p - 2 = R0 := ⟨_,rfl⟩
 have hw2 : IntKind.u64.wrap ((p : Int) - 2) = (R0 : Int) := by rw [zPF] <;> omega
 rw [hR0] at HV;have hR1 : R0 < 2147483648 := by omega
 clear b0 sz0 hW P1 HF hR0;go_enter Tryz.func69,Tryz.ntmps69;go_wp2;rw [EW.out];clear x0 EW hw2
 go_loop [1,5,6] (fun s1 s5 s6 => ∃ X P R : Nat,s1 = .int .u64 (X : Int) ∧ s5 = .int .u64 (P : Int) ∧ s6 = .int .u64 (R : Int) ∧ X < p ∧ P < p ∧ R < 2147483648 ∧ (P * X ^ R) % p = V) (fun s1 s5 s6 => (intOf s6).toNat)
 case atStart => exact ⟨X0,1,R0,rfl,rfl,rfl,hX0,by omega,hR1,by rw [Nat.one_mul];exact HV.out⟩
 case round =>
  clear HV hX0;obtain ⟨X,P,R,rfl,rfl,rfl,hX,hP,hR,hI⟩ := hrel;have HI := hid hI;clear hI hR1
  by_cases h0 : R = 0
  ·subst h0
   have hlt : ¬ (0 : Int) < ((0 : Nat) : Int) := by omega
   go_wp2;go_ret;have h1 := HI.out;rw [Nat.pow_zero,Nat.mul_one,Nat.mod_eq_of_lt hP] at h1;subst h1;exact ⟨rfl,G0.out⟩
  ·have hlt : (0 : Int) < (R : Int) := by omega
   have iX : IsR p (X : Int) := by unfold IsR;omega
   have iP : IsR p (P : Int) := by unfold IsR;omega
   have w1 := zXE hp2 iX iX;have t1 : (((X * X : Nat) : Int)).tmod (p : Int) = ((X * X % p : Nat) : Int) := zCI _ _;obtain ⟨XX,hXX⟩ : ∃ XX,X * X = XX := ⟨_,rfl⟩
   rw [show (X : Int) * (X : Int) = ((X * X : Nat) : Int) by simp,hXX] at w1;have w1' : IntKind.u64.wrap ((X : Int) * (X : Int)) = (XX : Int) := by rw [show (X : Int) * (X : Int) = ((X * X : Nat) : Int) by simp,hXX];exact w1
   rw [hXX] at t1;obtain ⟨X1,hX1⟩ : ∃ X1,XX % p = X1 := ⟨_,rfl⟩
   rw [hX1] at t1;have d1 : (R : Int).tdiv 2 = ((R / 2 : Nat) : Int) := by rw [Int.tdiv_eq_ediv_of_nonneg (by omega)];rfl
   obtain ⟨R1,hR1⟩ : ∃ R1,R / 2 = R1 := ⟨_,rfl⟩
   rw [hR1] at d1;have w3 : IntKind.u64.wrap (R1 : Int) = (R1 : Int) := zOF (by omega);have LX : Hid (X1 < p) := by unfold Hid;rw [← hX1];exact Nat.mod_lt _ (by omega)
   have LR : Hid (R1 < R) := by unfold Hid;omega
   by_cases h2 : R % 2 = 1
   ·have m2 : (R : Int).tmod 2 = 1 := by rw [Int.tmod_eq_emod_of_nonneg (by omega)];omega
    have w2 := zXE hp2 iP iX;obtain ⟨PX,hPX⟩ : ∃ PX,P * X = PX := ⟨_,rfl⟩
    have w2' : IntKind.u64.wrap ((P : Int) * (X : Int)) = (PX : Int) := by rw [w2,← hPX];simp
    have t2 : (PX : Int).tmod (p : Int) = ((PX % p : Nat) : Int) := zCI _ _;obtain ⟨P1,hP1⟩ : ∃ P1,PX % p = P1 := ⟨_,rfl⟩
    rw [hP1] at t2;have LP : Hid (P1 < p) := by unfold Hid;rw [← hP1];exact Nat.mod_lt _ (by omega)
    have HN : Hid ((P1 * X1 ^ R1) % p = V) := by
     unfold Hid;rw [← hP1,← hPX,← hX1,← hXX,← hR1,pow_half1 X R p h2];exact HI.out
    clear w1 w2 hXX hX1 hR1 hPX hP1 HI iX iP;go_wp2;go_round
    case rel => exact ⟨X1,P1,R1,rfl,rfl,rfl,LX.out,LP.out,by have := LR.out;omega,HN.out⟩
    case measure => have := LR.out;simp [intOf];omega
   ·have m2 : (R : Int).tmod 2 = 0 := by rw [Int.tmod_eq_emod_of_nonneg (by omega)];omega
    have HN : Hid ((P * X1 ^ R1) % p = V) := by
     unfold Hid;rw [← hX1,← hXX,← hR1,pow_half X R p (by omega)];exact HI.out
    clear w1 hXX hX1 hR1 HI iX iP h2;go_wp2;go_round
    case rel => exact ⟨X1,P,R1,rfl,rfl,rfl,LX.out,hP,by have := LR.out;omega,HN.out⟩
    case measure => have := LR.out;simp [intOf];omega
end Go.Proofs.YtkklldokdnfkgaaGreat
