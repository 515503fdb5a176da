import Derived.Test.YtppddlbkdoebmaaQWords3ToDivPure
import Derived.Test.YtppddlbkdoebmaaQLen2ToRowsI
import Derived.Test.YtppddlbkdoebmaaQSplitToJoin
import Derived.Shelf.Bits.Mul64
set_option maxRecDepth 100000
set_option maxHeartbeats 6400000
set_option linter.unusedVariables false
set_option linter.unusedSimpArgs false
namespace Go.Proofs.Ytppddlbkdoebmaa
open Go.RowKit
theorem zpF {y : Int} (hy : IsW y) (w : World) : Calls Try.prog 40 #[.int .u64 y] w fun e w' => e = .returned (.int .i64 ((64 - bitLen y.toNat : Nat) : Int)) ∧ w' = w := by
 have HL := ziD hy;have hb := zKC (zeB hy);generalize bitLen y.toNat = b at *;have e : ((64 - b : Nat) : Int) = 64 - (b : Int) := by omega
 rw [e];go_enter Try.func40,Try.ntmps40;go_wp2_with fail;refine (HL _).mono ?_;rintro e w1 ⟨rfl,rfl⟩;go_wp2;go_ret;exact ⟨rfl,rfl⟩
theorem div64_low {lo y : Nat} (hl : lo < 18446744073709551616) (hy : y < 18446744073709551616) (h0 : y ≠ 0) (w : World) :
  Calls Try.prog 19 #[.int .u64 0,.int .u64 lo,.int .u64 y] w fun e w' => (∃ q r : Nat,e = .returned (.tuple #[.int .u64 q,.int .u64 r]) ∧ q * y + r = lo ∧ r < y) ∧ ∃ n,w' = w.drewN n := by
 have hy0 : ((y : Int) == 0) = false := by rw [beq_eq_false_iff_ne];omega
 have hyl : ¬ (y : Int) ≤ 0 := by omega
 have HR : Hid (∀ n,(∃ q r : Nat,(Ending.returned (.tuple #[.int .u64 (IntKind.u64.wrap ((lo : Int) / (y : Int))),.int .u64 ((lo : Int) % (y : Int))])) = .returned (.tuple #[.int .u64 q,.int .u64 r]) ∧ q * y + r = lo ∧ r < y) ∧ ∃ m,w.drewN n = w.drewN m) := fun n => by
  have l1 := Nat.div_le_self lo y;have l2 := Nat.mod_lt lo (show 0 < y by omega);have e1 : (lo : Int) / (y : Int) = ((lo / y : Nat) : Int) := by simp
  have e2 : (lo : Int) % (y : Int) = ((lo % y : Nat) : Int) := by simp
  refine ⟨⟨lo / y,lo % y,?_,?_,l2⟩,n,rfl⟩
  ·rw [e1,e2,Mul64.wrapN _ (by omega)]
  ·have := Nat.div_add_mod lo y
   rw [Nat.mul_comm];exact this
 go_enter Try.func19,Try.ntmps19;go_wp2;go_quiet (fail);go_wp2;go_ret2
 first | exact HR.out _ | trace_state
theorem div_up {x lo y s : Nat} (hl : lo < 18446744073709551616) (hxy : x < y) (hs : s < 64) (hY : y * 2 ^ s < 18446744073709551616) :
  ∃ u un : Nat,bits BinOp.or IntKind.u64 (IntKind.u64.wrap ((x : Int) * 2 ^ s)) ((lo : Int) / 2 ^ (64 - s)) = (u : Int) ∧ IntKind.u64.wrap ((lo : Int) * 2 ^ s) = (un : Int) ∧ un < 18446744073709551616 ∧
   u * 18446744073709551616 + un = (x * 18446744073709551616 + lo) * 2 ^ s ∧ u < y * 2 ^ s := by
 have hp := Nat.two_pow_pos s;have hq := Nat.two_pow_pos (64 - s);have hsp := zdD (p := s) (by omega);have hc : lo / 2 ^ (64 - s) < 2 ^ s := by rw [Nat.div_lt_iff_lt_mul hq,hsp];exact hl
 have hxP : x * 2 ^ s + 2 ^ s ≤ y * 2 ^ s := by rw [← Nat.succ_mul];exact Nat.mul_le_mul_right _ hxy
 have hx64 : x < 18446744073709551616 := by
  have : x * 1 ≤ x * 2 ^ s := Nat.mul_le_mul_left _ hp;omega
 have e1 : IntKind.u64.wrap ((x : Int) * 2 ^ s) = ((x * 2 ^ s : Nat) : Int) := by
  rw [zWA,← Int.natCast_mul];exact Mul64.wrapN _ (by omega)
 have e2 : (lo : Int) / 2 ^ (64 - s) = ((lo / 2 ^ (64 - s) : Nat) : Int) := by rw [zWA];simp
 have e3 : x * 2 ^ s ||| lo / 2 ^ (64 - s) = x * 2 ^ s + lo / 2 ^ (64 - s) := by rw [Nat.mul_comm];exact (Nat.two_pow_add_eq_or_of_lt hc _).symm
 have e4 : IntKind.u64.wrap ((lo : Int) * 2 ^ s) = ((lo * 2 ^ s % 18446744073709551616 : Nat) : Int) := by
  rw [zWA,← Int.natCast_mul];exact Mul64.wrapM _
 have e5 : lo * 2 ^ s / 18446744073709551616 = lo / 2 ^ (64 - s) := by
  rw [← hsp,Nat.mul_comm (2 ^ s),Nat.mul_div_mul_right _ _ hp]
 refine ⟨x * 2 ^ s + lo / 2 ^ (64 - s),lo * 2 ^ s % 18446744073709551616,?_,e4,Nat.mod_lt _ (by omega),?_,by omega⟩
 ·rw [e1,e2,zwB _ _ (by omega) (by omega),e3]
 ·rw [← e5]
  have e6 := Nat.div_add_mod (lo * 2 ^ s) 18446744073709551616;have e7 : (x * 18446744073709551616 + lo) * 2 ^ s = x * 2 ^ s * 18446744073709551616 + lo * 2 ^ s := by rw [Nat.add_mul,Nat.mul_right_comm]
  rw [e7,Nat.add_mul];obtain ⟨L,hL⟩ : ∃ L,L = lo * 2 ^ s := ⟨_,rfl⟩
  rw [← hL] at e6 ⊢;rw [Nat.add_assoc,Nat.mul_comm (L / 18446744073709551616),e6]
theorem zqD {v y1 : Nat} (hv : v < 18446744073709551616) (h1 : 0 < y1) : ∃ q r : Nat,(v : Int).tdiv (y1 : Int) = (q : Int) ∧ (v : Int) / (y1 : Int) = (q : Int) ∧ IntKind.u64.wrap (q : Int) = (q : Int) ∧ IntKind.u64.wrap ((q : Int) * (y1 : Int)) = ((q * y1 : Nat) : Int) ∧
  IntKind.u64.wrap ((v : Int) - (q : Int) * (y1 : Int)) = (r : Int) ∧ q ≤ v ∧ r < y1 ∧ q = v / y1 ∧ r = v % y1 := by
 have q1 := Nat.div_le_self v y1;have q2 := Nat.div_add_mod v y1;have q3 := Nat.mod_lt v h1;rw [Nat.mul_comm] at q2;refine ⟨v / y1,v % y1,(Int.ofNat_tdiv v y1).symm,by simp,Mul64.wrapN _ (by omega),?_,?_,q1,q3,rfl,rfl⟩
 ·rw [← Int.natCast_mul];exact Mul64.wrapN _ (by omega)
 ·rw [← Int.natCast_mul,show (v : Int) - ((v / y1 * y1 : Nat) : Int) = ((v % y1 : Nat) : Int) by omega];exact Mul64.wrapN _ (by omega)
theorem zJB {u d k Y v : Nat} (h : k * Y + v = u * 4294967296 + d) (hv : v < 18446744073709551616) :
  IntKind.u64.wrap (IntKind.u64.wrap (IntKind.u64.wrap ((u : Int) * 4294967296) + (d : Int)) - IntKind.u64.wrap ((k : Int) * (Y : Int))) = (v : Int) := by
 rw [← Int.natCast_mul];obtain ⟨p,hp⟩ : ∃ p,p = k * Y := ⟨_,rfl⟩
 rw [← hp] at h ⊢;simp only [IntKind.wrap_u64];omega
theorem div64_high {x lo y s : Nat} (hl : lo < 18446744073709551616) (hy : y < 18446744073709551616) (hxy : x < y) (hx : x ≠ 0) (hs : s = 64 - bitLen y) (w : World) :
  Calls Try.prog 19 #[.int .u64 x,.int .u64 lo,.int .u64 y] w fun e w' => (∃ q r : Nat,e = .returned (.tuple #[.int .u64 q,.int .u64 r]) ∧ q * y + r = x * 18446744073709551616 + lo ∧ r < y) ∧ ∃ n,w' = w.drewN n := by
 have hy0 : ((y : Int) == 0) = false := by rw [beq_eq_false_iff_ne];omega
 have hx0 : ((x : Int) == 0) = false := by rw [beq_eq_false_iff_ne];omega
 have hyl : ¬ (y : Int) ≤ x := by omega
 obtain ⟨b1,b2,b3,b4⟩ := lead_up (y := y) (by omega) (by omega);have hs64 : s < 64 := by omega
 have HL := zpF (y := (y : Int)) (by unfold IsW wB;omega);rw [Int.toNat_natCast,← hs] at HL;rw [← hs] at b3 b4;obtain ⟨u,un,eU,eL,hun,hu1,hu2⟩ := div_up hl hxy hs64 b3;obtain ⟨Y,hY⟩ : ∃ Y,Y = y * 2 ^ s := ⟨_,rfl⟩
 have eY : IntKind.u64.wrap ((y : Int) * 2 ^ s) = (Y : Int) := by rw [zWA,← Int.natCast_mul,hY];exact Mul64.wrapN _ b3
 rw [← hY] at b3 b4 hu2;have HU := hid hu1;have HY := hid hY;clear b1 b2 hs hu1 hY;obtain ⟨Y1,hY1⟩ : ∃ Y1,Y1 = Y / 4294967296 := ⟨_,rfl⟩
 obtain ⟨Y0,hY0⟩ : ∃ Y0,Y0 = Y % 4294967296 := ⟨_,rfl⟩
 obtain ⟨d1,hd1⟩ : ∃ d1,d1 = un / 4294967296 := ⟨_,rfl⟩
 obtain ⟨d0,hd0⟩ : ∃ d0,d0 = un % 4294967296 := ⟨_,rfl⟩
 obtain ⟨q,hq⟩ : ∃ q,q = u / Y1 := ⟨_,rfl⟩
 obtain ⟨r,hr⟩ : ∃ r,r = u % Y1 := ⟨_,rfl⟩
 have eY1 : (Y : Int) / 4294967296 = (Y1 : Int) := by rw [hY1];exact Mul64.divN _
 have eY0 : bits .and .u64 (Y : Int) 4294967295 = (Y0 : Int) := by rw [hY0];exact Mul64.maskN _ b3
 have eD1 : (un : Int) / 4294967296 = (d1 : Int) := by rw [hd1];exact Mul64.divN _
 have eD0 : bits .and .u64 (un : Int) 4294967295 = (d0 : Int) := by rw [hd0];exact Mul64.maskN _ hun
 have eQ : (u : Int).tdiv (Y1 : Int) = (q : Int) := by rw [hq];exact (Int.ofNat_tdiv u Y1).symm
 have eQ' : (u : Int) / (Y1 : Int) = (q : Int) := by rw [hq];simp
 have q1 : q ≤ u := by rw [hq];exact Nat.div_le_self _ _
 have eQw : IntKind.u64.wrap (q : Int) = (q : Int) := Mul64.wrapN _ (by omega);have q2 : q * Y1 + r = u := by rw [hq,hr,Nat.mul_comm];exact Nat.div_add_mod _ _
 have eP : IntKind.u64.wrap ((q : Int) * (Y1 : Int)) = ((q * Y1 : Nat) : Int) := by rw [← Int.natCast_mul];exact Mul64.wrapN _ (by omega)
 have eR : IntKind.u64.wrap ((u : Int) - ((q * Y1 : Nat) : Int)) = (r : Int) := by
  rw [show (u : Int) - ((q * Y1 : Nat) : Int) = (r : Int) by omega];exact Mul64.wrapN _ (by omega)
 have ER : Hid (IntKind.u64.wrap ((u : Int) - (q : Int) * (Y1 : Int)) = (r : Int)) := by unfold Hid;rw [Int.natCast_mul] at eR;exact eR
 have hy1 : 2147483648 ≤ Y1 := by omega
 have hy1' : Y1 < 4294967296 := by omega
 have hy0' : Y0 < 4294967296 := by omega
 have hd1' : d1 < 4294967296 := by omega
 have hd0' : d0 < 4294967296 := by omega
 have HYY : Hid (Y = Y1 * 4294967296 + Y0) := by unfold Hid;omega
 have hr1 : r < Y1 := by rw [hr];exact Nat.mod_lt _ (by omega)
 have HA := hid (zbB.start (y1 := Y1) (y0 := Y0) (u := u) (d := d1) (by omega) hd1');rw [← hq,← hr] at HA;have HD : Hid (d1 = un / 4294967296 ∧ d0 = un % 4294967296) := ⟨hd1,hd0⟩
 have hdz : (IntKind.u64.wrap ((y : Int) * 2 ^ s) / 4294967296 == 0) = false := by rw [eY,eY1,beq_eq_false_iff_ne];omega
 have hdp : ¬ IntKind.u64.wrap ((y : Int) * 2 ^ s) / 4294967296 = 0 := by rw [eY,eY1];omega
 clear hY1 hY0 hd1 hd0 hq hr q2;go_enter Try.func19,Try.ntmps19;go_wp2_with fail;refine (HL _).mono ?_;rintro e w1 ⟨rfl,rfl⟩;clear HL;go_wp2_with fail;clear eQ eQw eP eR eU eL eQ'
 go_loopw [15,16] (fun a b wr => ∃ k m : Nat,a = .int .u64 k ∧ b = .int .u64 m ∧ m < 4294967296 ∧ k < 18446744073709551616 ∧ wr = w1 ∧ Hid (zbB Y1 Y0 u d1 k m)) (fun a _ _ => (intOf a).toNat)
 case atStart => exact ⟨q,r,rfl,congrArg (Value.int .u64) ER.out,by omega,by omega,rfl,HA⟩
 case round =>
  obtain ⟨k,m,rfl,rfl,hm,hk,rfl,HK⟩ := hrel;clear HA hr1 q1 ER
  by_cases c1 : 4294967296 ≤ k
  ·obtain ⟨k',hk',HK'⟩ := HK.out.over (by rw [← HYY.out];exact hu2) hd1' (.inl c1)
   have ek : (k : Int) - 1 = (k' : Int) := by omega
   have hk1 : k' < k := by omega
   have cb : 4294967296 ≤ (k : Int) := by omega
   clear hk' c1
   by_cases c2 : 4294967296 ≤ m + Y1
   ·have cc : 4294967296 ≤ (m : Int) + (Y1 : Int) := by omega
    have HI := hid (HK'.small (by rw [← HYY.out];exact hu2) hy0' c2);obtain ⟨v,hv1,hv2⟩ := HI.out.rest;have eV : IntKind.u64.wrap (IntKind.u64.wrap (IntKind.u64.wrap ((u : Int) * 4294967296) + (d1 : Int)) - IntKind.u64.wrap ((k' : Int) * (Y : Int))) = (v : Int) := zJB (by rw [HYY.out];exact hv1) (by have := HYY.out;omega);rw [← HYY.out] at hv1 hv2;have HV := hid hv1;have gk : k' < 4294967296 := HI.out.1;obtain ⟨q2,r2,eQ,eQ',eQw,eP,ER,l1,l2,l3,l4⟩ := zqD (v := v) (y1 := Y1) (by omega) (by omega);have HER := hid ER;have HA := hid (zbB.start (y1 := Y1) (y0 := Y0) (u := v) (d := d0) (by omega) hd0');rw [← l3,← l4] at HA;clear l3 l4 ER hv1 HI;go_wp2_with fail;clear eQ eQ' eQw eP eV
    go_loopw [18,16] (fun a b wx => ∃ k m : Nat,a = .int .u64 k ∧ b = .int .u64 m ∧ m < 4294967296 ∧ k < 18446744073709551616 ∧ wx = wr ∧ Hid (zbB Y1 Y0 v d0 k m)) (fun a _ _ => (intOf a).toNat)
    case atStart => exact ⟨q2,r2,rfl,congrArg (Value.int .u64) HER.out,by omega,by omega,by first | rfl | trivial,HA⟩
    case round =>
     clear HA l2 l1 HER;obtain ⟨k2,m2,rfl,rfl,hm2,hk2,rfl,HK2⟩ := hrel
     by_cases c1 : 4294967296 ≤ k2
     ·obtain ⟨k3,hk3,HK3⟩ := HK2.out.over (by rw [← HYY.out];exact hv2) hd0' (.inl c1)
      have ek2 : (k2 : Int) - 1 = (k3 : Int) := by omega
      have hk32 : k3 < k2 := by omega
      have cb2 : 4294967296 ≤ (k2 : Int) := by omega
      clear hk3 c1
      by_cases c2 : 4294967296 ≤ m2 + Y1
      ·have cc2 : 4294967296 ≤ (m2 : Int) + (Y1 : Int) := by omega
       have HJ := hid (HK3.small (by rw [← HYY.out];exact hv2) hy0' c2);obtain ⟨z,hz1,hz2⟩ := HJ.out.rest;have eZ : IntKind.u64.wrap (IntKind.u64.wrap (IntKind.u64.wrap ((v : Int) * 4294967296) + (d0 : Int)) - IntKind.u64.wrap ((k3 : Int) * (Y : Int))) = (z : Int) := zJB (by rw [HYY.out];exact hz1) (by have := HYY.out;omega);have g2 : k3 < 4294967296 := HJ.out.1;obtain ⟨rr,hr1,hr2,hr3⟩ := zuB (Nat.two_pow_pos s) HY.out HU.out (by rw [← HD.out.1];exact HV.out) (by rw [← HD.out.2,HYY.out];exact hz1) (by rw [HYY.out];exact hz2);have ez : (z : Int) / 2 ^ s = (rr : Int) := by
        rw [hr1,zWA,Int.natCast_mul];exact Int.mul_ediv_cancel _ (by have := Nat.two_pow_pos s;omega)
       have HE : Hid (((k' * 4294967296 + k3 : Nat) : Int) = (k' : Int) * 4294967296 + (k3 : Int)) := by unfold Hid;omega
       have HQ := hid hr3;clear hr3 hr1 hz1;go_wp2;go_ret2;exact ⟨⟨k' * 4294967296 + k3,rr,by rw [HE.out];rfl,HQ.out,hr2⟩,0,rfl⟩
      ·have cc2 : ¬ 4294967296 ≤ (m2 : Int) + (Y1 : Int) := by omega
       go_wp2_with fail;go_roundw
       case rel => exact ⟨k3,m2 + Y1,rfl,rfl,by omega,by omega,by first | rfl | trivial,HK3⟩
       case measure => simp [intOf];omega
     ·have hp2 := zbB.mul_fits (y0 := Y0) (q := k2) (by omega) hy0'
      obtain ⟨p2,hp2'⟩ : ∃ p2,p2 = k2 * Y0 := ⟨_,rfl⟩
      have ep2 : (k2 : Int) * (Y0 : Int) = (p2 : Int) := by rw [hp2',Int.natCast_mul]
      have cb2 : ¬ 4294967296 ≤ (k2 : Int) := by omega
      by_cases c2 : m2 * 4294967296 + d0 < k2 * Y0
      ·obtain ⟨k3,hk3,HK3⟩ := HK2.out.over (by rw [← HYY.out];exact hv2) hd0' (.inr c2)
       have ek2 : (k2 : Int) - 1 = (k3 : Int) := by omega
       have hk32 : k3 < k2 := by omega
       rw [← hp2'] at hp2 c2;have ct2 : 4294967296 * (m2 : Int) + (d0 : Int) < (p2 : Int) := by omega
       clear hk3 c1 c2 hp2'
       by_cases c3 : 4294967296 ≤ m2 + Y1
       ·have cc2 : 4294967296 ≤ (m2 : Int) + (Y1 : Int) := by omega
        have HJ := hid (HK3.small (by rw [← HYY.out];exact hv2) hy0' c3);obtain ⟨z,hz1,hz2⟩ := HJ.out.rest;have eZ : IntKind.u64.wrap (IntKind.u64.wrap (IntKind.u64.wrap ((v : Int) * 4294967296) + (d0 : Int)) - IntKind.u64.wrap ((k3 : Int) * (Y : Int))) = (z : Int) := zJB (by rw [HYY.out];exact hz1) (by have := HYY.out;omega);have g2 : k3 < 4294967296 := HJ.out.1;obtain ⟨rr,hr1,hr2,hr3⟩ := zuB (Nat.two_pow_pos s) HY.out HU.out (by rw [← HD.out.1];exact HV.out) (by rw [← HD.out.2,HYY.out];exact hz1) (by rw [HYY.out];exact hz2);have ez : (z : Int) / 2 ^ s = (rr : Int) := by
         rw [hr1,zWA,Int.natCast_mul];exact Int.mul_ediv_cancel _ (by have := Nat.two_pow_pos s;omega)
        have HE : Hid (((k' * 4294967296 + k3 : Nat) : Int) = (k' : Int) * 4294967296 + (k3 : Int)) := by unfold Hid;omega
        have HQ := hid hr3;clear hr3 hr1 hz1;go_wp2;go_ret2;exact ⟨⟨k' * 4294967296 + k3,rr,by rw [HE.out];rfl,HQ.out,hr2⟩,0,rfl⟩
       ·have cc2 : ¬ 4294967296 ≤ (m2 : Int) + (Y1 : Int) := by omega
        go_wp2_with fail;go_roundw
        case rel => exact ⟨k3,m2 + Y1,rfl,rfl,by omega,by omega,by first | rfl | trivial,HK3⟩
        case measure => simp [intOf];omega
      ·have HJ := hid (HK2.out.stop (by omega) (by omega))
       rw [← hp2'] at hp2 c2;have ct2 : ¬ 4294967296 * (m2 : Int) + (d0 : Int) < (p2 : Int) := by omega
       clear hp2';obtain ⟨z,hz1,hz2⟩ := HJ.out.rest;have eZ : IntKind.u64.wrap (IntKind.u64.wrap (IntKind.u64.wrap ((v : Int) * 4294967296) + (d0 : Int)) - IntKind.u64.wrap ((k2 : Int) * (Y : Int))) = (z : Int) := zJB (by rw [HYY.out];exact hz1) (by have := HYY.out;omega);have g2 : k2 < 4294967296 := HJ.out.1;obtain ⟨rr,hr1,hr2,hr3⟩ := zuB (Nat.two_pow_pos s) HY.out HU.out (by rw [← HD.out.1];exact HV.out) (by rw [← HD.out.2,HYY.out];exact hz1) (by rw [HYY.out];exact hz2);have ez : (z : Int) / 2 ^ s = (rr : Int) := by
        rw [hr1,zWA,Int.natCast_mul];exact Int.mul_ediv_cancel _ (by have := Nat.two_pow_pos s;omega)
       have HE : Hid (((k' * 4294967296 + k2 : Nat) : Int) = (k' : Int) * 4294967296 + (k2 : Int)) := by unfold Hid;omega
       have HQ := hid hr3;clear hr3 hr1 hz1;go_wp2;go_ret2;exact ⟨⟨k' * 4294967296 + k2,rr,by rw [HE.out];rfl,HQ.out,hr2⟩,0,rfl⟩
   ·have cc : ¬ 4294967296 ≤ (m : Int) + (Y1 : Int) := by omega
    go_wp2_with fail;go_roundw
    case rel => exact ⟨k',m + Y1,rfl,rfl,by omega,by omega,by first | rfl | trivial,HK'⟩
    case measure => simp [intOf];omega
  ·have hp := zbB.mul_fits (y0 := Y0) (q := k) (by omega) hy0'
   obtain ⟨p,hp'⟩ : ∃ p,p = k * Y0 := ⟨_,rfl⟩
   have ep : (k : Int) * (Y0 : Int) = (p : Int) := by rw [hp',Int.natCast_mul]
   have cb : ¬ 4294967296 ≤ (k : Int) := by omega
   by_cases c2 : m * 4294967296 + d1 < k * Y0
   ·obtain ⟨k',hk',HK'⟩ := HK.out.over (by rw [← HYY.out];exact hu2) hd1' (.inr c2)
    have ek : (k : Int) - 1 = (k' : Int) := by omega
    have hk1 : k' < k := by omega
    rw [← hp'] at hp c2;have ct : 4294967296 * (m : Int) + (d1 : Int) < (p : Int) := by omega
    clear hk' c1 c2 hp'
    by_cases c3 : 4294967296 ≤ m + Y1
    ·have cc : 4294967296 ≤ (m : Int) + (Y1 : Int) := by omega
     have HI := hid (HK'.small (by rw [← HYY.out];exact hu2) hy0' c3);obtain ⟨v,hv1,hv2⟩ := HI.out.rest;have eV : IntKind.u64.wrap (IntKind.u64.wrap (IntKind.u64.wrap ((u : Int) * 4294967296) + (d1 : Int)) - IntKind.u64.wrap ((k' : Int) * (Y : Int))) = (v : Int) := zJB (by rw [HYY.out];exact hv1) (by have := HYY.out;omega);rw [← HYY.out] at hv1 hv2;have HV := hid hv1;have gk : k' < 4294967296 := HI.out.1;obtain ⟨q2,r2,eQ,eQ',eQw,eP,ER,l1,l2,l3,l4⟩ := zqD (v := v) (y1 := Y1) (by omega) (by omega);have HER := hid ER;have HA := hid (zbB.start (y1 := Y1) (y0 := Y0) (u := v) (d := d0) (by omega) hd0');rw [← l3,← l4] at HA;clear l3 l4 ER hv1 HI;go_wp2_with fail;clear eQ eQ' eQw eP eV
     go_loopw [18,16] (fun a b wx => ∃ k m : Nat,a = .int .u64 k ∧ b = .int .u64 m ∧ m < 4294967296 ∧ k < 18446744073709551616 ∧ wx = wr ∧ Hid (zbB Y1 Y0 v d0 k m)) (fun a _ _ => (intOf a).toNat)
     case atStart => exact ⟨q2,r2,rfl,congrArg (Value.int .u64) HER.out,by omega,by omega,by first | rfl | trivial,HA⟩
     case round =>
      clear HA l2 l1 HER;obtain ⟨k2,m2,rfl,rfl,hm2,hk2,rfl,HK2⟩ := hrel
      by_cases c1 : 4294967296 ≤ k2
      ·obtain ⟨k3,hk3,HK3⟩ := HK2.out.over (by rw [← HYY.out];exact hv2) hd0' (.inl c1)
       have ek2 : (k2 : Int) - 1 = (k3 : Int) := by omega
       have hk32 : k3 < k2 := by omega
       have cb2 : 4294967296 ≤ (k2 : Int) := by omega
       clear hk3 c1
       by_cases c2 : 4294967296 ≤ m2 + Y1
       ·have cc2 : 4294967296 ≤ (m2 : Int) + (Y1 : Int) := by omega
        have HJ := hid (HK3.small (by rw [← HYY.out];exact hv2) hy0' c2);obtain ⟨z,hz1,hz2⟩ := HJ.out.rest;have eZ : IntKind.u64.wrap (IntKind.u64.wrap (IntKind.u64.wrap ((v : Int) * 4294967296) + (d0 : Int)) - IntKind.u64.wrap ((k3 : Int) * (Y : Int))) = (z : Int) := zJB (by rw [HYY.out];exact hz1) (by have := HYY.out;omega);have g2 : k3 < 4294967296 := HJ.out.1;obtain ⟨rr,hr1,hr2,hr3⟩ := zuB (Nat.two_pow_pos s) HY.out HU.out (by rw [← HD.out.1];exact HV.out) (by rw [← HD.out.2,HYY.out];exact hz1) (by rw [HYY.out];exact hz2);have ez : (z : Int) / 2 ^ s = (rr : Int) := by
         rw [hr1,zWA,Int.natCast_mul];exact Int.mul_ediv_cancel _ (by have := Nat.two_pow_pos s;omega)
        have HE : Hid (((k' * 4294967296 + k3 : Nat) : Int) = (k' : Int) * 4294967296 + (k3 : Int)) := by unfold Hid;omega
        have HQ := hid hr3;clear hr3 hr1 hz1;go_wp2;go_ret2;exact ⟨⟨k' * 4294967296 + k3,rr,by rw [HE.out];rfl,HQ.out,hr2⟩,0,rfl⟩
       ·have cc2 : ¬ 4294967296 ≤ (m2 : Int) + (Y1 : Int) := by omega
        go_wp2_with fail;go_roundw
        case rel => exact ⟨k3,m2 + Y1,rfl,rfl,by omega,by omega,by first | rfl | trivial,HK3⟩
        case measure => simp [intOf];omega
      ·have hp2 := zbB.mul_fits (y0 := Y0) (q := k2) (by omega) hy0'
       obtain ⟨p2,hp2'⟩ : ∃ p2,p2 = k2 * Y0 := ⟨_,rfl⟩
       have ep2 : (k2 : Int) * (Y0 : Int) = (p2 : Int) := by rw [hp2',Int.natCast_mul]
       have cb2 : ¬ 4294967296 ≤ (k2 : Int) := by omega
       by_cases c2 : m2 * 4294967296 + d0 < k2 * Y0
       ·obtain ⟨k3,hk3,HK3⟩ := HK2.out.over (by rw [← HYY.out];exact hv2) hd0' (.inr c2)
        have ek2 : (k2 : Int) - 1 = (k3 : Int) := by omega
        have hk32 : k3 < k2 := by omega
        rw [← hp2'] at hp2 c2;have ct2 : 4294967296 * (m2 : Int) + (d0 : Int) < (p2 : Int) := by omega
        clear hk3 c1 c2 hp2'
        by_cases c3 : 4294967296 ≤ m2 + Y1
        ·have cc2 : 4294967296 ≤ (m2 : Int) + (Y1 : Int) := by omega
         have HJ := hid (HK3.small (by rw [← HYY.out];exact hv2) hy0' c3);obtain ⟨z,hz1,hz2⟩ := HJ.out.rest;have eZ : IntKind.u64.wrap (IntKind.u64.wrap (IntKind.u64.wrap ((v : Int) * 4294967296) + (d0 : Int)) - IntKind.u64.wrap ((k3 : Int) * (Y : Int))) = (z : Int) := zJB (by rw [HYY.out];exact hz1) (by have := HYY.out;omega);have g2 : k3 < 4294967296 := HJ.out.1;obtain ⟨rr,hr1,hr2,hr3⟩ := zuB (Nat.two_pow_pos s) HY.out HU.out (by rw [← HD.out.1];exact HV.out) (by rw [← HD.out.2,HYY.out];exact hz1) (by rw [HYY.out];exact hz2);have ez : (z : Int) / 2 ^ s = (rr : Int) := by
          rw [hr1,zWA,Int.natCast_mul];exact Int.mul_ediv_cancel _ (by have := Nat.two_pow_pos s;omega)
         have HE : Hid (((k' * 4294967296 + k3 : Nat) : Int) = (k' : Int) * 4294967296 + (k3 : Int)) := by unfold Hid;omega
         have HQ := hid hr3;clear hr3 hr1 hz1;go_wp2;go_ret2;exact ⟨⟨k' * 4294967296 + k3,rr,by rw [HE.out];rfl,HQ.out,hr2⟩,0,rfl⟩
        ·have cc2 : ¬ 4294967296 ≤ (m2 : Int) + (Y1 : Int) := by omega
         go_wp2_with fail;go_roundw
         case rel => exact ⟨k3,m2 + Y1,rfl,rfl,by omega,by omega,by first | rfl | trivial,HK3⟩
         case measure => simp [intOf];omega
       ·have HJ := hid (HK2.out.stop (by omega) (by omega))
        rw [← hp2'] at hp2 c2;have ct2 : ¬ 4294967296 * (m2 : Int) + (d0 : Int) < (p2 : Int) := by omega
        clear hp2';obtain ⟨z,hz1,hz2⟩ := HJ.out.rest;have eZ : IntKind.u64.wrap (IntKind.u64.wrap (IntKind.u64.wrap ((v : Int) * 4294967296) + (d0 : Int)) - IntKind.u64.wrap ((k2 : Int) * (Y : Int))) = (z : Int) := zJB (by rw [HYY.out];exact hz1) (by have := HYY.out;omega);have g2 : k2 < 4294967296 := HJ.out.1;obtain ⟨rr,hr1,hr2,hr3⟩ := zuB (Nat.two_pow_pos s) HY.out HU.out (by rw [← HD.out.1];exact HV.out) (by rw [← HD.out.2,HYY.out];exact hz1) (by rw [HYY.out];exact hz2);have ez : (z : Int) / 2 ^ s = (rr : Int) := by
         rw [hr1,zWA,Int.natCast_mul];exact Int.mul_ediv_cancel _ (by have := Nat.two_pow_pos s;omega)
        have HE : Hid (((k' * 4294967296 + k2 : Nat) : Int) = (k' : Int) * 4294967296 + (k2 : Int)) := by unfold Hid;omega
        have HQ := hid hr3;clear hr3 hr1 hz1;go_wp2;go_ret2;exact ⟨⟨k' * 4294967296 + k2,rr,by rw [HE.out];rfl,HQ.out,hr2⟩,0,rfl⟩
    ·have cc : ¬ 4294967296 ≤ (m : Int) + (Y1 : Int) := by omega
     go_wp2_with fail;go_roundw
     case rel => exact ⟨k',m + Y1,rfl,rfl,by omega,by omega,by first | rfl | trivial,HK'⟩
     case measure => simp [intOf];omega
   ·have HI := hid (HK.out.stop (by omega) (by omega))
    rw [← hp'] at hp c2;have ct : ¬ 4294967296 * (m : Int) + (d1 : Int) < (p : Int) := by omega
    clear hp';obtain ⟨v,hv1,hv2⟩ := HI.out.rest;have eV : IntKind.u64.wrap (IntKind.u64.wrap (IntKind.u64.wrap ((u : Int) * 4294967296) + (d1 : Int)) - IntKind.u64.wrap ((k : Int) * (Y : Int))) = (v : Int) := zJB (by rw [HYY.out];exact hv1) (by have := HYY.out;omega);rw [← HYY.out] at hv1 hv2;have HV := hid hv1;have gk : k < 4294967296 := HI.out.1;obtain ⟨q2,r2,eQ,eQ',eQw,eP,ER,l1,l2,l3,l4⟩ := zqD (v := v) (y1 := Y1) (by omega) (by omega);have HER := hid ER;have HA := hid (zbB.start (y1 := Y1) (y0 := Y0) (u := v) (d := d0) (by omega) hd0');rw [← l3,← l4] at HA;clear l3 l4 ER hv1 HI;go_wp2_with fail;clear eQ eQ' eQw eP eV
    go_loopw [18,16] (fun a b wx => ∃ k m : Nat,a = .int .u64 k ∧ b = .int .u64 m ∧ m < 4294967296 ∧ k < 18446744073709551616 ∧ wx = wr ∧ Hid (zbB Y1 Y0 v d0 k m)) (fun a _ _ => (intOf a).toNat)
    case atStart => exact ⟨q2,r2,rfl,congrArg (Value.int .u64) HER.out,by omega,by omega,by first | rfl | trivial,HA⟩
    case round =>
     clear HA l2 l1 HER;obtain ⟨k2,m2,rfl,rfl,hm2,hk2,rfl,HK2⟩ := hrel
     by_cases c1 : 4294967296 ≤ k2
     ·obtain ⟨k3,hk3,HK3⟩ := HK2.out.over (by rw [← HYY.out];exact hv2) hd0' (.inl c1)
      have ek2 : (k2 : Int) - 1 = (k3 : Int) := by omega
      have hk32 : k3 < k2 := by omega
      have cb2 : 4294967296 ≤ (k2 : Int) := by omega
      clear hk3 c1
      by_cases c2 : 4294967296 ≤ m2 + Y1
      ·have cc2 : 4294967296 ≤ (m2 : Int) + (Y1 : Int) := by omega
       have HJ := hid (HK3.small (by rw [← HYY.out];exact hv2) hy0' c2);obtain ⟨z,hz1,hz2⟩ := HJ.out.rest;have eZ : IntKind.u64.wrap (IntKind.u64.wrap (IntKind.u64.wrap ((v : Int) * 4294967296) + (d0 : Int)) - IntKind.u64.wrap ((k3 : Int) * (Y : Int))) = (z : Int) := zJB (by rw [HYY.out];exact hz1) (by have := HYY.out;omega);have g2 : k3 < 4294967296 := HJ.out.1;obtain ⟨rr,hr1,hr2,hr3⟩ := zuB (Nat.two_pow_pos s) HY.out HU.out (by rw [← HD.out.1];exact HV.out) (by rw [← HD.out.2,HYY.out];exact hz1) (by rw [HYY.out];exact hz2);have ez : (z : Int) / 2 ^ s = (rr : Int) := by
        rw [hr1,zWA,Int.natCast_mul];exact Int.mul_ediv_cancel _ (by have := Nat.two_pow_pos s;omega)
       have HE : Hid (((k * 4294967296 + k3 : Nat) : Int) = (k : Int) * 4294967296 + (k3 : Int)) := by unfold Hid;omega
       have HQ := hid hr3;clear hr3 hr1 hz1;go_wp2;go_ret2;exact ⟨⟨k * 4294967296 + k3,rr,by rw [HE.out];rfl,HQ.out,hr2⟩,0,rfl⟩
      ·have cc2 : ¬ 4294967296 ≤ (m2 : Int) + (Y1 : Int) := by omega
       go_wp2_with fail;go_roundw
       case rel => exact ⟨k3,m2 + Y1,rfl,rfl,by omega,by omega,by first | rfl | trivial,HK3⟩
       case measure => simp [intOf];omega
     ·have hp2 := zbB.mul_fits (y0 := Y0) (q := k2) (by omega) hy0'
      obtain ⟨p2,hp2'⟩ : ∃ p2,p2 = k2 * Y0 := ⟨_,rfl⟩
      have ep2 : (k2 : Int) * (Y0 : Int) = (p2 : Int) := by rw [hp2',Int.natCast_mul]
      have cb2 : ¬ 4294967296 ≤ (k2 : Int) := by omega
      by_cases c2 : m2 * 4294967296 + d0 < k2 * Y0
      ·obtain ⟨k3,hk3,HK3⟩ := HK2.out.over (by rw [← HYY.out];exact hv2) hd0' (.inr c2)
       have ek2 : (k2 : Int) - 1 = (k3 : Int) := by omega
       have hk32 : k3 < k2 := by omega
       rw [← hp2'] at hp2 c2;have ct2 : 4294967296 * (m2 : Int) + (d0 : Int) < (p2 : Int) := by omega
       clear hk3 c1 c2 hp2'
       by_cases c3 : 4294967296 ≤ m2 + Y1
       ·have cc2 : 4294967296 ≤ (m2 : Int) + (Y1 : Int) := by omega
        have HJ := hid (HK3.small (by rw [← HYY.out];exact hv2) hy0' c3);obtain ⟨z,hz1,hz2⟩ := HJ.out.rest;have eZ : IntKind.u64.wrap (IntKind.u64.wrap (IntKind.u64.wrap ((v : Int) * 4294967296) + (d0 : Int)) - IntKind.u64.wrap ((k3 : Int) * (Y : Int))) = (z : Int) := zJB (by rw [HYY.out];exact hz1) (by have := HYY.out;omega);have g2 : k3 < 4294967296 := HJ.out.1;obtain ⟨rr,hr1,hr2,hr3⟩ := zuB (Nat.two_pow_pos s) HY.out HU.out (by rw [← HD.out.1];exact HV.out) (by rw [← HD.out.2,HYY.out];exact hz1) (by rw [HYY.out];exact hz2);have ez : (z : Int) / 2 ^ s = (rr : Int) := by
         rw [hr1,zWA,Int.natCast_mul];exact Int.mul_ediv_cancel _ (by have := Nat.two_pow_pos s;omega)
        have HE : Hid (((k * 4294967296 + k3 : Nat) : Int) = (k : Int) * 4294967296 + (k3 : Int)) := by unfold Hid;omega
        have HQ := hid hr3;clear hr3 hr1 hz1;go_wp2;go_ret2;exact ⟨⟨k * 4294967296 + k3,rr,by rw [HE.out];rfl,HQ.out,hr2⟩,0,rfl⟩
       ·have cc2 : ¬ 4294967296 ≤ (m2 : Int) + (Y1 : Int) := by omega
        go_wp2_with fail;go_roundw
        case rel => exact ⟨k3,m2 + Y1,rfl,rfl,by omega,by omega,by first | rfl | trivial,HK3⟩
        case measure => simp [intOf];omega
      ·have HJ := hid (HK2.out.stop (by omega) (by omega))
       rw [← hp2'] at hp2 c2;have ct2 : ¬ 4294967296 * (m2 : Int) + (d0 : Int) < (p2 : Int) := by omega
       clear hp2';obtain ⟨z,hz1,hz2⟩ := HJ.out.rest;have eZ : IntKind.u64.wrap (IntKind.u64.wrap (IntKind.u64.wrap ((v : Int) * 4294967296) + (d0 : Int)) - IntKind.u64.wrap ((k2 : Int) * (Y : Int))) = (z : Int) := zJB (by rw [HYY.out];exact hz1) (by have := HYY.out;omega);have g2 : k2 < 4294967296 := HJ.out.1;obtain ⟨rr,hr1,hr2,hr3⟩ := zuB (Nat.two_pow_pos s) HY.out HU.out (by rw [← HD.out.1];exact HV.out) (by rw [← HD.out.2,HYY.out];exact hz1) (by rw [HYY.out];exact hz2);have ez : (z : Int) / 2 ^ s = (rr : Int) := by
        rw [hr1,zWA,Int.natCast_mul];exact Int.mul_ediv_cancel _ (by have := Nat.two_pow_pos s;omega)
       have HE : Hid (((k * 4294967296 + k2 : Nat) : Int) = (k : Int) * 4294967296 + (k2 : Int)) := by unfold Hid;omega
       have HQ := hid hr3;clear hr3 hr1 hz1;go_wp2;go_ret2;exact ⟨⟨k * 4294967296 + k2,rr,by rw [HE.out];rfl,HQ.out,hr2⟩,0,rfl⟩
theorem zIF {x lo y : Int} (hx : IsW x) (hl : IsW lo) (hy : IsW y) (hxy : x < y) :
  ∃ q r : Int,IsW q ∧ 0 ≤ r ∧ r < y ∧ q * y + r = x * wB + lo ∧ ∀ w : World,Calls Try.prog 19 #[.int .u64 x,.int .u64 lo,.int .u64 y] w fun e w' => e = .returned (.tuple #[.int .u64 q,.int .u64 r]) ∧ ∃ n,w' = w.drewN n := by
 unfold IsW wB at *;obtain ⟨X,rfl⟩ := Int.eq_ofNat_of_zero_le hx.1;obtain ⟨L,rfl⟩ := Int.eq_ofNat_of_zero_le hl.1;obtain ⟨Y,rfl⟩ := Int.eq_ofNat_of_zero_le hy.1;have key : ∀ q r : Nat,q * Y + r = X * 18446744073709551616 + L → r < Y → q = (X * 18446744073709551616 + L) / Y ∧ r = (X * 18446744073709551616 + L) % Y := fun q r h1 h2 => by
  have := (Nat.div_mod_unique (show 0 < Y by omega)).2 ⟨(show r + Y * q = X * 18446744073709551616 + L by rw [Nat.mul_comm];omega),h2⟩;exact ⟨this.1.symm,this.2.symm⟩
 have hw : ∀ w : World,Calls Try.prog 19 #[.int .u64 (X : Int),.int .u64 (L : Int),.int .u64 (Y : Int)] w fun e w' => (∃ q r : Nat,e = .returned (.tuple #[.int .u64 q,.int .u64 r]) ∧ q * Y + r = X * 18446744073709551616 + L ∧ r < Y) ∧ ∃ n,w' = w.drewN n := fun w => by
  by_cases h0 : X = 0
  ·subst h0
   have := div64_low (lo := L) (y := Y) (by omega) (by omega) (by omega) w
   simpa using this
  ·exact div64_high (by omega) (by omega) (by omega) h0 rfl w
 have hq : (X * 18446744073709551616 + L) / Y < 18446744073709551616 := by
  rw [Nat.div_lt_iff_lt_mul (by omega),Nat.mul_comm];have : (X + 1) * 18446744073709551616 ≤ Y * 18446744073709551616 := Nat.mul_le_mul_right _ (by omega);omega
 have hr := Nat.mod_lt (X * 18446744073709551616 + L) (show 0 < Y by omega);have hqr := Nat.div_add_mod (X * 18446744073709551616 + L) Y;obtain ⟨Q,hQ⟩ : ∃ Q,Q = (X * 18446744073709551616 + L) / Y := ⟨_,rfl⟩
 obtain ⟨R,hR⟩ : ∃ R,R = (X * 18446744073709551616 + L) % Y := ⟨_,rfl⟩
 rw [← hQ] at hq hqr key;rw [← hR] at hr hqr key;refine ⟨Q,R,⟨by omega,by omega⟩,by omega,by omega,?_,fun w => (hw w).mono fun e w' ⟨⟨q,r,h1,h2,h3⟩,h4⟩ => ?_⟩
 ·rw [← Int.natCast_mul,Nat.mul_comm];omega
 ·obtain ⟨rfl,rfl⟩ := key q r h2 h3
  exact ⟨h1,h4⟩
end Go.Proofs.Ytppddlbkdoebmaa
