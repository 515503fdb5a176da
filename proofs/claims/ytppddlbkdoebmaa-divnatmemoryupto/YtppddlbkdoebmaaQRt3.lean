import Derived.Test.YtppddlbkdoebmaaQNw3
import Derived.Test.YtppddlbkdoebmaaQRootAllToLehmer
set_option maxRecDepth 100000
set_option maxHeartbeats 6400000
set_option linter.unusedVariables false
set_option linter.unusedSimpArgs false
namespace Go.Proofs.Ytppddlbkdoebmaa
open Go.RowKit
theorem zZD : ∀ m : Nat,1 ≤ m → 2 * m ≤ 2 ^ m
 | 0,h => by omega
 | 1,_ => by decide
 | m + 2,_ => by
  have := zZD (m + 1) (by omega);rw [Nat.pow_succ];omega
theorem zlA.one {r s a k : Nat} (h : zlA r a k) (h' : zlA s a k) : r = s := Nat.le_antisymm (h'.le h.1) (h.le h'.1)
theorem bit_room {rr j m q : Nat} (hj : j = 32 * q + m) (hm : m < 32) (hd : 2 ^ (j + 1) ∣ rr) : (rr / 2 ^ (32 * q)) % 2 ^ 32 + 2 ^ m < 4294967296 := by
 obtain ⟨c,rfl⟩ := hd;have e1 : 2 ^ (j + 1) = 2 ^ (32 * q) * 2 ^ (m + 1) := by rw [← Nat.pow_add];congr 1;omega
 have e2 : (2 : Nat) ^ 32 = 2 ^ (m + 1) * 2 ^ (31 - m) := by rw [← Nat.pow_add];congr 1;omega
 rw [e1,Nat.mul_assoc,Nat.mul_div_cancel_left _ (Nat.two_pow_pos _),e2,Nat.mul_mod_mul_left];have h1 : c % 2 ^ (31 - m) < 2 ^ (31 - m) := Nat.mod_lt _ (Nat.two_pow_pos _);have h2 : 2 ^ (m + 1) * (c % 2 ^ (31 - m) + 1) ≤ 2 ^ (m + 1) * 2 ^ (31 - m) := Nat.mul_le_mul_left _ h1;rw [← e2,Nat.mul_succ,Nat.pow_succ] at h2;rw [Nat.pow_succ];have h3 := Nat.two_pow_pos m;have : (2 : Nat) ^ 32 = 4294967296 := rfl;rw [this] at h2;omega
def RtJ3 (W : World) (g n d k H : Nat) (gk : Nat) (s10 : Value) (wx : World) : Prop :=
 ∃ (t rr : Nat) (R : List Int),s10 = .int .i64 ((t : Int) - 1) ∧ t ≤ H + 1 ∧ gk = t ∧ R.length = n ∧ HF R ∧ hval R = (rr : Int) ∧ 2 ^ t ∣ rr ∧ rr ^ k ≤ d ∧ d < (rr + 2 ^ t) ^ k ∧ Row wx g (ws R) ∧ Below W.heap.size W wx
theorem rroot_bad (v : Value) (w : World) {i : Int} (hi : i < 1) (hl : -9223372036854775808 ≤ i) :
  Calls Try.prog 26 #[v,.int .i64 i] w fun e w' => e = .returned (.tuple #[.slice none 0 0,.int .i64 3]) ∧ w' = w := by
 go_enter Try.func26,Try.ntmps26;go_wp2;go_ret2;exact ⟨rfl,rfl⟩
theorem rroot_any {w : World} {v : Value} {xs : List Int} {d k r : Nat} (hv : Sl w.heap.size w v xs) (ed : val xs = (d : Int)) (hk : 1 ≤ k) (hk2 : k < 9223372036854775808) (hroot : zlA r d k) (hl : xs.length ≤ 1048576) :
  Calls Try.prog 26 #[v,.int .i64 (k : Int)] w (zdC w (r : Int)) := by
 have H1 := hid (zdA hv (by omega));have HRT := hid hroot;have z1 : ¬ (k : Int) < 1 := by omega
 clear hv hroot;go_enter Try.func26,Try.ntmps26;go_wp2_with fail;refine H1.out.mono ?_;rintro e w1 ⟨D,v1,rfl,s1,c1,e1,l1,b1⟩;have SD := hid s1;have B1 := hid b1;have HC := hid c1;have HV : Hid (hval D = (d : Int)) := hid (e1.trans ed);obtain ⟨_,aD,qD,rfl,-⟩ := id s1;obtain ⟨lD,hld⟩ : ∃ l,D.length = l := ⟨_,rfl⟩
 have HLD := hid hld;have hlD : lD ≤ 2097152 := by omega
 rw [hld] at SD ⊢;have HBI := hid (rbits_any SD.out c1 (by omega));have hbl : bitLen d ≤ 67108864 := by
  by_cases h0 : d = 0
  ·subst h0;simp [bitLen]
  ·have h2 := (zmB h0).1
   have h3 := zVA c1.1;rw [HV.out,hld,zqB] at h3;have h4 : d < 2 ^ (32 * lD) := by exact_mod_cast h3
   have h5 : bitLen d - 1 < 32 * lD := (Nat.pow_lt_pow_iff_right (by decide : 1 < 2)).1 (Nat.lt_of_le_of_lt h2 h4);omega
 rw [HV.out,show ((d : Int)).toNat = d from rfl] at HBI;obtain ⟨n,hn⟩ : ∃ n,bitLen d = n := ⟨_,rfl⟩
 have HN := hid hn;rw [hn] at HBI hbl;clear H1 s1 b1 c1 e1 l1 hld hn ed;go_wp2_with fail;refine HBI.out.mono ?_;rintro e w2 ⟨rfl,hw2⟩;subst hw2;clear HBI
 by_cases h0 : n = 0
 ·subst h0
  have hd0 : d = 0 := by
   by_cases q : d = 0
   ·exact q
   ·have h1 : bitLen d ≠ 0 := by unfold bitLen;rw [if_neg q];omega
    exact absurd HN.out h1
  have hr0 : r = 0 := HRT.out.one ⟨by rw [Nat.zero_pow (by omega)];omega,by rw [hd0];simp⟩;have FIN : Hid (zdC w (r : Int) (.returned (.tuple #[.slice none 0 0,.int .i64 0])) w2) := ⟨[],_,rfl,⟨WF.nil,.inl ⟨rfl,rfl⟩⟩,⟨WF.nil,rfl⟩,by rw [hr0];rfl,B1.out⟩
  have hz : ((0 : Nat) : Int) = 0 := rfl;clear hd0 hr0;go_wp2;go_ret2;exact FIN.out
 ·have hz : ((n : Int) == 0) = false := by rw [beq_eq_false_iff_ne];omega
  have hdp : d ≠ 0 := fun e => by subst e;have := HN.out;simp [bitLen] at this;omega
  have hbh := zmB hdp;rw [HN.out] at hbh;have HBH := hid hbh;have HDP : Hid (1 ≤ d) := hid (by omega);clear hbh hdp
  by_cases hk1 : k = 1
  ·subst hk1
   have hz1 : (((1 : Nat) : Int) == 1) = true := rfl;have HW := hid (zoA SD.out HC.out.1 (by have := HLD.out;omega));have hr1 : r = d := HRT.out.one ⟨by rw [Nat.pow_one];omega,by rw [Nat.pow_one];omega⟩;have HR1 := hid hr1;clear hr1;go_wp2_with fail;refine HW.out.mono ?_;rintro e w3 ⟨zs,v3,rfl,o3,c3,e3,b3⟩;have FIN : Hid (zdC w (r : Int) (.returned (.tuple #[v3,.int .i64 0])) w3) := ⟨zs,_,rfl,o3.lower B1.out.size,c3,by rw [e3,HV.out,HR1.out],zAA B1.out b3⟩
   clear HW o3 c3 e3 b3;go_wp2;go_ret2;exact FIN.out
  ·have hz1 : ((k : Int) == 1) = false := by rw [beq_eq_false_iff_ne];omega
   by_cases hkn : n ≤ k
   ·have hkn' : (n : Int) ≤ (k : Int) := by omega
    have hr1 : r = 1 := HRT.out.one ⟨by rw [Nat.one_pow];exact HDP.out,Nat.lt_of_lt_of_le HBH.out.2 (Nat.pow_le_pow_right (by decide) hkn)⟩;have Rk := Row.new w2 [1];obtain ⟨W8,hW8⟩ : ∃ W8,w2.alloc (.cells (ws [1]).toArray 26) = W8 := ⟨_,rfl⟩
    have b8 : Below w2.heap.size w2 W8 := by rw [← hW8];exact (Below.refl _ _).alloc (Nat.le_refl _) _
    rw [hW8] at Rk;have FIN : Hid (zdC w (r : Int) (.returned (.tuple #[.slice (some ⟨w2.heap.size,0,none⟩) 1 1,.int .i64 0])) W8) := ⟨[1],_,rfl,⟨(fun t ht => by simp at ht;subst ht;unfold IsW wB;omega),.inr ⟨w2.heap.size,[],B1.out.size,by simp,rfl,by simpa using Rk⟩⟩,⟨(fun t ht => by simp at ht;subst ht;unfold IsW wB;omega),rfl⟩,by rw [hr1];rfl,zAA B1.out b8⟩
    have EW8 := hid hW8;clear hr1 Rk hW8 b8;go_wp2_with fail;rw [show w2.alloc (.cells #[.int .u64 1] 26) = W8 from EW8.out];go_ret2;exact FIN.out
   ·have hkn2 : k < n := Nat.lt_of_not_le hkn
    have hkn' : ¬ (n : Int) ≤ (k : Int) := by omega
    obtain ⟨H,hH⟩ : ∃ H,n / k = H := ⟨_,rfl⟩
    have hkd : (n : Int) / (k : Int) = (H : Int) := by rw [← Int.natCast_ediv,hH]
    have hk0 : ¬ (k : Int) = 0 := by omega
    have hkp : (0 : Int) < (k : Int) := by omega
    have hkt : (n : Int).tdiv (k : Int) = (H : Int) := by rw [Int.tdiv_eq_ediv_of_nonneg (by omega),hkd]
    have hmod := Nat.div_add_mod n k;have hmlt := Nat.mod_lt n (show 0 < k by omega);rw [hH] at hmod;have hkH : k * H ≤ n := by omega
    have hkH1 : n < k * (H + 1) := by rw [Nat.mul_succ];omega
    have hHn : H ≤ n := by rw [← hH];exact Nat.div_le_self _ _
    have hH1 : 1 ≤ H := by rw [← hH];exact (Nat.one_le_div_iff (by omega)).2 (by omega)
    have hdlt : d < (2 ^ (H + 1)) ^ k := by
     rw [← Nat.pow_mul];exact Nat.lt_of_lt_of_le HBH.out.2 (Nat.pow_le_pow_right (by decide) (by rw [Nat.mul_comm];omega))
    have hrlt := HRT.out.lt hdlt;have HRL : Hid (r < 2 ^ (H + 1)) := hid hrlt;have HDL := hid hdlt
    by_cases hHk : k < H
    ·have hHk' : (k : Int) < (H : Int) := by omega
     have hpl := HRT.out.places hk (by have := HDP.out;omega);rw [HN.out] at hpl;have hge : H - 1 ≤ (n - 1) / k := (Nat.le_div_iff_mul_le (by omega)).2 (by
      rw [Nat.sub_mul,Nat.one_mul,Nat.mul_comm];omega)
     have hp2 : 2 ^ (H - 1) ≤ r := Nat.le_trans (Nat.pow_le_pow_right (by decide) hge) hpl.1;have h2m := zZD (H - 1) (by omega);have hsz : k * (H / 32 + 3) ≤ 274877906944 := by
      rw [Nat.mul_add];have : k * (H / 32) ≤ k * H := Nat.mul_le_mul_left _ (Nat.div_le_self _ _);omega
     have HNT := hid (rnewton_any SD.out HC.out HV.out HDP.out (by omega) (by omega) HRT.out (by omega) (by omega) (by omega) (by omega) hsz (by have := HLD.out;omega));clear hpl hge hp2 h2m hsz hmod hmlt hkH hkH1 hdlt hrlt hH;go_wp2_with fail;refine HNT.out.mono ?_;rintro e w3 ⟨zs,v3,rfl,o3,c3,e3,b3⟩;have FIN : Hid (zdC w (r : Int) (.returned (.tuple #[v3,.int .i64 0])) w3) := ⟨zs,_,rfl,o3.lower B1.out.size,c3,e3,zAA B1.out b3⟩
     clear HNT o3 c3 e3 b3;go_wp2;go_ret2;exact FIN.out
    ·have hHk' : ¬ (k : Int) < (H : Int) := by omega
     obtain ⟨nw,hnw⟩ : ∃ m,H / 32 + 1 = m := ⟨_,rfl⟩
     have HNW := hid hnw;have hnw' : (H : Int) / 32 + 1 = (nw : Int) := by omega
     have hnwl : nw ≤ 2097153 := by omega
     have hkb : k < 67108864 := by omega
     clear hmod hmlt hkH hkH1 hdlt hrlt hH hnw;go_wp2_with (at_make;refine wpList_make_words _ rfl _ _ rfl _ _ nw nw rfl rfl (by first | rfl | omega) (by first | rfl | omega) (Nat.le_refl _) (by omega) ?_)
     intro w3 hrow hb3 hsz3;have J0 : Hid (RtJ3 w2 w2.heap.size nw d k H (H + 1) (.int .i64 (H : Int)) w3) := ⟨H + 1,0,List.replicate nw 0,by rw [show ((H + 1 : Nat) : Int) - 1 = (H : Int) by omega],Nat.le_refl _,rfl,by simp,zsB _,by rw [zsA];rfl,Nat.dvd_zero _,by rw [Nat.zero_pow (by omega)];omega,by rw [Nat.zero_add];exact HDL.out,hrow,hb3⟩
     obtain ⟨g,hg⟩ : ∃ g,w2.heap.size = g := ⟨_,rfl⟩
     have EG := hid hg;rw [hg] at J0 ⊢;clear hrow hb3 hsz3 hg;go_wp2_with fail;clear hkt hkd
     go_loopg [10] (H + 1) (fun gk s10 wx => RtJ3 w2 g nw d k H gk s10 wx)
     case atStart => exact J0.out
     case round =>
      clear J0;obtain ⟨t,rr,R,rfl,htH,hgk,hRl,hRf,hRv,hdv,hle,hlt,hR,hB⟩ := hrel;have HG := hid hgk;have HR := hid (And.intro hRf (And.intro hRv (And.intro hdv (And.intro hle hlt))));have RR := hid hR;have BR := hid hB;clear hgk hRf hRv hdv hle hlt hR hB
      by_cases ht0 : t = 0
      ·subst ht0
       have hz0 : ¬ (0 : Int) ≤ -1 := by omega
       have e0 : ((0 : Nat) : Int) - 1 = -1 := by omega
       have hre : rr = r := (HRT.out.one ⟨HR.out.2.2.2.1,by have := HR.out.2.2.2.2;rwa [Nat.pow_zero] at this⟩).symm;have HRE := hid hre;have S1 : Sl wr.heap.size wr (.slice (some ⟨g,0,none⟩) nw nw) R := by
        have := Row.sl (r := []) (by simpa using RR.out) HR.out.1.word (Nat.le_of_eq hRl) (by omega) RR.out.lt
        rwa [hRl] at this
       have HW := hid (zoA S1 HR.out.1 (by omega));clear hre S1;go_wp2_with fail;refine HW.out.mono ?_;rintro e w4 ⟨zs,v4,rfl,o4,c4,e4,b4⟩;have bb := zAA B1.out BR.out;have FIN : Hid (zdC w (r : Int) (.returned (.tuple #[v4,.int .i64 0])) w4) := ⟨zs,_,rfl,o4.lower bb.size,c4,by rw [e4,HR.out.2.1,HRE.out],zAA bb b4⟩
       clear HW o4 c4 e4 b4 bb;go_wp2;go_ret2;exact FIN.out
      ·obtain ⟨j,rfl⟩ : ∃ j,t = j + 1 := ⟨t - 1,by omega⟩
       obtain ⟨q,hq⟩ : ∃ q,j / 32 = q := ⟨_,rfl⟩
       obtain ⟨m,hm⟩ : ∃ m,j % 32 = m := ⟨_,rfl⟩
       have hj : j = 32 * q + m := by omega
       have hm32 : m < 32 := by omega
       have hqn : q < R.length := by have := HNW.out;omega
       obtain ⟨M,hM⟩ : ∃ M,2 ^ m = M := ⟨_,rfl⟩
       have hM32 : M < 4294967296 := by
        have : 2 ^ m < 2 ^ 32 := Nat.pow_lt_pow_right (by decide) hm32;rw [hM] at this;exact this
       have hM0 : 0 < M := by rw [← hM];exact Nat.two_pow_pos m
       have hwp : IntKind.u64.wrap ((2 : Int) ^ m) = (M : Int) := by
        have : (2 : Int) ^ m = (M : Int) := by rw [← hM,Int.natCast_pow];rfl
        rw [this,IntKind.wrap_u64];omega
       have hroom := bit_room hj hm32 HR.out.2.2.1;rw [hM] at hroom;have cZ := Row.word (r := []) (by simpa using RR.out) hqn;have hdig := zOG HR.out.1 HR.out.2.1 hqn;rw [hdig] at cZ;obtain ⟨z,hzz⟩ : ∃ z : Nat,(rr / 2 ^ (32 * q)) % 2 ^ 32 = z := ⟨_,rfl⟩
       rw [hzz] at cZ hroom hdig;have cf : wr.frozen? ⟨g,q,none⟩ = false := RR.out.frozen _;have e0 : ((j + 1 : Nat) : Int) - 1 = (j : Int) := by omega
       have hj0 : (0 : Int) ≤ (j : Int) := by omega
       have ejq : (j : Int) / 32 = (q : Int) := by omega
       have ejm : (j : Int) % 32 = (m : Int) := by omega
       have hq0 : (0 : Int) ≤ (q : Int) := by omega
       have hq1 : (q : Int) < (nw : Int) := by omega
       have hzM : (z : Int) + (M : Int) < 18446744073709551616 := by omega
       have e2j : 2 ^ j = M * 2 ^ (32 * q) := by rw [← hM,← Nat.pow_add];congr 1;omega
       obtain ⟨R1,hR1⟩ : ∃ R1,R.set q ((z : Int) + (M : Int)) = R1 := ⟨_,rfl⟩
       have f1 : HF R1 := by rw [← hR1];exact HR.out.1.set q (by unfold IsH hwB;omega)
       have l1 : R1.length = nw := by rw [← hR1,List.length_set];exact hRl
       have v1 : hval R1 = ((rr + 2 ^ j : Nat) : Int) := by
        rw [← hR1,zQB _ _ _ hqn,hdig,HR.out.2.1,zqB,e2j,Int.natCast_add,Int.natCast_mul];have : (z : Int) + (M : Int) - (z : Int) = (M : Int) := by omega
        rw [this]
       have R1w : Row (wr.setCell ⟨g,q,none⟩ (.int .u64 ((z : Int) + (M : Int)))) g (ws R1) := by rw [← hR1];simpa using Row.setWord (r := []) (by simpa using RR.out) hqn ((z : Int) + (M : Int))
       have B4 : Below w2.heap.size w2 (wr.setCell ⟨g,q,none⟩ (.int .u64 ((z : Int) + (M : Int)))) := BR.out.setCell (p := ⟨g,q,none⟩) (by rw [EG.out];exact Nat.le_refl _) _;obtain ⟨W4,hW4⟩ : ∃ W4,wr.setCell ⟨g,q,none⟩ (.int .u64 ((z : Int) + (M : Int))) = W4 := ⟨_,rfl⟩
       rw [hW4] at R1w B4;have S4 : Sl W4.heap.size W4 (.slice (some ⟨g,0,none⟩) nw nw) R1 := by
        have := Row.sl (r := []) (by simpa using R1w) f1.word (Nat.le_of_eq l1) (by omega) R1w.lt
        rwa [l1] at this
       have HTR := hid (zZA S4);have hwl := zIA R1;have HAM := hid (ratMost_any (r := rr + 2 ^ j) (k := k) (a := d) (zkB S4) (SD.out.now B4) (hcanon_lst' f1) HC.out (by rw [hval_lst',v1]) HV.out (by have := Nat.two_pow_pos j;omega) HDP.out hk (by omega) (by rw [length_lst];have := HLD.out;omega));have EW4 := hid hW4;have R4 := hid R1w;have BB4 := hid B4;have HR1E : Hid (HF R1 ∧ R1.length = nw ∧ hval R1 = ((rr + 2 ^ j : Nat) : Int)) := hid ⟨f1,l1,v1⟩;have hq4 : q < R1.length := by rw [l1];omega
       have HR4 : Hid (R1[q] = (z : Int) + (M : Int) ∧ R1.set q (z : Int) = R) := hid ⟨by subst hR1;simp,by subst hR1;rw [List.set_set,← hdig];exact List.set_getElem_self hqn⟩;have HDG := hid (And.intro hroom (And.intro hM0 hqn));have hbl : Hid (2 ^ (j + 1) = 2 ^ j + 2 ^ j) := hid (by rw [Nat.pow_succ];omega);clear hq hm hj hM hroom hdig hzz e2j hR1 f1 l1 v1 R1w B4 hW4 S4 hwl;go_wp2_with fail;rw [EW4.out];clear EW4 hwp cZ cf;refine HTR.out.mono ?_;rintro e w5 ⟨rfl,hw5⟩;subst hw5;clear HTR;go_wp2_with fail;refine HAM.out.mono ?_;rintro e w6 ⟨rfl,b6⟩;have R6 := hid (R4.out.below b6 R4.out.lt);have BB6 := hid (zAA BB4.out b6);clear HAM b6;have HMM : Hid (j < gk) := by unfold Hid;rw [HG.out];omega
       have hj1 : IntKind.i64.wrap ((j : Int) - 1) = (j : Int) - 1 := by rw [zjA] <;> omega
       by_cases hfit : (rr + 2 ^ j) ^ k ≤ d
       ·have hdt : decide ((rr + 2 ^ j) ^ k ≤ d) = true := decide_eq_true hfit
        rw [hdt];have FIN : Hid (RtJ3 w2 g nw d k H j (.int .i64 ((j : Int) - 1)) w6) :=
         ⟨j,rr + 2 ^ j,R1,rfl,by omega,rfl,HR1E.out.2.1,HR1E.out.1,HR1E.out.2.2,Nat.dvd_add (Nat.dvd_trans ⟨2,by rw [Nat.pow_succ]⟩ HR.out.2.2.1) (Nat.dvd_refl _),hfit,by have := HR.out.2.2.2.2;rw [hbl.out,← Nat.add_assoc] at this;exact this,R6.out,BB6.out⟩
        clear hdt hfit HR HR4 HDG;go_wp2_with fail;go_roundg j
        case rel => exact FIN.out
        case measure => exact HMM.out
       ·have hdt : decide ((rr + 2 ^ j) ^ k ≤ d) = false := decide_eq_false hfit
        rw [hdt];have hq6 : q < R1.length := hq4;have cZ := Row.word (r := []) (by simpa using R6.out) hq6;rw [HR4.out.1] at cZ;have cf : w6.frozen? ⟨g,q,none⟩ = false := R6.out.frozen _;have hsub : IntKind.u64.wrap ((z : Int) + (M : Int) - (M : Int)) = (z : Int) := by rw [IntKind.wrap_u64];have := HDG.out.1;omega
        have hz18 : (z : Int) + (M : Int) - (M : Int) = (z : Int) := by omega
        have R7 : Row (w6.setCell ⟨g,q,none⟩ (.int .u64 (z : Int))) g (ws R) := by
         have := Row.setWord (r := []) (by simpa using R6.out) hq6 (z : Int);rw [HR4.out.2] at this
         simpa using this
        have FIN : Hid (RtJ3 w2 g nw d k H j (.int .i64 ((j : Int) - 1)) (w6.setCell ⟨g,q,none⟩ (.int .u64 (z : Int)))) :=
         ⟨j,rr,R,rfl,by omega,rfl,hRl,HR.out.1,HR.out.2.1,Nat.dvd_trans ⟨2,by rw [Nat.pow_succ]⟩ HR.out.2.2.1,HR.out.2.2.2.1,by omega,R7,BB6.out.setCell (p := ⟨g,q,none⟩) (by rw [EG.out];exact Nat.le_refl _) _⟩
        clear hdt hfit HR HR4 HDG R7;go_wp2_with fail;go_roundg j
        case rel => exact FIN.out
        case measure => exact HMM.out
end Go.Proofs.Ytppddlbkdoebmaa
