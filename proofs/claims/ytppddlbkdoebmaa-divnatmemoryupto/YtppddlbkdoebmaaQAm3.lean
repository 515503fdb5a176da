import Derived.Test.YtppddlbkdoebmaaQTm3
set_option maxRecDepth 100000
set_option maxHeartbeats 6400000
set_option linter.unusedVariables false
set_option linter.unusedSimpArgs false
namespace Go.Proofs.Ytppddlbkdoebmaa
open Go.RowKit
theorem pow_half3r {r k b : Nat} : r ^ (k / 2 ^ b) = if k / 2 ^ b % 2 = 1 then r ^ (k / 2 ^ (b + 1)) * r ^ (k / 2 ^ (b + 1)) * r else r ^ (k / 2 ^ (b + 1)) * r ^ (k / 2 ^ (b + 1)) := by
 have e : k / 2 ^ (b + 1) = k / 2 ^ b / 2 := by rw [Nat.pow_succ,Nat.div_div_eq_div_mul]
 rw [e];generalize k / 2 ^ b = q
 split
 ·rename_i h
  rw [← Nat.pow_add,← Nat.pow_succ];congr 1;omega
 ·rename_i h
  rw [← Nat.pow_add];congr 1;omega
theorem zfD {r k b a : Nat} (hr : 1 ≤ r) (h : a < r ^ (k / 2 ^ b)) : decide (r ^ k ≤ a) = false := by
 have : r ^ (k / 2 ^ b) ≤ r ^ k := Nat.pow_le_pow_right hr (Nat.div_le_self _ _);rw [decide_eq_false (by omega)]
def AmB3 (W : World) (k gk : Nat) (s8 : Value) (wx : World) : Prop := ∃ b : Nat,s8 = .int .i64 ((2 ^ b : Nat) : Int) ∧ 2 ^ b ≤ k ∧ gk = k - 2 ^ b ∧ wx = W
def AmJ3 (W : World) (r k a M gk : Nat) (s7 s8 : Value) (wx : World) : Prop :=
 ∃ (P : List Int),Sl wx.heap.size wx s7 P ∧ zMA P ∧ P.length ≤ M ∧ hval P = ((r ^ (k / 2 ^ gk) : Nat) : Int) ∧ r ^ (k / 2 ^ gk) ≤ a ∧ s8 = .int .i64 ((2 ^ gk / 2 : Nat) : Int) ∧ gk ≤ 40 ∧ Below W.heap.size W wx
theorem ratMost_any {w : World} {v u : Value} {R A : List Int} {r a k : Nat} (hv : Sl w.heap.size w v R) (hu : Sl w.heap.size w u A) (hR : zMA R) (hA : zMA A) (er : hval R = (r : Int)) (ea : hval A = (a : Int)) (hr : 1 ≤ r) (ha : 1 ≤ a) (hk : 1 ≤ k) (hk2 : k < 1099511627776)
  (hl : R.length + A.length ≤ 1099511627776) :
  Calls Try.prog 51 #[v,.int .i64 (k : Int),u] w fun e w' => e = .returned (.bool (decide (r ^ k ≤ a))) ∧ Below w.heap.size w w' := by
 have SR := hid hv;have SA := hid hu;obtain ⟨_,ar,qr,rfl,-⟩ := id hv;obtain ⟨_,aa,qa,rfl,-⟩ := id hu;obtain ⟨lr,hlr⟩ : ∃ l,R.length = l := ⟨_,rfl⟩
 obtain ⟨la,hla⟩ : ∃ l,A.length = l := ⟨_,rfl⟩
 have HLR := hid hlr;have HLA := hid hla;rw [hlr,hla] at hl;rw [hlr] at SR ⊢;rw [hla] at SA ⊢;have HER := hid er;have HEA := hid ea;have HCR := hid hR;have HCA := hid hA;have HR1 := hid hr;have HAA := hid ha;clear hv hu hR hA er ea hr ha hlr hla;have R1 := Row.new w [1];obtain ⟨W1,hW⟩ : ∃ W1,w.alloc (.cells (ws [1]).toArray 26) = W1 := ⟨_,rfl⟩
 have b1 : Below w.heap.size w W1 := by rw [← hW];exact (Below.refl _ _).alloc (Nat.le_refl _) _
 rw [hW] at R1;have S1 : Hid (Sl W1.heap.size W1 (.slice (some ⟨w.heap.size,0,none⟩) 1 1) [1]) := hid (Row.sl (xs := [1]) (r := []) (by simpa using R1) (fun x hx => by simp at hx;subst hx;unfold IsW wB;omega) (Nat.le_refl 1) (by decide) R1.lt);have BW := hid b1;have EW := hid hW;have J0 : Hid (AmB3 W1 k (k - 1) (.int .i64 1) W1) := ⟨0,rfl,hk,rfl,rfl⟩
 have HKK : Hid (1 ≤ k ∧ k < 1099511627776) := hid ⟨hk,hk2⟩;clear hW b1 R1;go_enter Try.func51,Try.ntmps51;go_wp2_with fail;rw [show w.alloc (.cells #[.int .u64 1] 26) = W1 from EW.out];clear EW
 go_loopg [8] (k - 1) (fun gk s8 wx => AmB3 W1 k gk s8 wx)
 case atStart => exact J0.out
 case round =>
  clear J0;obtain ⟨b,rfl,hb,hg,rfl⟩ := hrel;have HG := hid hg;clear hg;obtain ⟨B,hB⟩ : ∃ B,2 ^ b = B := ⟨_,rfl⟩
  have HBB := hid hB;rw [hB] at hb HG ⊢;have hB1 : 1 ≤ B := by rw [← hB];exact Nat.one_le_two_pow
  clear hB
  by_cases hlt : B ≤ k / 2
  ·have h1 : (B : Int) ≤ (k : Int) / 2 := by omega
   have HN : Hid (AmB3 wr k (k - 2 * B) (.int .i64 ((2 * B : Nat) : Int)) wr) := ⟨b + 1,by rw [Nat.pow_succ,HBB.out,Nat.mul_comm],by rw [Nat.pow_succ,HBB.out];omega,by rw [Nat.pow_succ,HBB.out,Nat.mul_comm 2],rfl⟩
   have HM : Hid (k - 2 * B < gk) := by unfold Hid;rw [HG.out];omega
   have hw : IntKind.i64.wrap (2 * (B : Int)) = ((2 * B : Nat) : Int) := by rw [zjA] <;> omega
   clear HG;go_wp2_with fail;go_roundg (k - 2 * B)
   case rel => exact HN.out
   case measure => exact HM.out
  ·have h1 : ¬ (B : Int) ≤ (k : Int) / 2 := by omega
   have hk0 : k / 2 ^ (b + 1) = 0 := by rw [Nat.pow_succ,HBB.out];exact Nat.div_eq_of_lt (by omega)
   have hb40 : b + 1 ≤ 40 := by
    rcases Nat.lt_or_ge 40 (b + 1) with q | q
    ·have : 2 ^ 40 ≤ 2 ^ b := Nat.pow_le_pow_right (by decide) (by omega)
     rw [HBB.out] at this;have := HKK.out.2;omega
    ·exact q
   have J1 : Hid (AmJ3 wr r k a (la + la + lr + 1) (b + 1) (.slice (some ⟨w.heap.size,0,none⟩) 1 1) (.int .i64 (B : Int)) wr) :=
    ⟨[1],S1.out,⟨fun x hx => by simp at hx;subst hx;unfold IsH hwB;omega,rfl⟩,(by first | (simp;done) | (simp;omega)),by rw [hk0];rfl,by rw [hk0];exact HAA.out,by rw [Nat.pow_succ,Nat.mul_div_cancel _ (by decide),HBB.out],hb40,Below.refl _ _⟩
   clear HG hk0 hb40;go_wp2_with fail
   go_loopg [7,8] (b + 1) (fun gk s7 s8 wx => AmJ3 wr r k a (la + la + lr + 1) gk s7 s8 wx)
   case atStart => exact J1.out
   case round =>
    clear J1
    rename World => wy
    obtain ⟨P,hP1,hP2,hP3,hP4,hP5,rfl,hg40,hBy⟩ := hrel;have SP := hid hP1;have HP := hid (And.intro hP2 (And.intro hP3 (And.intro hP4 hP5)));have BY := hid hBy;obtain ⟨_,ap,qp,rfl,-⟩ := id hP1;obtain ⟨lp,hlp⟩ : ∃ l,P.length = l := ⟨_,rfl⟩
    have HLP := hid hlp;rw [hlp] at SP hP3 ⊢;clear hP1 hP2 hP4 hP5 hBy hlp;have BW2 : Hid (Below w.heap.size w wy) := hid (zAA BW.out BY.out)
    by_cases hg0 : gk = 0
    ·subst hg0
     have hd : decide (r ^ k ≤ a) = true := by
      have := HP.out.2.2.2;rw [Nat.pow_zero,Nat.div_one] at this;exact decide_eq_true this
     have h0 : ((2 ^ 0 / 2 : Nat) : Int) = 0 := rfl;have hz : ¬ (0 : Int) < 0 := by omega
     have HD := hid hd;clear hd;go_wp2;go_ret;exact ⟨by rw [HD.out];rfl,BW2.out⟩
    ·obtain ⟨g,rfl⟩ : ∃ g,gk = g + 1 := ⟨gk - 1,by omega⟩
     have e2 : 2 ^ (g + 1) / 2 = 2 ^ g := by rw [Nat.pow_succ,Nat.mul_div_cancel _ (by decide)]
     rw [e2];obtain ⟨B',hB'⟩ : ∃ B,2 ^ g = B := ⟨_,rfl⟩
     have EB := hid hB';have hB1 : 1 ≤ B' := by rw [← hB'];exact Nat.one_le_two_pow
     have hBlt : B' ≤ 1099511627776 := by rw [← hB'];exact Nat.pow_le_pow_right (n := 2) (by decide) (show g ≤ 40 by omega)
     rw [hB'];obtain ⟨q,hq⟩ : ∃ q,k / 2 ^ g = q := ⟨_,rfl⟩
     have EQ := hid hq;have hqk : q ≤ k := by rw [← hq];exact Nat.div_le_self _ _
     have hkd : (k : Int) / (B' : Int) = (q : Int) := by rw [← Int.natCast_ediv,← hB',hq]
     have hB0 : ¬ (B' : Int) = 0 := by omega
     have hBp : (0 : Int) < (B' : Int) := by omega
     have hkt : (k : Int).tdiv (B' : Int) = (q : Int) := by rw [Int.tdiv_eq_ediv_of_nonneg (by omega),hkd]
     have HH : Hid (r ^ q = if q % 2 = 1 then r ^ (k / 2 ^ (g + 1)) * r ^ (k / 2 ^ (g + 1)) * r else r ^ (k / 2 ^ (g + 1)) * r ^ (k / 2 ^ (g + 1))) := by
      unfold Hid;have := pow_half3r (r := r) (k := k) (b := g);rw [hq] at this;exact this
     have HT := hid (zuC SP.out SP.out HP.out.1.1 HP.out.1.1 (by have := HP.out.2.1;omega));clear e2 hB' hq;go_wp2_with fail;refine HT.out.mono ?_;rintro e w3 ⟨P2,v2,rfl,s2,c2,e2,l2,b2⟩;have S2 := hid s2;have BW3 := hid (zAA BW2.out b2);have HP2 : Hid (zMA P2 ∧ hval P2 = ((r ^ (k / 2 ^ (g + 1)) * r ^ (k / 2 ^ (g + 1)) : Nat) : Int) ∧ P2.length ≤ 2 * (la + la + lr + 1)) := hid ⟨c2,by rw [e2,HP.out.2.2.1,← Int.natCast_mul],by have := HP.out.2.1;omega⟩;have BY3 := hid (zAA BY.out b2);obtain ⟨_,a2,q2,rfl,-⟩ := id s2;obtain ⟨l2',hl2⟩ : ∃ l,P2.length = l := ⟨_,rfl⟩
     have HL2 := hid hl2;rw [hl2] at S2 ⊢;clear HT s2 c2 e2 l2 b2 hl2 SP
     by_cases hodd : q % 2 = 1
     ·have ho : ((q : Int) % 2 == 1) = true := by rw [beq_iff_eq];omega
      have hv3 := HH.out;rw [if_pos hodd] at hv3;have HV3 := hid hv3;have HT2 := hid (zuC S2.out (SR.out.now BW3.out) HP2.out.1.1 HCR.out.1 (by have := HP2.out.2.2;have := HLR.out;have := HL2.out;have := HP.out.2.1;omega));clear hv3 HH;go_wp2_with fail;refine HT2.out.mono ?_;rintro e w4 ⟨P3,v3,rfl,s3,c3,e3,l3,b3⟩;have BW4 := hid (zAA BW3.out b3);have BY4 := hid (zAA BY3.out b3);have S3 := hid s3;have HP3 : Hid (zMA P3 ∧ hval P3 = ((r ^ q : Nat) : Int)) := hid ⟨c3,by rw [e3,HP2.out.2.1,HER.out,HV3.out,← Int.natCast_mul]⟩;obtain ⟨_,a3,q3,rfl,-⟩ := id s3;clear HT2 s3 c3 e3 l3 b3;have HBE := hid (zSB (SA.out.now BW4.out) S3.out HCA.out HP3.out.1);obtain ⟨l9,hl9⟩ : ∃ l,P3.length = l := ⟨_,rfl⟩
      have HL9 := hid hl9;rw [hl9] at HBE ⊢;have hdec : decide (hval A < hval P3) = decide (a < r ^ q) := by
       rw [HEA.out,HP3.out.2]
       by_cases z : a < r ^ q
       ·rw [decide_eq_true z,decide_eq_true (by omega)]
       ·rw [decide_eq_false z,decide_eq_false (by omega)]
      rw [hdec] at HBE;clear hdec hl9;go_wp2_with fail;refine HBE.out.mono ?_;rintro e w9 ⟨rfl,nd,hw9⟩;have bd : Below w4.heap.size w4 w9 := by rw [hw9];exact below_drewN (Below.refl _ _) nd
      by_cases hov : a < r ^ q
      ·have hdt : decide (a < r ^ q) = true := decide_eq_true hov
       rw [hdt];have hf := zfD (k := k) (b := g) HR1.out (by rw [EQ.out];exact hov);have HFF := hid hf;have FIN := hid (zAA BW4.out bd);clear hw9 bd HBE hf hdt;go_wp2;go_ret;exact ⟨by rw [HFF.out];rfl,FIN.out⟩
      ·have hdt : decide (a < r ^ q) = false := decide_eq_false hov
       rw [hdt];have hlen := zwC HP3.out.1 HCA.out (by rw [HP3.out.2,HEA.out];omega);have FIN : Hid (AmJ3 wr r k a (la + la + lr + 1) g (.slice a3 l9 q3) (.int .i64 ((2 ^ g / 2 : Nat) : Int)) w9) := by
        have := S3.out.now bd;rw [HL9.out] at this;exact ⟨P3,this,HP3.out.1,by have := HLA.out;omega,by rw [EQ.out];exact HP3.out.2,by rw [EQ.out];omega,rfl,by omega,zAA BY4.out bd⟩
       have hd2 : (B' : Int) / 2 = ((2 ^ g / 2 : Nat) : Int) := by rw [EB.out];omega
       obtain ⟨b2,hb2⟩ : ∃ b,2 ^ g / 2 = b := ⟨_,rfl⟩
       rw [hb2] at FIN hd2;clear hw9 bd HBE hdt hlen hb2 hkt hkd;go_wp2_with fail;go_roundg g
       case rel => exact FIN.out
       case measure => exact Nat.lt_succ_self g
     ·have ho : ((q : Int) % 2 == 1) = false := by rw [beq_eq_false_iff_ne];omega
      have hv3 := HH.out;rw [if_neg hodd] at hv3;have HP3 : Hid (zMA P2 ∧ hval P2 = ((r ^ q : Nat) : Int)) := hid ⟨HP2.out.1,by rw [HP2.out.2.1,hv3]⟩;rw [← HL2.out] at S2 ⊢;clear hv3 HH;have HBE := hid (zSB (SA.out.now BW3.out) S2.out HCA.out HP3.out.1);obtain ⟨l9,hl9⟩ : ∃ l,P2.length = l := ⟨_,rfl⟩
      have HL9 := hid hl9;rw [hl9] at HBE ⊢;have hdec : decide (hval A < hval P2) = decide (a < r ^ q) := by
       rw [HEA.out,HP3.out.2]
       by_cases z : a < r ^ q
       ·rw [decide_eq_true z,decide_eq_true (by omega)]
       ·rw [decide_eq_false z,decide_eq_false (by omega)]
      rw [hdec] at HBE;clear hdec hl9;go_wp2_with fail;refine HBE.out.mono ?_;rintro e w9 ⟨rfl,nd,hw9⟩;have bd : Below w3.heap.size w3 w9 := by rw [hw9];exact below_drewN (Below.refl _ _) nd
      by_cases hov : a < r ^ q
      ·have hdt : decide (a < r ^ q) = true := decide_eq_true hov
       rw [hdt];have hf := zfD (k := k) (b := g) HR1.out (by rw [EQ.out];exact hov);have HFF := hid hf;have FIN := hid (zAA BW3.out bd);clear hw9 bd HBE hf hdt;go_wp2;go_ret;exact ⟨by rw [HFF.out];rfl,FIN.out⟩
      ·have hdt : decide (a < r ^ q) = false := decide_eq_false hov
       rw [hdt];have hlen := zwC HP3.out.1 HCA.out (by rw [HP3.out.2,HEA.out];omega);have FIN : Hid (AmJ3 wr r k a (la + la + lr + 1) g (.slice a2 l9 q2) (.int .i64 ((2 ^ g / 2 : Nat) : Int)) w9) := by
        have := S2.out.now bd;rw [HL9.out] at this;exact ⟨P2,this,HP3.out.1,by have := HLA.out;omega,by rw [EQ.out];exact HP3.out.2,by rw [EQ.out];omega,rfl,by omega,zAA BY3.out bd⟩
       have hd2 : (B' : Int) / 2 = ((2 ^ g / 2 : Nat) : Int) := by rw [EB.out];omega
       obtain ⟨b2,hb2⟩ : ∃ b,2 ^ g / 2 = b := ⟨_,rfl⟩
       rw [hb2] at FIN hd2;clear hw9 bd HBE hdt hlen hb2 hkt hkd;go_wp2_with fail;go_roundg g
       case rel => exact FIN.out
       case measure => exact Nat.lt_succ_self g
end Go.Proofs.Ytppddlbkdoebmaa
