/-
  StepLaw: the walk of RadixStep.
-/
import Derived.Test.YtjpnaicgefiglaaDoorQStepPure
namespace Go.Proofs.YtjpnaicgefiglaaDoor
open Go.RowKit
set_option linter.unusedVariables false

theorem good_one {B : Nat} {c : UInt8} (h : dv c.toNat < B) : [c] ≠ [] ∧ Good B [c] := ⟨by simp, fun b hb => by
  have : b = c := by simpa using hb
  rw [this]; exact h⟩
set_option maxRecDepth 100000 in
set_option maxHeartbeats 12800000 in
theorem radixStep_no_good {w : World} {l : List UInt8} {B : Nat} {c : UInt8} (hT : Sg w) (hB : 2 ≤ B) (hB2 : B ≤ 36) (hl : l.length ≤ 1048576) (hok : ¬ dv c.toNat < B) (hg : l ≠ [] ∧ Good B l) :
    Calls Tryd.prog 8 #[.string ⟨l.toArray⟩, .int .i64 (B : Int), .int .u8 (c.toNat : Int)] w fun e w' => e = .returned (.bool true) ∧ Below w.heap.size w w' := by
  have HT := hid hT
  have hc : c.toNat < 256 := c.toNat_lt
  obtain ⟨s, hs⟩ : ∃ s, s = (⟨l.toArray⟩ : ByteArray) := ⟨_, rfl⟩
  obtain ⟨s2, hs2⟩ : ∃ s, s = (⟨(l ++ [c]).toArray⟩ : ByteArray) := ⟨_, rfl⟩
  obtain ⟨s3, hs3⟩ : ∃ s, s = (⟨#[c]⟩ : ByteArray) := ⟨_, rfl⟩
  have hcat : s ++ (⟨#[c]⟩ : ByteArray) = s2 := by rw [hs, hs2]; exact str_snoc l c
  have HR1 : Hid (∀ w, Sg w → Calls Tryd.prog 13 #[.string s, .int .i64 (B : Int)] w (ReadTo w 0 (ofD B (dsL l)))) := fun w h => by rw [hs]; exact read_good hB hB2 h (by omega) hg
  have HR2 : Hid (∀ w, Sg w → Calls Tryd.prog 13 #[.string s2, .int .i64 (B : Int)] w (ReadTo w 7 0)) := fun w h => by rw [hs2]; exact read_none hB hB2 h (by simp; omega) (fun q => hok (good_snoc.1 q.2).2)
  have HR3 : Hid (∀ w, Sg w → Calls Tryd.prog 13 #[.string ⟨#[c]⟩, .int .i64 (B : Int)] w (ReadTo w 7 0)) := fun w h => read_none (l := [c]) hB hB2 h (by simp) (fun q => hok (q.2 c (by simp)))
  have HSI : Hid (∀ w, Calls Tryd.prog 20 #[.int .u8 (c.toNat : Int), .int .i64 (B : Int)] w fun e w' => e = .returned (.tuple #[.int .i64 (sv c.toNat), .bool false]) ∧ w' = w) := fun w => by
    have := sign_any hc (B : Int) (by omega) (by omega) w
    rw [decide_eq_false (fun q => hok ((sv_ok hB2).1 q))] at this
    exact this
  have b1 : ¬ (B : Int) < 2 := by omega
  have hsz : s.size = l.length := by rw [hs]; exact mk_size l
  have hsc : (⟨#[c]⟩ : ByteArray).size = 1 := rfl
  have hsm : s.size + (⟨#[c]⟩ : ByteArray).size ≤ 9223372036854775807 := by rw [hsz, hsc]; omega
  have b2 : ¬ (36 : Int) < (B : Int) := by omega

  rw [← hs]
  clear hT hs hs2 hs3 hok hg
  go_enter Tryd.func8, Tryd.ntmps8
  go_wp2_with fail
  refine (awake4_any HT.out).mono ?_
  rintro e w1 ⟨rfl, k1⟩
  have T1 := hid (HT.out.now k1)
  have K1 := hid k1
  clear k1
  go_wp2_with fail
  refine (HR1.out w1 T1.out).mono ?_
  rintro e w2 ⟨za, aa, ca, rfl, mA, cA, vA, k2⟩
  have MA := hid mA
  have K2 := hid (below_step K1.out k2)
  have T2 := hid (T1.out.now k2)
  have hcv := conv_one w2 c
  have ka := (Below.refl w2.heap.size w2).alloc (Nat.le_refl _) (.cells #[.int .u8 (c.toNat : Int)] 5)
  have MA2 := hid (mA.below ka)
  have K2a := hid (below_step K2.out ka)
  have T2a := hid (T2.out.now ka)
  clear k2 mA ka K1 T1
  go_wp2_with fail
  refine (HR2.out _ T2a.out).mono ?_
  rintro e w3 ⟨zb, ab, cb, rfl, mB, cB, vB, k3⟩
  have MA3 := hid (MA2.out.below k3)
  have MB3 := hid mB
  have K3 := hid (below_step K2a.out k3)
  have T3 := hid (T2a.out.now k3)
  have hcv2 := conv_one w3 c
  have ka := (Below.refl w3.heap.size w3).alloc (Nat.le_refl _) (.cells #[.int .u8 (c.toNat : Int)] 5)
  have MA4 := hid (MA3.out.below ka)
  have MB4 := hid (mB.below ka)
  have K4 := hid (below_step K3.out ka)
  have T4 := hid (T3.out.now ka)
  clear k3 mB ka K2 T2 K2a T2a MA MA2 hcv MA3 MB3 K3 T3
  go_wp2_with fail
  refine (HR3.out _ T4.out).mono ?_
  rintro e w5 ⟨zo, ao, co, rfl, mO, cO, vO, k5⟩
  have MA5 := hid (MA4.out.below k5)
  have MB5 := hid (MB4.out.below k5)
  have MO5 := hid mO
  have K5 := hid (below_step K4.out k5)
  have T5 := hid (T4.out.now k5)
  clear k5 mO K4 T4 MA4 MB4 hcv2
  go_wp2_with fail
  refine (HSI.out w5).mono ?_
  rintro e w6 ⟨rfl, rfl⟩
  clear HR1 HR2 HR3 HSI MA5 MB5 MO5
  go_wp2
  go_ret
  exact ⟨rfl, K5.out⟩
set_option maxRecDepth 100000 in
set_option maxHeartbeats 12800000 in
theorem radixStep_no_bad {w : World} {l : List UInt8} {B : Nat} {c : UInt8} (hT : Sg w) (hB : 2 ≤ B) (hB2 : B ≤ 36) (hl : l.length ≤ 1048576) (hok : ¬ dv c.toNat < B) (hg : ¬ (l ≠ [] ∧ Good B l)) :
    Calls Tryd.prog 8 #[.string ⟨l.toArray⟩, .int .i64 (B : Int), .int .u8 (c.toNat : Int)] w fun e w' => e = .returned (.bool true) ∧ Below w.heap.size w w' := by
  have HT := hid hT
  have hc : c.toNat < 256 := c.toNat_lt
  obtain ⟨s, hs⟩ : ∃ s, s = (⟨l.toArray⟩ : ByteArray) := ⟨_, rfl⟩
  obtain ⟨s2, hs2⟩ : ∃ s, s = (⟨(l ++ [c]).toArray⟩ : ByteArray) := ⟨_, rfl⟩
  obtain ⟨s3, hs3⟩ : ∃ s, s = (⟨#[c]⟩ : ByteArray) := ⟨_, rfl⟩
  have hcat : s ++ (⟨#[c]⟩ : ByteArray) = s2 := by rw [hs, hs2]; exact str_snoc l c
  have HR1 : Hid (∀ w, Sg w → Calls Tryd.prog 13 #[.string s, .int .i64 (B : Int)] w (ReadTo w 7 0)) := fun w h => by rw [hs]; exact read_none hB hB2 h (by omega) hg
  have HR2 : Hid (∀ w, Sg w → Calls Tryd.prog 13 #[.string s2, .int .i64 (B : Int)] w (ReadTo w 7 0)) := fun w h => by rw [hs2]; exact read_none hB hB2 h (by simp; omega) (fun q => hok (good_snoc.1 q.2).2)
  have HR3 : Hid (∀ w, Sg w → Calls Tryd.prog 13 #[.string ⟨#[c]⟩, .int .i64 (B : Int)] w (ReadTo w 7 0)) := fun w h => read_none (l := [c]) hB hB2 h (by simp) (fun q => hok (q.2 c (by simp)))
  have HSI : Hid (∀ w, Calls Tryd.prog 20 #[.int .u8 (c.toNat : Int), .int .i64 (B : Int)] w fun e w' => e = .returned (.tuple #[.int .i64 (sv c.toNat), .bool false]) ∧ w' = w) := fun w => by
    have := sign_any hc (B : Int) (by omega) (by omega) w
    rw [decide_eq_false (fun q => hok ((sv_ok hB2).1 q))] at this
    exact this
  have b1 : ¬ (B : Int) < 2 := by omega
  have hsz : s.size = l.length := by rw [hs]; exact mk_size l
  have hsc : (⟨#[c]⟩ : ByteArray).size = 1 := rfl
  have hsm : s.size + (⟨#[c]⟩ : ByteArray).size ≤ 9223372036854775807 := by rw [hsz, hsc]; omega
  have b2 : ¬ (36 : Int) < (B : Int) := by omega

  rw [← hs]
  clear hT hs hs2 hs3 hok hg
  go_enter Tryd.func8, Tryd.ntmps8
  go_wp2_with fail
  refine (awake4_any HT.out).mono ?_
  rintro e w1 ⟨rfl, k1⟩
  have T1 := hid (HT.out.now k1)
  have K1 := hid k1
  clear k1
  go_wp2_with fail
  refine (HR1.out w1 T1.out).mono ?_
  rintro e w2 ⟨za, aa, ca, rfl, mA, cA, vA, k2⟩
  have MA := hid mA
  have K2 := hid (below_step K1.out k2)
  have T2 := hid (T1.out.now k2)
  have hcv := conv_one w2 c
  have ka := (Below.refl w2.heap.size w2).alloc (Nat.le_refl _) (.cells #[.int .u8 (c.toNat : Int)] 5)
  have MA2 := hid (mA.below ka)
  have K2a := hid (below_step K2.out ka)
  have T2a := hid (T2.out.now ka)
  clear k2 mA ka K1 T1
  go_wp2_with fail
  refine (HR2.out _ T2a.out).mono ?_
  rintro e w3 ⟨zb, ab, cb, rfl, mB, cB, vB, k3⟩
  have MA3 := hid (MA2.out.below k3)
  have MB3 := hid mB
  have K3 := hid (below_step K2a.out k3)
  have T3 := hid (T2a.out.now k3)
  have hcv2 := conv_one w3 c
  have ka := (Below.refl w3.heap.size w3).alloc (Nat.le_refl _) (.cells #[.int .u8 (c.toNat : Int)] 5)
  have MA4 := hid (MA3.out.below ka)
  have MB4 := hid (mB.below ka)
  have K4 := hid (below_step K3.out ka)
  have T4 := hid (T3.out.now ka)
  clear k3 mB ka K2 T2 K2a T2a MA MA2 hcv MA3 MB3 K3 T3
  go_wp2_with fail
  refine (HR3.out _ T4.out).mono ?_
  rintro e w5 ⟨zo, ao, co, rfl, mO, cO, vO, k5⟩
  have MA5 := hid (MA4.out.below k5)
  have MB5 := hid (MB4.out.below k5)
  have MO5 := hid mO
  have K5 := hid (below_step K4.out k5)
  have T5 := hid (T4.out.now k5)
  clear k5 mO K4 T4 MA4 MB4 hcv2
  go_wp2_with fail
  refine (HSI.out w5).mono ?_
  rintro e w6 ⟨rfl, rfl⟩
  clear HR1 HR2 HR3 HSI MA5 MB5 MO5
  go_wp2
  go_ret
  exact ⟨rfl, K5.out⟩
set_option maxRecDepth 100000 in
set_option maxHeartbeats 12800000 in
theorem radixStep_nil {w : World} {l : List UInt8} {B : Nat} {c : UInt8} (hT : Sg w) (hB : 2 ≤ B) (hB2 : B ≤ 36) (hl : l.length ≤ 1048576) (hok : dv c.toNat < B) (hg : l = []) :
    Calls Tryd.prog 8 #[.string ⟨l.toArray⟩, .int .i64 (B : Int), .int .u8 (c.toNat : Int)] w fun e w' => e = .returned (.bool true) ∧ Below w.heap.size w w' := by
  have HT := hid hT
  have hc : c.toNat < 256 := c.toNat_lt
  obtain ⟨s, hs⟩ : ∃ s, s = (⟨l.toArray⟩ : ByteArray) := ⟨_, rfl⟩
  obtain ⟨s2, hs2⟩ : ∃ s, s = (⟨(l ++ [c]).toArray⟩ : ByteArray) := ⟨_, rfl⟩
  obtain ⟨s3, hs3⟩ : ∃ s, s = (⟨#[c]⟩ : ByteArray) := ⟨_, rfl⟩
  have hcat : s ++ (⟨#[c]⟩ : ByteArray) = s2 := by rw [hs, hs2]; exact str_snoc l c
  have HR1 : Hid (∀ w, Sg w → Calls Tryd.prog 13 #[.string s, .int .i64 (B : Int)] w (ReadTo w 7 0)) := fun w h => by rw [hs]; exact read_none hB hB2 h (by omega) (fun q => q.1 hg)
  have HR2 : Hid (∀ w, Sg w → Calls Tryd.prog 13 #[.string s2, .int .i64 (B : Int)] w (ReadTo w 0 (ofD B (dsL (l ++ [c]))))) := fun w h => by rw [hs2]; exact read_good hB hB2 h (by simp; omega) ⟨by simp, good_snoc.2 ⟨by rw [hg]; intro b hb; simp at hb, hok⟩⟩
  have HR3 : Hid (∀ w, Sg w → Calls Tryd.prog 13 #[.string ⟨#[c]⟩, .int .i64 (B : Int)] w (ReadTo w 0 (ofD B (dsL [c])))) := fun w h => read_good (l := [c]) hB hB2 h (by simp) (good_one hok)
  have HSI : Hid (∀ w, Calls Tryd.prog 20 #[.int .u8 (c.toNat : Int), .int .i64 (B : Int)] w fun e w' => e = .returned (.tuple #[.int .i64 (sv c.toNat), .bool true]) ∧ w' = w) := fun w => by
    have := sign_any hc (B : Int) (by omega) (by omega) w
    rw [decide_eq_true ((sv_ok hB2).2 hok)] at this
    exact this
  have b1 : ¬ (B : Int) < 2 := by omega
  have hsz : s.size = l.length := by rw [hs]; exact mk_size l
  have hsc : (⟨#[c]⟩ : ByteArray).size = 1 := rfl
  have hsm : s.size + (⟨#[c]⟩ : ByteArray).size ≤ 9223372036854775807 := by rw [hsz, hsc]; omega
  have b2 : ¬ (36 : Int) < (B : Int) := by omega
  have hem : s.toList.isEmpty = true := by rw [hs, Lib.toList_data, hg]; rfl
  rw [← hs]
  clear hT hs hs2 hs3 hg
  go_enter Tryd.func8, Tryd.ntmps8
  go_wp2_with fail
  refine (awake4_any HT.out).mono ?_
  rintro e w1 ⟨rfl, k1⟩
  have T1 := hid (HT.out.now k1)
  have K1 := hid k1
  clear k1
  go_wp2_with fail
  refine (HR1.out w1 T1.out).mono ?_
  rintro e w2 ⟨za, aa, ca, rfl, mA, cA, vA, k2⟩
  have MA := hid mA
  have K2 := hid (below_step K1.out k2)
  have T2 := hid (T1.out.now k2)
  have hcv := conv_one w2 c
  have ka := (Below.refl w2.heap.size w2).alloc (Nat.le_refl _) (.cells #[.int .u8 (c.toNat : Int)] 5)
  have MA2 := hid (mA.below ka)
  have K2a := hid (below_step K2.out ka)
  have T2a := hid (T2.out.now ka)
  clear k2 mA ka K1 T1
  go_wp2_with fail
  refine (HR2.out _ T2a.out).mono ?_
  rintro e w3 ⟨zb, ab, cb, rfl, mB, cB, vB, k3⟩
  have MA3 := hid (MA2.out.below k3)
  have MB3 := hid mB
  have K3 := hid (below_step K2a.out k3)
  have T3 := hid (T2a.out.now k3)
  have hcv2 := conv_one w3 c
  have ka := (Below.refl w3.heap.size w3).alloc (Nat.le_refl _) (.cells #[.int .u8 (c.toNat : Int)] 5)
  have MA4 := hid (MA3.out.below ka)
  have MB4 := hid (mB.below ka)
  have K4 := hid (below_step K3.out ka)
  have T4 := hid (T3.out.now ka)
  clear k3 mB ka K2 T2 K2a T2a MA MA2 hcv MA3 MB3 K3 T3
  go_wp2_with fail
  refine (HR3.out _ T4.out).mono ?_
  rintro e w5 ⟨zo, ao, co, rfl, mO, cO, vO, k5⟩
  have MA5 := hid (MA4.out.below k5)
  have MB5 := hid (MB4.out.below k5)
  have MO5 := hid mO
  have K5 := hid (below_step K4.out k5)
  have T5 := hid (T4.out.now k5)
  clear k5 mO K4 T4 MA4 MB4 hcv2
  go_wp2_with fail
  refine (HSI.out w5).mono ?_
  rintro e w6 ⟨rfl, rfl⟩
  have hvo : vn zo = dv c.toNat := by rw [vO]; unfold dsL; simp [ofD]
  have HVO := hid hvo
  have HCO := hid cO
  have HCA := hid cA
  have HCB := hid cB
  have HVA := hid vA
  have HVB := hid vB
  rw [sv_dv (by omega)]
  obtain ⟨d, hd⟩ : ∃ d, d = dv c.toNat := ⟨_, rfl⟩
  rw [← hd] at HVO hok ⊢
  have HD := hid hd
  have HLO := lit_one w6 (d : Int) (by unfold IsW wB; omega)
  have ka := (Below.refl w6.heap.size w6).alloc (Nat.le_refl _) (.cells #[.int .u64 (d : Int)] 42)
  have MA6 := hid (MA5.out.below ka)
  have MB6 := hid (MB5.out.below ka)
  have MO6 := hid (MO5.out.below ka)
  have K6 := hid (below_step K5.out ka)
  have T6 := hid (T5.out.now ka)
  have HLE := hid (least_now HLO)
  clear HR1 HR2 HR3 HSI MA5 MB5 MO5 ka HLO hvo vO cO cA cB vA vB hd K5 T5
  go_wp2_with fail
  refine HLE.out.mono ?_
  rintro e w7 ⟨r, rfl, sL, k7⟩
  have MA7 := hid (MA6.out.below k7)
  have MB7 := hid (MB6.out.below k7)
  have MO7 := hid (MO6.out.below k7)
  have K7 := hid (below_step K6.out k7)
  have T7 := hid (T6.out.now k7)
  have SL := hid sL
  have HEQ : Hid (zo = lst [(d : Int)]) := by
    have hw : WF [(d : Int)] := wf_word (by omega) WF.nil
    refine canon_inj HCO.out (canon_lst hw) ?_
    rw [val_vn HCO.out.1, HVO.out, val_lst]
    simp [val]
  obtain ⟨la, lc, rfl⟩ : ∃ a c, r = .slice a (lst [(d : Int)]).length c := by obtain ⟨_, a, c, e, _⟩ := sL; exact ⟨a, c, e⟩
  clear HLE MA6 MB6 MO6 K6 T6 k7 sL
  go_wp2_with fail
  refine (same_yes MO7.out.sl SL.out HEQ.out).mono ?_
  rintro e w8 ⟨rfl, k8⟩
  have MA8 := hid (MA7.out.below k8)
  have MB8 := hid (MB7.out.below k8)
  have MO8 := hid (MO7.out.below k8)
  have K8 := hid (below_step K7.out k8)
  have T8 := hid (T7.out.now k8)
  clear MA7 MB7 MO7 K7 T7 k8 SL HEQ
  go_wp2
  go_ret
  exact ⟨rfl, K8.out⟩
set_option maxRecDepth 100000 in
set_option maxHeartbeats 12800000 in
theorem radixStep_bad {w : World} {l : List UInt8} {B : Nat} {c : UInt8} (hT : Sg w) (hB : 2 ≤ B) (hB2 : B ≤ 36) (hl : l.length ≤ 1048576) (hok : dv c.toNat < B) (hl0 : l ≠ []) (hg : ¬ Good B l) :
    Calls Tryd.prog 8 #[.string ⟨l.toArray⟩, .int .i64 (B : Int), .int .u8 (c.toNat : Int)] w fun e w' => e = .returned (.bool true) ∧ Below w.heap.size w w' := by
  have HT := hid hT
  have hc : c.toNat < 256 := c.toNat_lt
  obtain ⟨s, hs⟩ : ∃ s, s = (⟨l.toArray⟩ : ByteArray) := ⟨_, rfl⟩
  obtain ⟨s2, hs2⟩ : ∃ s, s = (⟨(l ++ [c]).toArray⟩ : ByteArray) := ⟨_, rfl⟩
  obtain ⟨s3, hs3⟩ : ∃ s, s = (⟨#[c]⟩ : ByteArray) := ⟨_, rfl⟩
  have hcat : s ++ (⟨#[c]⟩ : ByteArray) = s2 := by rw [hs, hs2]; exact str_snoc l c
  have HR1 : Hid (∀ w, Sg w → Calls Tryd.prog 13 #[.string s, .int .i64 (B : Int)] w (ReadTo w 7 0)) := fun w h => by rw [hs]; exact read_none hB hB2 h (by omega) (fun q => hg q.2)
  have HR2 : Hid (∀ w, Sg w → Calls Tryd.prog 13 #[.string s2, .int .i64 (B : Int)] w (ReadTo w 7 0)) := fun w h => by rw [hs2]; exact read_none hB hB2 h (by simp; omega) (fun q => hg (good_snoc.1 q.2).1)
  have HR3 : Hid (∀ w, Sg w → Calls Tryd.prog 13 #[.string ⟨#[c]⟩, .int .i64 (B : Int)] w (ReadTo w 0 (ofD B (dsL [c])))) := fun w h => read_good (l := [c]) hB hB2 h (by simp) (good_one hok)
  have HSI : Hid (∀ w, Calls Tryd.prog 20 #[.int .u8 (c.toNat : Int), .int .i64 (B : Int)] w fun e w' => e = .returned (.tuple #[.int .i64 (sv c.toNat), .bool true]) ∧ w' = w) := fun w => by
    have := sign_any hc (B : Int) (by omega) (by omega) w
    rw [decide_eq_true ((sv_ok hB2).2 hok)] at this
    exact this
  have b1 : ¬ (B : Int) < 2 := by omega
  have hsz : s.size = l.length := by rw [hs]; exact mk_size l
  have hsc : (⟨#[c]⟩ : ByteArray).size = 1 := rfl
  have hsm : s.size + (⟨#[c]⟩ : ByteArray).size ≤ 9223372036854775807 := by rw [hsz, hsc]; omega
  have b2 : ¬ (36 : Int) < (B : Int) := by omega

  rw [← hs]
  clear hT hs hs2 hs3 hl0 hg
  go_enter Tryd.func8, Tryd.ntmps8
  go_wp2_with fail
  refine (awake4_any HT.out).mono ?_
  rintro e w1 ⟨rfl, k1⟩
  have T1 := hid (HT.out.now k1)
  have K1 := hid k1
  clear k1
  go_wp2_with fail
  refine (HR1.out w1 T1.out).mono ?_
  rintro e w2 ⟨za, aa, ca, rfl, mA, cA, vA, k2⟩
  have MA := hid mA
  have K2 := hid (below_step K1.out k2)
  have T2 := hid (T1.out.now k2)
  have hcv := conv_one w2 c
  have ka := (Below.refl w2.heap.size w2).alloc (Nat.le_refl _) (.cells #[.int .u8 (c.toNat : Int)] 5)
  have MA2 := hid (mA.below ka)
  have K2a := hid (below_step K2.out ka)
  have T2a := hid (T2.out.now ka)
  clear k2 mA ka K1 T1
  go_wp2_with fail
  refine (HR2.out _ T2a.out).mono ?_
  rintro e w3 ⟨zb, ab, cb, rfl, mB, cB, vB, k3⟩
  have MA3 := hid (MA2.out.below k3)
  have MB3 := hid mB
  have K3 := hid (below_step K2a.out k3)
  have T3 := hid (T2a.out.now k3)
  have hcv2 := conv_one w3 c
  have ka := (Below.refl w3.heap.size w3).alloc (Nat.le_refl _) (.cells #[.int .u8 (c.toNat : Int)] 5)
  have MA4 := hid (MA3.out.below ka)
  have MB4 := hid (mB.below ka)
  have K4 := hid (below_step K3.out ka)
  have T4 := hid (T3.out.now ka)
  clear k3 mB ka K2 T2 K2a T2a MA MA2 hcv MA3 MB3 K3 T3
  go_wp2_with fail
  refine (HR3.out _ T4.out).mono ?_
  rintro e w5 ⟨zo, ao, co, rfl, mO, cO, vO, k5⟩
  have MA5 := hid (MA4.out.below k5)
  have MB5 := hid (MB4.out.below k5)
  have MO5 := hid mO
  have K5 := hid (below_step K4.out k5)
  have T5 := hid (T4.out.now k5)
  clear k5 mO K4 T4 MA4 MB4 hcv2
  go_wp2_with fail
  refine (HSI.out w5).mono ?_
  rintro e w6 ⟨rfl, rfl⟩
  have hvo : vn zo = dv c.toNat := by rw [vO]; unfold dsL; simp [ofD]
  have HVO := hid hvo
  have HCO := hid cO
  have HCA := hid cA
  have HCB := hid cB
  have HVA := hid vA
  have HVB := hid vB
  rw [sv_dv (by omega)]
  obtain ⟨d, hd⟩ : ∃ d, d = dv c.toNat := ⟨_, rfl⟩
  rw [← hd] at HVO hok ⊢
  have HD := hid hd
  have HLO := lit_one w6 (d : Int) (by unfold IsW wB; omega)
  have ka := (Below.refl w6.heap.size w6).alloc (Nat.le_refl _) (.cells #[.int .u64 (d : Int)] 42)
  have MA6 := hid (MA5.out.below ka)
  have MB6 := hid (MB5.out.below ka)
  have MO6 := hid (MO5.out.below ka)
  have K6 := hid (below_step K5.out ka)
  have T6 := hid (T5.out.now ka)
  have HLE := hid (least_now HLO)
  clear HR1 HR2 HR3 HSI MA5 MB5 MO5 ka HLO hvo vO cO cA cB vA vB hd K5 T5
  go_wp2_with fail
  refine HLE.out.mono ?_
  rintro e w7 ⟨r, rfl, sL, k7⟩
  have MA7 := hid (MA6.out.below k7)
  have MB7 := hid (MB6.out.below k7)
  have MO7 := hid (MO6.out.below k7)
  have K7 := hid (below_step K6.out k7)
  have T7 := hid (T6.out.now k7)
  have SL := hid sL
  have HEQ : Hid (zo = lst [(d : Int)]) := by
    have hw : WF [(d : Int)] := wf_word (by omega) WF.nil
    refine canon_inj HCO.out (canon_lst hw) ?_
    rw [val_vn HCO.out.1, HVO.out, val_lst]
    simp [val]
  obtain ⟨la, lc, rfl⟩ : ∃ a c, r = .slice a (lst [(d : Int)]).length c := by obtain ⟨_, a, c, e, _⟩ := sL; exact ⟨a, c, e⟩
  clear HLE MA6 MB6 MO6 K6 T6 k7 sL
  go_wp2_with fail
  refine (same_yes MO7.out.sl SL.out HEQ.out).mono ?_
  rintro e w8 ⟨rfl, k8⟩
  have MA8 := hid (MA7.out.below k8)
  have MB8 := hid (MB7.out.below k8)
  have MO8 := hid (MO7.out.below k8)
  have K8 := hid (below_step K7.out k8)
  have T8 := hid (T7.out.now k8)
  clear MA7 MB7 MO7 K7 T7 k8 SL HEQ
  go_wp2
  go_ret
  exact ⟨rfl, K8.out⟩
set_option maxRecDepth 100000 in
set_option maxHeartbeats 12800000 in
theorem radixStep_all {w : World} {l : List UInt8} {B : Nat} {c : UInt8} (hT : Sg w) (hB : 2 ≤ B) (hB2 : B ≤ 36) (hl : l.length ≤ 1048576) (hok : dv c.toNat < B) (hl0 : l ≠ []) (hg : Good B l) :
    Calls Tryd.prog 8 #[.string ⟨l.toArray⟩, .int .i64 (B : Int), .int .u8 (c.toNat : Int)] w fun e w' => e = .returned (.bool true) ∧ Below w.heap.size w w' := by
  have HT := hid hT
  have hc : c.toNat < 256 := c.toNat_lt
  obtain ⟨s, hs⟩ : ∃ s, s = (⟨l.toArray⟩ : ByteArray) := ⟨_, rfl⟩
  obtain ⟨s2, hs2⟩ : ∃ s, s = (⟨(l ++ [c]).toArray⟩ : ByteArray) := ⟨_, rfl⟩
  obtain ⟨s3, hs3⟩ : ∃ s, s = (⟨#[c]⟩ : ByteArray) := ⟨_, rfl⟩
  have hcat : s ++ (⟨#[c]⟩ : ByteArray) = s2 := by rw [hs, hs2]; exact str_snoc l c
  have HR1 : Hid (∀ w, Sg w → Calls Tryd.prog 13 #[.string s, .int .i64 (B : Int)] w (ReadTo w 0 (ofD B (dsL l)))) := fun w h => by rw [hs]; exact read_good hB hB2 h (by omega) ⟨hl0, hg⟩
  have HR2 : Hid (∀ w, Sg w → Calls Tryd.prog 13 #[.string s2, .int .i64 (B : Int)] w (ReadTo w 0 (ofD B (dsL (l ++ [c]))))) := fun w h => by rw [hs2]; exact read_good hB hB2 h (by simp; omega) ⟨by simp, good_snoc.2 ⟨hg, hok⟩⟩
  have HR3 : Hid (∀ w, Sg w → Calls Tryd.prog 13 #[.string ⟨#[c]⟩, .int .i64 (B : Int)] w (ReadTo w 0 (ofD B (dsL [c])))) := fun w h => read_good (l := [c]) hB hB2 h (by simp) (good_one hok)
  have HSI : Hid (∀ w, Calls Tryd.prog 20 #[.int .u8 (c.toNat : Int), .int .i64 (B : Int)] w fun e w' => e = .returned (.tuple #[.int .i64 (sv c.toNat), .bool true]) ∧ w' = w) := fun w => by
    have := sign_any hc (B : Int) (by omega) (by omega) w
    rw [decide_eq_true ((sv_ok hB2).2 hok)] at this
    exact this
  have b1 : ¬ (B : Int) < 2 := by omega
  have hsz : s.size = l.length := by rw [hs]; exact mk_size l
  have hsc : (⟨#[c]⟩ : ByteArray).size = 1 := rfl
  have hsm : s.size + (⟨#[c]⟩ : ByteArray).size ≤ 9223372036854775807 := by rw [hsz, hsc]; omega
  have b2 : ¬ (36 : Int) < (B : Int) := by omega
  have hem : s.toList.isEmpty = false := by
    have e : s.toList = l := by rw [hs, Lib.toList_data]
    rw [e]; simpa using hl0
  rw [← hs]
  clear hT hs hs2 hs3 hl0
  go_enter Tryd.func8, Tryd.ntmps8
  go_wp2_with fail
  refine (awake4_any HT.out).mono ?_
  rintro e w1 ⟨rfl, k1⟩
  have T1 := hid (HT.out.now k1)
  have K1 := hid k1
  clear k1
  go_wp2_with fail
  refine (HR1.out w1 T1.out).mono ?_
  rintro e w2 ⟨za, aa, ca, rfl, mA, cA, vA, k2⟩
  have MA := hid mA
  have K2 := hid (below_step K1.out k2)
  have T2 := hid (T1.out.now k2)
  have hcv := conv_one w2 c
  have ka := (Below.refl w2.heap.size w2).alloc (Nat.le_refl _) (.cells #[.int .u8 (c.toNat : Int)] 5)
  have MA2 := hid (mA.below ka)
  have K2a := hid (below_step K2.out ka)
  have T2a := hid (T2.out.now ka)
  clear k2 mA ka K1 T1
  go_wp2_with fail
  refine (HR2.out _ T2a.out).mono ?_
  rintro e w3 ⟨zb, ab, cb, rfl, mB, cB, vB, k3⟩
  have MA3 := hid (MA2.out.below k3)
  have MB3 := hid mB
  have K3 := hid (below_step K2a.out k3)
  have T3 := hid (T2a.out.now k3)
  have hcv2 := conv_one w3 c
  have ka := (Below.refl w3.heap.size w3).alloc (Nat.le_refl _) (.cells #[.int .u8 (c.toNat : Int)] 5)
  have MA4 := hid (MA3.out.below ka)
  have MB4 := hid (mB.below ka)
  have K4 := hid (below_step K3.out ka)
  have T4 := hid (T3.out.now ka)
  clear k3 mB ka K2 T2 K2a T2a MA MA2 hcv MA3 MB3 K3 T3
  go_wp2_with fail
  refine (HR3.out _ T4.out).mono ?_
  rintro e w5 ⟨zo, ao, co, rfl, mO, cO, vO, k5⟩
  have MA5 := hid (MA4.out.below k5)
  have MB5 := hid (MB4.out.below k5)
  have MO5 := hid mO
  have K5 := hid (below_step K4.out k5)
  have T5 := hid (T4.out.now k5)
  clear k5 mO K4 T4 MA4 MB4 hcv2
  go_wp2_with fail
  refine (HSI.out w5).mono ?_
  rintro e w6 ⟨rfl, rfl⟩
  have hvo : vn zo = dv c.toNat := by rw [vO]; unfold dsL; simp [ofD]
  have HVO := hid hvo
  have HCO := hid cO
  have HCA := hid cA
  have HCB := hid cB
  have HVA := hid vA
  have HVB := hid vB
  rw [sv_dv (by omega)]
  obtain ⟨d, hd⟩ : ∃ d, d = dv c.toNat := ⟨_, rfl⟩
  rw [← hd] at HVO hok ⊢
  have HD := hid hd
  have HLO := lit_one w6 (d : Int) (by unfold IsW wB; omega)
  have ka := (Below.refl w6.heap.size w6).alloc (Nat.le_refl _) (.cells #[.int .u64 (d : Int)] 42)
  have MA6 := hid (MA5.out.below ka)
  have MB6 := hid (MB5.out.below ka)
  have MO6 := hid (MO5.out.below ka)
  have K6 := hid (below_step K5.out ka)
  have T6 := hid (T5.out.now ka)
  have HLE := hid (least_now HLO)
  clear HR1 HR2 HR3 HSI MA5 MB5 MO5 ka HLO hvo vO cO cA cB vA vB hd K5 T5
  go_wp2_with fail
  refine HLE.out.mono ?_
  rintro e w7 ⟨r, rfl, sL, k7⟩
  have MA7 := hid (MA6.out.below k7)
  have MB7 := hid (MB6.out.below k7)
  have MO7 := hid (MO6.out.below k7)
  have K7 := hid (below_step K6.out k7)
  have T7 := hid (T6.out.now k7)
  have SL := hid sL
  have HEQ : Hid (zo = lst [(d : Int)]) := by
    have hw : WF [(d : Int)] := wf_word (by omega) WF.nil
    refine canon_inj HCO.out (canon_lst hw) ?_
    rw [val_vn HCO.out.1, HVO.out, val_lst]
    simp [val]
  obtain ⟨la, lc, rfl⟩ : ∃ a c, r = .slice a (lst [(d : Int)]).length c := by obtain ⟨_, a, c, e, _⟩ := sL; exact ⟨a, c, e⟩
  clear HLE MA6 MB6 MO6 K6 T6 k7 sL
  go_wp2_with fail
  refine (same_yes MO7.out.sl SL.out HEQ.out).mono ?_
  rintro e w8 ⟨rfl, k8⟩
  have MA8 := hid (MA7.out.below k8)
  have MB8 := hid (MB7.out.below k8)
  have MO8 := hid (MO7.out.below k8)
  have K8 := hid (below_step K7.out k8)
  have T8 := hid (T7.out.now k8)
  clear MA7 MB7 MO7 K7 T7 k8 SL HEQ
  have hgd : ∀ x ∈ dsL l, x < B := fun x hx => by
    obtain ⟨b, hb, rfl⟩ := List.mem_map.1 hx
    exact hg b hb
  have hdl : (dsL l).length = l.length := by simp [dsL]
  have hva : vn za < B ^ l.length := by rw [HVA.out, ← hdl]; exact ofD_lt (by omega) _ hgd
  have hvb : vn zb < B ^ (l.length + 1) := by
    rw [HVB.out, ofD_next, ← HD.out]
    have h1 := ofD_lt (by omega : 0 < B) _ hgd
    rw [hdl] at h1
    exact (part_lt (by omega) h1 hok (Nat.le_refl _)).1
  have hla : za.length ≤ 1048576 := canon_lt HCA.out hB2 hva (by omega)
  have hlb : zb.length ≤ 1048576 := canon_lt HCB.out hB2 hvb (by omega)
  have HTL : Hid (B = 10 → (txtL 10 (vn za)).length ≤ 1048577 ∧ (txtL 10 (vn zb)).length ≤ 1048577) := fun h10 => by
    rw [h10] at hva hvb
    have hva2 : vn za < 10 ^ (l.length + 1) := Nat.lt_of_lt_of_le hva (Nat.pow_le_pow_right (by omega) (by omega))
    exact ⟨Nat.le_trans (txtL_le (by omega) hva2 (by omega)) (by omega), Nat.le_trans (txtL_le (by omega) hvb (by omega)) (by omega)⟩
  clear hva hvb
  have hlo : zo.length ≤ 1048576 := canon_lt HCO.out hB2 (n := 1) (by rw [HVO.out]; simpa using hok) (by omega)
  have HLB := lit_one w8 (B : Int) (by unfold IsW wB; omega)
  have ka := (Below.refl w8.heap.size w8).alloc (Nat.le_refl _) (.cells #[.int .u64 (B : Int)] 42)
  have MA9 := hid (MA8.out.below ka)
  have MB9 := hid (MB8.out.below ka)
  have K9 := hid (below_step K8.out ka)
  have T9 := hid (T8.out.now ka)
  have HMA := hid (mulAdd_any MA9.out.sl HLB (MO8.out.below ka).sl (by simp; omega) (by omega))
  clear MA8 MB8 MO8 K8 T8 ka HLB hgd hdl
  go_wp2_with fail
  refine HMA.out.mono ?_
  rintro e wa ⟨zm, r, rfl, mM, cM, vM, ka⟩
  have MAa := hid (MA9.out.below ka)
  have MBa := hid (MB9.out.below ka)
  have MMa := hid mM
  have Ka := hid (below_step K9.out ka)
  have Ta := hid (T9.out.now ka)
  have hVB : vn zb = vn za * B + d := by rw [HVB.out, ofD_next, HVA.out, ← HD.out]
  have HEQ : Hid (zb = zm) := by
    refine canon_inj HCB.out cM ?_
    rw [vM, val_vn HCB.out.1, val_vn HCA.out.1, val_vn HCO.out.1, hVB, HVO.out]
    simp [val]
  obtain ⟨xa, xc, rfl⟩ := mM.form
  have HVBD := hid hVB
  clear MA9 MB9 K9 T9 ka mM cM vM HMA hVB
  go_wp2_with fail
  refine (same_yes MBa.out.sl MMa.out.sl HEQ.out).mono ?_
  rintro e wb ⟨rfl, kb⟩
  have MAb := hid (MAa.out.below kb)
  have MBb := hid (MBa.out.below kb)
  have Kb := hid (below_step Ka.out kb)
  have Tb := hid (Ta.out.now kb)
  clear MAa MBa MMa Ka Ta kb HEQ
  by_cases h10 : B = 10
  · have z10 : ((B : Int) != 10) = false := by rw [h10]; rfl
    have htl := HTL.out h10
    have HDB := hid (digits_any MBb.out.sl hlb Tb.out)
    by_cases hz : za.length = 0
    · have HFIN : Hid ((txtL 10 (vn zb)).length = (txtL 10 (vn za)).length) := by
        unfold Hid
        have : za = [] := List.eq_nil_of_length_eq_zero hz
        have e0 : vn za = 0 := by rw [this]; rfl
        rw [HVBD.out, e0, Nat.zero_mul, Nat.zero_add, txtL_zero (by omega) (by omega)]
        rfl
      have z0 : ¬ (0 : Int) < (za.length : Int) := by omega
      obtain ⟨n1, hn1⟩ : ∃ n1, n1 = (txtL 10 (vn zb)).length := ⟨_, rfl⟩
      rw [← hn1] at HDB HFIN htl
      have hn63 : n1 ≤ 1073741824 := by omega
      have HN1 := hid hn1
      obtain ⟨nza, hnza⟩ : ∃ nza, za.length = nza := ⟨_, rfl⟩
      have HNZ := hid hnza
      rw [hnza] at z0 ⊢
      clear hn1 hz htl hnza
      go_wp2_with fail
      refine HDB.out.mono ?_
      rintro e wc ⟨rfl, kc⟩
      have HDA := hid (digits_any (MAb.out.below kc).sl hla (Tb.out.now kc))
      rw [← HFIN.out, HNZ.out] at HDA
      have Kc := hid (below_step Kb.out kc)
      clear kc HDB MAb MBb Kb Tb
      go_wp2_with fail
      refine HDA.out.mono ?_
      rintro e wd ⟨rfl, kd⟩
      have Kd := hid (below_step Kc.out kd)
      clear kd HDA Kc
      go_wp2
      go_ret
      exact ⟨by simp, Kd.out⟩
    · have HFIN : Hid ((txtL 10 (vn zb)).length = (txtL 10 (vn za)).length + 1) := by
        unfold Hid
        rw [HVBD.out, h10]
        refine txtL_next (by omega) (by omega) (fun q => hz ?_)
        have h1 : val za = 0 := by rw [val_vn HCA.out.1, q]; rfl
        have h2 : za = [] := canon_inj HCA.out canon_nil (by rw [h1]; rfl)
        rw [h2]; rfl
      have z0 : (0 : Int) < (za.length : Int) := by omega
      obtain ⟨n1, hn1⟩ : ∃ n1, n1 = (txtL 10 (vn za)).length := ⟨_, rfl⟩
      rw [← hn1] at HFIN htl
      have hn63 : n1 ≤ 1073741824 := by omega
      rw [HFIN.out] at HDB
      have HN1 := hid hn1
      clear hn1
      go_wp2_with fail
      refine HDB.out.mono ?_
      rintro e wc ⟨rfl, kc⟩
      have HDA := hid (digits_any (MAb.out.below kc).sl hla (Tb.out.now kc))
      rw [← HN1.out] at HDA
      have Kc := hid (below_step Kb.out kc)
      clear kc HDB MAb MBb Kb Tb
      go_wp2_with fail
      refine HDA.out.mono ?_
      rintro e wd ⟨rfl, kd⟩
      have Kd := hid (below_step Kc.out kd)
      clear kd HDA Kc
      go_wp2
      go_ret
      exact ⟨by simp, Kd.out⟩
  · have z10 : ((B : Int) != 10) = true := by simp; omega
    clear MAb MBb Tb
    go_wp2
    go_ret
    exact ⟨rfl, Kb.out⟩
set_option maxRecDepth 100000 in
set_option maxHeartbeats 12800000 in
theorem radixStep_base {w : World} {s : ByteArray} {b : Int} {c : UInt8} (hT : Sg w) (hb0 : -9223372036854775808 ≤ b) (hb1 : b ≤ 9223372036854775807) (hb : ¬ (2 ≤ b ∧ b ≤ 36)) (hl : s.size ≤ 1048576) :
    Calls Tryd.prog 8 #[.string s, .int .i64 b, .int .u8 (c.toNat : Int)] w fun e w' => e = .returned (.bool true) ∧ Below w.heap.size w w' := by
  have HT := hid hT
  have hc : c.toNat < 256 := c.toNat_lt
  have HRB : Hid (∀ (t : ByteArray) (w : World), Sg w → Calls Tryd.prog 13 #[.string t, .int .i64 b] w (ReadTo w 3 0)) := fun t w h => (read_bad hb0 hb1 hb t).mono fun e w' ⟨h1, h2⟩ => ⟨[], none, 0, h1, Mine.nil _ _, canon_nil, rfl, by rw [h2]; exact Below.refl _ _⟩
  obtain ⟨s2, hs2⟩ : ∃ s2, s ++ (⟨#[c]⟩ : ByteArray) = s2 := ⟨_, rfl⟩
  have HR1 := hid (HRB.out s)
  have HR2 := hid (HRB.out s2)
  have HR3 := hid (HRB.out ⟨#[c]⟩)
  have HSI := hid (sign_any hc b hb0 hb1)
  have hsc : (⟨#[c]⟩ : ByteArray).size = 1 := rfl
  have hsm : s.size + (⟨#[c]⟩ : ByteArray).size ≤ 9223372036854775807 := by rw [hsc]; omega
  generalize sv c.toNat = sc at *
  clear hT HRB
  by_cases b1 : b < 2
  · clear hb
    go_enter Tryd.func8, Tryd.ntmps8
    go_wp2_with fail
    refine (awake4_any HT.out).mono ?_
    rintro e w1 ⟨rfl, k1⟩
    have T1 := hid (HT.out.now k1)
    have K1 := hid k1
    clear k1
    go_wp2_with fail
    refine (HR1.out w1 T1.out).mono ?_
    rintro e w2 ⟨za, aa, ca, rfl, mA, cA, vA, k2⟩
    have MA := hid mA
    have K2 := hid (below_step K1.out k2)
    have T2 := hid (T1.out.now k2)
    have hcv := conv_one w2 c
    have ka := (Below.refl w2.heap.size w2).alloc (Nat.le_refl _) (.cells #[.int .u8 (c.toNat : Int)] 5)
    have MA2 := hid (mA.below ka)
    have K2a := hid (below_step K2.out ka)
    have T2a := hid (T2.out.now ka)
    clear k2 mA ka K1 T1
    go_wp2_with fail
    refine (HR2.out _ T2a.out).mono ?_
    rintro e w3 ⟨zb, ab, cb, rfl, mB, cB, vB, k3⟩
    have MA3 := hid (MA2.out.below k3)
    have MB3 := hid mB
    have K3 := hid (below_step K2a.out k3)
    have T3 := hid (T2a.out.now k3)
    have hcv2 := conv_one w3 c
    have ka := (Below.refl w3.heap.size w3).alloc (Nat.le_refl _) (.cells #[.int .u8 (c.toNat : Int)] 5)
    have MA4 := hid (MA3.out.below ka)
    have MB4 := hid (mB.below ka)
    have K4 := hid (below_step K3.out ka)
    have T4 := hid (T3.out.now ka)
    clear k3 mB ka K2 T2 K2a T2a MA MA2 hcv MA3 MB3 K3 T3
    go_wp2_with fail
    refine (HR3.out _ T4.out).mono ?_
    rintro e w5 ⟨zo, ao, co, rfl, mO, cO, vO, k5⟩
    have MA5 := hid (MA4.out.below k5)
    have MB5 := hid (MB4.out.below k5)
    have MO5 := hid mO
    have K5 := hid (below_step K4.out k5)
    have T5 := hid (T4.out.now k5)
    clear k5 mO K4 T4 MA4 MB4 hcv2
    go_wp2_with fail
    refine (HSI.out w5).mono ?_
    rintro e w6 ⟨rfl, rfl⟩
    clear HR1 HR2 HR3 HSI MA5 MB5 MO5
    go_wp2
    go_ret
    exact ⟨rfl, K5.out⟩
  · have b2 : (36 : Int) < b := by omega
    clear hb
    go_enter Tryd.func8, Tryd.ntmps8
    go_wp2_with fail
    refine (awake4_any HT.out).mono ?_
    rintro e w1 ⟨rfl, k1⟩
    have T1 := hid (HT.out.now k1)
    have K1 := hid k1
    clear k1
    go_wp2_with fail
    refine (HR1.out w1 T1.out).mono ?_
    rintro e w2 ⟨za, aa, ca, rfl, mA, cA, vA, k2⟩
    have MA := hid mA
    have K2 := hid (below_step K1.out k2)
    have T2 := hid (T1.out.now k2)
    have hcv := conv_one w2 c
    have ka := (Below.refl w2.heap.size w2).alloc (Nat.le_refl _) (.cells #[.int .u8 (c.toNat : Int)] 5)
    have MA2 := hid (mA.below ka)
    have K2a := hid (below_step K2.out ka)
    have T2a := hid (T2.out.now ka)
    clear k2 mA ka K1 T1
    go_wp2_with fail
    refine (HR2.out _ T2a.out).mono ?_
    rintro e w3 ⟨zb, ab, cb, rfl, mB, cB, vB, k3⟩
    have MA3 := hid (MA2.out.below k3)
    have MB3 := hid mB
    have K3 := hid (below_step K2a.out k3)
    have T3 := hid (T2a.out.now k3)
    have hcv2 := conv_one w3 c
    have ka := (Below.refl w3.heap.size w3).alloc (Nat.le_refl _) (.cells #[.int .u8 (c.toNat : Int)] 5)
    have MA4 := hid (MA3.out.below ka)
    have MB4 := hid (mB.below ka)
    have K4 := hid (below_step K3.out ka)
    have T4 := hid (T3.out.now ka)
    clear k3 mB ka K2 T2 K2a T2a MA MA2 hcv MA3 MB3 K3 T3
    go_wp2_with fail
    refine (HR3.out _ T4.out).mono ?_
    rintro e w5 ⟨zo, ao, co, rfl, mO, cO, vO, k5⟩
    have MA5 := hid (MA4.out.below k5)
    have MB5 := hid (MB4.out.below k5)
    have MO5 := hid mO
    have K5 := hid (below_step K4.out k5)
    have T5 := hid (T4.out.now k5)
    clear k5 mO K4 T4 MA4 MB4 hcv2
    go_wp2_with fail
    refine (HSI.out w5).mono ?_
    rintro e w6 ⟨rfl, rfl⟩
    clear HR1 HR2 HR3 HSI MA5 MB5 MO5
    go_wp2
    go_ret
    exact ⟨rfl, K5.out⟩
theorem radixStep_any {w : World} {s : ByteArray} {b x : Int} (hT : Sg w) (hb0 : -9223372036854775808 ≤ b) (hb1 : b ≤ 9223372036854775807) (hx0 : 0 ≤ x) (hx1 : x ≤ 255) (hl : s.size ≤ 1048576) :
    Calls Tryd.prog 8 #[.string s, .int .i64 b, .int .u8 x] w fun e w' => e = .returned (.bool true) ∧ Below w.heap.size w w' := by
  obtain ⟨c, hc⟩ : ∃ c : UInt8, (c.toNat : Int) = x := ⟨UInt8.ofNat x.toNat, by rw [UInt8.toNat_ofNat', Nat.mod_eq_of_lt (by omega)]; omega⟩
  rw [← hc]
  by_cases hb : 2 ≤ b ∧ b ≤ 36
  · obtain ⟨B, hB⟩ : ∃ B : Nat, (B : Int) = b := ⟨b.toNat, by omega⟩
    obtain ⟨l, hs⟩ : ∃ l : List UInt8, s = ⟨l.toArray⟩ := ⟨s.data.toList, by simp⟩
    rw [← hB, hs]
    have h1 : 2 ≤ B := by omega
    have h2 : B ≤ 36 := by omega
    have h3 : l.length ≤ 1048576 := by rw [hs, mk_size] at hl; exact hl
    by_cases hok : dv c.toNat < B
    · by_cases hn : l = []
      · exact radixStep_nil hT h1 h2 h3 hok hn
      · by_cases hg : Good B l
        · exact radixStep_all hT h1 h2 h3 hok hn hg
        · exact radixStep_bad hT h1 h2 h3 hok hn hg
    · by_cases hg : l ≠ [] ∧ Good B l
      · exact radixStep_no_good hT h1 h2 h3 hok hg
      · exact radixStep_no_bad hT h1 h2 h3 hok hg
  · exact radixStep_base hT hb0 hb1 hb hl
end Go.Proofs.YtjpnaicgefiglaaDoor
