/-
  QSquaresToTrimL: Squares, TrimL, joined.
-/
import Derived.Test.YtiiemeigbnnlpaaGreatDoorQMulAllToWordful
import Derived.Lib.TrimByte
import Derived.Laws.Strings3

/- Squares -/
namespace Go.Proofs.YtiiemeigbnnlpaaGreatDoor
open Go.RowKit
set_option linter.unusedVariables false

theorem vn_lt_two {xs : List Int} (h : WF xs) : vn xs < 2 ^ (64 * xs.length) := by
  have h1 := val_lt_pw h
  rw [val_vn h, pw_pow] at h1
  have h2 : ((2 : Int) ^ (64 * xs.length)) = ((2 ^ (64 * xs.length) : Nat) : Int) := by simp
  rw [h2] at h1
  exact Int.ofNat_lt.1 h1
theorem sq_small {P i E : Nat} (hP : 2 ≤ P) (h : P ^ 2 ^ i < 2 ^ E) (hE : E ≤ 67108864) : i < 26 := by
  have h1 : 2 ^ 2 ^ i ≤ P ^ 2 ^ i := Nat.pow_le_pow_left hP _
  have h3 := (Nat.pow_lt_pow_iff_right (by omega : 1 < 2)).1 (Nat.lt_of_le_of_lt h1 h)
  have e : (2 : Nat) ^ 26 = 67108864 := by decide
  exact (Nat.pow_lt_pow_iff_right (by omega : 1 < 2)).1 (show 2 ^ i < 2 ^ 26 by rw [e]; omega)
theorem sq_next (P k : Nat) : P ^ 2 ^ k * P ^ 2 ^ k = P ^ 2 ^ (k + 1) := by rw [← Nat.pow_add, Nat.pow_succ, Nat.mul_two]
theorem sq_grows {P k : Nat} (hP : 2 ≤ P) : P ^ 2 ^ k < P ^ 2 ^ (k + 1) := Nat.pow_lt_pow_right (by omega) (Nat.pow_lt_pow_right (by omega) (Nat.lt_succ_self k))
/-- What squares answers. -/
def Squared (w : World) (P : Nat) (xs : List Int) (e : Ending) (w' : World) : Prop :=
  ∃ Ps a cap, e = .returned (.slice a Ps.length cap) ∧ Ps.length ≤ cap ∧ Ps.length ≤ 26 ∧ Bunch w.heap.size w' (.slice a Ps.length cap) Ps ∧ (∀ i (h : i < Ps.length), vn Ps[i] = P ^ 2 ^ i ∧ Ps[i].length ≤ 1048576) ∧ (∀ i, i < Ps.length → P ^ 2 ^ i ≤ vn xs) ∧ vn xs < P ^ 2 ^ Ps.length ∧ Below w.heap.size w w'
set_option maxRecDepth 100000 in
set_option maxHeartbeats 3200000 in
theorem squares_any {w : World} {vp va : Value} {ps xs : List Int} {P : Nat} (hp : Mine 0 w vp ps) (cp : Canon ps) (hP : vn ps = P) (h2 : 2 ≤ P) (ha : Sl w.heap.size w va xs) (lp : ps.length ≤ 2) (lx : xs.length ≤ 1048576) :
    Calls Tryz.prog 31 #[vp, va] w (Squared w P xs) := by
  have HA := hid ha
  have HVX := hid (val_vn ha.1)
  have HXL := hid (vn_lt_two ha.1)
  have HWX := hid ha.1
  obtain ⟨aa, ca, hva⟩ : ∃ a c, va = .slice a xs.length c := by obtain ⟨_, a, c, e, _⟩ := ha; exact ⟨a, c, e⟩
  subst hva
  have HP := hid hp
  have HC : Hid (Canon ps ∧ vn ps = P ^ 2 ^ ([] : List (List Int)).length) := ⟨cp, by simpa using hP⟩
  obtain ⟨pa, pc, hvp⟩ := hp.form
  subst hvp
  have hlp2 : ps.length ≤ 2097152 := by omega
  clear ha hp cp hP lp
  go_enter Tryz.func31, Tryz.ntmps31
  go_wp2_with fail
  go_loopg [0, 5] (vn xs + 1 - vn ps) (fun g s0 s5 wx => ∃ (qs : List Int) (Ps : List (List Int)), g = vn xs + 1 - vn qs ∧ Hid (Mine 0 wx s0 qs) ∧ Hid (Canon qs ∧ vn qs = P ^ 2 ^ Ps.length) ∧ Hid (Bunch w.heap.size wx s5 Ps) ∧ Hid (∀ i (h : i < Ps.length), vn Ps[i] = P ^ 2 ^ i ∧ Ps[i].length ≤ 1048576) ∧ Hid (∀ i, i < Ps.length → P ^ 2 ^ i ≤ vn xs) ∧ qs.length ≤ 2097152 ∧ Hid (Below w.heap.size w wx))
  case atStart => exact ⟨ps, [], rfl, HP, HC, Bunch.nil _ _, (fun i h => absurd h (Nat.not_lt_zero _)), (fun i h => absurd h (Nat.not_lt_zero _)), hlp2, Below.refl _ _⟩
  case round =>
    clear HP HC
    obtain ⟨qs, Ps, hg, HM, HC, HB, HE, HL, hlq, KK⟩ := hrel
    obtain ⟨qa, qc, rfl⟩ := HM.out.form
    obtain ⟨ba, bc, hv5, hbc⟩ := HB.out.form
    subst hv5
    have hPl : Ps.length ≤ 26 := by
      rcases Nat.eq_zero_or_pos Ps.length with e | e
      · omega
      · have h1 := HL.out (Ps.length - 1) (by omega)
        have := sq_small (i := Ps.length - 1) h2 (Nat.lt_of_le_of_lt h1 HXL.out) (by omega)
        omega
    have HCM := hid (cmp_now HM.out.sl (HA.out.now KK.out))
    have hvq := val_vn HC.out.1.1
    by_cases hle : val qs ≤ val xs
    · have z : cmpI (val qs) (val xs) ≤ 0 := by unfold cmpI; split <;> (try split) <;> omega
      generalize cmpI (val qs) (val xs) = c at *
      go_wp2_with fail
      refine HCM.out.mono ?_
      rintro e w1 ⟨rfl, k1⟩
      have hvx := HVX.out
      have HQL : Hid (qs.length ≤ 1048576) := Nat.le_trans (canon_len HC.out.1 (Int.lt_of_le_of_lt hle (val_lt_pw HWX.out))) lx
      have HB1 := hid (HB.out.now k1)
      have HM1 := hid (HM.out.below k1)
      have K1 := hid (below_step KK.out k1)
      clear k1 HCM HB HM KK
      have ka := (Below.refl w1.heap.size w1).alloc (Nat.le_refl _) (.cells #[.slice qa qs.length qc] 22)
      have HB2 := hid (HB1.out.now ka)
      have HM2 := hid (HM1.out.below ka)
      have K2 := hid (below_step K1.out ka)
      have hcc : (w1.alloc (.cells #[.slice qa qs.length qc] 22)).cell? ⟨w1.heap.size, 0, none⟩ = some (.slice qa qs.length qc) := by simp
      have HCC := hid hcc
      have HSZ : Hid (w.heap.size ≤ (w1.alloc (.cells #[.slice qa qs.length qc] 22)).heap.size) := K2.out.size
      have HPL : Hid (Ps.length ≤ 1000000000) := by unfold Hid; omega
      clear ka hcc HB1 HM1
      go_wp2_with (at_builtin; refine wpList_append_bunch _ rfl (.tmp 10) (.tmp 12) rfl w.heap.size _ _ Ps qs rfl HB2.out w1.heap.size rfl HCC.out HM2.out HPL.out HSZ.out ?_)
      intro a' cap' w2 hB3 hkeep hbel
      have HM3 := hid (hkeep.out _ _ HM2.out)
      have K3 := hid (K2.out.trans hbel.out)
      have HSQ := hid (square_any HM3.out.sl (by have := HQL.out; omega))
      clear HM2 HB2 HCC hkeep hbel HPL HSZ K2
      go_wp2_with fail
      refine HSQ.out.mono ?_
      rintro e w3 ⟨zs, r, rfl, mZ, cZ, hZ, k3⟩
      have HZ := hid (mZ.mono (Nat.zero_le _))
      have HCZ : Hid (Canon zs ∧ vn zs = P ^ 2 ^ (Ps ++ [qs]).length) := by
        refine ⟨cZ, ?_⟩
        have h1 := val_vn cZ.1
        rw [hZ, val_vn HC.out.1.1, HC.out.2, ← Int.natCast_mul] at h1
        rw [List.length_append, List.length_singleton, ← sq_next]
        exact (Int.ofNat.inj h1).symm
      have HE3 : Hid (∀ i (h : i < (Ps ++ [qs]).length), vn (Ps ++ [qs])[i] = P ^ 2 ^ i ∧ (Ps ++ [qs])[i].length ≤ 1048576) := fun i h => by
        rcases Nat.lt_or_ge i Ps.length with q | q
        · rw [List.getElem_append_left q]; exact HE.out i q
        · obtain rfl : i = Ps.length := by simp at h; omega
          rw [List.getElem_append_right (by omega)]
          simp only [Nat.sub_self, List.getElem_cons_zero]
          exact ⟨HC.out.2, HQL.out⟩
      have hqx : P ^ 2 ^ Ps.length ≤ vn xs := by rw [← HC.out.2]; omega
      have HL3 : Hid (∀ i, i < (Ps ++ [qs]).length → P ^ 2 ^ i ≤ vn xs) := fun i h => by
        rcases Nat.lt_or_ge i Ps.length with q | q
        · exact HL.out i q
        · obtain rfl : i = Ps.length := by simp at h; omega
          exact hqx
      have HG : Hid (vn xs + 1 - vn zs < gk) := by
        unfold Hid
        rw [hg, HCZ.out.2, HC.out.2, List.length_append, List.length_singleton]
        have := sq_grows (k := Ps.length) h2
        omega
      have hlz : zs.length ≤ 2097152 := by
        have h1 := val_mul_lt HC.out.1.1 HC.out.1.1
        rw [← hZ] at h1
        have h3 := canon_len cZ h1
        have := HQL.out
        omega
      have HB4 : Hid (Bunch w.heap.size w3 (.slice a' (Ps.length + 1) cap') (Ps ++ [qs])) := hB3.out.now k3
      have K4 := hid (below_step K3.out k3)
      obtain ⟨za, zc, rfl⟩ := mZ.form
      clear mZ cZ hZ k3 hB3 HSQ HM3 HE HL HC K3 HQL
      go_wp2
      go_roundg (vn xs + 1 - vn zs)
      case rel => exact ⟨zs, Ps ++ [qs], rfl, HZ, HCZ, HB4, HE3, HL3, hlz, K4⟩
      case measure => exact HG.out
    · have z : ¬ cmpI (val qs) (val xs) ≤ 0 := by unfold cmpI; split <;> (try split) <;> omega
      generalize cmpI (val qs) (val xs) = c at *
      go_wp2_with fail
      refine HCM.out.mono ?_
      rintro e w1 ⟨rfl, k1⟩
      have hvx := HVX.out
      have HFIN : Hid (vn xs < P ^ 2 ^ Ps.length) := by unfold Hid; rw [← HC.out.2]; omega
      have HB1 := hid (HB.out.now k1)
      have K1 := hid (below_step KK.out k1)
      clear k1 HCM HB HM KK
      go_wp2
      go_ret
      exact ⟨Ps, ba, bc, rfl, hbc, hPl, HB1.out, HE.out, HL.out, HFIN.out, K1.out⟩
end Go.Proofs.YtiiemeigbnnlpaaGreatDoor

/- TrimL -/
namespace Go.Proofs.YtiiemeigbnnlpaaGreatDoor
open Go.RowKit
set_option linter.unusedVariables false

def slen : Value → Nat
  | .string s => s.size
  | _ => 0
theorem mk_size (l : List UInt8) : (⟨l.toArray⟩ : ByteArray).size = l.length := by simp [ByteArray.size]
theorem mk_tail (b : UInt8) (t : List UInt8) : (⟨(b :: t).toArray⟩ : ByteArray).extract 1 (t.length + 1) = ⟨t.toArray⟩ := by
  rw [Lib.extract_mk]
  simp
set_option maxRecDepth 100000 in
set_option maxHeartbeats 1600000 in
theorem trimByte_any (l : List UInt8) (c : UInt8) (w : World) (hl : l.length ≤ 1073741824) :
    Calls Tryz.prog 50 #[.string ⟨l.toArray⟩, .int .u8 c.toNat] w fun e w' => e = .returned (.string ⟨(l.dropWhile (· == c)).toArray⟩) ∧ w' = w := by
  go_enter Tryz.func50, Tryz.ntmps50
  go_wp2
  go_loop [0] (fun v => ∃ m : List UInt8, v = .string ⟨m.toArray⟩ ∧ m.length ≤ 1073741824 ∧ Hid (l.dropWhile (· == c) = m.dropWhile (· == c))) (fun v => slen v)
  case atStart => exact ⟨l, rfl, hl, rfl⟩
  case round =>
    obtain ⟨m, rfl, hm, HM⟩ := hrel
    cases m with
    | nil =>
      have hz : ((⟨([] : List UInt8).toArray⟩ : ByteArray)).size = 0 := rfl
      have HM2 : Hid ((⟨(l.dropWhile (· == c)).toArray⟩ : ByteArray) = ⟨([] : List UInt8).toArray⟩) := by unfold Hid; rw [HM.out]; rfl
      generalize (⟨([] : List UInt8).toArray⟩ : ByteArray) = s at *
      clear HM
      go_wp2
      go_ret
      exact ⟨by rw [HM2.out]; rfl, rfl⟩
    | cons b t =>
      have hs := mk_size (b :: t)
      have hx := mk_tail b t
      have hb0 : ∀ h, (⟨(b :: t).toArray⟩ : ByteArray)[0]'h = b := fun h => rfl
      simp only [List.length_cons] at hs hm
      by_cases q : b = c
      · have HM2 : Hid (l.dropWhile (· == c) = t.dropWhile (· == c)) := by unfold Hid; rw [HM.out, List.dropWhile_cons, if_pos (by simp [q])]
        generalize hss : (⟨(b :: t).toArray⟩ : ByteArray) = s at *
        generalize ht : t.length = n at *
        have HT := hid ht
        have h0 : 0 < s.size := by omega
        have hb1 := hb0 h0
        have q1 : ((s[0]'h0).toNat : Int) = (c.toNat : Int) := by rw [hb1, q]
        clear hb1 hb0 HM hss ht
        go_wp2
        go_round
        case rel => exact ⟨t, rfl, by rw [HT.out]; omega, HM2⟩
        case measure =>
          have := mk_size t
          have := HT.out
          simp only [slen]
          omega
      · have HM2 : Hid ((⟨(l.dropWhile (· == c)).toArray⟩ : ByteArray) = ⟨(b :: t).toArray⟩) := by unfold Hid; rw [HM.out, List.dropWhile_cons, if_neg (by simp [q])]
        generalize hss : (⟨(b :: t).toArray⟩ : ByteArray) = s at *
        have h0 : 0 < s.size := by omega
        have hb1 := hb0 h0
        have q1 : ¬ ((s[0]'h0).toNat : Int) = (c.toNat : Int) := by
          rw [hb1]
          intro e
          exact q (UInt8.toNat_inj.1 (by exact_mod_cast e))
        have q2 : (((s[0]'h0).toNat : Int) == (c.toNat : Int)) = false := by simpa using q1
        clear hb1 hb0 HM hss hx
        go_wp2
        go_ret
        exact ⟨by rw [HM2.out]; rfl, rfl⟩
set_option maxRecDepth 100000 in
set_option maxHeartbeats 1600000 in
theorem trimLeft_any (l : List UInt8) (w : World) (hl : l.length ≤ 1073741824) (h0 : l ≠ []) :
    Calls Tryz.prog 33 #[.string ⟨l.toArray⟩, .string ⟨#[48]⟩] w fun e w' => e = .returned (.string ⟨(l.dropWhile (· == 48)).toArray⟩) ∧ w' = w := by
  have HT := hid (trimByte_any l 48 w hl)
  have hs := mk_size l
  have hE : l.isEmpty = false := by simpa using h0
  have hq : ((⟨#[48]⟩ : ByteArray)[0]'Nat.zero_lt_one).toNat = 48 := rfl
  clear h0
  go_enter Tryz.func33, Tryz.ntmps33
  go_wp2_with fail
  refine HT.out.mono ?_
  rintro e w' ⟨rfl, rfl⟩
  clear HT
  go_wp2
  go_ret
  exact ⟨rfl, rfl⟩
end Go.Proofs.YtiiemeigbnnlpaaGreatDoor
