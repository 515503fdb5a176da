/-
  Joined: parts put together till one is left; the contract of Read.
-/
import Derived.Test.YtdfnehngffajiabDoorQPairs
namespace Go.Proofs.YtdfnehngffajiabDoor
open Go.RowKit
set_option linter.unusedVariables false

/-- The number whose digits to the base P are the parts, the lowest first. -/
def lowv (P : Nat) : List (List Int) → Nat
  | [] => 0
  | x :: t => vn x + P * lowv P t
theorem lowv_parts (P : Nat) : ∀ Gs : List Nat, lowv P (partsF Gs) = ofD P Gs.reverse
  | [] => rfl
  | G :: t => by
    have ih := lowv_parts P t
    have e : partsF (G :: t) = [(G : Int)] :: partsF t := rfl
    have v1 : vn [(G : Int)] = G := by simp [vn]
    rw [e, lowv, ih, v1, List.reverse_cons, ofD_snoc, Nat.mul_comm]
    omega
theorem lowv_pairs (P : Nat) : ∀ (n : Nat) (Ps Qs : List (List Int)), Ps.length ≤ n → Qs.length = (Ps.length + 1) / 2 → (∀ i (h : i < Qs.length), vn Qs[i] = vn (Ps.getD (2 * i + 1) []) * P + vn (Ps.getD (2 * i) [])) → lowv (P * P) Qs = lowv P Ps
  | _, [], Qs, _, hl, _ => by
    have : Qs = [] := List.eq_nil_of_length_eq_zero (by simpa using hl)
    rw [this]; rfl
  | _, [x], Qs, _, hl, h => by
    obtain ⟨q, rfl⟩ : ∃ q, Qs = [q] := List.length_eq_one_iff.1 (by simpa using hl)
    have := h 0 (by simp)
    simp [vn] at this
    simp [lowv, this]
  | 0, x :: y :: t, Qs, hn, _, _ => by simp at hn
  | n + 1, x :: y :: t, Qs, hn, hl, h => by
    match Qs, hl, h with
    | [], hl, _ =>
      exfalso
      simp only [List.length_nil, List.length_cons] at hl
      omega
    | q :: qs, hl, h =>
      have h0 := h 0 (by simp)
      simp at h0
      have ih := lowv_pairs P n t qs (by simp at hn; omega) (by simp at hl; omega) (fun i hi => by
        have := h (i + 1) (by simpa using hi)
        simp only [List.getElem_cons_succ] at this
        rw [this, show 2 * (i + 1) + 1 = (2 * i + 1) + 1 + 1 by omega, show 2 * (i + 1) = 2 * i + 1 + 1 by omega]
        simp)
      rw [lowv, ih, lowv, lowv, h0]
      simp only [Nat.mul_add, Nat.mul_assoc]
      rw [Nat.mul_comm P (vn y)]
      omega
theorem lowv_one {P : Nat} : ∀ {Qs : List (List Int)} (h : Qs.length = 1) (h0 : 0 < Qs.length), lowv P Qs = vn Qs[0]
  | [q], _, _ => by simp [lowv]
theorem pair_lt {P x y : Nat} (hx : x < P) (hy : y < P) : y * P + x < P * P := by
  have : (y + 1) * P ≤ P * P := Nat.mul_le_mul_right _ hy
  rw [Nat.add_mul, Nat.one_mul] at this
  omega
/-- What joined answers. -/
def JoinedTo (B0 : Nat) (w : World) (N : Nat) (e : Ending) (w' : World) : Prop := ∃ zs a c, e = .returned (.slice a zs.length c) ∧ Mine B0 w' (.slice a zs.length c) zs ∧ Canon zs ∧ vn zs = N ∧ Below B0 w w'
theorem canon_short {zs ps : List Int} (hz : Canon zs) (hp : WF ps) (h : vn zs < vn ps) : zs.length ≤ ps.length := by
  refine canon_len hz ?_
  have h1 := val_lt_pw hp
  rw [val_vn hz.1]
  rw [val_vn hp] at h1
  omega
set_option maxRecDepth 100000 in
set_option maxHeartbeats 6400000 in
theorem joined_any {B0 : Nat} {w : World} {a : Option Addr} {cap : Nat} {vp : Value} {Ps0 : List (List Int)} {ps0 : List Int} {N : Nat} (hb : Bunch B0 w (.slice a Ps0.length cap) Ps0) (hp : Mine 0 w vp ps0) (cp : Canon ps0) (hn : 0 < Ps0.length) (hl : Ps0.length ≤ 1000000000) (hlp : ps0.length ≤ 1) (hN : lowv (vn ps0) Ps0 = N) (hle : ∀ i (h : i < Ps0.length), vn Ps0[i] < vn ps0 ∧ Ps0[i].length ≤ 1) (hsz : B0 ≤ w.heap.size) :
    Calls Tryd.prog 37 #[.slice a Ps0.length cap, vp] w (JoinedTo B0 w N) := by
  have HB := hid hb
  have HP := hid hp
  have HC := hid cp
  have HN := hid hN
  have HSZ := hid hsz
  have HE : Hid (∀ i (h : i < Ps0.length), vn Ps0[i] < vn ps0 ∧ Ps0[i].length ≤ 1073741824) := fun i h => ⟨(hle i h).1, by have := (hle i h).2; omega⟩
  obtain ⟨qa, qc, hvp⟩ := hp.form
  subst hvp
  clear hb hp cp hN hle hsz
  go_enter Tryd.func37, Tryd.ntmps37
  go_wp2_with fail
  go_loopg [0, 1] Ps0.length (fun gk s0 s1 wx => ∃ (Ps : List (List Int)) (ps : List Int) (j : Nat), gk = Ps.length ∧ 0 < Ps.length ∧ Ps.length ≤ 1000000000 ∧ (j = 0 ∨ 2 ≤ Ps.length) ∧ Hid ((Ps.length - 1) * 2 ^ j ≤ 1073741824 ∧ ps.length ≤ 2 ^ j) ∧ Hid (Bunch B0 wx s0 Ps) ∧ Hid (Mine 0 wx s1 ps) ∧ Hid (Canon ps) ∧ Hid (lowv (vn ps) Ps = N) ∧ Hid (∀ i (h : i < Ps.length), vn Ps[i] < vn ps ∧ Ps[i].length ≤ 1073741824) ∧ Hid (Below B0 w wx) ∧ Hid (B0 ≤ wx.heap.size))
  case atStart => exact ⟨Ps0, ps0, 0, rfl, hn, hl, .inl rfl, ⟨by simp; omega, by simpa using hlp⟩, HB, HP, HC, HN, HE, Below.refl _ _, HSZ⟩
  case round =>
    clear HB HP HC HN HE HSZ
    obtain ⟨Ps, ps, j, hgk, hn1, hl1, hj, HJ, HB, HP, HC, HN, HE, KK, HSZ⟩ := hrel
    obtain ⟨ba, bc, hs0, _⟩ := HB.out.form
    obtain ⟨xa, xc, hs1⟩ := HP.out.form
    subst hs0 hs1
    have h2j : 2 ^ j ≤ 1073741824 := by
      have h1 := HJ.out.1
      rcases hj with e | e
      · rw [e]; decide
      · have h3 : 1 * 2 ^ j ≤ (Ps.length - 1) * 2 ^ j := Nat.mul_le_mul_right _ (by omega)
        omega
    have hpl : ps.length ≤ 1073741824 := Nat.le_trans HJ.out.2 h2j
    have HIP := hid (inPairs_any (P := vn ps) HB.out HP.out rfl hn1 hl1 (by omega) (fun i h => by have := (HE.out i h).2; omega) HSZ.out)
    obtain ⟨n1, hnn⟩ : ∃ n1, Ps.length = n1 := ⟨_, rfl⟩
    have HNN := hid hnn
    rw [hnn] at HIP hn1 hl1 hgk hj ⊢
    go_wp2_with fail
    refine HIP.out.mono ?_
    rintro e w1 ⟨Qs, ca, cc, rfl, bQ, lQ, eQ, kQ, beQ⟩
    have HBQ := hid bQ
    have HLQ := hid lQ
    have HEQ := hid eQ
    have K1 : Hid (Below B0 w w1) := KK.out.trans beQ
    have HS1 : Hid (B0 ≤ w1.heap.size) := Nat.le_trans HSZ.out beQ.size
    have HP1 := hid (kQ _ _ HP.out)
    have HNQ : Hid (lowv (vn ps * vn ps) Qs = N) := by
      unfold Hid
      rw [← HN.out]
      exact lowv_pairs (vn ps) _ Ps Qs (Nat.le_refl _) lQ (fun i h => (eQ i h).2)
    have HLT : Hid (∀ i (h : i < Qs.length), vn Qs[i] < vn ps * vn ps) := fun i h => by
      rw [(HEQ.out i h).2]
      have hpos : 0 < vn ps := Nat.lt_of_le_of_lt (Nat.zero_le _) (HE.out 0 (by rw [HNN.out]; exact hn1)).1
      have g : ∀ q, vn (Ps.getD q []) < vn ps := fun q => by
        rcases Nat.lt_or_ge q Ps.length with z | z
        · have e : Ps.getD q [] = Ps[q] := by simp [z]
          rw [e]; exact (HE.out q z).1
        · have e : Ps.getD q [] = [] := by rw [List.getD_eq_getElem?_getD, List.getElem?_eq_none z]; rfl
          rw [e]; exact hpos
      exact pair_lt (g _) (g _)
    have hq0 : 0 < Qs.length := by rw [lQ, hnn]; omega
    clear bQ lQ eQ kQ beQ HIP HB HP HN KK HSZ HE
    by_cases h1 : Qs.length = 1
    · obtain ⟨g, hca, hce⟩ := HBQ.out.sz hq0
      subst hca
      obtain ⟨u, cu, mu⟩ := hce 0 hq0
      obtain ⟨ua, uc, rfl⟩ := mu.form
      have HMU := hid mu
      have HV : Hid (vn Qs[0] = N ∧ Canon Qs[0]) := by
        refine ⟨?_, (HEQ.out 0 hq0).1⟩
        rw [← HNQ.out]
        exact (lowv_one h1 hq0).symm
      obtain ⟨q0, hq⟩ : ∃ q0, Qs[0] = q0 := ⟨_, rfl⟩
      rw [hq] at cu HMU HV
      rw [h1]
      clear hce mu hq h1 HBQ HLQ HEQ HNQ HLT hq0
      go_wp2
      go_ret
      exact ⟨q0, ua, uc, rfl, HMU.out, HV.out.2, HV.out.1, K1.out⟩
    · have z : ((Qs.length : Int) == 1) = false := by rw [beq_eq_false_iff_ne]; omega
      have HSQ := hid (square_any HP1.out.sl (by omega))
      have HQ2 : Hid (2 ≤ Qs.length) := by unfold Hid; omega
      obtain ⟨nq, hnq⟩ : ∃ nq, Qs.length = nq := ⟨_, rfl⟩
      have HNQ2 := hid hnq
      rw [hnq] at z HBQ hq0 ⊢
      clear hnq h1
      go_wp2_with fail
      refine HSQ.out.mono ?_
      rintro e w2 ⟨zs, r, rfl, mZ, cZ, hZ, k2⟩
      have hvz : vn zs = vn ps * vn ps := by
        have h3 := val_vn cZ.1
        rw [hZ, val_vn HC.out.1, ← Int.natCast_mul] at h3
        exact (Int.ofNat.inj h3).symm
      have HZ := hid (mZ.mono (Nat.zero_le _))
      have HCZ := hid cZ
      have HBZ := hid (HBQ.out.bunch.now k2)
      have K2 : Hid (Below B0 w w2) := K1.out.trans (k2.mono HS1.out)
      have HS2 : Hid (B0 ≤ w2.heap.size) := Nat.le_trans HS1.out k2.size
      have HNZ : Hid (lowv (vn zs) Qs = N) := by unfold Hid; rw [hvz]; exact HNQ.out
      have hlz : zs.length ≤ ps.length + ps.length := by
        refine canon_len cZ ?_
        rw [hZ]
        exact val_mul_lt HC.out.1 HC.out.1
      have HEZ : Hid (∀ i (h : i < Qs.length), vn Qs[i] < vn zs ∧ Qs[i].length ≤ 1073741824) := fun i h => by
        have a1 := HLT.out i h
        rw [← hvz] at a1
        refine ⟨a1, ?_⟩
        have a2 := canon_short (HEQ.out i h).1 cZ.1 a1
        have a3 := HLQ.out
        have a4 := HJ.out
        have a5 : (Qs.length - 1) * 2 ^ (j + 1) ≤ 1073741824 := by
          have e1 : (Qs.length - 1) * 2 ^ (j + 1) = (2 * (Qs.length - 1)) * 2 ^ j := by rw [Nat.pow_succ, Nat.mul_comm (2 ^ j) 2, ← Nat.mul_assoc, Nat.mul_comm (Qs.length - 1) 2]
          rw [e1]
          exact Nat.le_trans (Nat.mul_le_mul_right _ (by omega)) a4.1
        have a6 : 1 * 2 ^ (j + 1) ≤ (Qs.length - 1) * 2 ^ (j + 1) := Nat.mul_le_mul_right _ (by have := HQ2.out; omega)
        rw [Nat.pow_succ] at a5 a6
        omega
      have HJZ : Hid ((Qs.length - 1) * 2 ^ (j + 1) ≤ 1073741824 ∧ zs.length ≤ 2 ^ (j + 1)) := by
        have a3 := HLQ.out
        have a4 := HJ.out
        refine ⟨?_, by rw [Nat.pow_succ]; omega⟩
        have e1 : (Qs.length - 1) * 2 ^ (j + 1) = (2 * (Qs.length - 1)) * 2 ^ j := by rw [Nat.pow_succ, Nat.mul_comm (2 ^ j) 2, ← Nat.mul_assoc, Nat.mul_comm (Qs.length - 1) 2]
        rw [e1]
        exact Nat.le_trans (Nat.mul_le_mul_right _ (by omega)) a4.1
      have HLL : Hid (0 < Qs.length ∧ Qs.length ≤ 1000000000 ∧ Qs.length < gk) := by
        have a3 := HLQ.out
        have a4 := HQ2.out
        have a5 := HNN.out
        unfold Hid
        omega
      obtain ⟨za, zc, rfl⟩ := mZ.form
      clear mZ cZ hZ k2 HSQ HP1 HBQ HNQ HEQ HLT HC HJ K1 HS1 hvz hlz
      have HBZ2 : Hid (Bunch B0 w2 (.slice ca nq cc) Qs) := HBZ
      go_wp2
      go_roundg Qs.length
      case rel => exact ⟨Qs, zs, j + 1, rfl, HLL.out.1, HLL.out.2.1, .inr HQ2.out, HJZ, HBZ2, HZ, HCZ, HNZ, HEZ, K2, HS2⟩
      case measure => exact HLL.out.2.2
end Go.Proofs.YtdfnehngffajiabDoor
