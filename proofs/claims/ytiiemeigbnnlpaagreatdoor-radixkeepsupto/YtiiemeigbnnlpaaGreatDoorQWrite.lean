/-
  Write: a number's digits, written into a room, half by half.
-/
import Derived.Test.YtiiemeigbnnlpaaGreatDoorQBitsToWriteWord
import Derived.Test.YtiiemeigbnnlpaaGreatDoorQDivMod
namespace Go.Proofs.YtiiemeigbnnlpaaGreatDoor
open Go.RowKit
set_option linter.unusedVariables false

theorem Sl.touchB {w w' : World} {g : Nat} {L : List Int} {v : Value} {xs : List Int} (h : Sl w.heap.size w v xs) (hr : RowB w g L) (ht : Touch (· = g) w w') : Sl w'.heap.size w' v xs := by
  obtain ⟨hw, a, cap, rfl, hlc, hcm, hm⟩ := h
  refine ⟨hw, a, cap, rfl, hlc, hcm, ?_⟩
  rcases hm with e | ⟨b, off, rfl, hb, hc⟩
  · exact .inl e
  · refine .inr ⟨b, off, rfl, Nat.lt_of_lt_of_le hb ht.size, fun j hj => ?_⟩
    have hne : b ≠ g := by
      intro e
      subst e
      have h1 := hc j hj
      unfold RowB at hr
      simp [World.cell?, hr] at h1
    exact (ht.cell hb hne _).trans (hc j hj)
/-- A list of lists of words behind the address a. -/
def Lw (w : World) (a : Option Addr) (Xs : List (List Int)) : Prop :=
  Xs = [] ∨ ∃ b off, a = some ⟨b, off, none⟩ ∧ b < w.heap.size ∧ ∀ j (h : j < Xs.length), ∃ u, w.cell? ⟨b, off + j, none⟩ = some u ∧ Sl w.heap.size w u Xs[j]
theorem Lw.now {w w' : World} {a : Option Addr} {Xs : List (List Int)} (h : Lw w a Xs) (hb : Below w.heap.size w w') : Lw w' a Xs := by
  rcases h with e | ⟨b, off, rfl, h1, h2⟩
  · exact .inl e
  · refine .inr ⟨b, off, rfl, Nat.lt_of_lt_of_le h1 hb.size, fun j hj => ?_⟩
    obtain ⟨u, h3, h4⟩ := h2 j hj
    exact ⟨u, (hb.cell (p := ⟨b, off + j, none⟩) h1).trans h3, h4.now hb⟩
theorem Lw.touchB {w w' : World} {g : Nat} {L : List Int} {a : Option Addr} {Xs : List (List Int)} (h : Lw w a Xs) (hr : RowB w g L) (ht : Touch (· = g) w w') : Lw w' a Xs := by
  rcases h with e | ⟨b, off, rfl, h1, h2⟩
  · exact .inl e
  · refine .inr ⟨b, off, rfl, Nat.lt_of_lt_of_le h1 ht.size, fun j hj => ?_⟩
    obtain ⟨u, h3, h4⟩ := h2 j hj
    have hne : b ≠ g := by
      intro e
      subst e
      obtain ⟨_, _, _, rfl, _⟩ := h4
      unfold RowB at hr
      simp [World.cell?, hr] at h3
    exact ⟨u, (ht.cell h1 hne _).trans h3, h4.touchB hr ht⟩
theorem Lw.take {w : World} {a : Option Addr} {Xs : List (List Int)} (h : Lw w a Xs) (k : Nat) : Lw w a (Xs.take k) := by
  rcases h with e | ⟨b, off, rfl, h1, h2⟩
  · subst e; exact .inl (by simp)
  · exact .inr ⟨b, off, rfl, h1, fun j hj => by
      have hj' : j < Xs.length := by have := hj; simp at this; omega
      obtain ⟨u, h3, h4⟩ := h2 j hj'
      exact ⟨u, h3, by rw [List.getElem_take]; exact h4⟩⟩
/-- write is right with k powers. -/
def WriteOk (B : Nat) (M : Nat → Nat) (k : Nat) : Prop := ∀ (w : World) (g off cap pc : Nat) (L : List Int) (va : Value) (xs : List Int) (pa : Option Addr) (Ps : List (List Int)), RowB w g L → off + M k ≤ L.length → Sg w → g ≠ 0 → M k ≤ 1073741824 → M k ≤ cap → Sl w.heap.size w va xs → xs.length ≤ 1099511627776 → vn xs < B ^ M k →
  Ps.length = k → k ≤ 1000 → k ≤ pc → Lw w pa Ps → (∀ i (h : i < Ps.length), vn Ps[i] = B ^ M i ∧ Ps[i].length ≤ 1099511627776) →
  Calls Tryz.prog 32 #[.slice (some ⟨g, off, none⟩) (M k) cap, va, .int .i64 (B : Int), .slice pa k pc] w fun e w' => e = .returned (.tuple #[]) ∧ RowB w' g (wrote L off (M k) B (vn xs)) ∧ Touch (· = g) w w'
set_option maxHeartbeats 1600000 in
theorem write_zero {B : Nat} {M : Nat → Nat} (hB : 2 ≤ B) (hB2 : B ≤ 36) (hM : B ^ M 0 ≤ 18446744073709551616) : WriteOk B M 0 := by
  intro w g off cap pc L va xs pa Ps hr hm hT hg hml hmc ha hlx hv hl hk3 hk hL hP
  have HW := hid (writeWord_any hr hm hT hg hB hB2 hml hmc ha)
  rw [fstN_val ha.1 (by omega)] at HW
  obtain ⟨a, ac, rfl⟩ : ∃ a c, va = .slice a xs.length c := by obtain ⟨_, a, c, e, _⟩ := ha; exact ⟨a, c, e⟩
  clear hr hT ha hv hL hP
  generalize M 0 = m at *
  go_enter Tryz.func32, Tryz.ntmps32
  go_wp2_with fail
  refine HW.out.mono ?_
  rintro e w' ⟨rfl, h1, h2⟩
  have H1 := hid h1
  have H2 := hid h2
  clear h1 h2 HW
  go_wp2
  (try simp only [Exit.inBlock, Exit.then])
  refine bodyPost_ret (results_none rfl _ _ _) rfl ?_
  exact ⟨rfl, H1.out, H2.out⟩
set_option maxRecDepth 100000 in
set_option maxHeartbeats 6400000 in
theorem write_succ {B : Nat} {M : Nat → Nat} {k : Nat} (hB : 2 ≤ B) (hMp : 0 < M k) (hM : M (k + 1) = M k + M k) (ih : WriteOk B M k) : WriteOk B M (k + 1) := by
  intro w g off cap pc L va xs pa Ps hr hm hT hg hml hmc ha hlx hv hl hk3 hk hL hP
  rw [hM] at hm hml hmc hv ⊢
  have hkl : k < Ps.length := by omega
  obtain ⟨hpv, hpl⟩ := hP k hkl
  rcases hL with e | ⟨pb, po, rfl, hpb, hpc⟩
  · rw [e] at hl; simp at hl
  have HL : Hid (Lw w (some ⟨pb, po, none⟩) Ps) := .inr ⟨pb, po, rfl, hpb, hpc⟩
  obtain ⟨u, cu, su⟩ := hpc k hkl
  have hpos : 0 < B ^ M k := Nat.pow_pos (by omega)
  have hwid : wid Ps[k] ≠ 0 := by
    intro e
    have h1 := val_vn su.1
    rw [wid_zero_val _ e, hpv] at h1
    omega
  have HD := hid (divMod_any ha su hwid hlx hpl)
  have HR := hid hr
  have HT := hid hT
  have HP := hid hP
  have HX := hid ha.1
  obtain ⟨a, ac, rfl⟩ : ∃ a c, va = .slice a xs.length c := by obtain ⟨_, a, c, e, _⟩ := ha; exact ⟨a, c, e⟩
  obtain ⟨ua, uc, rfl⟩ : ∃ a c, u = .slice a Ps[k].length c := by obtain ⟨_, a, c, e, _⟩ := su; exact ⟨a, c, e⟩
  have HV : Hid (val xs = (vn xs : Int) ∧ val Ps[k] = ((B ^ M k : Nat) : Int)) := ⟨val_vn HX.out, by rw [val_vn su.1, hpv]⟩
  have HLT := hid hv
  have HPS := hid hpos
  have HIH := hid ih
  have HLN := hid hl
  clear hr hT ha su hv hP hpc hpv hpl hwid ih
  have HTK : Hid ((Ps.take k).length = k) := by unfold Hid; rw [List.length_take, HLN.out]; omega
  have HPT : Hid (∀ i (h : i < (Ps.take k).length), vn (Ps.take k)[i] = B ^ M i ∧ (Ps.take k)[i].length ≤ 1099511627776) := fun i h => by
    have hi : i < Ps.length := by have := HTK.out; have := HLN.out; omega
    rw [List.getElem_take]
    exact HP.out i hi
  have HLK := hid (HL.out.take k)
  have hlk : k < pc := by omega
  generalize hlp : Ps[k].length = lp at *
  have HM0 : Hid (M k = M k) := rfl
  generalize hMk : M k = h at *
  have HC : Hid (∀ (w1 : World) (L1 : List Int) (off1 cap1 : Nat) (v : Value) (zs : List Int), RowB w1 g L1 → off1 + h ≤ L1.length → Sg w1 → h ≤ cap1 → Sl w1.heap.size w1 v zs → zs.length ≤ 1099511627776 → vn zs < B ^ h → Lw w1 (some ⟨pb, po, none⟩) (Ps.take k) →
      Calls Tryz.prog 32 #[.slice (some ⟨g, off1, none⟩) h cap1, v, .int .i64 (B : Int), .slice (some ⟨pb, po, none⟩) k pc] w1 fun e w' => e = .returned (.tuple #[]) ∧ RowB w' g (wrote L1 off1 h B (vn zs)) ∧ Touch (· = g) w1 w') := fun w1 L1 off1 cap1 v zs h1 h2 h3 h4 h5 h6 h7 h8 => by
    have := HIH.out w1 g off1 cap1 pc L1 v zs (some ⟨pb, po, none⟩) (Ps.take k) h1 (by rw [hMk]; exact h2) h3 hg (by rw [hMk]; omega) (by rw [hMk]; exact h4) h5 h6 (by rw [hMk]; exact h7) HTK.out (by omega) (by omega) h8 HPT.out
    rw [hMk] at this
    exact this
  clear HIH HM0 hMk hM HL HP HPT
  obtain ⟨m, hm2⟩ : ∃ m, m = h + h := ⟨_, rfl⟩
  obtain ⟨n1, hn1⟩ : ∃ n1, n1 = k + 1 := ⟨_, rfl⟩
  have HM2 := hid hm2
  rw [← hm2] at hm hml hmc ⊢
  rw [← hn1]
  have e1 : (m : Int) / 2 = (h : Int) := by omega
  have e2 : (m : Int).tdiv 2 = (h : Int) := by rw [Int.tdiv_eq_ediv_of_nonneg (by omega)]; exact e1
  have e3 : (n1 : Int) - 1 = (k : Int) := by omega
  have z1 : ((n1 : Int) == 0) = false := by rw [beq_eq_false_iff_ne]; omega
  have hhm : h ≤ m := by omega
  have hkn : k < n1 := by omega
  have hk9 : k < 1000 := by omega
  clear hm2 hn1
  go_enter Tryz.func32, Tryz.ntmps32
  go_wp2_with fail
  refine HD.out.mono ?_
  rintro e w1 ⟨qs, rs, q, r, rfl, oq, or_, cq, cr, hdv, hlt, lq, lr, two, bl⟩
  have HR1 := hid (HR.out.now bl)
  have HT1 := hid (HT.out.now bl)
  have HL1 := hid (HLK.out.now bl)
  have HBL := hid bl
  have SQ := hid oq.sl
  have SR := hid or_.sl
  have HVQ : Hid (vn qs = vn xs / B ^ h ∧ vn rs = vn xs % B ^ h) := by
    have a1 := HV.out
    have a2 := val_vn cq.1
    have a3 := val_vn cr.1
    rw [a1.1, a1.2, a2, a3] at hdv
    rw [a1.2, a3] at hlt
    have hdv2 : vn xs = B ^ h * vn qs + vn rs := by
      have : ((vn xs : Nat) : Int) = ((B ^ h * vn qs + vn rs : Nat) : Int) := by rw [hdv]; simp
      exact Int.ofNat.inj this
    have hlt2 : vn rs < B ^ h := by omega
    unfold Hid
    rw [hdv2]
    exact ⟨by rw [Nat.mul_add_div HPS.out, Nat.div_eq_of_lt hlt2]; rfl, by rw [Nat.mul_add_mod, Nat.mod_eq_of_lt hlt2]⟩
  have HQL : Hid (qs.length ≤ 1099511627776 ∧ rs.length ≤ 1099511627776) := ⟨by omega, by omega⟩
  have HQ1 : Hid (vn qs < B ^ h ∧ vn rs < B ^ h) := by
    unfold Hid
    rw [HVQ.out.1, HVQ.out.2]
    refine ⟨Nat.div_lt_of_lt_mul ?_, Nat.mod_lt _ HPS.out⟩
    rw [← Nat.pow_add]; exact HLT.out
  obtain ⟨qa, qc, rfl⟩ := oq.form
  obtain ⟨sa, sc, rfl⟩ := or_.form
  clear bl oq or_ cq cr hdv hlt lq lr two HD HR HT HLK cu
  go_wp2_with fail
  have HC1 : Hid (∀ w', Below w1.heap.size w1 w' → Calls Tryz.prog 32 #[.slice (some ⟨g, off, none⟩) h cap, .slice qa qs.length qc, .int .i64 (B : Int), .slice (some ⟨pb, po, none⟩) k pc] w' fun e w'' => e = .returned (.tuple #[]) ∧ RowB w'' g (wrote L off h B (vn qs)) ∧ Touch (· = g) w1 w'') := fun w' hb =>
    (HC.out w' L off cap (.slice qa qs.length qc) qs (HR1.out.now hb) (by omega) (HT1.out.now hb) (by omega) (SQ.out.now hb) HQL.out.1 HQ1.out.1 (HL1.out.now hb)).mono fun e w'' ⟨h1, h2, h3⟩ => ⟨h1, h2, (Touch.ofBelow hb).trans h3⟩
  have hhc : h ≤ cap := by omega
  have hkp : (k : Int) ≤ (pc : Int) := by omega
  have hkp2 : k ≤ pc := by omega
  go_region_held3 (fun _ => True) (trivial)
    (first
      | (go_at_call 32; refine (HC1.out _ ?_).mono ?_; (repeat (first | exact Below.refl _ _ | apply Below.drew)); rintro e w2 ⟨rfl, r2, t2⟩; have R2 := hid r2; have T2 := hid t2; clear r2 t2))
  have emh : m - h = h := by have := HM2.out; omega
  have HLW : Hid ((wrote L off h B (vn qs)).length = L.length) := wrote_len (by omega)
  have HT2 := hid (HT1.out.touch T2.out (fun q => hg q.symm))
  have HL2 := hid (HL1.out.touchB HR1.out T2.out)
  have SR2 := hid (SR.out.touchB HR1.out T2.out)
  have HFIN : Hid (wrote (wrote L off h B (vn qs)) (off + h) h B (vn rs) = wrote L off m B (vn xs)) := by
    unfold Hid
    rw [HVQ.out.1, HVQ.out.2, HM2.out]
    exact wrote_two (by have := HM2.out; omega)
  have HC2 : Hid (∀ w', Below w2.heap.size w2 w' → Calls Tryz.prog 32 #[.slice (some ⟨g, off + h, none⟩) h (cap - h), .slice sa rs.length sc, .int .i64 (B : Int), .slice (some ⟨pb, po, none⟩) k pc] w' fun e w'' => e = .returned (.tuple #[]) ∧ RowB w'' g (wrote L off m B (vn xs)) ∧ Touch (· = g) w1 w'') := fun w' hb =>
    (HC.out w' (wrote L off h B (vn qs)) (off + h) (cap - h) (.slice sa rs.length sc) rs (R2.out.now hb) (by rw [HLW.out]; have := HM2.out; omega) (HT2.out.now hb) (by have := HM2.out; omega) (SR2.out.now hb) HQL.out.2 HQ1.out.2 (HL2.out.now hb)).mono fun e w'' ⟨h1, h2, h3⟩ => ⟨h1, by rw [← HFIN.out]; exact h2, T2.out.trans ((Touch.ofBelow hb).trans h3)⟩
  have hhm2 : (h : Int) ≤ (m : Int) := by omega
  have hcn : cap ≠ h := by have := HM2.out; omega
  have hmc2 : (m : Int) ≤ (cap : Int) := by omega
  clear HC HC1 HR1 HT1 HL1 SQ SR HFIN HLW HT2 HL2 SR2 R2
  go_wp2_with fail
  go_region_held3 (fun _ => True) (trivial)
    (first
      | (go_at_call 32; (try rw [emh]); refine (HC2.out _ ?_).mono ?_; (repeat (first | exact Below.refl _ _ | apply Below.drew)); rintro e w3 ⟨rfl, r3, t3⟩; have R3 := hid r3; have T3 := hid t3; clear r3 t3))
  all_goals (try go_wp2)
  all_goals go_end0
  all_goals exact ⟨rfl, R3.out, (Touch.ofBelow HBL.out).trans T3.out⟩
theorem double_pos {M : Nat → Nat} (h0 : 0 < M 0) (hM : ∀ k, M (k + 1) = M k + M k) : ∀ k, 0 < M k
  | 0 => h0
  | k + 1 => by rw [hM]; have := double_pos h0 hM k; omega
theorem write_any {B : Nat} {M : Nat → Nat} (hB : 2 ≤ B) (hB2 : B ≤ 36) (hM0 : B ^ M 0 ≤ 18446744073709551616) (hp : 0 < M 0) (hM : ∀ k, M (k + 1) = M k + M k) : ∀ k, WriteOk B M k
  | 0 => write_zero hB hB2 hM0
  | k + 1 => write_succ hB (double_pos hp hM k) (hM k) (write_any hB hB2 hM0 hp hM k)
end Go.Proofs.YtiiemeigbnnlpaaGreatDoor
