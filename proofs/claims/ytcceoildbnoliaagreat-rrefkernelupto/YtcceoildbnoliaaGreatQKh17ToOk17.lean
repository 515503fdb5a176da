/-
  QKh17ToOk17: Kh17, Oo17, Ok17, joined.
-/
import Derived.Test.YtcceoildbnoliaaGreatQCc17ToAw17
import Derived.Test.YtcceoildbnoliaaGreatQCk17ToCj17
import Derived.Test.YtcceoildbnoliaaGreatQNb17ToLi17
import Derived.Test.YtcceoildbnoliaaGreatQEc17
import Derived.Test.YtcceoildbnoliaaGreatQExt6ToRf11

/- Kh17 -/
namespace Go.Proofs.YtcceoildbnoliaaGreat
open Go.RowKit
open Q17 (Rref Eqv Comb sm vm dlt frL)
set_option linter.unusedVariables false
set_option linter.unusedSimpArgs false

theorem ckv_zero17 {r c : Int} {l : Nat} {Q : Nat → Int} {x : Int} (h : ckv r c l Q x) (hs : Snd r c l) (hz : ∀ t, t < l → Q t ≠ 0) : x = 0 := by
  rcases h with ⟨h1, h2⟩ | ⟨h1, h2, t, ht, h3⟩ | ⟨h1, h2, h3⟩
  · exact absurd hs h2
  · exact absurd h3 (hz t ht)
  · exact h1
set_option maxHeartbeats 3200000 in
set_option maxRecDepth 100000 in
theorem rker_bad {w : World} {r c : Int} {a : Option Addr} {l cap k : Nat} {P Q : Nat → Int} (hv : Qs w (.slice a l cap) l P Q k) (hk : k ≤ 1048576) (hb : ¬ Snd r c l ∨ ∃ t, t < l ∧ Q t = 0) :
    Calls Tryz.prog 4 #[.agg #[.int .i64 r, .int .i64 c, .slice a l cap]] w fun e w' => e = .returned (.bool true) ∧ Below w.heap.size w w' := by
  have HB : Hid (¬ Snd r c l ∨ ∃ t, t < l ∧ Q t = 0) := hb
  obtain ⟨W0, hV⟩ : ∃ W0, w.alloc (.cells #[.int .i64 r, .int .i64 c, .slice a l cap] 24) = W0 := ⟨_, rfl⟩
  obtain ⟨b0, sz0⟩ := alo1 w (.cells #[.int .i64 r, .int .i64 c, .slice a l cap] 24)
  rw [hV] at b0 sz0
  have CQ : Hid (Cel W0 w.heap.size 24 [.int .i64 r, .int .i64 c, .slice a l cap]) := by unfold Hid; rw [← hV]; exact Cel.new w _ _
  have HV := hid (hv.now b0)
  have G := hid b0
  have EV := hid hV
  have H := hid (awake17 (w := W0))
  clear b0 sz0 hV hv hb
  go_enter Tryz.func4, Tryz.ntmps4
  go_wp2_with fail
  rw [EV.out]
  refine H.out.mono ?_
  rintro e w1 ⟨rfl, b⟩
  clear H  EV
  replace CQ := hid (CQ.out.step b)
  replace HV := hid (HV.out.now b)
  replace G := hid (below_step G.out b)
  have H := hid (kernel_bad HV.out HB.out)
  have xCQ0 := CQ.out.at (i := 0) rfl
  have xCQ1 := CQ.out.at (i := 1) rfl
  have xCQ2 := CQ.out.at (i := 2) rfl
  go_wp2_with fail
  refine H.out.mono ?_
  rintro e w2 ⟨code, rfl, hc0, hco, b⟩
  clear H xCQ0 xCQ1 xCQ2
  replace CQ := hid (CQ.out.step b)
  replace HV := hid (HV.out.now b)
  replace G := hid (below_step G.out b)
  have HCO := hid hco.ckv
  clear b hco
  obtain ⟨V1CI, hV⟩ : ∃ V, w2.alloc (.cells #[.int .i64 0, .int .i64 0, .slice none 0 0] 24) = V := ⟨_, rfl⟩
  obtain ⟨bv, szv⟩ := alo1 w2 (.cells #[.int .i64 0, .int .i64 0, .slice none 0 0] 24)
  rw [hV] at bv szv
  replace CQ := hid (CQ.out.step bv)
  replace HV := hid (HV.out.now bv)
  replace G := hid (below_step G.out bv)
  have CI : Hid (Cel V1CI w2.heap.size 24 [.int .i64 0, .int .i64 0, .slice none 0 0]) := by unfold Hid; rw [← hV]; exact Cel.new w2 _ _
  have EV := hid hV
  clear bv szv
  have H0 := hid hc0
  clear hc0
  have H := hid (rcheck17 (r := r) (c := c) HV.out (by omega))
  have xCQ0 := CQ.out.at (i := 0) rfl
  have xCQ1 := CQ.out.at (i := 1) rfl
  have xCQ2 := CQ.out.at (i := 2) rfl
  rw [← hV] at xCQ0 xCQ1 xCQ2
  clear hV
  go_wp2_with fail
  rw [EV.out]
  refine H.out.mono ?_
  rintro e w3 ⟨code', rfl, hk', b⟩
  clear H xCQ0 xCQ1 xCQ2 EV
  replace CQ := hid (CQ.out.step b)
  replace HV := hid (HV.out.now b)
  replace CI := hid (CI.out.step b)
  replace G := hid (below_step G.out b)
  obtain rfl := ckv.same hk' HCO.out
  have n0 : ¬ code' = 0 := H0.out
  have q2 : (code' != 0) = true := by simp [n0]
  clear b hk' HCO H0
  have xCI2 := CI.out.at (i := 2) rfl
  clear CQ HV CI
  go_wp2
  go_ret
  exact ⟨rfl, G.out⟩
set_option maxHeartbeats 6400000 in
set_option maxRecDepth 100000 in
theorem rker_yes {w : World} {rn cn : Nat} {a : Option Addr} {l cap : Nat} {P Q : Nat → Int} {u : Nat → Nat} (hv : Qs w (.slice a l cap) l P Q 1048576) (hl : l = rn * cn) (hr : rn ≤ 64) (hcn : cn ≤ 64) (hwd : Wd17 (rn * cn) P Q u 1048576) :
    Calls Tryz.prog 4 #[.agg #[.int .i64 (rn : Int), .int .i64 (cn : Int), .slice a l cap]] w fun e w' => e = .returned (.bool true) ∧ Below w.heap.size w w' := by
  have hS : Snd (rn : Int) (cn : Int) l := ⟨by omega, by omega, by omega, by omega, by rw [hl]; exact Int.natCast_mul _ _⟩
  have HS : Hid (Snd (rn : Int) (cn : Int) l) := hS
  have HNZ : Hid (∀ t, t < l → Q t ≠ 0) := by unfold Hid; rw [hl]; exact hwd.nz
  have HWD := hid hwd
  have HL := hid hl
  have HR := hid hr
  have HC := hid hcn
  obtain ⟨W0, hV⟩ : ∃ W0, w.alloc (.cells #[.int .i64 (rn : Int), .int .i64 (cn : Int), .slice a l cap] 24) = W0 := ⟨_, rfl⟩
  obtain ⟨b0, sz0⟩ := alo1 w (.cells #[.int .i64 (rn : Int), .int .i64 (cn : Int), .slice a l cap] 24)
  rw [hV] at b0 sz0
  have CQ : Hid (Cel W0 w.heap.size 24 [.int .i64 (rn : Int), .int .i64 (cn : Int), .slice a l cap]) := by unfold Hid; rw [← hV]; exact Cel.new w _ _
  have HV := hid (hv.now b0)
  have G := hid b0
  have EV := hid hV
  have H := hid (awake17 (w := W0))
  clear b0 sz0 hV hv hl hr hcn hwd hS
  go_enter Tryz.func4, Tryz.ntmps4
  go_wp2_with fail
  rw [EV.out]
  refine H.out.mono ?_
  rintro e w1 ⟨rfl, b⟩
  clear H  EV
  replace CQ := hid (CQ.out.step b)
  replace HV := hid (HV.out.now b)
  replace G := hid (below_step G.out b)
  have H := hid (kernel_yes (KW := 1048641) HV.out HL.out HR.out HC.out HNZ.out (by omega) (by omega) (up_kw HWD.out HC.out (by omega)) (by omega) (by omega))
  have xCQ0 := CQ.out.at (i := 0) rfl
  have xCQ1 := CQ.out.at (i := 1) rfl
  have xCQ2 := CQ.out.at (i := 2) rfl
  go_wp2_with fail
  refine H.out.mono ?_
  rintro e w2 ⟨E, pv, m, ak, ck, Ck, hRR, hEE, hm, rfl, hO, hz, b⟩
  clear H xCQ0 xCQ1 xCQ2
  replace CQ := hid (CQ.out.step b)
  replace HV := hid (HV.out.now b)
  replace G := hid (below_step G.out b)
  have HRR := hid hRR
  have HEE := hid hEE
  have HM := hid hm
  have HM2 : Hid (m ≤ 64) := by unfold Hid; have := frL_len_le rn pv; have := HR.out; omega
  have HMN : Hid (m * rn ≤ 4096) := Nat.mul_le_mul HM2.out HR.out
  have QK : Hid (Qc w2 (.slice ak (m * rn) ck) (m * rn) (krR rn E pv) 1048641) := hO.qc (by have := HMN.out; omega) hz
  have HWK := hid QK.out.wd
  have QZ := hid QK.out.qs
  have HVK := hid (HV.out.more (show 1048576 ≤ 1048641 by omega))
  clear hO hz b hRR hEE hm
  obtain ⟨V1CK, hV⟩ : ∃ V, w2.alloc (.cells #[.int .i64 (m : Int), .int .i64 (rn : Int), .slice ak (m * rn) ck] 24) = V := ⟨_, rfl⟩
  obtain ⟨bv, szv⟩ := alo1 w2 (.cells #[.int .i64 (m : Int), .int .i64 (rn : Int), .slice ak (m * rn) ck] 24)
  rw [hV] at bv szv
  replace CQ := hid (CQ.out.step bv)
  replace HV := hid (HV.out.now bv)
  replace QK := hid (QK.out.now bv)
  replace QZ := hid (QZ.out.now bv)
  replace HVK := hid (HVK.out.now bv)
  replace G := hid (below_step G.out bv)
  have CK : Hid (Cel V1CK w2.heap.size 24 [.int .i64 (m : Int), .int .i64 (rn : Int), .slice ak (m * rn) ck]) := by unfold Hid; rw [← hV]; exact Cel.new w2 _ _
  have EV := hid hV
  clear bv szv
  have H := hid (rcheck17 (r := (rn : Int)) (c := (cn : Int)) HV.out (by omega))
  have xCQ0 := CQ.out.at (i := 0) rfl
  have xCQ1 := CQ.out.at (i := 1) rfl
  have xCQ2 := CQ.out.at (i := 2) rfl
  rw [← hV] at xCQ0 xCQ1 xCQ2
  clear hV
  go_wp2_with fail
  rw [EV.out]
  refine H.out.mono ?_
  rintro e w3 ⟨code, rfl, hco, b⟩
  clear H xCQ0 xCQ1 xCQ2 EV
  replace CQ := hid (CQ.out.step b)
  replace HV := hid (HV.out.now b)
  replace QK := hid (QK.out.now b)
  replace QZ := hid (QZ.out.now b)
  replace HVK := hid (HVK.out.now b)
  replace CK := hid (CK.out.step b)
  replace G := hid (below_step G.out b)
  obtain rfl := ckv_zero17 hco HS.out HNZ.out
  clear hco b
  have H := hid (form_yes (KW := 1048641) HV.out HL.out HR.out HC.out HNZ.out (by omega) (by omega) (form_kw2 HWD.out HR.out (by omega)) (by omega) (by omega))
  have xCQ0 := CQ.out.at (i := 0) rfl
  have xCQ1 := CQ.out.at (i := 1) rfl
  have xCQ2 := CQ.out.at (i := 2) rfl
  go_wp2_with fail
  refine H.out.mono ?_
  rintro e w4 ⟨gf, va, pl, vc, E', cols, rfl, hpl, hF, hI, hR', hE', b⟩
  clear H xCQ0 xCQ1 xCQ2
  replace CQ := hid (CQ.out.step b)
  replace HV := hid (HV.out.now b)
  replace QK := hid (QK.out.now b)
  replace QZ := hid (QZ.out.now b)
  replace HVK := hid (HVK.out.now b)
  replace CK := hid (CK.out.step b)
  replace G := hid (below_step G.out b)
  have hpp : m + pl = rn := by rw [← hpl]; exact ker_rank HRR.out HEE.out HM.out hR' hE'
  clear hF hI hR' hE' hpl b
  have HPP := hid hpp
  clear hpp
  obtain ⟨V2CF, hV⟩ : ∃ V, w4.alloc (.cells #[.int .i64 (rn : Int), .int .i64 (cn : Int), .slice (some ⟨gf, 0, none⟩) (rn * cn) (rn * cn)] 24) = V := ⟨_, rfl⟩
  obtain ⟨bv, szv⟩ := alo1 w4 (.cells #[.int .i64 (rn : Int), .int .i64 (cn : Int), .slice (some ⟨gf, 0, none⟩) (rn * cn) (rn * cn)] 24)
  rw [hV] at bv szv
  replace CQ := hid (CQ.out.step bv)
  replace HV := hid (HV.out.now bv)
  replace QK := hid (QK.out.now bv)
  replace QZ := hid (QZ.out.now bv)
  replace HVK := hid (HVK.out.now bv)
  replace CK := hid (CK.out.step bv)
  replace G := hid (below_step G.out bv)
  have CF : Hid (Cel V2CF w4.heap.size 24 [.int .i64 (rn : Int), .int .i64 (cn : Int), .slice (some ⟨gf, 0, none⟩) (rn * cn) (rn * cn)]) := by unfold Hid; rw [← hV]; exact Cel.new w4 _ _
  have EV := hid hV
  clear bv szv
  have HK9 : Hid (m * rn * (2 * 1048641) + 65 ≤ 8590467137) := by unfold Hid; have := HMN.out; omega
  have H := hid (form_yes (KW := 8590467137) QZ.out rfl HM2.out HR.out (fun t _ => dnR_ne (krR rn E pv) t) (show 1048641 ≤ 400000000 by omega) (show 1 ≤ 1048641 by omega) (form_kw2 HWK.out HM2.out HK9.out) (by omega) (by omega))
  have xCK0 := CK.out.at (i := 0) rfl
  have xCK1 := CK.out.at (i := 1) rfl
  have xCK2 := CK.out.at (i := 2) rfl
  rw [← hV] at xCK0 xCK1 xCK2
  clear hV
  go_wp2_with fail
  rw [EV.out]
  refine H.out.mono ?_
  rintro e w5 ⟨gg, vb, ph, vh, E2, hd, rfl, hph, hF, hI, hR2, hE2, b⟩
  clear H xCK0 xCK1 xCK2 EV
  replace CQ := hid (CQ.out.step b)
  replace HV := hid (HV.out.now b)
  replace QK := hid (QK.out.now b)
  replace QZ := hid (QZ.out.now b)
  replace HVK := hid (HVK.out.now b)
  replace CK := hid (CK.out.step b)
  replace CF := hid (CF.out.step b)
  replace G := hid (below_step G.out b)
  obtain ⟨h1, h2⟩ := ker_heads HRR.out HM.out hR2 hE2
  obtain rfl : m = ph := h1.symm.trans hph
  have HH := hid h2
  have HPH := hid hph
  have IV := hid hI
  clear hF hI hR2 hE2 hph h1 h2 b HK9 HWK
  obtain ⟨V3CG, hV⟩ : ∃ V, w5.alloc (.cells #[.int .i64 (m : Int), .int .i64 (rn : Int), .slice (some ⟨gg, 0, none⟩) (m * rn) (m * rn)] 24) = V := ⟨_, rfl⟩
  obtain ⟨bv, szv⟩ := alo1 w5 (.cells #[.int .i64 (m : Int), .int .i64 (rn : Int), .slice (some ⟨gg, 0, none⟩) (m * rn) (m * rn)] 24)
  rw [hV] at bv szv
  replace CQ := hid (CQ.out.step bv)
  replace HV := hid (HV.out.now bv)
  replace QK := hid (QK.out.now bv)
  replace QZ := hid (QZ.out.now bv)
  replace HVK := hid (HVK.out.now bv)
  replace CK := hid (CK.out.step bv)
  replace CF := hid (CF.out.step bv)
  replace IV := hid (IV.out.now bv)
  replace G := hid (below_step G.out bv)
  have CG : Hid (Cel V3CG w5.heap.size 24 [.int .i64 (m : Int), .int .i64 (rn : Int), .slice (some ⟨gg, 0, none⟩) (m * rn) (m * rn)]) := by unfold Hid; rw [← hV]; exact Cel.new w5 _ _
  have EV := hid hV
  clear bv szv
  have hadd : IntKind.i64.wrap ((m : Int) + (pl : Int)) = (rn : Int) := by have := HPP.out; have := HR.out; rw [wrap_is] <;> omega
  have q1 : ((rn : Int) != (rn : Int)) = false := by simp
  have q3 : ((m : Int) != (m : Int)) = false := by simp
  have H := hid (echelon17 QK.out rfl HM2.out HR.out (by omega) HH.out IV.out HPH.out)
  have xCK0 := CK.out.at (i := 0) rfl
  have xCK1 := CK.out.at (i := 1) rfl
  have xCK2 := CK.out.at (i := 2) rfl
  have xCQ0 := CQ.out.at (i := 0) rfl
  have xCQ1 := CQ.out.at (i := 1) rfl
  rw [← hV] at xCK0 xCK1 xCK2 xCQ0 xCQ1
  clear hV
  go_wp2_with fail
  rw [EV.out]
  refine H.out.mono ?_
  rintro e w6 ⟨rfl, b⟩
  clear H xCK0 xCK1 xCK2 xCQ0 xCQ1 EV
  replace CQ := hid (CQ.out.step b)
  replace HV := hid (HV.out.now b)
  replace QK := hid (QK.out.now b)
  replace QZ := hid (QZ.out.now b)
  replace HVK := hid (HVK.out.now b)
  replace CK := hid (CK.out.step b)
  replace CF := hid (CF.out.step b)
  replace IV := hid (IV.out.now b)
  replace CG := hid (CG.out.step b)
  replace G := hid (below_step G.out b)
  clear b IV HH HPH CF CG q1 q3 hadd
  have H := hid (mul_yes17 QZ.out HVK.out rfl HL.out HM2.out HR.out HC.out (fun t _ => dnR_ne (krR rn E pv) t) HNZ.out (show 1048641 ≤ 200000000 by omega) (show 1 ≤ 1048641 by omega))
  have xCK0 := CK.out.at (i := 0) rfl
  have xCK1 := CK.out.at (i := 1) rfl
  have xCK2 := CK.out.at (i := 2) rfl
  have xCQ0 := CQ.out.at (i := 0) rfl
  have xCQ1 := CQ.out.at (i := 1) rfl
  have xCQ2 := CQ.out.at (i := 2) rfl
  go_wp2_with fail
  refine H.out.mono ?_
  rintro e w7 ⟨ap, cp, Cp, rfl, hO, hz, b⟩
  clear H xCK0 xCK1 xCK2 xCQ0 xCQ1 xCQ2
  replace CQ := hid (CQ.out.step b)
  replace HV := hid (HV.out.now b)
  replace QK := hid (QK.out.now b)
  replace QZ := hid (QZ.out.now b)
  replace HVK := hid (HVK.out.now b)
  replace CK := hid (CK.out.step b)
  replace G := hid (below_step G.out b)
  have HMC : Hid (m * cn ≤ 4096) := Nat.mul_le_mul HM2.out HC.out
  have QP : Hid (Qc w7 (.slice ap (m * cn) cp) (m * cn) (fun t => mlF rn cn (nmR (krR rn E pv)) (dnR (krR rn E pv)) P Q (t / cn) (t % cn)) (2 * (129 * 1048641 + 2) + 64)) := hO.qc (by have := HMC.out; omega) hz
  clear hO hz b
  obtain ⟨V4CP, hV⟩ : ∃ V, w7.alloc (.cells #[.int .i64 (m : Int), .int .i64 (cn : Int), .slice ap (m * cn) cp] 24) = V := ⟨_, rfl⟩
  obtain ⟨bv, szv⟩ := alo1 w7 (.cells #[.int .i64 (m : Int), .int .i64 (cn : Int), .slice ap (m * cn) cp] 24)
  rw [hV] at bv szv
  replace CQ := hid (CQ.out.step bv)
  replace HV := hid (HV.out.now bv)
  replace QK := hid (QK.out.now bv)
  replace QZ := hid (QZ.out.now bv)
  replace HVK := hid (HVK.out.now bv)
  replace CK := hid (CK.out.step bv)
  replace QP := hid (QP.out.now bv)
  replace G := hid (below_step G.out bv)
  have CP : Hid (Cel V4CP w7.heap.size 24 [.int .i64 (m : Int), .int .i64 (cn : Int), .slice ap (m * cn) cp]) := by unfold Hid; rw [← hV]; exact Cel.new w7 _ _
  have EV := hid hV
  clear bv szv
  have H := hid (blank17 (r := (m : Int)) (c := (cn : Int)) QP.out.qs fun t ht => by rw [ker_prod HRR.out HEE.out HM.out ht]; rfl)
  have xCP0 := CP.out.at (i := 0) rfl
  have xCP1 := CP.out.at (i := 1) rfl
  have xCP2 := CP.out.at (i := 2) rfl
  rw [← hV] at xCP0 xCP1 xCP2
  clear hV
  go_wp2_with fail
  rw [EV.out]
  refine H.out.mono ?_
  rintro e w8 ⟨rfl, b⟩
  clear H xCP0 xCP1 xCP2 EV
  replace CQ := hid (CQ.out.step b)
  replace HV := hid (HV.out.now b)
  replace QK := hid (QK.out.now b)
  replace QZ := hid (QZ.out.now b)
  replace HVK := hid (HVK.out.now b)
  replace CK := hid (CK.out.step b)
  replace QP := hid (QP.out.now b)
  replace CP := hid (CP.out.step b)
  replace G := hid (below_step G.out b)
  have q1 : ((m : Int) == (m : Int)) = true := by simp
  have q2 : ((cn : Int) == (cn : Int)) = true := by simp
  have xCP0 := CP.out.at (i := 0) rfl
  have xCP1 := CP.out.at (i := 1) rfl
  have xCK0 := CK.out.at (i := 0) rfl
  have xCQ1 := CQ.out.at (i := 1) rfl
  clear CQ HV QK QZ HVK CK QP CP HRR HEE HM b
  go_wp2
  go_ret
  exact ⟨rfl, G.out⟩
end Go.Proofs.YtcceoildbnoliaaGreat

/- Oo17 -/
namespace Go.Proofs.YtcceoildbnoliaaGreat
open Go.ChangeShapes Go.WideShapes Go.ChangeAt Go.RowKit
set_option linter.unusedVariables false

theorem Tryz.cellsF17 : Tryz.prog.cellsOf 47 = 4 := by kernel_rfl
theorem Tryz.cellsQ17 : Tryz.prog.cellsOf 24 = 3 := by kernel_rfl
theorem Tryz.cellsI17 : Tryz.prog.cellsOf 3 = 1 := by kernel_rfl
theorem Tryz.cellsL17 : Tryz.prog.cellsOf 22 = 1 := by kernel_rfl
theorem ksum_end : ∀ (l : List Nat) (k : Nat), ksum (l ++ [k]) = ksum l + k
  | [], k => by simp [ksum]
  | x :: r, k => by rw [List.cons_append, ksum_cons, ksum_cons, ksum_end r k]; omega
theorem sn_ksum : ∀ (n : Nat) (f : Nat → Nat), sn n f = ksum ((List.range n).map f)
  | 0, f => rfl
  | n + 1, f => by
    rw [List.range_succ, List.map_append, List.map_cons, List.map_nil, ksum_end, ← sn_ksum n f]; rfl
/-- The words of a list of fractions, zeros below or not. -/
def Wq17 (n : Nat) (P Q : Nat → Int) : Prop := ∃ u : Nat → Nat, (∀ t, t < n → ∃ a b, ((P t).natAbs : Int) ≤ pw a ∧ ((Q t).natAbs : Int) ≤ pw b ∧ a + b ≤ u t) ∧ sn n u ≤ 1048576
set_option maxRecDepth 100000 in
/-- One fraction, read. -/
theorem open_frac17 {H : Type} {enc : TypeId × Value → H} {W : World} {fuel : Nat} {cs : List Value} {x : DataW H × List MemPlace}
    (hf : DataW.trod enc Tryz.prog W 0 (fun _ => true) true fuel 47 cs = some x) (hb : Rows.uptoBulk x.1 ≤ 1048576) :
    ∃ x0 x1 x2 x3 p q k l, cs = [x0, x1, x2, x3] ∧ Zi W (.agg #[x0, x1]) p k ∧ Zi W (.agg #[x2, x3]) q l ∧ k + l + 1 ≤ Rows.uptoBulk x.1 := by
  obtain ⟨y0, y1, n, hx, hl, t0, t1⟩ := trod_struct2 Tryz.underlying47 hf
  rw [Tryz.cellsF17] at hl
  rw [hx] at hb ⊢
  simp only [Rows.uptoBulk, Rows.uptoBulkAll] at hb ⊢
  match cs, hl with
  | [e0, e1, e2, e3], _ =>
    simp only [Tryz.cellsZ, List.drop_zero, List.drop_succ_cons, List.take_succ_cons, List.take_zero] at t0 t1
    obtain ⟨x0, x1, p, k, q1, s1, l1⟩ := open_int3 t0 (by omega)
    obtain ⟨x2, x3, q, l, q2, s2, l2⟩ := open_int3 t1 (by omega)
    simp only [List.cons.injEq, and_true] at q1 q2
    obtain ⟨rfl, rfl⟩ := q1
    obtain ⟨rfl, rfl⟩ := q2
    exact ⟨_, _, _, _, p, q, k, l, rfl, s1, s2, by omega⟩
theorem Zi.parts17 {w : World} {x y : Value} {z : Int} {k : Nat} (h : Zi w (.agg #[x, y]) z k) : ∃ n a l c, x = .bool n ∧ y = .slice a l c := by
  obtain ⟨n, xs, a, c, e, -⟩ := h
  simp only [Value.agg.injEq, Array.mk.injEq, List.cons.injEq, and_true] at e
  exact ⟨n, a, _, c, e.1, e.2⟩
set_option maxRecDepth 100000 in
theorem open_fracs17 {H : Type} {enc : TypeId × Value → H} {W : World} {fuel : Nat} {v : Value} {y : DataW H × List MemPlace}
    (hf : DataW.trod enc Tryz.prog W 0 (fun _ => true) true fuel 22 [v] = some y) (hb : Rows.uptoBulk y.1 ≤ 1048576) :
    ∃ a l cap P Q, v = .slice a l cap ∧ Qs W (.slice a l cap) l P Q 1048576 ∧ Wq17 l P Q := by
  rcases Deep.open_slice Tryz.underlying22 hf with ⟨hcs, _⟩ | ⟨x, len, cap, m, n, D, Pl, hcs, _, hl, hm, hmm, hx, hel⟩
  · simp only [List.cons.injEq, and_true] at hcs
    subst hcs
    exact ⟨none, 0, 0, fun _ => 0, fun _ => 0, rfl, ⟨none, 0, rfl, Nat.le_refl _, ⟨by omega, fun _ => rfl⟩, .inl rfl⟩, fun _ => 0, fun t ht => by omega, by show 0 ≤ 1048576; omega⟩
  · simp only [List.cons.injEq, and_true] at hcs
    subst hcs
    simp only [if_true] at hmm
    subst hmm
    rw [hx] at hb
    simp only [Rows.uptoBulk] at hb
    have e1 := bulk_len ((List.range len).map D)
    simp only [List.length_map, List.length_range] at e1
    rw [Tryz.cellsF17] at hel
    obtain ⟨q, hq⟩ := Deep.choose_lt (α := (Value × Value × Value × Value) × (Int × Int) × (Nat × Nat)) (n := len) (p := fun i q => W.cells? 0 (x.add (i * 4)) 4 = some [q.1.1, q.1.2.1, q.1.2.2.1, q.1.2.2.2] ∧ Zi W (.agg #[q.1.1, q.1.2.1]) q.2.1.1 q.2.2.1 ∧ Zi W (.agg #[q.1.2.2.1, q.1.2.2.2]) q.2.1.2 q.2.2.2 ∧ (q.2.2.1 + q.2.2.2) + 1 ≤ Rows.uptoBulk (D i)) (fun i hi => by
        obtain ⟨cs', h1, h2⟩ := hel i (by omega)
        have hbi : Rows.uptoBulk (D i) ≤ 1048576 := by
          have := bulk_in (List.mem_map_of_mem (f := D) (List.mem_range.2 hi))
          omega
        obtain ⟨x0, x1, x2, x3, p, q, k, l, rfl, s1, s2, s3⟩ := open_frac17 (x := (D i, Pl i)) h2 hbi
        exact ⟨((x0, x1, x2, x3), (p, q), (k, l)), h1, s1, s2, s3⟩)
    have ht := ksum_bulk (D := D) (q := fun i => (q i).2.2.1 + (q i).2.2.2) (List.range len) (fun i hi => (hq i (List.mem_range.1 hi)).2.2.2)
    simp only [List.length_range] at ht
    rw [← sn_ksum] at ht
    refine ⟨some x, len, m, fun i => (q i).2.1.1, fun i => (q i).2.1.2, rfl, ⟨some x, m, rfl, by simpa using hl, ⟨by omega, fun e => by cases e⟩, ?_⟩, fun i => (q i).2.2.1 + (q i).2.2.2, fun t h => ⟨_, _, Int.le_of_lt (hq t h).2.1.lt, Int.le_of_lt (hq t h).2.2.1.lt, Nat.le_refl _⟩, by omega⟩
    by_cases he : len = 0
    · exact .inl he
    · obtain ⟨b, off, spot⟩ := x
      have hc := (World.cells?_some (hq 0 (by omega)).1).2.2 0 (by omega)
      rw [Deep.add_add] at hc
      simp only [Nat.zero_mul, Nat.add_zero, List.getElem?_cons_zero] at hc
      have hspot : spot = none := by simpa [Addr.add] using World.cell?_spot hc
      subst hspot
      refine .inr ⟨b, off, rfl, ?_, fun j hj => ?_⟩
      · have := World.block_lt_of_cell? W _ hc
        simpa [Addr.add] using this
      · have ea : ∀ j, (⟨b, off, none⟩ : Addr).add j = ⟨b, off + j, none⟩ := fun j => by unfold Addr.add; split <;> simp_all
        have k0 := (World.cells?_some (hq j hj).1).2.2 0 (by omega)
        have k1 := (World.cells?_some (hq j hj).1).2.2 1 (by omega)
        have k2 := (World.cells?_some (hq j hj).1).2.2 2 (by omega)
        have k3 := (World.cells?_some (hq j hj).1).2.2 3 (by omega)
        rw [Deep.add_add, ea] at k0 k1 k2 k3
        simp only [Nat.add_zero, List.getElem?_cons_zero, List.getElem?_cons_succ] at k0 k1 k2 k3
        have z1 := (hq j hj).2.1
        have z2 := (hq j hj).2.2.1
        obtain ⟨n1, a1, l1, c1, f1, f2⟩ := z1.parts17
        obtain ⟨n2, a2, l2, c2, f3, f4⟩ := z2.parts17
        have hs : (q j).2.2.1 + (q j).2.2.2 ≤ sn len (fun i => (q i).2.2.1 + (q i).2.2.2) := sn_one (f := fun i => (q i).2.2.1 + (q i).2.2.2) hj
        rw [f1, f2] at z1
        rw [f3, f4] at z2
        rw [f1] at k0
        rw [f2] at k1
        rw [f3] at k2
        rw [f4] at k3
        exact ⟨n1, a1, l1, c1, n2, a2, l2, c2, k0, by rw [Nat.add_assoc]; exact k1, by rw [Nat.add_assoc]; exact k2, by rw [Nat.add_assoc]; exact k3, z1.more (by omega), z2.more (by omega)⟩
/-- A matrix of fractions as it came in. -/
def Raq (w : World) (v : Value) : Prop := ∃ (r c : Int) (a : Option Addr) (l cap : Nat) (P Q : Nat → Int), v = .agg #[.int .i64 r, .int .i64 c, .slice a l cap] ∧ Qs w (.slice a l cap) l P Q 1048576 ∧ Wq17 l P Q
theorem trod_struct3q {H : Type} {enc : TypeId × Value → H} {P : Program} {w : World} {base : Nat} {spare : Nat → Bool} {held : Bool} {t : TypeId} {f0 f1 f2 : Field} {fuel : Nat} {cs : List Value} {x : DataW H × List MemPlace} (ht : P.underlying t = some (.struct #[f0, f1, f2]))
    (h : DataW.trod enc P w base spare held fuel t cs = some x) :
    ∃ y0 y1 y2 n, x.1 = .agg [y0.1, y1.1, y2.1] ∧ cs.length = P.cellsOf t ∧ DataW.trod enc P w base spare held n f0.type ((cs.drop f0.offset).take (P.cellsOf f0.type)) = some y0 ∧ DataW.trod enc P w base spare held n f1.type ((cs.drop f1.offset).take (P.cellsOf f1.type)) = some y1 ∧ DataW.trod enc P w base spare held n f2.type ((cs.drop f2.offset).take (P.cellsOf f2.type)) = some y2 := by
  obtain ⟨xs, n, _, rfl, hl, hlen, hf⟩ := DataW.trod_struct ht h
  match xs, hlen with
  | [y0, y1, y2], _ => exact ⟨y0, y1, y2, n, by simp, hl, by simpa using hf 0 f0 rfl, by simpa using hf 1 f1 rfl, by simpa using hf 2 f2 rfl⟩
set_option maxRecDepth 100000 in
theorem open_qmat17 {H : Type} {enc : TypeId × Value → H} {W : World} {r : Reach} {b0 : Nat} {v : Value} {d : DataW H} {p : List MemPlace}
    (hv : Value.okWide Tryz.prog W r b0 24 v) (h0 : DataW.Trod enc Tryz.prog W 0 (fun _ => true) true 24 v d p) (hb : Rows.uptoBulk d ≤ 1048576) : Raq W v := by
  obtain ⟨cs, rfl, hsz⟩ := okWide_struct Tryz.underlying24 hv
  obtain ⟨fuel, hf⟩ := h0
  obtain ⟨y0, y1, y2, n, hx, hl, t0, t1, t2⟩ := trod_struct3q Tryz.underlying24 hf
  obtain ⟨L, rfl⟩ : ∃ L : List Value, cs = L.toArray := ⟨cs.toList, by simp⟩
  simp only [Value.cells] at hl t0 t1 t2
  rw [Tryz.cellsQ17] at hl
  have hx' : d = .agg [y0.1, y1.1, y2.1] := hx
  subst hx'
  simp only [Rows.uptoBulk, Rows.uptoBulkAll] at hb
  match L, hl with
  | [e0, e1, e2], _ =>
    simp only [Tryz.cellsI17, Tryz.cellsL17, List.drop_zero, List.drop_succ_cons, List.take_succ_cons, List.take_zero] at t0 t1 t2
    obtain ⟨k0, q0, _, _⟩ := DataW.trod_int Tryz.underlying3 t0
    obtain ⟨k1, q1, _, _⟩ := DataW.trod_int Tryz.underlying3 t1
    simp only [List.cons.injEq, and_true] at q0 q1
    subst q0 q1
    obtain ⟨a, l, cap, P, Q, rfl, h1, h2⟩ := open_fracs17 t2 (by omega)
    exact ⟨_, _, a, l, cap, P, Q, rfl, h1, h2⟩
end Go.Proofs.YtcceoildbnoliaaGreat

/- Ok17 -/
namespace Go.Proofs.YtcceoildbnoliaaGreat
open Go.ChangeShapes Go.WideShapes Go.ChangeAt Go.RowKit
set_option linter.unusedVariables false

theorem rrefKernel_any {w : World} {v : Value} (h : Raq w v) : Calls Tryz.prog 4 #[v] w fun e w' => e = .returned (.bool true) ∧ Below w.heap.size w w' := by
  obtain ⟨r, c, a, l, cap, P, Q, rfl, hv, u, hu, hs⟩ := h
  by_cases hb : ¬ Snd r c l ∨ ∃ t, t < l ∧ Q t = 0
  · exact rker_bad hv (Nat.le_refl _) hb
  · have h1 : Snd r c l := Classical.byContradiction fun q => hb (.inl q)
    have h3 : ∀ t, t < l → Q t ≠ 0 := fun t ht q => hb (.inr ⟨t, ht, q⟩)
    obtain ⟨s1, s2, s3, s4, s5⟩ := h1
    obtain ⟨n, rfl⟩ : ∃ n : Nat, r = (n : Int) := ⟨r.toNat, by omega⟩
    obtain ⟨m, rfl⟩ : ∃ m : Nat, c = (m : Int) := ⟨c.toNat, by omega⟩
    have hl : l = n * m := by
      rw [← Int.natCast_mul] at s5
      exact Int.ofNat.inj s5
    exact rker_yes (u := u) hv hl (by omega) (by omega) (by rw [← hl]; exact ⟨h3, hu, hs⟩)
end Go.Proofs.YtcceoildbnoliaaGreat
