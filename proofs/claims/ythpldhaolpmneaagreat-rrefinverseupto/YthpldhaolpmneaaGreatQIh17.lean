/-
  Ih17: the law of Inverse, at a sound square matrix.
-/
import Derived.Test.YthpldhaolpmneaaGreatQIb17ToCo17
import Derived.Test.YthpldhaolpmneaaGreatQNb17ToFr17
import Derived.Test.YthpldhaolpmneaaGreatQIv17
import Derived.Test.YthpldhaolpmneaaGreatQUnit9
namespace Go.Proofs.YthpldhaolpmneaaGreat
open Go.RowKit
open Q17 (Rref Eqv Comb sm vm dlt)
set_option linter.unusedVariables false
set_option linter.unusedSimpArgs false

theorem ckv_zero {r c : Int} {l : Nat} {Q : Nat → Int} {x : Int} (h : ckv r c l Q x) (hs : Snd r c l) (hz : ∀ t, t < l → Q t ≠ 0) : x = 0 := by
  rcases h with ⟨h1, h2⟩ | ⟨h1, h2, t, ht, h3⟩ | ⟨h1, h2, h3⟩
  · exact absurd hs h2
  · exact absurd h3 (hz t ht)
  · exact h1
set_option maxHeartbeats 6400000 in
set_option maxRecDepth 100000 in
theorem rinv_yes {w : World} {n : Nat} {a : Option Addr} {l cap : Nat} {P Q : Nat → Int} {u : Nat → Nat} (hv : Qs w (.slice a l cap) l P Q 1048576) (hl : l = n * n) (hn : n ≤ 64) (hwd : Wd17 (n * n) P Q u 1048576) :
    Calls Tryz.prog 6 #[.agg #[.int .i64 (n : Int), .int .i64 (n : Int), .slice a l cap]] w fun e w' => e = .returned (.bool true) ∧ Below w.heap.size w w' := by
  have hS : Snd (n : Int) (n : Int) l := ⟨by omega, by omega, by omega, by omega, by rw [hl]; exact Int.natCast_mul _ _⟩
  have HS : Hid (Snd (n : Int) (n : Int) l) := hS
  have HNZ : Hid (∀ t, t < l → Q t ≠ 0) := by unfold Hid; rw [hl]; exact hwd.nz
  have HWD := hid hwd
  have HL := hid hl
  have HN := hid hn
  have HN2 : Hid (n * n ≤ 1048576) := Nat.le_trans (Nat.mul_le_mul hn hn) (by omega)
  have q1 : ((n : Int) != (n : Int)) = false := by simp
  obtain ⟨W0, hV⟩ : ∃ W0, w.alloc (.cells #[.int .i64 (n : Int), .int .i64 (n : Int), .slice a l cap] 24) = W0 := ⟨_, rfl⟩
  obtain ⟨b0, sz0⟩ := alo1 w (.cells #[.int .i64 (n : Int), .int .i64 (n : Int), .slice a l cap] 24)
  rw [hV] at b0 sz0
  have CQ : Hid (Cel W0 w.heap.size 24 [.int .i64 (n : Int), .int .i64 (n : Int), .slice a l cap]) := by unfold Hid; rw [← hV]; exact Cel.new w _ _
  have HV := hid (hv.now b0)
  have G := hid b0
  have EV := hid hV
  have H := hid (awake17 (w := W0))
  clear b0 sz0 hV hv hl hn hwd hS
  go_enter Tryz.func6, Tryz.ntmps6
  go_wp2_with fail
  rw [EV.out]
  refine H.out.mono ?_
  rintro e w1 ⟨rfl, b⟩
  clear H  EV
  replace CQ := hid (CQ.out.step b)
  replace HV := hid (HV.out.now b)
  replace G := hid (below_step G.out b)
  have H := hid (inverse_yes (KW := 1048641) HV.out HL.out HN.out HNZ.out (by omega) (by omega) (inv_kw HWD.out HN.out (by omega)) (by omega) (by omega))
  have xCQ0 := CQ.out.at (i := 0) rfl
  have xCQ1 := CQ.out.at (i := 1) rfl
  have xCQ2 := CQ.out.at (i := 2) rfl
  go_wp2_with fail
  refine H.out.mono ?_
  rintro e w2 ⟨E, pv, hR, hE, b, hcase⟩
  clear H xCQ0 xCQ1 xCQ2
  replace CQ := hid (CQ.out.step b)
  replace HV := hid (HV.out.now b)
  replace G := hid (below_step G.out b)
  have HR := hid hR
  have HE := hid hE
  clear hR hE b
  rcases hcase with ⟨hlt, rfl⟩ | ⟨hln, ai, ci, C, rfl, hO, hz⟩
  · skip
    have HLT := hid hlt
    clear hlt
    obtain ⟨V1CI, hV⟩ : ∃ V, w2.alloc (.cells #[.int .i64 0, .int .i64 0, .slice none 0 0] 24) = V := ⟨_, rfl⟩
    obtain ⟨bv, szv⟩ := alo1 w2 (.cells #[.int .i64 0, .int .i64 0, .slice none 0 0] 24)
    rw [hV] at bv szv
    replace CQ := hid (CQ.out.step bv)
    replace HV := hid (HV.out.now bv)
    replace G := hid (below_step G.out bv)
    have CI : Hid (Cel V1CI w2.heap.size 24 [.int .i64 0, .int .i64 0, .slice none 0 0]) := by unfold Hid; rw [← hV]; exact Cel.new w2 _ _
    have EV := hid hV
    clear bv szv
    have H := hid (rcheck17 (r := (n : Int)) (c := (n : Int)) HV.out (by omega))
    have xCQ0 := CQ.out.at (i := 0) rfl
    have xCQ1 := CQ.out.at (i := 1) rfl
    have xCQ2 := CQ.out.at (i := 2) rfl
    rw [← hV] at xCQ0 xCQ1 xCQ2
    clear hV
    go_wp2_with fail
    rw [EV.out]
    refine H.out.mono ?_
    rintro e w3 ⟨code, rfl, hco, b⟩
    clear H xCQ0 xCQ1 xCQ2 EV
    replace CQ := hid (CQ.out.step b)
    replace HV := hid (HV.out.now b)
    replace CI := hid (CI.out.step b)
    replace G := hid (below_step G.out b)
    obtain rfl := ckv_zero hco HS.out HNZ.out
    clear hco b
    have H := hid (form_yes (KW := 1048641) HV.out HL.out HN.out HN.out HNZ.out (by omega) (by omega) (form_kw HWD.out HN.out (by omega)) (by omega) (by omega))
    have xCQ0 := CQ.out.at (i := 0) rfl
    have xCQ1 := CQ.out.at (i := 1) rfl
    have xCQ2 := CQ.out.at (i := 2) rfl
    go_wp2_with fail
    refine H.out.mono ?_
    rintro e w4 ⟨gf, va, pl, vc, E', pv', rfl, hpl, hF, hI, hR', hE', b⟩
    clear H xCQ0 xCQ1 xCQ2
    replace CQ := hid (CQ.out.step b)
    replace HV := hid (HV.out.now b)
    replace CI := hid (CI.out.step b)
    replace G := hid (below_step G.out b)
    have hpp : pl = pv.length := by rw [inv_pv HR.out HE.out hR' hE']; exact hpl.symm
    clear hF hI hR' hE' hpl b
    have hlt1 : (pl : Int) < (n : Int) := by have := HLT.out; omega
    clear hpp
    obtain ⟨V2CF, hV⟩ : ∃ V, w4.alloc (.cells #[.int .i64 (n : Int), .int .i64 (n : Int), .slice (some ⟨gf, 0, none⟩) (n * n) (n * n)] 24) = V := ⟨_, rfl⟩
    obtain ⟨bv, szv⟩ := alo1 w4 (.cells #[.int .i64 (n : Int), .int .i64 (n : Int), .slice (some ⟨gf, 0, none⟩) (n * n) (n * n)] 24)
    rw [hV] at bv szv
    replace CQ := hid (CQ.out.step bv)
    replace HV := hid (HV.out.now bv)
    replace CI := hid (CI.out.step bv)
    replace G := hid (below_step G.out bv)
    have CF : Hid (Cel V2CF w4.heap.size 24 [.int .i64 (n : Int), .int .i64 (n : Int), .slice (some ⟨gf, 0, none⟩) (n * n) (n * n)]) := by unfold Hid; rw [← hV]; exact Cel.new w4 _ _
    have EV := hid hV
    clear bv szv
    have xCQ0 := CQ.out.at (i := 0) rfl
    have xCI2 := CI.out.at (i := 2) rfl
    rw [← hV] at xCQ0 xCI2
    clear hV
    clear HR HE HV CQ CI CF HLT
    go_wp2
    rw [EV.out]
    go_ret
    exact ⟨rfl, G.out⟩
  · skip
    have HX := hid (inv_left HR.out hln HE.out)
    have HLN := hid hln
    have QI : Hid (Qc w2 (.slice ai (n * n) ci) (n * n) (ivR n E) 1048641) := hO.qc HN2.out hz
    have HWI := hid QI.out.wd
    have QZ := hid (QI.out.qs)
    clear hO hz hln
    obtain ⟨V1CI, hV⟩ : ∃ V, w2.alloc (.cells #[.int .i64 (n : Int), .int .i64 (n : Int), .slice ai (n * n) ci] 24) = V := ⟨_, rfl⟩
    obtain ⟨bv, szv⟩ := alo1 w2 (.cells #[.int .i64 (n : Int), .int .i64 (n : Int), .slice ai (n * n) ci] 24)
    rw [hV] at bv szv
    replace CQ := hid (CQ.out.step bv)
    replace HV := hid (HV.out.now bv)
    replace QI := hid (QI.out.now bv)
    replace QZ := hid (QZ.out.now bv)
    replace G := hid (below_step G.out bv)
    have CI : Hid (Cel V1CI w2.heap.size 24 [.int .i64 (n : Int), .int .i64 (n : Int), .slice ai (n * n) ci]) := by unfold Hid; rw [← hV]; exact Cel.new w2 _ _
    have EV := hid hV
    clear bv szv
    have H := hid (rcheck17 (r := (n : Int)) (c := (n : Int)) HV.out (by omega))
    have xCQ0 := CQ.out.at (i := 0) rfl
    have xCQ1 := CQ.out.at (i := 1) rfl
    have xCQ2 := CQ.out.at (i := 2) rfl
    rw [← hV] at xCQ0 xCQ1 xCQ2
    clear hV
    go_wp2_with fail
    rw [EV.out]
    refine H.out.mono ?_
    rintro e w3 ⟨code, rfl, hco, b⟩
    clear H xCQ0 xCQ1 xCQ2 EV
    replace CQ := hid (CQ.out.step b)
    replace HV := hid (HV.out.now b)
    replace QI := hid (QI.out.now b)
    replace QZ := hid (QZ.out.now b)
    replace CI := hid (CI.out.step b)
    replace G := hid (below_step G.out b)
    obtain rfl := ckv_zero hco HS.out HNZ.out
    clear hco b
    have H := hid (form_yes (KW := 1048641) HV.out HL.out HN.out HN.out HNZ.out (by omega) (by omega) (form_kw HWD.out HN.out (by omega)) (by omega) (by omega))
    have xCQ0 := CQ.out.at (i := 0) rfl
    have xCQ1 := CQ.out.at (i := 1) rfl
    have xCQ2 := CQ.out.at (i := 2) rfl
    go_wp2_with fail
    refine H.out.mono ?_
    rintro e w4 ⟨gf, va, pl, vc, E', pv', rfl, hpl, hF, hI, hR', hE', b⟩
    clear H xCQ0 xCQ1 xCQ2
    replace CQ := hid (CQ.out.step b)
    replace HV := hid (HV.out.now b)
    replace QI := hid (QI.out.now b)
    replace QZ := hid (QZ.out.now b)
    replace CI := hid (CI.out.step b)
    replace G := hid (below_step G.out b)
    have hpp : pl = pv.length := by rw [inv_pv HR.out HE.out hR' hE']; exact hpl.symm
    clear hF hI hR' hE' hpl b
    obtain rfl : pl = n := hpp.trans HLN.out
    have hnl : ¬ (pl : Int) < (pl : Int) := by omega
    clear hpp
    obtain ⟨V2CF, hV⟩ : ∃ V, w4.alloc (.cells #[.int .i64 (pl : Int), .int .i64 (pl : Int), .slice (some ⟨gf, 0, none⟩) (pl * pl) (pl * pl)] 24) = V := ⟨_, rfl⟩
    obtain ⟨bv, szv⟩ := alo1 w4 (.cells #[.int .i64 (pl : Int), .int .i64 (pl : Int), .slice (some ⟨gf, 0, none⟩) (pl * pl) (pl * pl)] 24)
    rw [hV] at bv szv
    replace CQ := hid (CQ.out.step bv)
    replace HV := hid (HV.out.now bv)
    replace QI := hid (QI.out.now bv)
    replace QZ := hid (QZ.out.now bv)
    replace CI := hid (CI.out.step bv)
    replace G := hid (below_step G.out bv)
    have CF : Hid (Cel V2CF w4.heap.size 24 [.int .i64 (pl : Int), .int .i64 (pl : Int), .slice (some ⟨gf, 0, none⟩) (pl * pl) (pl * pl)]) := by unfold Hid; rw [← hV]; exact Cel.new w4 _ _
    have EV := hid hV
    clear bv szv
    have H := hid (unit_any (w := V2CF) HN.out)
    have xCQ0 := CQ.out.at (i := 0) rfl
    rw [← hV] at xCQ0
    clear hV
    go_wp2_with fail
    rw [EV.out]
    refine H.out.mono ?_
    rintro e w5 ⟨vu, rfl, hM, b⟩
    clear H xCQ0 EV
    replace CQ := hid (CQ.out.step b)
    replace HV := hid (HV.out.now b)
    replace QI := hid (QI.out.now b)
    replace QZ := hid (QZ.out.now b)
    replace CI := hid (CI.out.step b)
    replace CF := hid (CF.out.step b)
    replace G := hid (below_step G.out b)
    obtain ⟨au, cu, rfl, -, -⟩ := hM.mx.form
    have MU := hid hM.mx
    clear hM b
    obtain ⟨V3CU, hV⟩ : ∃ V, w5.alloc (.cells #[.int .i64 (pl : Int), .int .i64 (pl : Int), .slice au (pl * pl) cu] 35) = V := ⟨_, rfl⟩
    obtain ⟨bv, szv⟩ := alo1 w5 (.cells #[.int .i64 (pl : Int), .int .i64 (pl : Int), .slice au (pl * pl) cu] 35)
    rw [hV] at bv szv
    replace CQ := hid (CQ.out.step bv)
    replace HV := hid (HV.out.now bv)
    replace QI := hid (QI.out.now bv)
    replace QZ := hid (QZ.out.now bv)
    replace CI := hid (CI.out.step bv)
    replace CF := hid (CF.out.step bv)
    replace MU := hid (MU.out.now bv)
    replace G := hid (below_step G.out bv)
    have CU : Hid (Cel V3CU w5.heap.size 35 [.int .i64 (pl : Int), .int .i64 (pl : Int), .slice au (pl * pl) cu]) := by unfold Hid; rw [← hV]; exact Cel.new w5 _ _
    have EV := hid hV
    clear bv szv
    have H := hid (from_yes17 MU.out (by omega) (by omega))
    have xCU0 := CU.out.at (i := 0) rfl
    have xCU1 := CU.out.at (i := 1) rfl
    have xCU2 := CU.out.at (i := 2) rfl
    rw [← hV] at xCU0 xCU1 xCU2
    clear hV
    go_wp2_with fail
    rw [EV.out]
    refine H.out.mono ?_
    rintro e w6 ⟨gd, rfl, hF, b⟩
    clear H xCU0 xCU1 xCU2 EV
    replace CQ := hid (CQ.out.step b)
    replace HV := hid (HV.out.now b)
    replace QI := hid (QI.out.now b)
    replace QZ := hid (QZ.out.now b)
    replace CI := hid (CI.out.step b)
    replace CF := hid (CF.out.step b)
    replace MU := hid (MU.out.now b)
    replace CU := hid (CU.out.step b)
    replace G := hid (below_step G.out b)
    have QD : Hid (Qc w6 (.slice (some ⟨gd, 0, none⟩) (pl * pl) (pl * pl)) (pl * pl) (idR pl) 1) := hF.qc HN2.out
    have QE := hid (QD.out.qs.more (show 1 ≤ 1048641 by omega))
    have HVK := hid (HV.out.more (show 1048576 ≤ 1048641 by omega))
    clear hF b MU
    obtain ⟨V4CD, hV⟩ : ∃ V, w6.alloc (.cells #[.int .i64 (pl : Int), .int .i64 (pl : Int), .slice (some ⟨gd, 0, none⟩) (pl * pl) (pl * pl)] 24) = V := ⟨_, rfl⟩
    obtain ⟨bv, szv⟩ := alo1 w6 (.cells #[.int .i64 (pl : Int), .int .i64 (pl : Int), .slice (some ⟨gd, 0, none⟩) (pl * pl) (pl * pl)] 24)
    rw [hV] at bv szv
    replace CQ := hid (CQ.out.step bv)
    replace HV := hid (HV.out.now bv)
    replace QI := hid (QI.out.now bv)
    replace QZ := hid (QZ.out.now bv)
    replace CI := hid (CI.out.step bv)
    replace QD := hid (QD.out.now bv)
    replace QE := hid (QE.out.now bv)
    replace HVK := hid (HVK.out.now bv)
    replace G := hid (below_step G.out bv)
    have CD : Hid (Cel V4CD w6.heap.size 24 [.int .i64 (pl : Int), .int .i64 (pl : Int), .slice (some ⟨gd, 0, none⟩) (pl * pl) (pl * pl)]) := by unfold Hid; rw [← hV]; exact Cel.new w6 _ _
    have EV := hid hV
    clear bv szv
    have H := hid (mul_yes17 HVK.out QZ.out HL.out rfl HN.out HN.out HN.out HNZ.out (fun t _ => dnR_ne (ivR pl E) t) (show 1048641 ≤ 200000000 by omega) (show 1 ≤ 1048641 by omega))
    have xCQ0 := CQ.out.at (i := 0) rfl
    have xCQ1 := CQ.out.at (i := 1) rfl
    have xCQ2 := CQ.out.at (i := 2) rfl
    have xCI0 := CI.out.at (i := 0) rfl
    have xCI1 := CI.out.at (i := 1) rfl
    have xCI2 := CI.out.at (i := 2) rfl
    rw [← hV] at xCQ0 xCQ1 xCQ2 xCI0 xCI1 xCI2
    clear hV
    go_wp2_with fail
    rw [EV.out]
    refine H.out.mono ?_
    rintro e w7 ⟨ap, cp, Cp, rfl, hO, hz, b⟩
    clear H xCQ0 xCQ1 xCQ2 xCI0 xCI1 xCI2 EV
    replace CQ := hid (CQ.out.step b)
    replace HV := hid (HV.out.now b)
    replace QI := hid (QI.out.now b)
    replace QZ := hid (QZ.out.now b)
    replace CI := hid (CI.out.step b)
    replace QD := hid (QD.out.now b)
    replace QE := hid (QE.out.now b)
    replace HVK := hid (HVK.out.now b)
    replace CD := hid (CD.out.step b)
    replace G := hid (below_step G.out b)
    have QP : Hid (Qc w7 (.slice ap (pl * pl) cp) (pl * pl) (mlR pl P Q (nmR (ivR pl E)) (dnR (ivR pl E))) (2 * (129 * 1048641 + 2) + 64)) := hO.qc HN2.out hz
    clear hO hz b
    obtain ⟨V5CP, hV⟩ : ∃ V, w7.alloc (.cells #[.int .i64 (pl : Int), .int .i64 (pl : Int), .slice ap (pl * pl) cp] 24) = V := ⟨_, rfl⟩
    obtain ⟨bv, szv⟩ := alo1 w7 (.cells #[.int .i64 (pl : Int), .int .i64 (pl : Int), .slice ap (pl * pl) cp] 24)
    rw [hV] at bv szv
    replace CQ := hid (CQ.out.step bv)
    replace HV := hid (HV.out.now bv)
    replace QI := hid (QI.out.now bv)
    replace QZ := hid (QZ.out.now bv)
    replace CI := hid (CI.out.step bv)
    replace QD := hid (QD.out.now bv)
    replace QE := hid (QE.out.now bv)
    replace HVK := hid (HVK.out.now bv)
    replace CD := hid (CD.out.step bv)
    replace QP := hid (QP.out.now bv)
    replace G := hid (below_step G.out bv)
    have CP : Hid (Cel V5CP w7.heap.size 24 [.int .i64 (pl : Int), .int .i64 (pl : Int), .slice ap (pl * pl) cp]) := by unfold Hid; rw [← hV]; exact Cel.new w7 _ _
    have EV := hid hV
    clear bv szv
    have H := hid (mul_yes17 QZ.out HVK.out rfl HL.out HN.out HN.out HN.out (fun t _ => dnR_ne (ivR pl E) t) HNZ.out (show 1048641 ≤ 200000000 by omega) (show 1 ≤ 1048641 by omega))
    have xCQ0 := CQ.out.at (i := 0) rfl
    have xCQ1 := CQ.out.at (i := 1) rfl
    have xCQ2 := CQ.out.at (i := 2) rfl
    have xCI0 := CI.out.at (i := 0) rfl
    have xCI1 := CI.out.at (i := 1) rfl
    have xCI2 := CI.out.at (i := 2) rfl
    rw [← hV] at xCQ0 xCQ1 xCQ2 xCI0 xCI1 xCI2
    clear hV
    go_wp2_with fail
    rw [EV.out]
    refine H.out.mono ?_
    rintro e w8 ⟨ar, cr, Cr, rfl, hO, hz, b⟩
    clear H xCQ0 xCQ1 xCQ2 xCI0 xCI1 xCI2 EV
    replace CQ := hid (CQ.out.step b)
    replace HV := hid (HV.out.now b)
    replace QI := hid (QI.out.now b)
    replace QZ := hid (QZ.out.now b)
    replace CI := hid (CI.out.step b)
    replace QD := hid (QD.out.now b)
    replace QE := hid (QE.out.now b)
    replace HVK := hid (HVK.out.now b)
    replace CD := hid (CD.out.step b)
    replace QP := hid (QP.out.now b)
    replace CP := hid (CP.out.step b)
    replace G := hid (below_step G.out b)
    have QR : Hid (Qc w8 (.slice ar (pl * pl) cr) (pl * pl) (mlR pl (nmR (ivR pl E)) (dnR (ivR pl E)) P Q) (2 * (129 * 1048641 + 2) + 64)) := hO.qc HN2.out hz
    clear hO hz b
    obtain ⟨V6CR, hV⟩ : ∃ V, w8.alloc (.cells #[.int .i64 (pl : Int), .int .i64 (pl : Int), .slice ar (pl * pl) cr] 24) = V := ⟨_, rfl⟩
    obtain ⟨bv, szv⟩ := alo1 w8 (.cells #[.int .i64 (pl : Int), .int .i64 (pl : Int), .slice ar (pl * pl) cr] 24)
    rw [hV] at bv szv
    replace CQ := hid (CQ.out.step bv)
    replace HV := hid (HV.out.now bv)
    replace QI := hid (QI.out.now bv)
    replace QZ := hid (QZ.out.now bv)
    replace CI := hid (CI.out.step bv)
    replace QD := hid (QD.out.now bv)
    replace QE := hid (QE.out.now bv)
    replace HVK := hid (HVK.out.now bv)
    replace CD := hid (CD.out.step bv)
    replace QP := hid (QP.out.now bv)
    replace CP := hid (CP.out.step bv)
    replace QR := hid (QR.out.now bv)
    replace G := hid (below_step G.out bv)
    have CR : Hid (Cel V6CR w8.heap.size 24 [.int .i64 (pl : Int), .int .i64 (pl : Int), .slice ar (pl * pl) cr]) := by unfold Hid; rw [← hV]; exact Cel.new w8 _ _
    have EV := hid hV
    clear bv szv
    have H := hid (likeMat17 (r := pl) (c := pl) QP.out QD.out fun t ht => law_p HX.out ht)
    have xCP0 := CP.out.at (i := 0) rfl
    have xCP1 := CP.out.at (i := 1) rfl
    have xCP2 := CP.out.at (i := 2) rfl
    have xCD0 := CD.out.at (i := 0) rfl
    have xCD1 := CD.out.at (i := 1) rfl
    have xCD2 := CD.out.at (i := 2) rfl
    rw [← hV] at xCP0 xCP1 xCP2 xCD0 xCD1 xCD2
    clear hV
    go_wp2_with fail
    rw [EV.out]
    refine H.out.mono ?_
    rintro e w9 ⟨rfl, b⟩
    clear H xCP0 xCP1 xCP2 xCD0 xCD1 xCD2 EV
    replace CQ := hid (CQ.out.step b)
    replace HV := hid (HV.out.now b)
    replace QI := hid (QI.out.now b)
    replace QZ := hid (QZ.out.now b)
    replace CI := hid (CI.out.step b)
    replace QD := hid (QD.out.now b)
    replace QE := hid (QE.out.now b)
    replace HVK := hid (HVK.out.now b)
    replace CD := hid (CD.out.step b)
    replace QP := hid (QP.out.now b)
    replace CP := hid (CP.out.step b)
    replace QR := hid (QR.out.now b)
    replace CR := hid (CR.out.step b)
    replace G := hid (below_step G.out b)
    clear b
    have H := hid (likeMat17 (r := pl) (c := pl) QR.out QD.out fun t ht => law_r HX.out ht)
    have xCR0 := CR.out.at (i := 0) rfl
    have xCR1 := CR.out.at (i := 1) rfl
    have xCR2 := CR.out.at (i := 2) rfl
    have xCD0 := CD.out.at (i := 0) rfl
    have xCD1 := CD.out.at (i := 1) rfl
    have xCD2 := CD.out.at (i := 2) rfl
    go_wp2_with fail
    refine H.out.mono ?_
    rintro e w10 ⟨rfl, b⟩
    clear H xCR0 xCR1 xCR2 xCD0 xCD1 xCD2
    replace CQ := hid (CQ.out.step b)
    replace HV := hid (HV.out.now b)
    replace QI := hid (QI.out.now b)
    replace QZ := hid (QZ.out.now b)
    replace CI := hid (CI.out.step b)
    replace QD := hid (QD.out.now b)
    replace QE := hid (QE.out.now b)
    replace HVK := hid (HVK.out.now b)
    replace CD := hid (CD.out.step b)
    replace QP := hid (QP.out.now b)
    replace CP := hid (CP.out.step b)
    replace QR := hid (QR.out.now b)
    replace CR := hid (CR.out.step b)
    replace G := hid (below_step G.out b)
    clear b QP QR CP CR
    have HK9 : Hid (pl * pl * (2 * 1048641) + 65 ≤ 8590467137) := by have h := Nat.mul_le_mul HN.out HN.out; unfold Hid; omega
    have H := hid (inverse_yes (KW := 8590467137) QZ.out rfl HN.out (fun t _ => dnR_ne (ivR pl E) t) (show 1048641 ≤ 400000000 by omega) (show 1 ≤ 1048641 by omega) (inv_kw HWI.out HN.out HK9.out) (by omega) (by omega))
    have xCI0 := CI.out.at (i := 0) rfl
    have xCI1 := CI.out.at (i := 1) rfl
    have xCI2 := CI.out.at (i := 2) rfl
    go_wp2_with fail
    refine H.out.mono ?_
    rintro e w11 ⟨E2, pv2, hR2, hE2, b, hcase⟩
    clear H xCI0 xCI1 xCI2
    replace CQ := hid (CQ.out.step b)
    replace HV := hid (HV.out.now b)
    replace QI := hid (QI.out.now b)
    replace QZ := hid (QZ.out.now b)
    replace CI := hid (CI.out.step b)
    replace QD := hid (QD.out.now b)
    replace QE := hid (QE.out.now b)
    replace HVK := hid (HVK.out.now b)
    replace CD := hid (CD.out.step b)
    replace G := hid (below_step G.out b)
    obtain ⟨u1, u2⟩ := law_back HX.out hR2 hE2
    have HU := hid u2
    obtain ⟨hl2, -⟩ | ⟨-, ab, cb, Cb, rfl, hO, hz⟩ := hcase
    · omega
    have QB : Hid (Qc w11 (.slice ab (pl * pl) cb) (pl * pl) (ivR pl E2) 8590467137) := hO.qc HN2.out hz
    clear hO hz b u1 u2 hR2 hE2
    obtain ⟨V7CB, hV⟩ : ∃ V, w11.alloc (.cells #[.int .i64 (pl : Int), .int .i64 (pl : Int), .slice ab (pl * pl) cb] 24) = V := ⟨_, rfl⟩
    obtain ⟨bv, szv⟩ := alo1 w11 (.cells #[.int .i64 (pl : Int), .int .i64 (pl : Int), .slice ab (pl * pl) cb] 24)
    rw [hV] at bv szv
    replace CQ := hid (CQ.out.step bv)
    replace HV := hid (HV.out.now bv)
    replace QI := hid (QI.out.now bv)
    replace QZ := hid (QZ.out.now bv)
    replace CI := hid (CI.out.step bv)
    replace QD := hid (QD.out.now bv)
    replace QE := hid (QE.out.now bv)
    replace HVK := hid (HVK.out.now bv)
    replace CD := hid (CD.out.step bv)
    replace QB := hid (QB.out.now bv)
    replace G := hid (below_step G.out bv)
    have CB : Hid (Cel V7CB w11.heap.size 24 [.int .i64 (pl : Int), .int .i64 (pl : Int), .slice ab (pl * pl) cb]) := by unfold Hid; rw [← hV]; exact Cel.new w11 _ _
    have EV := hid hV
    clear bv szv
    have H := hid (mul_yes17 QE.out HVK.out rfl HL.out HN.out HN.out HN.out (fun t _ => dnR_ne (idR pl) t) HNZ.out (show 1048641 ≤ 200000000 by omega) (show 1 ≤ 1048641 by omega))
    have xCQ0 := CQ.out.at (i := 0) rfl
    have xCQ1 := CQ.out.at (i := 1) rfl
    have xCQ2 := CQ.out.at (i := 2) rfl
    have xCD0 := CD.out.at (i := 0) rfl
    have xCD1 := CD.out.at (i := 1) rfl
    have xCD2 := CD.out.at (i := 2) rfl
    rw [← hV] at xCQ0 xCQ1 xCQ2 xCD0 xCD1 xCD2
    clear hV
    go_wp2_with fail
    rw [EV.out]
    refine H.out.mono ?_
    rintro e w12 ⟨al, cl, Cl_, rfl, hO, hz, b⟩
    clear H xCQ0 xCQ1 xCQ2 xCD0 xCD1 xCD2 EV
    replace CQ := hid (CQ.out.step b)
    replace HV := hid (HV.out.now b)
    replace QI := hid (QI.out.now b)
    replace QZ := hid (QZ.out.now b)
    replace CI := hid (CI.out.step b)
    replace QD := hid (QD.out.now b)
    replace QE := hid (QE.out.now b)
    replace HVK := hid (HVK.out.now b)
    replace CD := hid (CD.out.step b)
    replace QB := hid (QB.out.now b)
    replace CB := hid (CB.out.step b)
    replace G := hid (below_step G.out b)
    have QL : Hid (Qc w12 (.slice al (pl * pl) cl) (pl * pl) (mlR pl (nmR (idR pl)) (dnR (idR pl)) P Q) (2 * (129 * 1048641 + 2) + 64)) := hO.qc HN2.out hz
    clear hO hz b
    obtain ⟨V8CL, hV⟩ : ∃ V, w12.alloc (.cells #[.int .i64 (pl : Int), .int .i64 (pl : Int), .slice al (pl * pl) cl] 24) = V := ⟨_, rfl⟩
    obtain ⟨bv, szv⟩ := alo1 w12 (.cells #[.int .i64 (pl : Int), .int .i64 (pl : Int), .slice al (pl * pl) cl] 24)
    rw [hV] at bv szv
    replace CQ := hid (CQ.out.step bv)
    replace HV := hid (HV.out.now bv)
    replace QI := hid (QI.out.now bv)
    replace QZ := hid (QZ.out.now bv)
    replace CI := hid (CI.out.step bv)
    replace QD := hid (QD.out.now bv)
    replace QE := hid (QE.out.now bv)
    replace HVK := hid (HVK.out.now bv)
    replace CD := hid (CD.out.step bv)
    replace QB := hid (QB.out.now bv)
    replace CB := hid (CB.out.step bv)
    replace QL := hid (QL.out.now bv)
    replace G := hid (below_step G.out bv)
    have CL : Hid (Cel V8CL w12.heap.size 24 [.int .i64 (pl : Int), .int .i64 (pl : Int), .slice al (pl * pl) cl]) := by unfold Hid; rw [← hV]; exact Cel.new w12 _ _
    have EV := hid hV
    clear bv szv
    have H := hid (likeMat17 (r := pl) (c := pl) QB.out QL.out HU.out)
    have xCB0 := CB.out.at (i := 0) rfl
    have xCB1 := CB.out.at (i := 1) rfl
    have xCB2 := CB.out.at (i := 2) rfl
    have xCL0 := CL.out.at (i := 0) rfl
    have xCL1 := CL.out.at (i := 1) rfl
    have xCL2 := CL.out.at (i := 2) rfl
    rw [← hV] at xCB0 xCB1 xCB2 xCL0 xCL1 xCL2
    clear hV
    go_wp2_with fail
    rw [EV.out]
    refine H.out.mono ?_
    rintro e w13 ⟨rfl, b⟩
    clear H xCB0 xCB1 xCB2 xCL0 xCL1 xCL2 EV
    replace CQ := hid (CQ.out.step b)
    replace HV := hid (HV.out.now b)
    replace QI := hid (QI.out.now b)
    replace QZ := hid (QZ.out.now b)
    replace CI := hid (CI.out.step b)
    replace QD := hid (QD.out.now b)
    replace QE := hid (QE.out.now b)
    replace HVK := hid (HVK.out.now b)
    replace CD := hid (CD.out.step b)
    replace QB := hid (QB.out.now b)
    replace CB := hid (CB.out.step b)
    replace QL := hid (QL.out.now b)
    replace CL := hid (CL.out.step b)
    replace G := hid (below_step G.out b)
    clear CQ HV QI QZ CI QD QE HVK CD QB CB QL CL HU HX HWI HLN HR HE HK9 b
    go_wp2
    go_ret
    exact ⟨rfl, G.out⟩
end Go.Proofs.YthpldhaolpmneaaGreat
