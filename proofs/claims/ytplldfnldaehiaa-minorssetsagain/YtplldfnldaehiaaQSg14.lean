/-
  Sg14: the walk of MinorsSetsAgain.
-/
import Derived.Test.YtplldfnldaehiaaQSj14
import Derived.Test.YtplldfnldaehiaaQLike11ToAw14
namespace Go.Proofs.Ytplldfnldaehiaa
open Go.RowKit Go.Shelf
set_option linter.unusedVariables false
attribute [local go_sem] Oper.semAt_some

set_option maxHeartbeats 6400000 in
set_option maxRecDepth 100000 in
theorem minorsSetsAgain_any {w : World} {n k cut : Int} : Calls Try.prog 4 #[.int .i64 n, .int .i64 k, .int .i64 cut] w fun e w' => e = .returned (.bool true) ∧ Below w.heap.size w w' := by
  refine (callsIn_wide (n := 6)).1 ?_
  obtain ⟨W0, hW⟩ : ∃ W0, (((w.alloc (.cells #[.int .i64 n] 3)).alloc (.cells #[.int .i64 k] 3)).alloc (.cells #[.int .i64 cut] 3)).alloc (.cells #[.bool false] 4) = W0 := ⟨_, rfl⟩
  have b0 : Below w.heap.size w W0 := by rw [← hW]; exact ((((Below.refl _ w).alloc (Nat.le_refl _) _).alloc (by simp) _).alloc (by simp; omega) _).alloc (by simp; omega) _
  have sz0 : W0.heap.size = w.heap.size + 4 := by rw [← hW]; simp
  have PN : Hid (Cel W0 w.heap.size 3 [.int .i64 n]) := by
    unfold Hid; rw [← hW]
    exact (((Cel.new w 3 [.int .i64 n]).step ((Below.refl _ _).alloc (Nat.le_refl _) _)).step ((Below.refl _ _).alloc (Nat.le_refl _) _)).step ((Below.refl _ _).alloc (Nat.le_refl _) _)
  have PK : Hid (Cel W0 (w.heap.size + 1) 3 [.int .i64 k]) := by
    unfold Hid; rw [← hW]
    have := ((Cel.new (w.alloc (.cells #[.int .i64 n] 3)) 3 [.int .i64 k]).step ((Below.refl _ _).alloc (Nat.le_refl _) (.cells #[.int .i64 cut] 3))).step ((Below.refl _ _).alloc (Nat.le_refl _) (.cells #[.bool false] 4))
    simpa using this
  have PC : Hid (Cel W0 (w.heap.size + 1 + 1) 3 [.int .i64 cut]) := by
    unfold Hid; rw [← hW]
    have := (Cel.new ((w.alloc (.cells #[.int .i64 n] 3)).alloc (.cells #[.int .i64 k] 3)) 3 [.int .i64 cut]).step ((Below.refl _ _).alloc (Nat.le_refl _) (.cells #[.bool false] 4))
    simpa using this
  have PR : Hid (Cel W0 (w.heap.size + 1 + 1 + 1) 4 [.bool false]) := by
    unfold Hid; rw [← hW]
    have := Cel.new (((w.alloc (.cells #[.int .i64 n] 3)).alloc (.cells #[.int .i64 k] 3)).alloc (.cells #[.int .i64 cut] 3)) 4 [.bool false]
    simpa using this
  have G := hid b0
  have HAW := hid (awake14 W0)
  have EW := hid hW
  obtain ⟨bN, hbN⟩ : ∃ bN, w.heap.size = bN := ⟨_, rfl⟩
  obtain ⟨bK, hbK⟩ : ∃ bK, bN + 1 = bK := ⟨_, rfl⟩
  obtain ⟨bC, hbC⟩ : ∃ bC, bK + 1 = bC := ⟨_, rfl⟩
  obtain ⟨bR, hbR⟩ : ∃ bR, bC + 1 = bR := ⟨_, rfl⟩
  have OB : Hid (w.heap.size = bN ∧ bN < bK ∧ bK < bC ∧ bC < bR ∧ bR < W0.heap.size) := ⟨hbN, by omega, by omega, by omega, by omega⟩
  rw [hbN] at PN
  rw [hbN, hbK] at PK
  rw [hbN, hbK, hbC] at PC
  rw [hbN, hbK, hbC, hbR] at PR
  have ENB := hid (⟨hbN, hbK, hbC, hbR⟩ : w.heap.size = bN ∧ bN + 1 = bK ∧ bK + 1 = bC ∧ bC + 1 = bR)
  clear b0 sz0 hW hbN hbK hbC hbR
  refine callsIn_of_wp_marks Try.func4 rfl trivial ?_ rfl
  simp only [Try.ntmps4, List.size_toArray, List.length_cons, List.length_nil, Nat.reduceAdd, Nat.reduceSub, Array.replicate_succ, Array.replicate_zero, List.push_toArray, List.append_toArray, List.nil_append, List.cons_append]
  gi_wp2_with fail
  rw [EW.out, ENB.out.1, ENB.out.2.1, ENB.out.2.2.1, ENB.out.2.2.2]
  clear EW ENB
  refine ⟨trivial, (callsIn_wide.2 HAW.out).mono ?_⟩
  rintro e w1 ⟨rfl, b⟩
  replace PN := hid (PN.out.step b)
  replace PK := hid (PK.out.step b)
  replace PC := hid (PC.out.step b)
  replace PR := hid (PR.out.step b)
  replace G := hid (below_step G.out b)
  have HBL := hid (below100003_any w1 cut)
  have lz1 : Hid (W0.heap.size ≤ w1.heap.size) := b.size
  have x0 := PC.out.at (i := 0) rfl
  clear b HAW
  gi_wp2_with fail
  clear x0
  refine ⟨trivial, (callsIn_wide.2 HBL.out).mono ?_⟩
  rintro e w1' ⟨⟨c, hc, rfl⟩, hw1⟩
  rw [hw1]
  clear hw1 w1' HBL
  obtain ⟨U1, hU1⟩ : ∃ U1, w1.setCell ⟨bC, 0, none⟩ (.int .i64 (c : Int)) = U1 := ⟨_, rfl⟩
  have sU1 : U1.heap.size = w1.heap.size := by rw [← hU1]; simp
  have ob := OB.out
  have y0 := PC.out.at (i := 0) rfl
  have y1 := PC.out.fz 0
  have PN1 : Hid (Cel U1 bN 3 [.int .i64 n]) := by unfold Hid; rw [← hU1]; exact PN.out.ne (by omega)
  have PK1 : Hid (Cel U1 bK 3 [.int .i64 k]) := by unfold Hid; rw [← hU1]; exact PK.out.ne (by omega)
  have PC1 : Hid (Cel U1 bC 3 [.int .i64 (c : Int)]) := by unfold Hid; rw [← hU1]; exact PC.out.set 0 _
  have PR1 : Hid (Cel U1 bR 4 [.bool false]) := by unfold Hid; rw [← hU1]; exact PR.out.ne (by omega)
  have G1 : Hid (Below w.heap.size w U1) := by unfold Hid; rw [← hU1]; exact bset G.out (by omega)
  have LU : Hid (W0.heap.size ≤ U1.heap.size) := by unfold Hid; rw [sU1]; exact lz1.out
  have x0 := PN1.out.at (i := 0) rfl
  have x1 := PK1.out.at (i := 0) rfl
  rw [← hU1] at x0 x1
  have HST := hid (setsI_any (w := U1) (n := n) (k := k))
  have EU := hid hU1
  clear PN PK PC PR G lz1 hU1 sU1 ob
  gi_wp2_with fail
  rw [EU.out]
  clear EU x0 x1 y0 y1
  refine ⟨trivial, (callsIn_wide.2 HST.out).mono ?_⟩
  rintro e w2 ⟨bn, bk, rfl, cn, ck, hbn, hbk, b⟩
  have hbn2 := cn.blk
  have hbk2 := ck.blk
  replace PN1 := hid (PN1.out.step b)
  replace PK1 := hid (PK1.out.step b)
  replace PC1 := hid (PC1.out.step b)
  replace PR1 := hid (PR1.out.step b)
  replace G1 := hid (below_step G1.out b)
  have PBN := hid cn
  have PBK := hid ck
  have hsq := fun W => run_eql_seq14 W (.func 16) #[] #[.pointer (some ⟨bn, 0, none⟩), .pointer (some ⟨bk, 0, none⟩)]
  have HSM := hid (someI_any (w := w2) (n := n) (k := k) (m := 1) (Nat.le_refl _) (by decide))
  have O2 : Hid (bR < bn ∧ bR < bk ∧ bn < w2.heap.size ∧ bk < w2.heap.size) := ⟨by have := OB.out; have := LU.out; omega, by have := OB.out; have := LU.out; omega, hbn2, hbk2⟩
  have x0 := PN1.out.at (i := 0) rfl
  have x1 := PK1.out.at (i := 0) rfl
  clear b cn ck hbn hbk hbn2 hbk2 HST LU
  gi_wp2_with fail
  clear x0 x1 hsq
  refine ⟨trivial, (callsIn_wide.2 HSM.out).mono ?_⟩
  rintro e w3 ⟨wv, rfl, hll, b⟩
  obtain ⟨aw, cw, hwv, -, -⟩ := hll.form
  obtain ⟨lw, hlw⟩ : ∃ lw, ((stsI n k).take 1).length = lw := ⟨_, rfl⟩
  rw [hlw] at hwv
  subst hwv
  obtain ⟨V, hV⟩ : ∃ V, (w3.alloc (.cells #[.slice aw lw cw] 27)).alloc (.cells #[.int .i64 0] 3) = V := ⟨_, rfl⟩
  obtain ⟨b3, sz3⟩ := alloc2 w3 (.cells #[.slice aw lw cw] 27) (.cells #[.int .i64 0] 3)
  rw [hV] at b3 sz3
  have PW : Hid (Cel V w3.heap.size 27 [.slice aw lw cw]) := by
    unfold Hid; rw [← hV]
    exact (Cel.new w3 27 [.slice aw lw cw]).step ((Below.refl _ _).alloc (Nat.le_refl _) _)
  have PI : Hid (Cel V (w3.heap.size + 1) 3 [.int .i64 0]) := by
    unfold Hid; rw [← hV]
    have := Cel.new (w3.alloc (.cells #[.slice aw lw cw] 27)) 3 [.int .i64 0]
    simpa using this
  have LLV := hid (hll.now b3)
  have hb2 := b.size
  have b23 := below_step b b3
  replace PN1 := hid (PN1.out.step b23)
  replace PK1 := hid (PK1.out.step b23)
  replace PC1 := hid (PC1.out.step b23)
  replace PR1 := hid (PR1.out.step b23)
  replace PBN := hid (PBN.out.step b23)
  replace PBK := hid (PBK.out.step b23)
  replace G1 := hid (below_step G1.out b23)
  have EV := hid hV
  obtain ⟨bW, hbW⟩ : ∃ bW, w3.heap.size = bW := ⟨_, rfl⟩
  obtain ⟨bI, hbI⟩ : ∃ bI, bW + 1 = bI := ⟨_, rfl⟩
  have HLB : Hid (∀ g, (Value.slice aw lw cw).ownBlock = some g → w2.heap.size ≤ g ∧ g < bW) := fun g hg => ⟨(hll.blk hg).1, by
    obtain ⟨_, L, e⟩ := hll.blk hg
    have := (Array.getElem?_eq_some_iff.1 e).1
    omega⟩
  rw [hbW] at PW
  rw [hbW, hbI] at PI
  have O3 : Hid (w2.heap.size ≤ bW ∧ bW < bI ∧ bI < V.heap.size) := ⟨by omega, by omega, by omega⟩
  have EB := hid (⟨hbW, hbI⟩ : w3.heap.size = bW ∧ bW + 1 = bI)
  clear hll b b3 sz3 hV hb2 b23 HSM hbW hbI hlw
  gi_wp2_with fail
  rw [EV.out, EB.out.1, EB.out.2]
  clear EV EB
  obtain ⟨g0, hg0⟩ : ∃ g0, (Value.slice aw lw cw).ownBlock = g0 := ⟨_, rfl⟩
  have EG0 := hid hg0
  have HGB : Hid (∀ g, g0 = some g → w2.heap.size ≤ g ∧ g < bW) := fun g hg => HLB.out g (hg0.trans hg)
  have OO : Hid (w.heap.size = bN ∧ bN < bK ∧ bK < bC ∧ bC < bR ∧ bR < bn ∧ bR < bk ∧ bn < w2.heap.size ∧ bk < w2.heap.size ∧ w2.heap.size ≤ bW ∧ bW < bI ∧ bI < V.heap.size) := by
    have h1 := OB.out
    have h2 := O2.out
    have h3 := O3.out
    exact ⟨h1.1, h1.2.1, h1.2.2.1, h1.2.2.2.1, h2.1, h2.2.1, h2.2.2.1, h2.2.2.2, h3.1, h3.2.1, h3.2.2⟩
  have HG1 := hid G1.out
  have HDF : Hid (∀ D, (none : Option Nat) = some D → D < V.heap.size ∧ V.heap[D]? = some (.deferred (some []))) := fun D h => by cases h
  clear hg0 HLB OB O2 O3 G1
  refine mid14 (fun a' W => ∃ D, V.heap.size ≤ D ∧ a' = { tmps := #[.int .i64 n, .int .i64 k, .int .i64 cut, .pointer (some ⟨bN, 0, none⟩), .pointer (some ⟨bK, 0, none⟩), .pointer (some ⟨bC, 0, none⟩), .pointer (some ⟨bR, 0, none⟩), .func (.func 16) #[] #[.pointer (some ⟨bn, 0, none⟩), .pointer (some ⟨bk, 0, none⟩)], .pointer (some ⟨bW, 0, none⟩), .pointer (some ⟨bI, 0, none⟩), undef, undef, undef, undef, undef, .bool true, .bool false, .int .i64 cut, .int .i64 (c : Int), .int .i64 n, .int .i64 k, .func (.func 16) #[] #[.pointer (some ⟨bn, 0, none⟩), .pointer (some ⟨bk, 0, none⟩)], .func (.func 16) #[] #[.pointer (some ⟨bn, 0, none⟩), .pointer (some ⟨bk, 0, none⟩)], .bool false, .int .i64 n, .int .i64 k, .slice aw lw cw, .func (.func 16) #[] #[.pointer (some ⟨bn, 0, none⟩), .pointer (some ⟨bk, 0, none⟩)], undef, undef, undef, undef, undef, undef, undef, undef, undef, undef, undef, undef, undef, undef, undef, undef, undef, undef, undef, undef, undef, undef, undef, undef, undef, undef, undef, undef, undef, undef, undef, undef, undef, undef, undef, undef, undef, undef, undef, undef, undef, undef, undef, undef, undef, undef, undef, undef, undef, undef, undef, undef, undef, undef, undef, undef, undef, undef, undef, undef, undef, undef, undef, undef, undef, undef, undef, undef, undef, undef, undef, undef, undef, undef, undef, undef, undef, undef, undef, undef, undef, undef, undef, undef, undef], defers := [{ target := .collected D, args := #[] }] } ∧ SgB w V bW bI bR g0 none false W ∧ W.heap[D]? = some (.deferred (some []))) ?loop1 (fun a' W hm => ?after1)
  case after1 =>
    obtain ⟨D, hD, rfl, hB, hdf⟩ := hm
    have oo := OO.out
    have CN := hid (hB.kp.cel14 PN1.out (by omega) (by rintro (q | q | q | q); (· omega); (· omega); (· omega); (· have := HGB.out _ q; omega)))
    have CK := hid (hB.kp.cel14 PK1.out (by omega) (by rintro (q | q | q | q); (· omega); (· omega); (· omega); (· have := HGB.out _ q; omega)))
    have CC := hid (hB.kp.cel14 PC1.out (by omega) (by rintro (q | q | q | q); (· omega); (· omega); (· omega); (· have := HGB.out _ q; omega)))
    have CBN := hid (hB.kp.cel14 PBN.out (by omega) (by rintro (q | q | q | q); (· omega); (· omega); (· omega); (· have := HGB.out _ q; omega)))
    have CBK := hid (hB.kp.cel14 PBK.out (by omega) (by rintro (q | q | q | q); (· omega); (· omega); (· omega); (· have := HGB.out _ q; omega)))
    have CR := hid hB.r
    obtain ⟨z, hz⟩ := hB.i
    obtain ⟨wv, hwv⟩ := hB.wt
    have CI := hid hz
    have CW := hid hwv
    have GW := hid hB.bw
    have HD := hid (⟨hD, hdf⟩ : V.heap.size ≤ D ∧ W.heap[D]? = some (.deferred (some [])))
    have hVW : Hid (V.heap.size ≤ W.heap.size) := hB.kp.1
    have HSM := hid (someI_any (w := W) (n := n) (k := k) (m := 1) (Nat.le_refl _) (by decide))
    have x0 := CN.out.at (i := 0) rfl
    have x1 := CK.out.at (i := 0) rfl
    clear PN1 PK1 PC1 PR1 PBN PBK PI PW LLV hB hz hwv hD hdf HG1 HDF EG0
    gi_wp2_with fail
    clear x0 x1
    refine ⟨trivial, (callsIn_wide.2 HSM.out).mono ?_⟩
    rintro e x3 ⟨wv2, rfl, hll, b⟩
    obtain ⟨aw2, cw2, hwv2, -, -⟩ := hll.form
    obtain ⟨lw2, hlw2⟩ : ∃ lw2, ((stsI n k).take 1).length = lw2 := ⟨_, rfl⟩
    rw [hlw2] at hwv2
    subst hwv2
    obtain ⟨V2, hV2⟩ : ∃ V2, (x3.setCell ⟨bW, 0, none⟩ (.slice aw2 lw2 cw2)).setCell ⟨bI, 0, none⟩ (.int .i64 0) = V2 := ⟨_, rfl⟩
    have s2 : V2.heap.size = x3.heap.size := by rw [← hV2]; simp
    have hb3 := b.size
    have hvw := hVW.out
    have key : ∀ (bb : Nat) (o : Obj), bb ≠ bW → bb ≠ bI → x3.heap[bb]? = some o → V2.heap[bb]? = some o := fun bb o h1 h2 e => by
      rw [← hV2]
      exact (Below.heap_setCell _ ⟨bI, 0, none⟩ _ bb (fun q => h2 (by simpa using q))).trans ((Below.heap_setCell _ ⟨bW, 0, none⟩ _ bb (fun q => h1 (by simpa using q))).trans e)
    have PN1 := hid (show Cel V2 bN 3 [.int .i64 n] from key _ _ (by omega) (by omega) (CN.out.step b))
    have PK1 := hid (show Cel V2 bK 3 [.int .i64 k] from key _ _ (by omega) (by omega) (CK.out.step b))
    have PC1 := hid (show Cel V2 bC 3 [.int .i64 (c : Int)] from key _ _ (by omega) (by omega) (CC.out.step b))
    have PBN := hid (show Cel V2 bn 3 [.int .i64 n] from key _ _ (by omega) (by omega) (CBN.out.step b))
    have PBK := hid (show Cel V2 bk 3 [.int .i64 k] from key _ _ (by omega) (by omega) (CBK.out.step b))
    have PR1 := hid (show Cel V2 bR 4 [.bool false] from key _ _ (by omega) (by omega) (CR.out.step b))
    have PW := hid (show Cel V2 bW 27 [.slice aw2 lw2 cw2] by rw [← hV2]; exact ((CW.out.step b).set 0 _).ne (by omega))
    have PI := hid (show Cel V2 bI 3 [.int .i64 0] by rw [← hV2]; exact ((CI.out.step b).ne (by omega)).set 0 _)
    have LLV : Hid (LLs W.heap.size W.heap.size V2 (.slice aw2 lw2 cw2) ((stsI n k).take 1)) := hll.keep (fun bb L hb e => key bb _ (by have := (hll.blk hb).1; omega) (by have := (hll.blk hb).1; omega) e) (fun bb L hb e => key bb _ (by omega) (by omega) e)
    have HG1 : Hid (Below w.heap.size w V2) := by unfold Hid; rw [← hV2]; exact bset (bset (below_step GW.out b) (by omega)) (by omega)
    obtain ⟨g2, hg2⟩ : ∃ g2, (Value.slice aw2 lw2 cw2).ownBlock = g2 := ⟨_, rfl⟩
    have EG0 := hid hg2
    have HGB2 : Hid (∀ g, g2 = some g → W.heap.size ≤ g ∧ g < V2.heap.size) := fun g hg => by
      obtain ⟨h1, L, e⟩ := hll.blk (hg2.trans hg)
      have := (Array.getElem?_eq_some_iff.1 e).1
      exact ⟨h1, by omega⟩
    have HDF : Hid (∀ D', (some D : Option Nat) = some D' → D' < V2.heap.size ∧ V2.heap[D']? = some (.deferred (some []))) := fun D' h => by
      cases h
      have h1 := HD.out.1
      have h2 := (b.block D (Array.getElem?_eq_some_iff.1 HD.out.2).1).trans HD.out.2
      have h3 := (Array.getElem?_eq_some_iff.1 h2).1
      exact ⟨by omega, key _ _ (by omega) (by omega) h2⟩
    have HDV : Hid (V.heap.size ≤ D) := HD.out.1
    have OO2 : Hid (w.heap.size = bN ∧ bN < bK ∧ bK < bC ∧ bC < bR ∧ bR < bn ∧ bR < bk ∧ bn < bW ∧ bk < bW ∧ bW < bI ∧ bI < W.heap.size ∧ W.heap.size ≤ V2.heap.size ∧ bI < D) := ⟨by omega, by omega, by omega, by omega, by omega, by omega, by omega, by omega, by omega, by omega, by omega, by have := HD.out.1; omega⟩
    have y0 := (CW.out.step b).at (i := 0) rfl
    have y1 := (CW.out.step b).fz 0
    have y2 := (show Cel (x3.setCell ⟨bW, 0, none⟩ (.slice aw2 lw2 cw2)) bI 3 [.int .i64 z] from (CI.out.step b).ne (by omega)).at (i := 0) rfl
    have y3 := (show Cel (x3.setCell ⟨bW, 0, none⟩ (.slice aw2 lw2 cw2)) bI 3 [.int .i64 z] from (CI.out.step b).ne (by omega)).fz 0
    have y4 := (CI.out.step b).at (i := 0) rfl
    have y5 := (CI.out.step b).fz 0
    have EV2 := hid hV2
    obtain ⟨XW, hXW⟩ : ∃ XW, W.heap.size = XW := ⟨_, rfl⟩
    clear oo
    have OO := OO2
    have HGB := HGB2
    clear OO2 HGB2 CN CK CC CBN CBK CR CI CW GW HD hVW HSM hll b hlw2 hb3 hvw key s2 hg2 hV2
    gi_wp2_with fail
    rw [EV2.out]
    clear EV2 y0 y1 y2 y3 y4 y5
    refine rangeL (σ := Nat × Nat) (α := Value) (by decide) rfl (enters_of Try.func16 (by kernel_rfl) rfl) (fun x => #[x]) (fun _ => rfl)
      (SgJ w V2 bW bI bR g2 (some D) n k 100002) (SgJ.own HG1.out.size) (AtI n k) (fun s x => AtI.own s x) (fun s _ => (s.1, s.2 + 1))
      (fun s => KpL (SgS bW bI bR g2) s.1) (fun h h' => h.trans h') (fun s W l o o' _ h1 h2 => KpL.put h1 h2)
      (fun s gs A => 0 < s.2 ∧ gs < s.1 ∧ ∃ L, A.heap[gs]? = some (.cells L 3 (0, 0))) (fun s A Z gs h h1 h2 t => ?js) (fun s => s.2 = 0 ∧ V2.heap.size ≤ s.1) (fun s => s.2 = (stsI n k).length) ?ini
      (fun cd W => cd = .ret ∧ SgB w V2 bW bI bR g2 (some D) true W) (fun cd _ W W' row hs hg hr => ⟨hs.1, SgB.own HG1.out.size () W W' row hs.2 hg hr⟩) ?it
      (fun x a' W => a' = { tmps := #[.int .i64 n, .int .i64 k, .int .i64 cut, .pointer (some ⟨bN, 0, none⟩), .pointer (some ⟨bK, 0, none⟩), .pointer (some ⟨bC, 0, none⟩), .pointer (some ⟨bR, 0, none⟩), .func (.func 16) #[] #[.pointer (some ⟨bn, 0, none⟩), .pointer (some ⟨bk, 0, none⟩)], .pointer (some ⟨bW, 0, none⟩), .pointer (some ⟨bI, 0, none⟩), undef, undef, undef, x, undef, .bool true, .bool false, .int .i64 cut, .int .i64 (c : Int), .int .i64 n, .int .i64 k, .func (.func 16) #[] #[.pointer (some ⟨bn, 0, none⟩), .pointer (some ⟨bk, 0, none⟩)], .func (.func 16) #[] #[.pointer (some ⟨bn, 0, none⟩), .pointer (some ⟨bk, 0, none⟩)], .bool false, .int .i64 n, .int .i64 k, .slice aw lw cw, .func (.func 16) #[] #[.pointer (some ⟨bn, 0, none⟩), .pointer (some ⟨bk, 0, none⟩)], undef, undef, undef, undef, undef, undef, undef, undef, undef, undef, undef, undef, undef, undef, undef, undef, undef, undef, undef, undef, undef, undef, undef, undef, undef, undef, undef, undef, undef, undef, undef, undef, undef, undef, undef, undef, undef, undef, undef, undef, undef, undef, undef, undef, .int .i64 n, .int .i64 k, .slice aw2 lw2 cw2, .func (.func 16) #[] #[.pointer (some ⟨bn, 0, none⟩), .pointer (some ⟨bk, 0, none⟩)], x, undef, undef, undef, undef, undef, undef, undef, undef, undef, undef, undef, undef, undef, undef, undef, undef, undef, undef, undef, undef, undef, undef, undef, undef, undef, undef, undef, undef, undef, undef, undef, undef, undef, undef, undef, undef], defers := [] }) (fun x a' _ W W' row hs hg hr => hs) ?assign ?body ?done ?stop
    case js =>
      obtain ⟨h3, h4, L, hL⟩ := h2
      exact h.tou HG1.out.size ⟨by have := OO.out; omega, by have := OO.out; omega, by have := OO.out; omega⟩ h1 h3 h4 hL t
    case ini =>
      rintro ⟨B, t⟩ ⟨ht, hB⟩
      dsimp only at ht hB
      subst ht
      exact ⟨Nat.zero_le _, hB, Nat.zero_le _, KpL.refl _ _ _, PI.out, PR1.out, ⟨_, PW.out, by rw [if_pos rfl]; exact LLV.out.mono (Nat.zero_le _) (Nat.zero_le _), fun b hb => .inl (by rw [← EG0.out]; exact hb)⟩, HG1.out, HDF.out⟩
    case it =>
      intro l J' Jy W hW hJ hJb hJs' hJ0 hY
      have oo := OO.out
      exact sets1_inI (S := SgS bW bI bR g2) (nn := 5) (l := l) (by decide) J' ((PBN.out.step hW).at (i := 0) rfl) ((PBK.out.step hW).at (i := 0) rfl)
        (by rintro (q | q | q | q); (· omega); (· omega); (· omega); (· have := HGB.out _ q; omega)) (by rintro (q | q | q | q); (· omega); (· omega); (· omega); (· have := HGB.out _ q; omega))
        hJb (fun s A B gs h h1 h2 t => hJs' s A B gs h h1 h2 t) (fun B hB => hJ0 _ ⟨rfl, Nat.le_trans hW.size hB⟩)
        (fun b hb => by have := hW.size; rcases hb with q | q | q | q; (· omega); (· omega); (· omega); (· have := HGB.out _ q; omega)) Jy (fun s x X h1 h2 => hY s x X h1 h2)
    case assign =>
      intro l s x W K hj hat hK
      have HKK := hid (hK { tmps := #[.int .i64 n, .int .i64 k, .int .i64 cut, .pointer (some ⟨bN, 0, none⟩), .pointer (some ⟨bK, 0, none⟩), .pointer (some ⟨bC, 0, none⟩), .pointer (some ⟨bR, 0, none⟩), .func (.func 16) #[] #[.pointer (some ⟨bn, 0, none⟩), .pointer (some ⟨bk, 0, none⟩)], .pointer (some ⟨bW, 0, none⟩), .pointer (some ⟨bI, 0, none⟩), undef, undef, undef, x, undef, .bool true, .bool false, .int .i64 cut, .int .i64 (c : Int), .int .i64 n, .int .i64 k, .func (.func 16) #[] #[.pointer (some ⟨bn, 0, none⟩), .pointer (some ⟨bk, 0, none⟩)], .func (.func 16) #[] #[.pointer (some ⟨bn, 0, none⟩), .pointer (some ⟨bk, 0, none⟩)], .bool false, .int .i64 n, .int .i64 k, .slice aw lw cw, .func (.func 16) #[] #[.pointer (some ⟨bn, 0, none⟩), .pointer (some ⟨bk, 0, none⟩)], undef, undef, undef, undef, undef, undef, undef, undef, undef, undef, undef, undef, undef, undef, undef, undef, undef, undef, undef, undef, undef, undef, undef, undef, undef, undef, undef, undef, undef, undef, undef, undef, undef, undef, undef, undef, undef, undef, undef, undef, undef, undef, undef, undef, .int .i64 n, .int .i64 k, .slice aw2 lw2 cw2, .func (.func 16) #[] #[.pointer (some ⟨bn, 0, none⟩), .pointer (some ⟨bk, 0, none⟩)], x, undef, undef, undef, undef, undef, undef, undef, undef, undef, undef, undef, undef, undef, undef, undef, undef, undef, undef, undef, undef, undef, undef, undef, undef, undef, undef, undef, undef, undef, undef, undef, undef, undef, undef, undef, undef], defers := [] } W ⟨Nat.le_refl _, fun _ _ _ e _ => e⟩ (KpL.refl _ _ _) hj hat rfl)
      clear hK hj hat
      gi_wp2
      exact HKK.out
    case body =>
      rintro l ⟨B, t⟩ x a' W hl ⟨r0, hr0⟩ hj ⟨hat1, hat2, hat3⟩ rfl
      dsimp only at hat1 hat2 hat3
      clear hr0 hl
      have oo := OO.out
      obtain ⟨n', k', hn', hk', hn64, hkn⟩ := stsI_ok hat1
      subst hn' hk'
      have es := stsI_nat hn64 hkn
      obtain ⟨ll, hll⟩ : ∃ ll, (stsI (n' : Int) (k' : Int)).getD t [] = ll := ⟨_, rfl⟩
      obtain ⟨sm1, sm2, sm3⟩ := sts_mem (n := n') (k := k') (t := t) (by rw [← es]; exact hat1)
      have hrun := sts_run hkn (t := t) (by rw [← es]; exact hat1)
      rw [← es, hll] at sm1 sm2 sm3 hrun
      rw [hll] at hat3
      obtain ⟨ax, cx, hx, hcx, hax⟩ := hat3.form
      rw [sm1] at hx hcx hax
      subst hx
      obtain ⟨wv, q1, q2, q3⟩ := hj.wt
      dsimp only at q1 q2 q3
      rw [wantL_at hat1, hll] at q2
      obtain ⟨awv, cwv, hwv, -, hawv⟩ := q2.form
      obtain ⟨g, hg⟩ := hawv (by simp)
      have hwv' : wv = .slice (some ⟨g, 0, none⟩) 1 cwv := by rw [hwv, hg]; rfl
      clear hwv hg hawv
      subst hwv'
      obtain ⟨u, cu, iu⟩ := q2.at (i := 0) (l := ll) rfl
      obtain ⟨au, ccu, hu, -, -⟩ := iu.form
      rw [sm1] at hu
      subst hu
      have CW := hid q1
      have CG := hid cu
      have HX := hid hat3
      have IU := hid iu
      have LLW := hid q2
      have QB := hid q3
      have HJ := hid hj
      have SM := hid (⟨sm1, sm2, sm3⟩ : ll.length = k' ∧ ll.Pairwise (· < ·) ∧ ∀ x ∈ ll, x < n')
      have HRUN := hid hrun
      have HAX := hid hax
      have HBW := hid hat2
      have HT := hid hat1
      have CN := hid (hj.kp.cel14 PN1.out (by omega) (by rintro (q | q | q | q); (· omega); (· omega); (· omega); (· have := HGB.out _ q; omega)))
      have CK := hid (hj.kp.cel14 PK1.out (by omega) (by rintro (q | q | q | q); (· omega); (· omega); (· omega); (· have := HGB.out _ q; omega)))
      have CC := hid (hj.kp.cel14 PC1.out (by omega) (by rintro (q | q | q | q); (· omega); (· omega); (· omega); (· have := HGB.out _ q; omega)))
      have HLN := hid (likeNums_yes hat3 iu (by rw [sm1]; omega))
      have x0 := q1.at (i := 0) rfl
      have x1 := cu
      clear hj hat1 hat2 hat3 es hll sm1 sm2 sm3 hrun hcx hax q1 q2 q3 cu iu
      gi_wp2_with fail
      clear x0 x1
      refine ⟨trivial, (CallsIn.inRound l (callsIn_wide.2 HLN.out)).mono ?_⟩
      rintro e w4 ⟨rfl, b⟩
      have B4 := hid b
      have HNX : Hid (∀ X', Below w4.heap.size w4 X' → Calls Try.prog 10 #[.slice au k' ccu, .int .i64 (n' : Int)] X' (fun e w' => ∃ r, e = .returned r ∧ NxV X'.heap.size w' n' k' ll r ∧ Below X'.heap.size X' w')) := fun X' hb => nextV (n := n') ((IU.out.now b).now hb) SM.out.1 (by omega) hn64 SM.out.2.1 SM.out.2.2
      have z0 := (CW.out.step b).at (i := 0) rfl
      have z1 := (show w4.cell? ⟨g, 0, none⟩ = _ from (b.cell (p := ⟨g, 0, none⟩) (by
        obtain ⟨_, L, e⟩ := LLW.out.blk (b := g) rfl
        exact (Array.getElem?_eq_some_iff.1 e).1)).trans CG.out)
      have z2 := (CN.out.step b).at (i := 0) rfl
      clear b HLN
      gi_wp2_with fail
      have KB : Hid (∀ w', Below w4.heap.size w4 w' → w'.cell? ⟨bW, 0, none⟩ = some (.slice (some ⟨g, 0, none⟩) 1 cwv) ∧ w'.cell? ⟨g, 0, none⟩ = some (.slice au k' ccu) ∧ w'.cell? ⟨bN, 0, none⟩ = some (.int .i64 (n' : Int))) := fun w' h => ⟨cnow h z0, cnow h z1, cnow h z2⟩
      refine region_round (by kernel_rfl) (hno_of11 (by kernel_rfl)) (by rintro ⟨a, w, h⟩; rcases (show _ ∨ _ from h) with q | ⟨cd, (q | ⟨i, q, _⟩), _⟩; (· cases q.1); (· cases q.1); (· cases q)) (wpAny_of_tail (S := fun w' => w'.cell? ⟨bW, 0, none⟩ = some (.slice (some ⟨g, 0, none⟩) 1 cwv) ∧ w'.cell? ⟨g, 0, none⟩ = some (.slice au k' ccu) ∧ w'.cell? ⟨bN, 0, none⟩ = some (.int .i64 (n' : Int))) (n := 5) _ _ _ _ ?_)
      obtain ⟨D61, hD⟩ : ∃ D61, w4.drew = D61 := ⟨_, rfl⟩
      have GB : Hid (Below w4.heap.size w4 D61) := by unfold Hid; rw [← hD]; exact (Below.refl _ _).drew
      rw [hD]
      clear hD
      refine wpAnyT_take (i := 0) (oi := { dst := some 88, op := Op.load 27 (Operand.tmp 8), type := 27, pos := "law.go:149", after := #[], guard := none }) (v := (.slice (some ⟨g, 0, none⟩) 1 cwv)) rfl (by kernel_rfl) (fun _ _ _ h => h) (Or.inl ⟨by rfl, ?_⟩) (KB.out _ GB.out) ?_
      · intro w hSw
        (try dsimp only at hSw)
        go_simp
      simp only [Act.put, List.setIfInBounds_toArray, List.set_cons_zero, List.set_cons_succ]
      refine wpAnyT_take (i := 1) (oi := { dst := some 89, op := Op.indexAddr 27 (Operand.tmp 88) (Operand.const (Value.int IntKind.i64 0)), type := 0, pos := "law.go:149", after := #[{ on := 0, ground := Ground.data }], guard := none }) (v := (.pointer (some ⟨g, 0, none⟩))) rfl (by kernel_rfl) (fun _ _ _ h => h) (Or.inl ⟨by rfl, ?_⟩) (KB.out _ GB.out) ?_
      · intro w hSw
        (try dsimp only at hSw)
        go_simp
      simp only [Act.put, List.setIfInBounds_toArray, List.set_cons_zero, List.set_cons_succ]
      refine wpAnyT_take (i := 2) (oi := { dst := some 90, op := Op.load 29 (Operand.tmp 89), type := 29, pos := "law.go:149", after := #[{ on := 1, ground := Ground.data }], guard := none }) (v := (.slice au k' ccu)) rfl (by kernel_rfl) (fun _ _ _ h => h) (Or.inl ⟨by rfl, ?_⟩) (KB.out _ GB.out) ?_
      · intro w hSw
        (try dsimp only at hSw)
        go_simp
      simp only [Act.put, List.setIfInBounds_toArray, List.set_cons_zero, List.set_cons_succ]
      refine wpAnyT_take (i := 3) (oi := { dst := some 91, op := Op.load 3 (Operand.tmp 3), type := 3, pos := "law.go:149", after := #[], guard := none }) (v := (.int .i64 (n' : Int))) rfl (by kernel_rfl) (fun _ _ _ h => h) (Or.inl ⟨by rfl, ?_⟩) (KB.out _ GB.out) ?_
      · intro w hSw
        (try dsimp only at hSw)
        go_simp
      simp only [Act.put, List.setIfInBounds_toArray, List.set_cons_zero, List.set_cons_succ]
      refine wpAnyT_one (i := 4) (o := { dst := some 92, op := Op.call { callee := Callee.value (Operand.func 10), args := #[Operand.tmp 90, Operand.tmp 91], argTypes := #[29, 3] }, type := 29, pos := "law.go:149", after := #[{ on := 2, ground := Ground.data }, { on := 3, ground := Ground.data }], guard := none }) (by kernel_rfl) rfl (fun K hK => ?_)
      have hs0 := GB.out.size
      go_simp
      go_at_call 10
      refine (HNX.out _ GB.out).mono ?_
      rintro e w62 ⟨r1, rfl, hnv, b⟩
      have lz62 := (show Below _ _ _ from b).size
      replace GB := hid (below_step GB.out b)
      have HNV := hid (hnv.mono (B' := w4.heap.size) (by first | exact Nat.le_refl _ | exact hs0))
      clear hnv
      clear b
      refine hK.out _ _ (fun _ => KB.out _ GB.out) ?_
      clear hK
      refine wpAnyT_one (i := 5) (o := { dst := some 14, op := Op.assign (Operand.tmp 92), type := 29, pos := "law.go:149", after := #[{ on := 4, ground := Ground.data }, { on := 4, ground := Ground.chain }, { on := 0, ground := Ground.phase }, { on := 1, ground := Ground.phase }, { on := 2, ground := Ground.phase }, { on := 3, ground := Ground.phase }, { on := 4, ground := Ground.phase }], guard := none }) (by kernel_rfl) rfl (fun K hK => ?_)
      go_simp
      refine hK.out _ _ (fun h => absurd h (by decide)) ?_
      clear hK
      try simp only [Act.put]
      refine wpAnyT_done (by kernel_rfl) ?_ _
      clear KB HNX
      obtain ⟨w5, hw5⟩ : ∃ w5, w62 = w5 := ⟨_, rfl⟩
      rw [hw5] at HNV GB ⊢
      clear hw5
      have hsl := fun W => slice_none14 W g 1 cwv
      have T5 : Hid (Below W.heap.size W w5) := below_step B4.out GB.out
      have lz4 : Hid (W.heap.size ≤ w4.heap.size) := B4.out.size
      have lz5 : Hid (w4.heap.size ≤ w5.heap.size) := GB.out.size
      clear z0 z1 z2 B4 GB
      have C5 := hid (CW.out.step T5.out)
      have y0 := C5.out.at (i := 0) rfl
      have y1 := C5.out.fz 0
      obtain ⟨U1, hU1⟩ : ∃ U1, w5.setCell ⟨bW, 0, none⟩ (.slice (some ⟨g, 0, none⟩) 0 cwv) = U1 := ⟨_, rfl⟩
      have HGL : Hid (∃ L, W.heap[g]? = some (.cells L 29 (0, 0))) := (LLW.out.blk (b := g) rfl).2
      have TU : Hid (Touch (fun b => b = bW ∨ b = g) W U1) := by
        unfold Hid
        rw [← hU1]
        exact (Touch.ofBelow T5.out).setCell (.inr (.inl rfl)) 0 _
      have CU := hid (show Cel U1 bW 27 [.slice (some ⟨g, 0, none⟩) 0 cwv] by rw [← hU1]; exact C5.out.set 0 _)
      have LU : Hid (LLs 0 w4.heap.size U1 (.slice (some ⟨g, 0, none⟩) 0 cwv) []) := by
        unfold Hid
        rw [← hU1]
        exact ((LLW.out.now T5.out).cut).ty (Ty.set C5.out) (by decide) (by decide)
      have EU := hid hU1
      clear LLW
      rcases HNV.out with ⟨hn0, hr⟩ | ⟨l', gn, cn, hn1, hl', hk0, hr, hI⟩
      · subst hr
        have hnq := fun W => run_neq_nil14 W
        have WN : Hid (LLs 0 w4.heap.size U1 (.slice (some ⟨g, 0, none⟩) 0 cwv) (wantL (n' : Int) (k' : Int) (t + 1))) := by
          unfold Hid
          have hend : ¬ t + 1 < (stsI (n' : Int) (k' : Int)).length := fun q => by
            have := HRUN.out
            rw [if_pos q, hn0] at this
            cases this
          rw [wantL_end (by omega)]
          exact LU.out
        have WO : Hid (∀ b, (Value.slice (some ⟨g, 0, none⟩) 0 cwv).ownBlock = some b → g2 = some b ∨ B ≤ b) := fun b hb => QB.out b hb
        clear hn0 LU HNV hU1 HRUN CN
        have XG : Hid (∀ b, (Value.slice ax k' cx).ownBlock = some b → B ≤ b ∧ b < W.heap.size ∧ ∃ L, W.heap[b]? = some (.cells L 3 (0, 0))) := fun b hb => by
          obtain ⟨h1, L, h2⟩ := HX.out.blk hb
          exact ⟨h1, (Array.getElem?_eq_some_iff.1 h2).1, L, h2⟩
        have TJ : Hid (Touch (fun b => (Value.slice ax k' cx).ownBlock = some b) U1 U1) := Touch.refl _ _
        have jle := HJ.out.le
        dsimp only at jle
        have TW : Hid (Touch (fun b => b = bW ∨ b = g ∨ (Value.slice ax k' cx).ownBlock = some b) W U1) := (TU.out.mono14 fun b q => q.imp_right .inl).trans (TJ.out.mono14 fun b q => .inr (.inr q))
        have nI : Hid (¬ (bI = bW ∨ bI = g ∨ (Value.slice ax k' cx).ownBlock = some bI)) := by
          rintro (q | q | q)
          · omega
          · rcases QB.out g rfl with r | r
            · have := HGB.out _ r; omega
            · omega
          · have := (XG.out _ q).1; omega
        have nC : Hid (¬ (bC = bW ∨ bC = g ∨ (Value.slice ax k' cx).ownBlock = some bC)) := by
          rintro (q | q | q)
          · omega
          · rcases QB.out g rfl with r | r
            · have := HGB.out _ r; omega
            · omega
          · have := (XG.out _ q).1; omega
        have CI7 := hid (HJ.out.i.tch TW.out nI.out)
        have CC7 := hid (CC.out.tch TW.out nC.out)
        have CX7 : Hid (Cel U1 bW 27 [.slice (some ⟨g, 0, none⟩) 0 cwv]) := CU.out.tch TJ.out fun q => by have := (XG.out _ q).1; omega
        have xU : Hid (∀ b L T fr, (U1).heap[b]? = some (.cells L T fr) → T ≠ 3 → ¬ (Value.slice ax k' cx).ownBlock = some b) := fun b L T fr e hT q => by
          obtain ⟨h1, h2, L', h3⟩ := XG.out b q
          have h4 := (TU.out.block b h2 (fun r => by
            rcases r with r | r
            · subst r; exact (show Cel W b 27 _ from CW.out).tne h3 (by decide) rfl
            · obtain ⟨L'', e''⟩ := HGL.out
              rw [r, e'', Option.some.injEq, Obj.cells.injEq] at h3
              exact absurd h3.2.1 (by decide))).trans h3
          rw [e, Option.some.injEq, Obj.cells.injEq] at h4
          exact hT h4.2.1
        have WN7 : Hid (LLs 0 w4.heap.size U1 (.slice (some ⟨g, 0, none⟩) 0 cwv) (wantL (n' : Int) (k' : Int) (t + 1))) := WN.out.keep (fun b L _ e => (TJ.out.block b (Array.getElem?_eq_some_iff.1 e).1 (xU.out b _ _ _ e (by decide))).trans e) (fun b L hb e => (TJ.out.block b (Array.getElem?_eq_some_iff.1 e).1 (fun q => by have := (XG.out b q).2.1; have := lz4.out; omega)).trans e)
        have htb := HJ.out.tb
        dsimp only at htb
        have hwt : IntKind.i64.wrap ((t : Int) + 1) = (t : Int) + 1 := by rw [wrap_is] <;> omega
        obtain ⟨UU, hUU⟩ : ∃ UU, U1.setCell ⟨bI, 0, none⟩ (.int .i64 ((t : Int) + 1)) = UU := ⟨_, rfl⟩
        have TUU : Hid (Touch (fun b => b = bI ∨ b = bW ∨ b = g ∨ (Value.slice ax k' cx).ownBlock = some b) W UU) := by
          unfold Hid
          rw [← hUU]
          exact (TW.out.mono14 fun b q => .inr q).setCell (.inr (.inl rfl)) 0 _
        have CIU := hid (show Cel UU bI 3 [.int .i64 ((t : Int) + 1)] by rw [← hUU]; exact CI7.out.set 0 _)
        have CCU := hid (show Cel UU bC 3 [.int .i64 (c : Int)] by rw [← hUU]; exact CC7.out.ne (by omega))
        have CWU := hid (show Cel UU bW 27 [.slice (some ⟨g, 0, none⟩) 0 cwv] by rw [← hUU]; exact CX7.out.ne (by omega))
        have FIN := hid (HJ.out.round (M := 100002) HT.out TUU.out (fun b q => by
          rcases q with q | q | q | q
          · exact ⟨.inr (.inl q), fun o e => by subst q; exact HJ.out.i.isC o e⟩
          · exact ⟨.inl q, fun o e => by subst q; exact CW.out.isC o e⟩
          · refine ⟨by
              subst q
              rcases QB.out b rfl with r | r
              · exact .inr (.inr (.inl r))
              · exact .inr (.inr (.inr r)), fun o e => ?_⟩
            obtain ⟨L', e'⟩ := HGL.out
            rw [q, e', Option.some.injEq] at e
            subst e
            rfl
          · refine ⟨.inr (.inr (.inr (XG.out b q).1)), fun o e => ?_⟩
            obtain ⟨_, _, L', e'⟩ := XG.out b q
            rw [e', Option.some.injEq] at e
            subst e
            rfl) ⟨by omega, by omega, fun q => by have := HGB.out _ q; omega, by omega⟩ (fun b q => by
          rcases q with q | q | q
          · omega
          · omega
          · have := HGB.out _ q; omega) HG1.out.size (by rw [show ((t + 1 : Nat) : Int) = (t : Int) + 1 by omega]; exact CIU.out) CWU.out (by
            rw [← hUU]
            exact (WN7.out.keep (fun b L _ e => (Ty.set CI7.out).2 b _ _ _ e (by decide)) (fun b L hb e => (Below.heap_setCell U1 ⟨bI, 0, none⟩ _ b (fun q => by
              have q' : b = bI := by simpa using q
              have h1 := lz4.out
              have h2 := HBW.out
              omega)).trans e)).mono (Nat.le_refl _) (Nat.le_trans HBW.out lz4.out)) WO.out)
        have i0 := CI7.out.at (i := 0) rfl
        have i1 := CI7.out.fz 0
        have i2 := CIU.out.at (i := 0) rfl
        have i3 := CCU.out.at (i := 0) rfl
        rw [← hUU] at i2 i3
        have i6 := CC7.out.at (i := 0) rfl
        have EUU := hid hUU
        rw [← EU.out] at i0 i1 i2 i3 i6
        by_cases htest : (c : Int) < (t : Int) + 1
        · have FX := hid (FIN.out.2.1.answer FIN.out.1 ⟨by omega, by omega⟩ (by omega))
          have i4 := FIN.out.2.1.r.at (i := 0) rfl
          have i5 := FIN.out.2.1.r.fz 0
          rw [← hUU, ← EU.out] at i4 i5
          clear FIN TW nI nC CI7 CC7 CX7 xU WN7 TUU CIU CCU CWU hUU TJ TU WN WO
          gi_wp2
          rw [EU.out, EUU.out]
          exact FX.out
        · have FX : Hid (KeepsFrom V2.heap.size W UU ∧ SgJ w V2 bW bI bR g2 (some D) n' k' 100002 (B, t + 1) UU ∧ KpL (SgS bW bI bR g2) B W UU) := ⟨FIN.out.1, FIN.out.2.1.tight (by show t + 1 ≤ 100002; omega), FIN.out.2.2⟩
          clear FIN TW nI nC CI7 CC7 CX7 xU WN7 TUU CIU CCU CWU hUU TJ TU WN WO
          gi_wp2
          rw [EU.out, EUU.out]
          exact FX.out
    
      · subst hr
        have hnq := fun W => run_neq_some14 W ⟨gn, 0, none⟩ k' cn
        have hkp : (0 : Int) < (k' : Int) := by omega
        have hmore : l' = (stsI (n' : Int) (k' : Int)).getD (t + 1) [] ∧ t + 1 < (stsI (n' : Int) (k' : Int)).length := by
          have h1 := HRUN.out
          rw [hn1] at h1
          by_cases q : t + 1 < (stsI (n' : Int) (k' : Int)).length
          · rw [if_pos q, Option.some.injEq] at h1; exact ⟨h1, q⟩
          · rw [if_neg q] at h1; cases h1
        have HM := hid hmore
        have y3 : U1.cell? ⟨bK, 0, none⟩ = some (.int .i64 (k' : Int)) := by rw [← hU1]; exact (((CK.out.step T5.out).ne (by omega)).at (i := 0) rfl)
        obtain ⟨V5, hV5⟩ : ∃ V5, U1.alloc (.cells #[.slice (some ⟨gn, 0, none⟩) k' cn] 29) = V5 := ⟨_, rfl⟩
        obtain ⟨b5, sz5⟩ := alo1 U1 (.cells #[.slice (some ⟨gn, 0, none⟩) k' cn] 29)
        rw [hV5] at b5 sz5
        have CV5 : Hid (V5.cell? ⟨w5.heap.size, 0, none⟩ = some (.slice (some ⟨gn, 0, none⟩) k' cn)) := by unfold Hid; rw [← hV5, show w5.heap.size = U1.heap.size by rw [← hU1]; simp]; exact (Cel.new U1 29 [.slice (some ⟨gn, 0, none⟩) k' cn]).at (i := 0) rfl
        have LV := hid (LU.out.now b5)
        have hIU : Ivs w4.heap.size U1 (.slice (some ⟨gn, 0, none⟩) k' cn) l' := by
          rw [← hU1]
          exact hI.keep fun b L _ e => (Ty.set C5.out).2 b _ _ _ e (by decide)
        have IV5 := hid (hIU.now b5)
        have CB5 := hid (CU.out.step b5)
        have TV5 := hid (TU.out.trans (Touch.ofBelow b5))
        have EV5 := hid hV5
        have hs5 : Hid (B ≤ V5.heap.size) := by
          unfold Hid
          have h1 := b5.size
          have h2 : w5.heap.size = U1.heap.size := by rw [← hU1]; simp
          have h3 := lz5.out
          have h4 := lz4.out
          have h5 := HBW.out
          omega
        rw [← hU1] at y3
        clear LU HNV hU1 hn1 hV5 hI hIU b5 sz5 hmore HRUN CU TU
        have y4 := (show Cel U1 bW 27 [.slice (some ⟨g, 0, none⟩) 0 cwv] by rw [← EU.out]; exact C5.out.set 0 _).at (i := 0) rfl
        rw [← EU.out] at y4
        gi_wp2_with (rw [EU.out, EV5.out]; refine list_round (by rintro ⟨a, w, h⟩; rcases (show _ ∨ _ from h) with q | ⟨cd, (q | ⟨i, q, _⟩), _⟩; (· cases q.1); (· cases q.1); (· cases q)) _ _ _ (by intro o ho c; rcases List.mem_cons.1 ho with rfl | ho; (· intro h; cases h); rcases List.mem_cons.1 ho with rfl | ho; (· intro h; cases h); cases ho) (wpList_append_lls V5 rfl (.tmp 101) (.tmp 103) rfl 0 w4.heap.size _ [] _ l' rfl LV.out IV5.out w5.heap.size rfl CV5.out (by simp) (Nat.zero_le _) ?_))
        clear EU y0 y1 y3 y4 hsl hnq C5 EV5 CV5 IV5
        intro g' cap' w6 hL6 hg6 hb6
        have TG : Hid (Ty 29 V5 w6) := ⟨hg6.out.size, fun b L T fr e hne => (hg6.out.block b (Array.getElem?_eq_some_iff.1 e).1 (fun q => by
          obtain ⟨_, L', e'⟩ := LV.out.blk q.symm
          rw [e', Option.some.injEq, Obj.cells.injEq] at e
          exact hne e.2.1.symm)).trans e⟩
        have C6 := hid (CB5.out.ty13 TG.out (by decide))
        obtain ⟨U2, hU2⟩ : ∃ U2, w6.setCell ⟨bW, 0, none⟩ (.slice (some ⟨g', 0, none⟩) 1 cap') = U2 := ⟨_, rfl⟩
        have CU := hid (show Cel U2 bW 27 [.slice (some ⟨g', 0, none⟩) 1 cap'] by rw [← hU2]; exact C6.out.set 0 _)
        have TU : Hid (Touch (fun b => b = bW ∨ b = g) W U2) := by
          unfold Hid
          rw [← hU2]
          exact (TV5.out.grown hg6.out (fun q hq => .inr (.inr (by cases hq; rfl)))).setCell (.inr (.inl rfl)) 0 _
        have WN : Hid (LLs 0 w4.heap.size U2 (.slice (some ⟨g', 0, none⟩) 1 cap') (wantL (n' : Int) (k' : Int) (t + 1))) := by
          unfold Hid
          rw [wantL_at HM.out.2, ← HM.out.1, ← hU2]
          exact (show LLs 0 w4.heap.size w6 (.slice (some ⟨g', 0, none⟩) 1 cap') [l'] from hL6.out).ty (Ty.set C6.out) (by decide) (by decide)
        have WO : Hid (∀ b, (Value.slice (some ⟨g', 0, none⟩) 1 cap').ownBlock = some b → g2 = some b ∨ B ≤ b) := fun b hb => by
          simp only [Value.ownBlock, Option.some.injEq] at hb
          subst hb
          rcases hb6.out with q | q
          · exact QB.out _ q
          · exact .inr (by rw [q]; exact hs5.out)
        have y0 := C6.out.at (i := 0) rfl
        have y1 := C6.out.fz 0
        have EU := hid hU2
        clear hL6 hg6 hb6 TG C6 CB5 TV5 LV HM hU2 hs5 hkp
        try simp only [List.length_nil, Nat.zero_add]
        go_wp2_with fail
        rw [EU.out]
        clear EU y0 y1 CK CN
        have XG : Hid (∀ b, (Value.slice ax k' cx).ownBlock = some b → B ≤ b ∧ b < W.heap.size ∧ ∃ L, W.heap[b]? = some (.cells L 3 (0, 0))) := fun b hb => by
          obtain ⟨h1, L, h2⟩ := HX.out.blk hb
          exact ⟨h1, (Array.getElem?_eq_some_iff.1 h2).1, L, h2⟩
        have TJ : Hid (Touch (fun b => (Value.slice ax k' cx).ownBlock = some b) U2 U2) := Touch.refl _ _
        have jle := HJ.out.le
        dsimp only at jle
        have TW : Hid (Touch (fun b => b = bW ∨ b = g ∨ (Value.slice ax k' cx).ownBlock = some b) W U2) := (TU.out.mono14 fun b q => q.imp_right .inl).trans (TJ.out.mono14 fun b q => .inr (.inr q))
        have nI : Hid (¬ (bI = bW ∨ bI = g ∨ (Value.slice ax k' cx).ownBlock = some bI)) := by
          rintro (q | q | q)
          · omega
          · rcases QB.out g rfl with r | r
            · have := HGB.out _ r; omega
            · omega
          · have := (XG.out _ q).1; omega
        have nC : Hid (¬ (bC = bW ∨ bC = g ∨ (Value.slice ax k' cx).ownBlock = some bC)) := by
          rintro (q | q | q)
          · omega
          · rcases QB.out g rfl with r | r
            · have := HGB.out _ r; omega
            · omega
          · have := (XG.out _ q).1; omega
        have CI7 := hid (HJ.out.i.tch TW.out nI.out)
        have CC7 := hid (CC.out.tch TW.out nC.out)
        have CX7 : Hid (Cel U2 bW 27 [.slice (some ⟨g', 0, none⟩) 1 cap']) := CU.out.tch TJ.out fun q => by have := (XG.out _ q).1; omega
        have xU : Hid (∀ b L T fr, (U2).heap[b]? = some (.cells L T fr) → T ≠ 3 → ¬ (Value.slice ax k' cx).ownBlock = some b) := fun b L T fr e hT q => by
          obtain ⟨h1, h2, L', h3⟩ := XG.out b q
          have h4 := (TU.out.block b h2 (fun r => by
            rcases r with r | r
            · subst r; exact (show Cel W b 27 _ from CW.out).tne h3 (by decide) rfl
            · obtain ⟨L'', e''⟩ := HGL.out
              rw [r, e'', Option.some.injEq, Obj.cells.injEq] at h3
              exact absurd h3.2.1 (by decide))).trans h3
          rw [e, Option.some.injEq, Obj.cells.injEq] at h4
          exact hT h4.2.1
        have WN7 : Hid (LLs 0 w4.heap.size U2 (.slice (some ⟨g', 0, none⟩) 1 cap') (wantL (n' : Int) (k' : Int) (t + 1))) := WN.out.keep (fun b L _ e => (TJ.out.block b (Array.getElem?_eq_some_iff.1 e).1 (xU.out b _ _ _ e (by decide))).trans e) (fun b L hb e => (TJ.out.block b (Array.getElem?_eq_some_iff.1 e).1 (fun q => by have := (XG.out b q).2.1; have := lz4.out; omega)).trans e)
        have htb := HJ.out.tb
        dsimp only at htb
        have hwt : IntKind.i64.wrap ((t : Int) + 1) = (t : Int) + 1 := by rw [wrap_is] <;> omega
        obtain ⟨UU, hUU⟩ : ∃ UU, U2.setCell ⟨bI, 0, none⟩ (.int .i64 ((t : Int) + 1)) = UU := ⟨_, rfl⟩
        have TUU : Hid (Touch (fun b => b = bI ∨ b = bW ∨ b = g ∨ (Value.slice ax k' cx).ownBlock = some b) W UU) := by
          unfold Hid
          rw [← hUU]
          exact (TW.out.mono14 fun b q => .inr q).setCell (.inr (.inl rfl)) 0 _
        have CIU := hid (show Cel UU bI 3 [.int .i64 ((t : Int) + 1)] by rw [← hUU]; exact CI7.out.set 0 _)
        have CCU := hid (show Cel UU bC 3 [.int .i64 (c : Int)] by rw [← hUU]; exact CC7.out.ne (by omega))
        have CWU := hid (show Cel UU bW 27 [.slice (some ⟨g', 0, none⟩) 1 cap'] by rw [← hUU]; exact CX7.out.ne (by omega))
        have FIN := hid (HJ.out.round (M := 100002) HT.out TUU.out (fun b q => by
          rcases q with q | q | q | q
          · exact ⟨.inr (.inl q), fun o e => by subst q; exact HJ.out.i.isC o e⟩
          · exact ⟨.inl q, fun o e => by subst q; exact CW.out.isC o e⟩
          · refine ⟨by
              subst q
              rcases QB.out b rfl with r | r
              · exact .inr (.inr (.inl r))
              · exact .inr (.inr (.inr r)), fun o e => ?_⟩
            obtain ⟨L', e'⟩ := HGL.out
            rw [q, e', Option.some.injEq] at e
            subst e
            rfl
          · refine ⟨.inr (.inr (.inr (XG.out b q).1)), fun o e => ?_⟩
            obtain ⟨_, _, L', e'⟩ := XG.out b q
            rw [e', Option.some.injEq] at e
            subst e
            rfl) ⟨by omega, by omega, fun q => by have := HGB.out _ q; omega, by omega⟩ (fun b q => by
          rcases q with q | q | q
          · omega
          · omega
          · have := HGB.out _ q; omega) HG1.out.size (by rw [show ((t + 1 : Nat) : Int) = (t : Int) + 1 by omega]; exact CIU.out) CWU.out (by
            rw [← hUU]
            exact (WN7.out.keep (fun b L _ e => (Ty.set CI7.out).2 b _ _ _ e (by decide)) (fun b L hb e => (Below.heap_setCell U2 ⟨bI, 0, none⟩ _ b (fun q => by
              have q' : b = bI := by simpa using q
              have h1 := lz4.out
              have h2 := HBW.out
              omega)).trans e)).mono (Nat.le_refl _) (Nat.le_trans HBW.out lz4.out)) WO.out)
        have i0 := CI7.out.at (i := 0) rfl
        have i1 := CI7.out.fz 0
        have i2 := CIU.out.at (i := 0) rfl
        have i3 := CCU.out.at (i := 0) rfl
        rw [← hUU] at i2 i3
        have i6 := CC7.out.at (i := 0) rfl
        have EUU := hid hUU
        by_cases htest : (c : Int) < (t : Int) + 1
        · have FX := hid (FIN.out.2.1.answer FIN.out.1 ⟨by omega, by omega⟩ (by omega))
          have i4 := FIN.out.2.1.r.at (i := 0) rfl
          have i5 := FIN.out.2.1.r.fz 0
          rw [← hUU] at i4 i5
          clear FIN TW nI nC CI7 CC7 CX7 xU WN7 TUU CIU CCU CWU hUU TJ TU WN WO
          gi_wp2
          rw [EUU.out]
          exact FX.out
        · have FX : Hid (KeepsFrom V2.heap.size W UU ∧ SgJ w V2 bW bI bR g2 (some D) n' k' 100002 (B, t + 1) UU ∧ KpL (SgS bW bI bR g2) B W UU) := ⟨FIN.out.1, FIN.out.2.1.tight (by show t + 1 ≤ 100002; omega), FIN.out.2.2⟩
          clear FIN TW nI nC CI7 CC7 CX7 xU WN7 TUU CIU CCU CWU hUU TJ TU WN WO
          gi_wp2
          rw [EUU.out]
          exact FX.out
    case done =>
      intro D2 s W2 hD2 hfin hj hdf
      obtain ⟨wv, q1, q2, q3⟩ := hj.wt
      rw [wantL_end (by rw [hfin]; exact Nat.le_refl _)] at q2
      obtain ⟨aq, cq, hq, -, -⟩ := q2.form
      rw [List.length_nil] at hq
      subst hq
      have oo := OO.out
      have x0 := q1.at (i := 0) rfl
      have x1 := hj.r.at (i := 0) rfl
      have x2 := hj.r.fz 0
      obtain ⟨U3, hU3⟩ : ∃ U3, W2.setCell ⟨bR, 0, none⟩ (.bool true) = U3 := ⟨_, rfl⟩
      have LV := hid (leave14 (D1 := D) (D2 := D2) (show Cel U3 bR 4 [.bool true] by rw [← hU3]; exact hj.r.set 0 _)
        (show U3.heap[D2]? = _ by rw [← hU3]; exact (Below.heap_setCell W2 ⟨bR, 0, none⟩ _ D2 (fun q => absurd (show D2 = bR by simpa using q) (by omega))).trans hdf)
        (show U3.heap[D]? = _ by rw [← hU3]; exact (Below.heap_setCell W2 ⟨bR, 0, none⟩ _ D (fun q => absurd (show D = bR by simpa using q) (by omega))).trans (hj.df D rfl).2)
        (by have := (hj.df D rfl).1; omega) (show Below w.heap.size w U3 by rw [← hU3]; exact bset hj.bw (by omega)) (by omega) (by have := HDV.out; omega))
      have HK : Hid (U3.heap[D2]? = some (.deferred (some []))) := by unfold Hid; rw [← hU3]; exact (Below.heap_setCell W2 ⟨bR, 0, none⟩ _ D2 (fun q => absurd (show D2 = bR by simpa using q) (by omega))).trans hdf
      have EU := hid hU3
      clear hj q1 q2 q3 hU3 hdf
      gi_wp2
      rw [EU.out]
      refine ⟨by simp, .inl ⟨_, _, rfl, run_takeDeferred HK.out, ?_⟩⟩
      refine ⟨by simp, .inl ⟨_, _, rfl, run_takeDeferred LV.out.1, ?_⟩⟩
      exact ⟨_, bback14 Try.results4 LV.out.2.1 _ (by rfl), rfl, LV.out.2.2⟩
    case stop =>
      rintro D2 cd W2 hD2 ⟨rfl, hb⟩ hdf
      have oo := OO.out
      have LV := hid (leave14 (D1 := D) (D2 := D2) hb.r hdf (hb.df D rfl).2 (by have := (hb.df D rfl).1; omega) hb.bw (by omega) (by have := HDV.out; omega))
      have HK := hid hdf
      clear hb hdf
      gi_wp2
      refine ⟨by simp, .inl ⟨_, _, rfl, run_takeDeferred HK.out, ?_⟩⟩
      refine ⟨by simp, .inl ⟨_, _, rfl, run_takeDeferred LV.out.1, ?_⟩⟩
      exact ⟨_, bback14 Try.results4 LV.out.2.1 _ (by rfl), rfl, LV.out.2.2⟩
  refine rangeL (σ := Nat × Nat) (α := Value) (by decide) rfl (enters_of Try.func16 (by kernel_rfl) rfl) (fun x => #[x]) (fun _ => rfl)
    (SgJ w V bW bI bR g0 none n k 100002) (SgJ.own HG1.out.size) (AtI n k) (fun s x => AtI.own s x) (fun s _ => (s.1, s.2 + 1))
    (fun s => KpL (SgS bW bI bR g0) s.1) (fun h h' => h.trans h') (fun s W l o o' _ h1 h2 => KpL.put h1 h2)
    (fun s gs A => 0 < s.2 ∧ gs < s.1 ∧ ∃ L, A.heap[gs]? = some (.cells L 3 (0, 0))) (fun s A Z gs h h1 h2 t => ?js) (fun s => s.2 = 0 ∧ V.heap.size ≤ s.1) (fun s => s.2 = (stsI n k).length) ?ini
    (fun cd W => cd = .exit 0 ∧ SgB w V bW bI bR g0 none false W) (fun cd _ W W' row hs hg hr => ⟨hs.1, SgB.own HG1.out.size () W W' row hs.2 hg hr⟩) ?it
    (fun x a' W => a' = { tmps := #[.int .i64 n, .int .i64 k, .int .i64 cut, .pointer (some ⟨bN, 0, none⟩), .pointer (some ⟨bK, 0, none⟩), .pointer (some ⟨bC, 0, none⟩), .pointer (some ⟨bR, 0, none⟩), .func (.func 16) #[] #[.pointer (some ⟨bn, 0, none⟩), .pointer (some ⟨bk, 0, none⟩)], .pointer (some ⟨bW, 0, none⟩), .pointer (some ⟨bI, 0, none⟩), x, undef, undef, undef, undef, .bool true, .bool false, .int .i64 cut, .int .i64 (c : Int), .int .i64 n, .int .i64 k, .func (.func 16) #[] #[.pointer (some ⟨bn, 0, none⟩), .pointer (some ⟨bk, 0, none⟩)], .func (.func 16) #[] #[.pointer (some ⟨bn, 0, none⟩), .pointer (some ⟨bk, 0, none⟩)], .bool false, .int .i64 n, .int .i64 k, .slice aw lw cw, .func (.func 16) #[] #[.pointer (some ⟨bn, 0, none⟩), .pointer (some ⟨bk, 0, none⟩)], x, undef, undef, undef, undef, undef, undef, undef, undef, undef, undef, undef, undef, undef, undef, undef, undef, undef, undef, undef, undef, undef, undef, undef, undef, undef, undef, undef, undef, undef, undef, undef, undef, undef, undef, undef, undef, undef, undef, undef, undef, undef, undef, undef, undef, undef, undef, undef, undef, undef, undef, undef, undef, undef, undef, undef, undef, undef, undef, undef, undef, undef, undef, undef, undef, undef, undef, undef, undef, undef, undef, undef, undef, undef, undef, undef, undef, undef, undef, undef, undef, undef, undef, undef, undef], defers := [] }) (fun x a' _ W W' row hs hg hr => hs) ?assign ?body ?done ?stop
  case js =>
    obtain ⟨h3, h4, L, hL⟩ := h2
    exact h.tou HG1.out.size ⟨by have := OO.out; omega, by have := OO.out; omega, by have := OO.out; omega⟩ h1 h3 h4 hL t
  case ini =>
    rintro ⟨B, t⟩ ⟨ht, hB⟩
    dsimp only at ht hB
    subst ht
    exact ⟨Nat.zero_le _, hB, Nat.zero_le _, KpL.refl _ _ _, PI.out, PR1.out, ⟨_, PW.out, by rw [if_pos rfl]; exact LLV.out.mono (Nat.zero_le _) (Nat.zero_le _), fun b hb => .inl (by rw [← EG0.out]; exact hb)⟩, HG1.out, HDF.out⟩
  case it =>
    intro l J' Jy W hW hJ hJb hJs' hJ0 hY
    have oo := OO.out
    exact sets1_inI (S := SgS bW bI bR g0) (nn := 5) (l := l) (by decide) J' ((PBN.out.step hW).at (i := 0) rfl) ((PBK.out.step hW).at (i := 0) rfl)
      (by rintro (q | q | q | q); (· omega); (· omega); (· omega); (· have := HGB.out _ q; omega)) (by rintro (q | q | q | q); (· omega); (· omega); (· omega); (· have := HGB.out _ q; omega))
      hJb (fun s A B gs h h1 h2 t => hJs' s A B gs h h1 h2 t) (fun B hB => hJ0 _ ⟨rfl, Nat.le_trans hW.size hB⟩)
      (fun b hb => by have := hW.size; rcases hb with q | q | q | q; (· omega); (· omega); (· omega); (· have := HGB.out _ q; omega)) Jy (fun s x X h1 h2 => hY s x X h1 h2)
  case assign =>
    intro l s x W K hj hat hK
    have HKK := hid (hK { tmps := #[.int .i64 n, .int .i64 k, .int .i64 cut, .pointer (some ⟨bN, 0, none⟩), .pointer (some ⟨bK, 0, none⟩), .pointer (some ⟨bC, 0, none⟩), .pointer (some ⟨bR, 0, none⟩), .func (.func 16) #[] #[.pointer (some ⟨bn, 0, none⟩), .pointer (some ⟨bk, 0, none⟩)], .pointer (some ⟨bW, 0, none⟩), .pointer (some ⟨bI, 0, none⟩), x, undef, undef, undef, undef, .bool true, .bool false, .int .i64 cut, .int .i64 (c : Int), .int .i64 n, .int .i64 k, .func (.func 16) #[] #[.pointer (some ⟨bn, 0, none⟩), .pointer (some ⟨bk, 0, none⟩)], .func (.func 16) #[] #[.pointer (some ⟨bn, 0, none⟩), .pointer (some ⟨bk, 0, none⟩)], .bool false, .int .i64 n, .int .i64 k, .slice aw lw cw, .func (.func 16) #[] #[.pointer (some ⟨bn, 0, none⟩), .pointer (some ⟨bk, 0, none⟩)], x, undef, undef, undef, undef, undef, undef, undef, undef, undef, undef, undef, undef, undef, undef, undef, undef, undef, undef, undef, undef, undef, undef, undef, undef, undef, undef, undef, undef, undef, undef, undef, undef, undef, undef, undef, undef, undef, undef, undef, undef, undef, undef, undef, undef, undef, undef, undef, undef, undef, undef, undef, undef, undef, undef, undef, undef, undef, undef, undef, undef, undef, undef, undef, undef, undef, undef, undef, undef, undef, undef, undef, undef, undef, undef, undef, undef, undef, undef, undef, undef, undef, undef, undef, undef], defers := [] } W ⟨Nat.le_refl _, fun _ _ _ e _ => e⟩ (KpL.refl _ _ _) hj hat rfl)
    clear hK hj hat
    gi_wp2
    exact HKK.out
  case body =>
    rintro l ⟨B, t⟩ x a' W hl ⟨r0, hr0⟩ hj ⟨hat1, hat2, hat3⟩ rfl
    dsimp only at hat1 hat2 hat3
    clear hr0 hl
    have oo := OO.out
    obtain ⟨n', k', hn', hk', hn64, hkn⟩ := stsI_ok hat1
    subst hn' hk'
    have es := stsI_nat hn64 hkn
    obtain ⟨ll, hll⟩ : ∃ ll, (stsI (n' : Int) (k' : Int)).getD t [] = ll := ⟨_, rfl⟩
    obtain ⟨sm1, sm2, sm3⟩ := sts_mem (n := n') (k := k') (t := t) (by rw [← es]; exact hat1)
    have hrun := sts_run hkn (t := t) (by rw [← es]; exact hat1)
    rw [← es, hll] at sm1 sm2 sm3 hrun
    rw [hll] at hat3
    obtain ⟨ax, cx, hx, hcx, hax⟩ := hat3.form
    rw [sm1] at hx hcx hax
    subst hx
    obtain ⟨wv, q1, q2, q3⟩ := hj.wt
    dsimp only at q1 q2 q3
    rw [wantL_at hat1, hll] at q2
    obtain ⟨awv, cwv, hwv, -, hawv⟩ := q2.form
    obtain ⟨g, hg⟩ := hawv (by simp)
    have hwv' : wv = .slice (some ⟨g, 0, none⟩) 1 cwv := by rw [hwv, hg]; rfl
    clear hwv hg hawv
    subst hwv'
    obtain ⟨u, cu, iu⟩ := q2.at (i := 0) (l := ll) rfl
    obtain ⟨au, ccu, hu, -, -⟩ := iu.form
    rw [sm1] at hu
    subst hu
    have CW := hid q1
    have CG := hid cu
    have HX := hid hat3
    have IU := hid iu
    have LLW := hid q2
    have QB := hid q3
    have HJ := hid hj
    have SM := hid (⟨sm1, sm2, sm3⟩ : ll.length = k' ∧ ll.Pairwise (· < ·) ∧ ∀ x ∈ ll, x < n')
    have HRUN := hid hrun
    have HAX := hid hax
    have HBW := hid hat2
    have HT := hid hat1
    have CN := hid (hj.kp.cel14 PN1.out (by omega) (by rintro (q | q | q | q); (· omega); (· omega); (· omega); (· have := HGB.out _ q; omega)))
    have CK := hid (hj.kp.cel14 PK1.out (by omega) (by rintro (q | q | q | q); (· omega); (· omega); (· omega); (· have := HGB.out _ q; omega)))
    have CC := hid (hj.kp.cel14 PC1.out (by omega) (by rintro (q | q | q | q); (· omega); (· omega); (· omega); (· have := HGB.out _ q; omega)))
    have HLN := hid (likeNums_yes hat3 iu (by rw [sm1]; omega))
    have x0 := q1.at (i := 0) rfl
    have x1 := cu
    clear hj hat1 hat2 hat3 es hll sm1 sm2 sm3 hrun hcx hax q1 q2 q3 cu iu
    gi_wp2_with fail
    clear x0 x1
    refine ⟨trivial, (CallsIn.inRound l (callsIn_wide.2 HLN.out)).mono ?_⟩
    rintro e w4 ⟨rfl, b⟩
    have B4 := hid b
    have HNX : Hid (∀ X', Below w4.heap.size w4 X' → Calls Try.prog 10 #[.slice au k' ccu, .int .i64 (n' : Int)] X' (fun e w' => ∃ r, e = .returned r ∧ NxV X'.heap.size w' n' k' ll r ∧ Below X'.heap.size X' w')) := fun X' hb => nextV (n := n') ((IU.out.now b).now hb) SM.out.1 (by omega) hn64 SM.out.2.1 SM.out.2.2
    have z0 := (CW.out.step b).at (i := 0) rfl
    have z1 := (show w4.cell? ⟨g, 0, none⟩ = _ from (b.cell (p := ⟨g, 0, none⟩) (by
      obtain ⟨_, L, e⟩ := LLW.out.blk (b := g) rfl
      exact (Array.getElem?_eq_some_iff.1 e).1)).trans CG.out)
    have z2 := (CN.out.step b).at (i := 0) rfl
    clear b HLN
    gi_wp2_with fail
    have KB : Hid (∀ w', Below w4.heap.size w4 w' → w'.cell? ⟨bW, 0, none⟩ = some (.slice (some ⟨g, 0, none⟩) 1 cwv) ∧ w'.cell? ⟨g, 0, none⟩ = some (.slice au k' ccu) ∧ w'.cell? ⟨bN, 0, none⟩ = some (.int .i64 (n' : Int))) := fun w' h => ⟨cnow h z0, cnow h z1, cnow h z2⟩
    refine region_round (by kernel_rfl) (hno_of11 (by kernel_rfl)) (by rintro ⟨a, w, h⟩; rcases (show _ ∨ _ from h) with q | ⟨cd, (q | ⟨i, q, _⟩), _⟩; (· cases q.1); (· cases q.1); (· cases q)) (wpAny_of_tail (S := fun w' => w'.cell? ⟨bW, 0, none⟩ = some (.slice (some ⟨g, 0, none⟩) 1 cwv) ∧ w'.cell? ⟨g, 0, none⟩ = some (.slice au k' ccu) ∧ w'.cell? ⟨bN, 0, none⟩ = some (.int .i64 (n' : Int))) (n := 5) _ _ _ _ ?_)
    obtain ⟨D61, hD⟩ : ∃ D61, w4.drew = D61 := ⟨_, rfl⟩
    have GB : Hid (Below w4.heap.size w4 D61) := by unfold Hid; rw [← hD]; exact (Below.refl _ _).drew
    rw [hD]
    clear hD
    refine wpAnyT_take (i := 0) (oi := { dst := some 40, op := Op.load 27 (Operand.tmp 8), type := 27, pos := "law.go:130", after := #[], guard := none }) (v := (.slice (some ⟨g, 0, none⟩) 1 cwv)) rfl (by kernel_rfl) (fun _ _ _ h => h) (Or.inl ⟨by rfl, ?_⟩) (KB.out _ GB.out) ?_
    · intro w hSw
      (try dsimp only at hSw)
      go_simp
    simp only [Act.put, List.setIfInBounds_toArray, List.set_cons_zero, List.set_cons_succ]
    refine wpAnyT_take (i := 1) (oi := { dst := some 41, op := Op.indexAddr 27 (Operand.tmp 40) (Operand.const (Value.int IntKind.i64 0)), type := 0, pos := "law.go:130", after := #[{ on := 0, ground := Ground.data }], guard := none }) (v := (.pointer (some ⟨g, 0, none⟩))) rfl (by kernel_rfl) (fun _ _ _ h => h) (Or.inl ⟨by rfl, ?_⟩) (KB.out _ GB.out) ?_
    · intro w hSw
      (try dsimp only at hSw)
      go_simp
    simp only [Act.put, List.setIfInBounds_toArray, List.set_cons_zero, List.set_cons_succ]
    refine wpAnyT_take (i := 2) (oi := { dst := some 42, op := Op.load 29 (Operand.tmp 41), type := 29, pos := "law.go:130", after := #[{ on := 1, ground := Ground.data }], guard := none }) (v := (.slice au k' ccu)) rfl (by kernel_rfl) (fun _ _ _ h => h) (Or.inl ⟨by rfl, ?_⟩) (KB.out _ GB.out) ?_
    · intro w hSw
      (try dsimp only at hSw)
      go_simp
    simp only [Act.put, List.setIfInBounds_toArray, List.set_cons_zero, List.set_cons_succ]
    refine wpAnyT_take (i := 3) (oi := { dst := some 43, op := Op.load 3 (Operand.tmp 3), type := 3, pos := "law.go:130", after := #[], guard := none }) (v := (.int .i64 (n' : Int))) rfl (by kernel_rfl) (fun _ _ _ h => h) (Or.inl ⟨by rfl, ?_⟩) (KB.out _ GB.out) ?_
    · intro w hSw
      (try dsimp only at hSw)
      go_simp
    simp only [Act.put, List.setIfInBounds_toArray, List.set_cons_zero, List.set_cons_succ]
    refine wpAnyT_one (i := 4) (o := { dst := some 44, op := Op.call { callee := Callee.value (Operand.func 10), args := #[Operand.tmp 42, Operand.tmp 43], argTypes := #[29, 3] }, type := 29, pos := "law.go:130", after := #[{ on := 2, ground := Ground.data }, { on := 3, ground := Ground.data }], guard := none }) (by kernel_rfl) rfl (fun K hK => ?_)
    have hs0 := GB.out.size
    go_simp
    go_at_call 10
    refine (HNX.out _ GB.out).mono ?_
    rintro e w62 ⟨r1, rfl, hnv, b⟩
    have lz62 := (show Below _ _ _ from b).size
    replace GB := hid (below_step GB.out b)
    have HNV := hid (hnv.mono (B' := w4.heap.size) (by first | exact Nat.le_refl _ | exact hs0))
    clear hnv
    clear b
    refine hK.out _ _ (fun _ => KB.out _ GB.out) ?_
    clear hK
    refine wpAnyT_one (i := 5) (o := { dst := some 11, op := Op.assign (Operand.tmp 44), type := 29, pos := "law.go:130", after := #[{ on := 4, ground := Ground.data }, { on := 4, ground := Ground.chain }, { on := 0, ground := Ground.phase }, { on := 1, ground := Ground.phase }, { on := 2, ground := Ground.phase }, { on := 3, ground := Ground.phase }, { on := 4, ground := Ground.phase }], guard := none }) (by kernel_rfl) rfl (fun K hK => ?_)
    go_simp
    refine hK.out _ _ (fun h => absurd h (by decide)) ?_
    clear hK
    try simp only [Act.put]
    refine wpAnyT_done (by kernel_rfl) ?_ _
    clear KB HNX
    obtain ⟨w5, hw5⟩ : ∃ w5, w62 = w5 := ⟨_, rfl⟩
    rw [hw5] at HNV GB ⊢
    clear hw5
    have hsl := fun W => slice_none14 W g 1 cwv
    have T5 : Hid (Below W.heap.size W w5) := below_step B4.out GB.out
    have lz4 : Hid (W.heap.size ≤ w4.heap.size) := B4.out.size
    have lz5 : Hid (w4.heap.size ≤ w5.heap.size) := GB.out.size
    clear z0 z1 z2 B4 GB
    have C5 := hid (CW.out.step T5.out)
    have y0 := C5.out.at (i := 0) rfl
    have y1 := C5.out.fz 0
    obtain ⟨U1, hU1⟩ : ∃ U1, w5.setCell ⟨bW, 0, none⟩ (.slice (some ⟨g, 0, none⟩) 0 cwv) = U1 := ⟨_, rfl⟩
    have HGL : Hid (∃ L, W.heap[g]? = some (.cells L 29 (0, 0))) := (LLW.out.blk (b := g) rfl).2
    have TU : Hid (Touch (fun b => b = bW ∨ b = g) W U1) := by
      unfold Hid
      rw [← hU1]
      exact (Touch.ofBelow T5.out).setCell (.inr (.inl rfl)) 0 _
    have CU := hid (show Cel U1 bW 27 [.slice (some ⟨g, 0, none⟩) 0 cwv] by rw [← hU1]; exact C5.out.set 0 _)
    have LU : Hid (LLs 0 w4.heap.size U1 (.slice (some ⟨g, 0, none⟩) 0 cwv) []) := by
      unfold Hid
      rw [← hU1]
      exact ((LLW.out.now T5.out).cut).ty (Ty.set C5.out) (by decide) (by decide)
    have EU := hid hU1
    clear LLW
    rcases HNV.out with ⟨hn0, hr⟩ | ⟨l', gn, cn, hn1, hl', hk0, hr, hI⟩
    · subst hr
      have hnq := fun W => run_neq_nil14 W
      have WN : Hid (LLs 0 w4.heap.size U1 (.slice (some ⟨g, 0, none⟩) 0 cwv) (wantL (n' : Int) (k' : Int) (t + 1))) := by
        unfold Hid
        have hend : ¬ t + 1 < (stsI (n' : Int) (k' : Int)).length := fun q => by
          have := HRUN.out
          rw [if_pos q, hn0] at this
          cases this
        rw [wantL_end (by omega)]
        exact LU.out
      have WO : Hid (∀ b, (Value.slice (some ⟨g, 0, none⟩) 0 cwv).ownBlock = some b → g0 = some b ∨ B ≤ b) := fun b hb => QB.out b hb
      clear hn0 LU HNV hU1 HRUN
      gi_wp2_with fail
      rw [EU.out]
      clear EU y0 y1 hsl hnq C5 CK CN
      have XC : Hid (∀ gx, ax = some ⟨gx, 0, none⟩ → ∃ L : List Value, k' ≤ L.length ∧ Cel W gx 3 L) := fun gx hgx => by
        subst hgx
        obtain ⟨r, hr, -, -, -, -⟩ := HX.out.cel14
        exact ⟨_, by rw [List.length_append, wf_len, SM.out.1]; omega, hr⟩
      have XG : Hid (∀ b, (Value.slice ax k' cx).ownBlock = some b → B ≤ b ∧ b < W.heap.size ∧ ∃ L, W.heap[b]? = some (.cells L 3 (0, 0))) := fun b hb => by
        obtain ⟨h1, L, h2⟩ := HX.out.blk hb
        exact ⟨h1, (Array.getElem?_eq_some_iff.1 h2).1, L, h2⟩
      have H0 : Hid (NgH U1 ax k' cx k' (.int .i64 0) U1) := ⟨0, rfl, Nat.zero_le _, rfl, Touch.refl _ _, fun gx hgx => by
        obtain ⟨L, h1, h2⟩ := XC.out gx hgx
        refine ⟨L, h1, h2.tch TU.out fun q => ?_⟩
        rcases q with q | q
        · exact h2.tne (CW.out) (by decide) q
        · obtain ⟨L', e⟩ := HGL.out
          exact h2.tne e (by decide) q⟩
      have hk64 : k' ≤ 64 := by omega
      gi_loopg [12] k' (fun gk s12 wx => NgH U1 ax k' cx gk s12 wx)
      case atStart => exact H0.out
      case round =>
        clear H0
        obtain ⟨j, rfl, hjk, hgk, hTj, hcl⟩ := hrel
        have HG := hid hgk
        have TJ := hid hTj
        have CL := hid hcl
        clear hgk hTj hcl
        by_cases hlt : j < k'
        · have hlt' : (j : Int) < (k' : Int) := by omega
          obtain ⟨gx, rfl⟩ := HAX.out (by omega)
          obtain ⟨L, hL1, hL2⟩ := CL.out gx rfl
          have hw := wrapI9 (i := j) (by omega)
          have e0 := hL2.at (i := j) (List.getElem?_eq_getElem (by omega))
          obtain ⟨vv, hvv⟩ : ∃ vv, L[j]'(by omega) = vv := ⟨_, rfl⟩
          rw [hvv] at e0
          have e1 := hL2.fz j
          have HN1 : Hid (NgH U1 (some ⟨gx, 0, none⟩) k' cx (k' - (j + 1)) (.int .i64 ((j + 1 : Nat) : Int)) (wr.setCell ⟨gx, j, none⟩ (.int .i64 (-7)))) := ⟨j + 1, rfl, by omega, rfl, TJ.out.setCell (.inr rfl) _ _, fun g2 hg2 => by
            cases hg2
            exact ⟨_, by rw [List.length_set]; exact hL1, hL2.set j _⟩⟩
          have HMM : Hid (k' - (j + 1) < gk) := by unfold Hid; rw [HG.out]; omega
          clear HG TJ CL hL2 hvv
          gi_wp2_with fail
          gi_roundg (k' - (j + 1))
          case rel => exact HN1.out
          case measure => exact HMM.out
        · have hlt' : ¬ (j : Int) < (k' : Int) := by omega
          obtain ⟨w7, hw7⟩ : ∃ w7, wr = w7 := ⟨_, rfl⟩
          rw [hw7] at TJ ⊢
          clear HG CL hw7 hlt
          have jle := HJ.out.le
          dsimp only at jle
          have TW : Hid (Touch (fun b => b = bW ∨ b = g ∨ (Value.slice ax k' cx).ownBlock = some b) W w7) := (TU.out.mono14 fun b q => q.imp_right .inl).trans (TJ.out.mono14 fun b q => .inr (.inr q))
          have nI : Hid (¬ (bI = bW ∨ bI = g ∨ (Value.slice ax k' cx).ownBlock = some bI)) := by
            rintro (q | q | q)
            · omega
            · rcases QB.out g rfl with r | r
              · have := HGB.out _ r; omega
              · omega
            · have := (XG.out _ q).1; omega
          have nC : Hid (¬ (bC = bW ∨ bC = g ∨ (Value.slice ax k' cx).ownBlock = some bC)) := by
            rintro (q | q | q)
            · omega
            · rcases QB.out g rfl with r | r
              · have := HGB.out _ r; omega
              · omega
            · have := (XG.out _ q).1; omega
          have CI7 := hid (HJ.out.i.tch TW.out nI.out)
          have CC7 := hid (CC.out.tch TW.out nC.out)
          have CX7 : Hid (Cel w7 bW 27 [.slice (some ⟨g, 0, none⟩) 0 cwv]) := CU.out.tch TJ.out fun q => by have := (XG.out _ q).1; omega
          have xU : Hid (∀ b L T fr, (U1).heap[b]? = some (.cells L T fr) → T ≠ 3 → ¬ (Value.slice ax k' cx).ownBlock = some b) := fun b L T fr e hT q => by
            obtain ⟨h1, h2, L', h3⟩ := XG.out b q
            have h4 := (TU.out.block b h2 (fun r => by
              rcases r with r | r
              · subst r; exact (show Cel W b 27 _ from CW.out).tne h3 (by decide) rfl
              · obtain ⟨L'', e''⟩ := HGL.out
                rw [r, e'', Option.some.injEq, Obj.cells.injEq] at h3
                exact absurd h3.2.1 (by decide))).trans h3
            rw [e, Option.some.injEq, Obj.cells.injEq] at h4
            exact hT h4.2.1
          have WN7 : Hid (LLs 0 w4.heap.size w7 (.slice (some ⟨g, 0, none⟩) 0 cwv) (wantL (n' : Int) (k' : Int) (t + 1))) := WN.out.keep (fun b L _ e => (TJ.out.block b (Array.getElem?_eq_some_iff.1 e).1 (xU.out b _ _ _ e (by decide))).trans e) (fun b L hb e => (TJ.out.block b (Array.getElem?_eq_some_iff.1 e).1 (fun q => by have := (XG.out b q).2.1; have := lz4.out; omega)).trans e)
          have htb := HJ.out.tb
          dsimp only at htb
          have hwt : IntKind.i64.wrap ((t : Int) + 1) = (t : Int) + 1 := by rw [wrap_is] <;> omega
          obtain ⟨UU, hUU⟩ : ∃ UU, w7.setCell ⟨bI, 0, none⟩ (.int .i64 ((t : Int) + 1)) = UU := ⟨_, rfl⟩
          have TUU : Hid (Touch (fun b => b = bI ∨ b = bW ∨ b = g ∨ (Value.slice ax k' cx).ownBlock = some b) W UU) := by
            unfold Hid
            rw [← hUU]
            exact (TW.out.mono14 fun b q => .inr q).setCell (.inr (.inl rfl)) 0 _
          have CIU := hid (show Cel UU bI 3 [.int .i64 ((t : Int) + 1)] by rw [← hUU]; exact CI7.out.set 0 _)
          have CCU := hid (show Cel UU bC 3 [.int .i64 (c : Int)] by rw [← hUU]; exact CC7.out.ne (by omega))
          have CWU := hid (show Cel UU bW 27 [.slice (some ⟨g, 0, none⟩) 0 cwv] by rw [← hUU]; exact CX7.out.ne (by omega))
          have FIN := hid (HJ.out.round (M := 100002) HT.out TUU.out (fun b q => by
            rcases q with q | q | q | q
            · exact ⟨.inr (.inl q), fun o e => by subst q; exact HJ.out.i.isC o e⟩
            · exact ⟨.inl q, fun o e => by subst q; exact CW.out.isC o e⟩
            · refine ⟨by
                subst q
                rcases QB.out b rfl with r | r
                · exact .inr (.inr (.inl r))
                · exact .inr (.inr (.inr r)), fun o e => ?_⟩
              obtain ⟨L', e'⟩ := HGL.out
              rw [q, e', Option.some.injEq] at e
              subst e
              rfl
            · refine ⟨.inr (.inr (.inr (XG.out b q).1)), fun o e => ?_⟩
              obtain ⟨_, _, L', e'⟩ := XG.out b q
              rw [e', Option.some.injEq] at e
              subst e
              rfl) ⟨by omega, by omega, fun q => by have := HGB.out _ q; omega, by omega⟩ (fun b q => by
            rcases q with q | q | q
            · omega
            · omega
            · have := HGB.out _ q; omega) HG1.out.size (by rw [show ((t + 1 : Nat) : Int) = (t : Int) + 1 by omega]; exact CIU.out) CWU.out (by
              rw [← hUU]
              exact (WN7.out.keep (fun b L _ e => (Ty.set CI7.out).2 b _ _ _ e (by decide)) (fun b L hb e => (Below.heap_setCell w7 ⟨bI, 0, none⟩ _ b (fun q => by
                have q' : b = bI := by simpa using q
                have h1 := lz4.out
                have h2 := HBW.out
                omega)).trans e)).mono (Nat.le_refl _) (Nat.le_trans HBW.out lz4.out)) WO.out)
          have i0 := CI7.out.at (i := 0) rfl
          have i1 := CI7.out.fz 0
          have i2 := CIU.out.at (i := 0) rfl
          have i3 := CCU.out.at (i := 0) rfl
          rw [← hUU] at i2 i3
          have i6 := CC7.out.at (i := 0) rfl
          have EUU := hid hUU
          obtain ⟨c2, hc2⟩ : ∃ c2 : Nat, (c : Int).tdiv 2 = (c2 : Int) := ⟨c / 2, by rw [Int.tdiv_eq_ediv_of_nonneg (by omega)]; omega⟩
          have hc3 : c2 ≤ 100002 := by
            rw [Int.tdiv_eq_ediv_of_nonneg (by omega)] at hc2
            omega
          have hwc : IntKind.i64.wrap (c2 : Int) = (c2 : Int) := by rw [wrap_is] <;> omega
          by_cases htest : (c2 : Int) < (t : Int) + 1
          · have FX : Hid (KeepsFrom V.heap.size W UU ∧ SgB w V bW bI bR g0 none false UU) := ⟨FIN.out.1, FIN.out.2.1.base⟩
            clear FIN TW nI nC CI7 CC7 CX7 xU WN7 TUU CIU CCU CWU hUU TJ TU WN WO
            gi_wp2
            rw [EUU.out]
            exact FX.out
          · have FX : Hid (KeepsFrom V.heap.size W UU ∧ SgJ w V bW bI bR g0 none n' k' 100002 (B, t + 1) UU ∧ KpL (SgS bW bI bR g0) B W UU) := ⟨FIN.out.1, FIN.out.2.1.tight (by show t + 1 ≤ 100002; omega), FIN.out.2.2⟩
            clear FIN TW nI nC CI7 CC7 CX7 xU WN7 TUU CIU CCU CWU hUU TJ TU WN WO
            gi_wp2
            rw [EUU.out]
            exact FX.out
    
    · subst hr
      have hnq := fun W => run_neq_some14 W ⟨gn, 0, none⟩ k' cn
      have hkp : (0 : Int) < (k' : Int) := by omega
      have hmore : l' = (stsI (n' : Int) (k' : Int)).getD (t + 1) [] ∧ t + 1 < (stsI (n' : Int) (k' : Int)).length := by
        have h1 := HRUN.out
        rw [hn1] at h1
        by_cases q : t + 1 < (stsI (n' : Int) (k' : Int)).length
        · rw [if_pos q, Option.some.injEq] at h1; exact ⟨h1, q⟩
        · rw [if_neg q] at h1; cases h1
      have HM := hid hmore
      have y3 : U1.cell? ⟨bK, 0, none⟩ = some (.int .i64 (k' : Int)) := by rw [← hU1]; exact (((CK.out.step T5.out).ne (by omega)).at (i := 0) rfl)
      obtain ⟨V5, hV5⟩ : ∃ V5, U1.alloc (.cells #[.slice (some ⟨gn, 0, none⟩) k' cn] 29) = V5 := ⟨_, rfl⟩
      obtain ⟨b5, sz5⟩ := alo1 U1 (.cells #[.slice (some ⟨gn, 0, none⟩) k' cn] 29)
      rw [hV5] at b5 sz5
      have CV5 : Hid (V5.cell? ⟨w5.heap.size, 0, none⟩ = some (.slice (some ⟨gn, 0, none⟩) k' cn)) := by unfold Hid; rw [← hV5, show w5.heap.size = U1.heap.size by rw [← hU1]; simp]; exact (Cel.new U1 29 [.slice (some ⟨gn, 0, none⟩) k' cn]).at (i := 0) rfl
      have LV := hid (LU.out.now b5)
      have hIU : Ivs w4.heap.size U1 (.slice (some ⟨gn, 0, none⟩) k' cn) l' := by
        rw [← hU1]
        exact hI.keep fun b L _ e => (Ty.set C5.out).2 b _ _ _ e (by decide)
      have IV5 := hid (hIU.now b5)
      have CB5 := hid (CU.out.step b5)
      have TV5 := hid (TU.out.trans (Touch.ofBelow b5))
      have EV5 := hid hV5
      have hs5 : Hid (B ≤ V5.heap.size) := by
        unfold Hid
        have h1 := b5.size
        have h2 : w5.heap.size = U1.heap.size := by rw [← hU1]; simp
        have h3 := lz5.out
        have h4 := lz4.out
        have h5 := HBW.out
        omega
      rw [← hU1] at y3
      clear LU HNV hU1 hn1 hV5 hI hIU b5 sz5 hmore HRUN CU TU
      have y4 := (show Cel U1 bW 27 [.slice (some ⟨g, 0, none⟩) 0 cwv] by rw [← EU.out]; exact C5.out.set 0 _).at (i := 0) rfl
      rw [← EU.out] at y4
      gi_wp2_with (rw [EU.out, EV5.out]; refine list_round (by rintro ⟨a, w, h⟩; rcases (show _ ∨ _ from h) with q | ⟨cd, (q | ⟨i, q, _⟩), _⟩; (· cases q.1); (· cases q.1); (· cases q)) _ _ _ (by intro o ho c; rcases List.mem_cons.1 ho with rfl | ho; (· intro h; cases h); rcases List.mem_cons.1 ho with rfl | ho; (· intro h; cases h); cases ho) (wpList_append_lls V5 rfl (.tmp 53) (.tmp 55) rfl 0 w4.heap.size _ [] _ l' rfl LV.out IV5.out w5.heap.size rfl CV5.out (by simp) (Nat.zero_le _) ?_))
      clear EU y0 y1 y3 y4 hsl hnq C5 EV5 CV5 IV5
      intro g' cap' w6 hL6 hg6 hb6
      have TG : Hid (Ty 29 V5 w6) := ⟨hg6.out.size, fun b L T fr e hne => (hg6.out.block b (Array.getElem?_eq_some_iff.1 e).1 (fun q => by
        obtain ⟨_, L', e'⟩ := LV.out.blk q.symm
        rw [e', Option.some.injEq, Obj.cells.injEq] at e
        exact hne e.2.1.symm)).trans e⟩
      have C6 := hid (CB5.out.ty13 TG.out (by decide))
      obtain ⟨U2, hU2⟩ : ∃ U2, w6.setCell ⟨bW, 0, none⟩ (.slice (some ⟨g', 0, none⟩) 1 cap') = U2 := ⟨_, rfl⟩
      have CU := hid (show Cel U2 bW 27 [.slice (some ⟨g', 0, none⟩) 1 cap'] by rw [← hU2]; exact C6.out.set 0 _)
      have TU : Hid (Touch (fun b => b = bW ∨ b = g) W U2) := by
        unfold Hid
        rw [← hU2]
        exact (TV5.out.grown hg6.out (fun q hq => .inr (.inr (by cases hq; rfl)))).setCell (.inr (.inl rfl)) 0 _
      have WN : Hid (LLs 0 w4.heap.size U2 (.slice (some ⟨g', 0, none⟩) 1 cap') (wantL (n' : Int) (k' : Int) (t + 1))) := by
        unfold Hid
        rw [wantL_at HM.out.2, ← HM.out.1, ← hU2]
        exact (show LLs 0 w4.heap.size w6 (.slice (some ⟨g', 0, none⟩) 1 cap') [l'] from hL6.out).ty (Ty.set C6.out) (by decide) (by decide)
      have WO : Hid (∀ b, (Value.slice (some ⟨g', 0, none⟩) 1 cap').ownBlock = some b → g0 = some b ∨ B ≤ b) := fun b hb => by
        simp only [Value.ownBlock, Option.some.injEq] at hb
        subst hb
        rcases hb6.out with q | q
        · exact QB.out _ q
        · exact .inr (by rw [q]; exact hs5.out)
      have y0 := C6.out.at (i := 0) rfl
      have y1 := C6.out.fz 0
      have EU := hid hU2
      clear hL6 hg6 hb6 TG C6 CB5 TV5 LV HM hU2 hs5 hkp
      try simp only [List.length_nil, Nat.zero_add]
      go_wp2_with fail
      rw [EU.out]
      clear EU y0 y1 CK CN
      gi_wp2_with fail
      have XC : Hid (∀ gx, ax = some ⟨gx, 0, none⟩ → ∃ L : List Value, k' ≤ L.length ∧ Cel W gx 3 L) := fun gx hgx => by
        subst hgx
        obtain ⟨r, hr, -, -, -, -⟩ := HX.out.cel14
        exact ⟨_, by rw [List.length_append, wf_len, SM.out.1]; omega, hr⟩
      have XG : Hid (∀ b, (Value.slice ax k' cx).ownBlock = some b → B ≤ b ∧ b < W.heap.size ∧ ∃ L, W.heap[b]? = some (.cells L 3 (0, 0))) := fun b hb => by
        obtain ⟨h1, L, h2⟩ := HX.out.blk hb
        exact ⟨h1, (Array.getElem?_eq_some_iff.1 h2).1, L, h2⟩
      have H0 : Hid (NgH U2 ax k' cx k' (.int .i64 0) U2) := ⟨0, rfl, Nat.zero_le _, rfl, Touch.refl _ _, fun gx hgx => by
        obtain ⟨L, h1, h2⟩ := XC.out gx hgx
        refine ⟨L, h1, h2.tch TU.out fun q => ?_⟩
        rcases q with q | q
        · exact h2.tne (CW.out) (by decide) q
        · obtain ⟨L', e⟩ := HGL.out
          exact h2.tne e (by decide) q⟩
      have hk64 : k' ≤ 64 := by omega
      gi_loopg [12] k' (fun gk s12 wx => NgH U2 ax k' cx gk s12 wx)
      case atStart => exact H0.out
      case round =>
        clear H0
        obtain ⟨j, rfl, hjk, hgk, hTj, hcl⟩ := hrel
        have HG := hid hgk
        have TJ := hid hTj
        have CL := hid hcl
        clear hgk hTj hcl
        by_cases hlt : j < k'
        · have hlt' : (j : Int) < (k' : Int) := by omega
          obtain ⟨gx, rfl⟩ := HAX.out (by omega)
          obtain ⟨L, hL1, hL2⟩ := CL.out gx rfl
          have hw := wrapI9 (i := j) (by omega)
          have e0 := hL2.at (i := j) (List.getElem?_eq_getElem (by omega))
          obtain ⟨vv, hvv⟩ : ∃ vv, L[j]'(by omega) = vv := ⟨_, rfl⟩
          rw [hvv] at e0
          have e1 := hL2.fz j
          have HN1 : Hid (NgH U2 (some ⟨gx, 0, none⟩) k' cx (k' - (j + 1)) (.int .i64 ((j + 1 : Nat) : Int)) (wr.setCell ⟨gx, j, none⟩ (.int .i64 (-7)))) := ⟨j + 1, rfl, by omega, rfl, TJ.out.setCell (.inr rfl) _ _, fun g2 hg2 => by
            cases hg2
            exact ⟨_, by rw [List.length_set]; exact hL1, hL2.set j _⟩⟩
          have HMM : Hid (k' - (j + 1) < gk) := by unfold Hid; rw [HG.out]; omega
          clear HG TJ CL hL2 hvv
          gi_wp2_with fail
          gi_roundg (k' - (j + 1))
          case rel => exact HN1.out
          case measure => exact HMM.out
        · have hlt' : ¬ (j : Int) < (k' : Int) := by omega
          obtain ⟨w7, hw7⟩ : ∃ w7, wr = w7 := ⟨_, rfl⟩
          rw [hw7] at TJ ⊢
          clear HG CL hw7 hlt
          have jle := HJ.out.le
          dsimp only at jle
          have TW : Hid (Touch (fun b => b = bW ∨ b = g ∨ (Value.slice ax k' cx).ownBlock = some b) W w7) := (TU.out.mono14 fun b q => q.imp_right .inl).trans (TJ.out.mono14 fun b q => .inr (.inr q))
          have nI : Hid (¬ (bI = bW ∨ bI = g ∨ (Value.slice ax k' cx).ownBlock = some bI)) := by
            rintro (q | q | q)
            · omega
            · rcases QB.out g rfl with r | r
              · have := HGB.out _ r; omega
              · omega
            · have := (XG.out _ q).1; omega
          have nC : Hid (¬ (bC = bW ∨ bC = g ∨ (Value.slice ax k' cx).ownBlock = some bC)) := by
            rintro (q | q | q)
            · omega
            · rcases QB.out g rfl with r | r
              · have := HGB.out _ r; omega
              · omega
            · have := (XG.out _ q).1; omega
          have CI7 := hid (HJ.out.i.tch TW.out nI.out)
          have CC7 := hid (CC.out.tch TW.out nC.out)
          have CX7 : Hid (Cel w7 bW 27 [.slice (some ⟨g', 0, none⟩) 1 cap']) := CU.out.tch TJ.out fun q => by have := (XG.out _ q).1; omega
          have xU : Hid (∀ b L T fr, (U2).heap[b]? = some (.cells L T fr) → T ≠ 3 → ¬ (Value.slice ax k' cx).ownBlock = some b) := fun b L T fr e hT q => by
            obtain ⟨h1, h2, L', h3⟩ := XG.out b q
            have h4 := (TU.out.block b h2 (fun r => by
              rcases r with r | r
              · subst r; exact (show Cel W b 27 _ from CW.out).tne h3 (by decide) rfl
              · obtain ⟨L'', e''⟩ := HGL.out
                rw [r, e'', Option.some.injEq, Obj.cells.injEq] at h3
                exact absurd h3.2.1 (by decide))).trans h3
            rw [e, Option.some.injEq, Obj.cells.injEq] at h4
            exact hT h4.2.1
          have WN7 : Hid (LLs 0 w4.heap.size w7 (.slice (some ⟨g', 0, none⟩) 1 cap') (wantL (n' : Int) (k' : Int) (t + 1))) := WN.out.keep (fun b L _ e => (TJ.out.block b (Array.getElem?_eq_some_iff.1 e).1 (xU.out b _ _ _ e (by decide))).trans e) (fun b L hb e => (TJ.out.block b (Array.getElem?_eq_some_iff.1 e).1 (fun q => by have := (XG.out b q).2.1; have := lz4.out; omega)).trans e)
          have htb := HJ.out.tb
          dsimp only at htb
          have hwt : IntKind.i64.wrap ((t : Int) + 1) = (t : Int) + 1 := by rw [wrap_is] <;> omega
          obtain ⟨UU, hUU⟩ : ∃ UU, w7.setCell ⟨bI, 0, none⟩ (.int .i64 ((t : Int) + 1)) = UU := ⟨_, rfl⟩
          have TUU : Hid (Touch (fun b => b = bI ∨ b = bW ∨ b = g ∨ (Value.slice ax k' cx).ownBlock = some b) W UU) := by
            unfold Hid
            rw [← hUU]
            exact (TW.out.mono14 fun b q => .inr q).setCell (.inr (.inl rfl)) 0 _
          have CIU := hid (show Cel UU bI 3 [.int .i64 ((t : Int) + 1)] by rw [← hUU]; exact CI7.out.set 0 _)
          have CCU := hid (show Cel UU bC 3 [.int .i64 (c : Int)] by rw [← hUU]; exact CC7.out.ne (by omega))
          have CWU := hid (show Cel UU bW 27 [.slice (some ⟨g', 0, none⟩) 1 cap'] by rw [← hUU]; exact CX7.out.ne (by omega))
          have FIN := hid (HJ.out.round (M := 100002) HT.out TUU.out (fun b q => by
            rcases q with q | q | q | q
            · exact ⟨.inr (.inl q), fun o e => by subst q; exact HJ.out.i.isC o e⟩
            · exact ⟨.inl q, fun o e => by subst q; exact CW.out.isC o e⟩
            · refine ⟨by
                subst q
                rcases QB.out b rfl with r | r
                · exact .inr (.inr (.inl r))
                · exact .inr (.inr (.inr r)), fun o e => ?_⟩
              obtain ⟨L', e'⟩ := HGL.out
              rw [q, e', Option.some.injEq] at e
              subst e
              rfl
            · refine ⟨.inr (.inr (.inr (XG.out b q).1)), fun o e => ?_⟩
              obtain ⟨_, _, L', e'⟩ := XG.out b q
              rw [e', Option.some.injEq] at e
              subst e
              rfl) ⟨by omega, by omega, fun q => by have := HGB.out _ q; omega, by omega⟩ (fun b q => by
            rcases q with q | q | q
            · omega
            · omega
            · have := HGB.out _ q; omega) HG1.out.size (by rw [show ((t + 1 : Nat) : Int) = (t : Int) + 1 by omega]; exact CIU.out) CWU.out (by
              rw [← hUU]
              exact (WN7.out.keep (fun b L _ e => (Ty.set CI7.out).2 b _ _ _ e (by decide)) (fun b L hb e => (Below.heap_setCell w7 ⟨bI, 0, none⟩ _ b (fun q => by
                have q' : b = bI := by simpa using q
                have h1 := lz4.out
                have h2 := HBW.out
                omega)).trans e)).mono (Nat.le_refl _) (Nat.le_trans HBW.out lz4.out)) WO.out)
          have i0 := CI7.out.at (i := 0) rfl
          have i1 := CI7.out.fz 0
          have i2 := CIU.out.at (i := 0) rfl
          have i3 := CCU.out.at (i := 0) rfl
          rw [← hUU] at i2 i3
          have i6 := CC7.out.at (i := 0) rfl
          have EUU := hid hUU
          obtain ⟨c2, hc2⟩ : ∃ c2 : Nat, (c : Int).tdiv 2 = (c2 : Int) := ⟨c / 2, by rw [Int.tdiv_eq_ediv_of_nonneg (by omega)]; omega⟩
          have hc3 : c2 ≤ 100002 := by
            rw [Int.tdiv_eq_ediv_of_nonneg (by omega)] at hc2
            omega
          have hwc : IntKind.i64.wrap (c2 : Int) = (c2 : Int) := by rw [wrap_is] <;> omega
          by_cases htest : (c2 : Int) < (t : Int) + 1
          · have FX : Hid (KeepsFrom V.heap.size W UU ∧ SgB w V bW bI bR g0 none false UU) := ⟨FIN.out.1, FIN.out.2.1.base⟩
            clear FIN TW nI nC CI7 CC7 CX7 xU WN7 TUU CIU CCU CWU hUU TJ TU WN WO
            gi_wp2
            rw [EUU.out]
            exact FX.out
          · have FX : Hid (KeepsFrom V.heap.size W UU ∧ SgJ w V bW bI bR g0 none n' k' 100002 (B, t + 1) UU ∧ KpL (SgS bW bI bR g0) B W UU) := ⟨FIN.out.1, FIN.out.2.1.tight (by show t + 1 ≤ 100002; omega), FIN.out.2.2⟩
            clear FIN TW nI nC CI7 CC7 CX7 xU WN7 TUU CIU CCU CWU hUU TJ TU WN WO
            gi_wp2
            rw [EUU.out]
            exact FX.out
  case done =>
    intro D s W hD hfin hj hdf
    exact ⟨.inl rfl, D, hD, rfl, hj.base, hdf⟩
  case stop =>
    rintro D cd W hD ⟨rfl, hb⟩ hdf
    exact wpIn_exit ⟨.inr rfl, D, hD, rfl, hb, hdf⟩
end Go.Proofs.Ytplldfnldaehiaa
