/-
  Ss14: the walk of MinorsSets.
-/
import Derived.Test.YtplldfnldaehiaaQBk14
import Derived.Test.YtplldfnldaehiaaQLike11ToAw14
namespace Go.Proofs.Ytplldfnldaehiaa
open Go.RowKit Go.Shelf
set_option linter.unusedVariables false
attribute [local go_sem] Oper.semAt_some

set_option maxHeartbeats 6400000 in
set_option maxRecDepth 100000 in
theorem minorsSets_any {w : World} {n k cut : Int} : Calls Try.prog 3 #[.int .i64 n, .int .i64 k, .int .i64 cut] w fun e w' => e = .returned (.bool true) ∧ Below w.heap.size w w' := by
  refine (callsIn_wide (n := 6)).1 ?_
  obtain ⟨W0, hW⟩ : ∃ W0, (((w.alloc (.cells #[.int .i64 n] 3)).alloc (.cells #[.int .i64 k] 3)).alloc (.cells #[.int .i64 cut] 3)).alloc (.cells #[.bool false] 4) = W0 := ⟨_, rfl⟩
  have b0 : Below w.heap.size w W0 := by rw [← hW]; exact ((((Below.refl _ w).alloc (Nat.le_refl _) _).alloc (by simp) _).alloc (by simp; omega) _).alloc (by simp; omega) _
  have sz0 : W0.heap.size = w.heap.size + 4 := by rw [← hW]; simp
  have PN : Hid (Cel W0 w.heap.size 3 [.int .i64 n]) := by
    unfold Hid; rw [← hW]
    exact (((Cel.new w 3 [.int .i64 n]).step ((Below.refl _ _).alloc (Nat.le_refl _) _)).step ((Below.refl _ _).alloc (Nat.le_refl _) _)).step ((Below.refl _ _).alloc (Nat.le_refl _) _)
  have PK : Hid (Cel W0 (w.heap.size + 1) 3 [.int .i64 k]) := by
    unfold Hid; rw [← hW]
    have := ((Cel.new (w.alloc (.cells #[.int .i64 n] 3)) 3 [.int .i64 k]).step ((Below.refl _ _).alloc (Nat.le_refl _) (.cells #[.int .i64 cut] 3))).step ((Below.refl _ _).alloc (Nat.le_refl _) (.cells #[.bool false] 4))
    simpa using this
  have PC : Hid (Cel W0 (w.heap.size + 1 + 1) 3 [.int .i64 cut]) := by
    unfold Hid; rw [← hW]
    have := (Cel.new ((w.alloc (.cells #[.int .i64 n] 3)).alloc (.cells #[.int .i64 k] 3)) 3 [.int .i64 cut]).step ((Below.refl _ _).alloc (Nat.le_refl _) (.cells #[.bool false] 4))
    simpa using this
  have PR : Hid (Cel W0 (w.heap.size + 1 + 1 + 1) 4 [.bool false]) := by
    unfold Hid; rw [← hW]
    have := Cel.new (((w.alloc (.cells #[.int .i64 n] 3)).alloc (.cells #[.int .i64 k] 3)).alloc (.cells #[.int .i64 cut] 3)) 4 [.bool false]
    simpa using this
  have G := hid b0
  have HAW := hid (awake14 W0)
  have EW := hid hW
  obtain ⟨bN, hbN⟩ : ∃ bN, w.heap.size = bN := ⟨_, rfl⟩
  obtain ⟨bK, hbK⟩ : ∃ bK, bN + 1 = bK := ⟨_, rfl⟩
  obtain ⟨bC, hbC⟩ : ∃ bC, bK + 1 = bC := ⟨_, rfl⟩
  obtain ⟨bR, hbR⟩ : ∃ bR, bC + 1 = bR := ⟨_, rfl⟩
  have OB : Hid (w.heap.size = bN ∧ bN < bK ∧ bK < bC ∧ bC < bR ∧ bR < W0.heap.size) := ⟨hbN, by omega, by omega, by omega, by omega⟩
  rw [hbN] at PN
  rw [hbN, hbK] at PK
  rw [hbN, hbK, hbC] at PC
  rw [hbN, hbK, hbC, hbR] at PR
  have ENB := hid (⟨hbN, hbK, hbC, hbR⟩ : w.heap.size = bN ∧ bN + 1 = bK ∧ bK + 1 = bC ∧ bC + 1 = bR)
  clear b0 sz0 hW hbN hbK hbC hbR
  refine callsIn_of_wp_marks Try.func3 rfl trivial ?_ rfl
  simp only [Try.ntmps3, List.size_toArray, List.length_cons, List.length_nil, Nat.reduceAdd, Nat.reduceSub, Array.replicate_succ, Array.replicate_zero, List.push_toArray, List.append_toArray, List.nil_append, List.cons_append]
  gi_wp2_with fail
  rw [EW.out, ENB.out.1, ENB.out.2.1, ENB.out.2.2.1, ENB.out.2.2.2]
  clear EW ENB
  refine ⟨trivial, (callsIn_wide.2 HAW.out).mono ?_⟩
  rintro e w1 ⟨rfl, b⟩
  replace PN := hid (PN.out.step b)
  replace PK := hid (PK.out.step b)
  replace PC := hid (PC.out.step b)
  replace PR := hid (PR.out.step b)
  replace G := hid (below_step G.out b)
  have HBL := hid (below100003_any w1 cut)
  have lz1 : Hid (W0.heap.size ≤ w1.heap.size) := b.size
  have x0 := PC.out.at (i := 0) rfl
  clear b HAW
  gi_wp2_with fail
  clear x0
  refine ⟨trivial, (callsIn_wide.2 HBL.out).mono ?_⟩
  rintro e w1' ⟨⟨c, hc, rfl⟩, hw1⟩
  rw [hw1]
  clear hw1 w1' HBL
  obtain ⟨U1, hU1⟩ : ∃ U1, w1.setCell ⟨bC, 0, none⟩ (.int .i64 (c : Int)) = U1 := ⟨_, rfl⟩
  have sU1 : U1.heap.size = w1.heap.size := by rw [← hU1]; simp
  have ob := OB.out
  have y0 := PC.out.at (i := 0) rfl
  have y1 := PC.out.fz 0
  have PN1 : Hid (Cel U1 bN 3 [.int .i64 n]) := by unfold Hid; rw [← hU1]; exact PN.out.ne (by omega)
  have PK1 : Hid (Cel U1 bK 3 [.int .i64 k]) := by unfold Hid; rw [← hU1]; exact PK.out.ne (by omega)
  have PC1 : Hid (Cel U1 bC 3 [.int .i64 (c : Int)]) := by unfold Hid; rw [← hU1]; exact PC.out.set 0 _
  have PR1 : Hid (Cel U1 bR 4 [.bool false]) := by unfold Hid; rw [← hU1]; exact PR.out.ne (by omega)
  have G1 : Hid (Below w.heap.size w U1) := by unfold Hid; rw [← hU1]; exact bset G.out (by omega)
  have LU : Hid (W0.heap.size ≤ U1.heap.size) := by unfold Hid; rw [sU1]; exact lz1.out
  have x0 := PN1.out.at (i := 0) rfl
  have x1 := PK1.out.at (i := 0) rfl
  rw [← hU1] at x0 x1
  have HST := hid (setsI_any (w := U1) (n := n) (k := k))
  have EU := hid hU1
  clear PN PK PC PR G lz1 hU1 sU1 ob
  gi_wp2_with fail
  rw [EU.out]
  clear EU x0 x1 y0 y1
  refine ⟨trivial, (callsIn_wide.2 HST.out).mono ?_⟩
  rintro e w2 ⟨bn, bk, rfl, cn, ck, hbn, hbk, b⟩
  have hbn2 := cn.blk
  have hbk2 := ck.blk
  replace PN1 := hid (PN1.out.step b)
  replace PK1 := hid (PK1.out.step b)
  replace PC1 := hid (PC1.out.step b)
  replace PR1 := hid (PR1.out.step b)
  replace G1 := hid (below_step G1.out b)
  have PBN := hid cn
  have PBK := hid ck
  have hsq := fun W => run_eql_seq14 W (.func 16) #[] #[.pointer (some ⟨bn, 0, none⟩), .pointer (some ⟨bk, 0, none⟩)]
  have HSM := hid (someI_any (w := w2) (n := n) (k := k) (m := 1) (Nat.le_refl _) (by decide))
  have O2 : Hid (bR < bn ∧ bR < bk ∧ bn < w2.heap.size ∧ bk < w2.heap.size) := ⟨by have := OB.out; have := LU.out; omega, by have := OB.out; have := LU.out; omega, hbn2, hbk2⟩
  have x0 := PN1.out.at (i := 0) rfl
  have x1 := PK1.out.at (i := 0) rfl
  clear b cn ck hbn hbk hbn2 hbk2 HST LU
  gi_wp2_with fail
  clear x0 x1 hsq
  refine ⟨trivial, (callsIn_wide.2 HSM.out).mono ?_⟩
  rintro e w3 ⟨wv, rfl, hll, b⟩
  obtain ⟨aw, cw, hwv, -, -⟩ := hll.form
  obtain ⟨lw, hlw⟩ : ∃ lw, ((stsI n k).take 1).length = lw := ⟨_, rfl⟩
  rw [hlw] at hwv
  subst hwv
  obtain ⟨V, hV⟩ : ∃ V, ((w3.alloc (.cells #[.slice aw lw cw] 27)).alloc (.cells #[.slice none 0 0] 27)).alloc (.cells #[.int .i64 0] 3) = V := ⟨_, rfl⟩
  obtain ⟨b3, sz3⟩ := alloc3 w3 (.cells #[.slice aw lw cw] 27) (.cells #[.slice none 0 0] 27) (.cells #[.int .i64 0] 3)
  rw [hV] at b3 sz3
  have PW : Hid (Cel V w3.heap.size 27 [.slice aw lw cw]) := by
    unfold Hid; rw [← hV]
    exact ((Cel.new w3 27 [.slice aw lw cw]).step ((Below.refl _ _).alloc (Nat.le_refl _) _)).step ((Below.refl _ _).alloc (Nat.le_refl _) _)
  have PG : Hid (Cel V (w3.heap.size + 1) 27 [.slice none 0 0]) := by
    unfold Hid; rw [← hV]
    have := (Cel.new (w3.alloc (.cells #[.slice aw lw cw] 27)) 27 [.slice none 0 0]).step ((Below.refl _ _).alloc (Nat.le_refl _) (.cells #[.int .i64 0] 3))
    simpa using this
  have PI : Hid (Cel V (w3.heap.size + 1 + 1) 3 [.int .i64 0]) := by
    unfold Hid; rw [← hV]
    have := Cel.new ((w3.alloc (.cells #[.slice aw lw cw] 27)).alloc (.cells #[.slice none 0 0] 27)) 3 [.int .i64 0]
    simpa using this
  have LLV := hid (hll.now b3)
  have HNE0 := hid (hll.neI2 b3 (bI := w3.heap.size + 1 + 1) (by omega))
  have hb2 := b.size
  have b23 := below_step b b3
  replace PN1 := hid (PN1.out.step b23)
  replace PK1 := hid (PK1.out.step b23)
  replace PC1 := hid (PC1.out.step b23)
  replace PR1 := hid (PR1.out.step b23)
  replace PBN := hid (PBN.out.step b23)
  replace PBK := hid (PBK.out.step b23)
  replace G1 := hid (below_step G1.out b23)
  have EV := hid hV
  obtain ⟨bW, hbW⟩ : ∃ bW, w3.heap.size = bW := ⟨_, rfl⟩
  obtain ⟨bG, hbG⟩ : ∃ bG, bW + 1 = bG := ⟨_, rfl⟩
  obtain ⟨bI, hbI⟩ : ∃ bI, bG + 1 = bI := ⟨_, rfl⟩
  have HLB : Hid (∀ g, (Value.slice aw lw cw).ownBlock = some g → w2.heap.size ≤ g ∧ g < bW) := fun g hg => ⟨(hll.blk hg).1, by
    obtain ⟨_, L, e⟩ := hll.blk hg
    have := (Array.getElem?_eq_some_iff.1 e).1
    omega⟩
  rw [hbW] at PW
  rw [hbW, hbG] at PG
  rw [hbW, hbG, hbI] at PI
  rw [hbW, hbG, hbI] at HNE0
  have HNE := HNE0
  clear HNE0
  have O3 : Hid (w2.heap.size ≤ bW ∧ bW < bG ∧ bG < bI ∧ bI < V.heap.size) := ⟨by omega, by omega, by omega, by omega⟩
  have EB := hid (⟨hbW, hbG, hbI⟩ : w3.heap.size = bW ∧ bW + 1 = bG ∧ bG + 1 = bI)
  clear hll b b3 sz3 hV hb2 b23 HSM hbW hbG hbI hlw
  gi_wp2_with fail
  rw [EV.out, EB.out.1, EB.out.2.1, EB.out.2.2]
  clear EV EB
  obtain ⟨g0, hg0⟩ : ∃ g0, (Value.slice aw lw cw).ownBlock = g0 := ⟨_, rfl⟩
  have EG0 := hid hg0
  have HGB : Hid (∀ g, g0 = some g → w2.heap.size ≤ g ∧ g < bW) := fun g hg => HLB.out g (hg0.trans hg)
  have OO : Hid (w.heap.size = bN ∧ bN < bK ∧ bK < bC ∧ bC < bR ∧ bR < bn ∧ bR < bk ∧ bn < w2.heap.size ∧ bk < w2.heap.size ∧ w2.heap.size ≤ bW ∧ bW < bG ∧ bG < bI ∧ bI < V.heap.size) := by
    have h1 := OB.out
    have h2 := O2.out
    have h3 := O3.out
    exact ⟨h1.1, h1.2.1, h1.2.2.1, h1.2.2.2.1, h2.1, h2.2.1, h2.2.2.1, h2.2.2.2, h3.1, h3.2.1, h3.2.2.1, h3.2.2.2⟩
  have HG1 := hid G1.out
  clear hg0 HLB OB O2 O3 G1
  refine mid14 (fun a' W => ∃ D s, V.heap.size ≤ D ∧ a' = { tmps := #[.int .i64 n, .int .i64 k, .int .i64 cut, .pointer (some ⟨bN, 0, none⟩), .pointer (some ⟨bK, 0, none⟩), .pointer (some ⟨bC, 0, none⟩), .pointer (some ⟨bR, 0, none⟩), .func (.func 16) #[] #[.pointer (some ⟨bn, 0, none⟩), .pointer (some ⟨bk, 0, none⟩)], .pointer (some ⟨bW, 0, none⟩), .pointer (some ⟨bG, 0, none⟩), .pointer (some ⟨bI, 0, none⟩), undef, undef, undef, undef, undef, undef, undef, .bool true, .bool false, .int .i64 cut, .int .i64 (c : Int), .int .i64 n, .int .i64 k, .func (.func 16) #[] #[.pointer (some ⟨bn, 0, none⟩), .pointer (some ⟨bk, 0, none⟩)], .func (.func 16) #[] #[.pointer (some ⟨bn, 0, none⟩), .pointer (some ⟨bk, 0, none⟩)], .bool false, .int .i64 n, .int .i64 k, .slice aw lw cw, .func (.func 16) #[] #[.pointer (some ⟨bn, 0, none⟩), .pointer (some ⟨bk, 0, none⟩)], undef, undef, undef, undef, undef, undef, undef, undef, undef, undef, undef, undef, undef, undef, undef, undef, undef, undef, undef, undef, undef, undef, undef, undef, undef, undef, undef, undef, undef, undef, undef, undef, undef, undef, undef, undef, undef, undef, undef, undef, undef, undef, undef, undef, undef, undef, undef, undef, undef, undef, undef, undef, undef, undef, undef, undef, undef, undef, undef, undef, undef, undef, undef, undef, undef, undef, undef, undef, undef, undef, undef, undef, undef, undef, undef, undef, undef, undef, undef, undef, undef, undef, undef, undef, undef, undef, undef, undef, undef, undef, undef, undef, undef, undef, undef, undef, undef, undef, undef, undef, undef, undef, undef, undef, undef], defers := [{ target := .collected D, args := #[] }] } ∧ MsJ w V bW bG bI bR g0 n k 100002 s W ∧ (c ≤ s.2 ∨ s.2 = (stsI n k).length) ∧ W.heap[D]? = some (.deferred (some []))) ?loop1 (fun a' W hm => ?after1)
  case after1 =>
    obtain ⟨D, ⟨B, t⟩, hD, rfl, hj, hcs, hdf⟩ := hm
    dsimp only at hcs
    have oo := OO.out
    have CN := hid (hj.kp.cel14 PN1.out (by omega) (by rintro (q | q | q | q | q); (· omega); (· omega); (· omega); (· omega); (· have := HGB.out _ q; omega)))
    have CK := hid (hj.kp.cel14 PK1.out (by omega) (by rintro (q | q | q | q | q); (· omega); (· omega); (· omega); (· omega); (· have := HGB.out _ q; omega)))
    have CC := hid (hj.kp.cel14 PC1.out (by omega) (by rintro (q | q | q | q | q); (· omega); (· omega); (· omega); (· omega); (· have := HGB.out _ q; omega)))
    have CI := hid hj.i
    have CR := hid hj.r
    have GW := hid hj.bw
    have htN := hj.tN
    have hle := hj.le
    dsimp only at CI htN hle
    obtain ⟨wv, gv, T, vs, q1, q2, q3, q4, q5, q6, q7, q8⟩ := hj.wt
    dsimp only at q1 q2 q5
    obtain ⟨aq, cq, hq, -, -⟩ := q2.form
    obtain ⟨lq, hlq⟩ : ∃ lq, (wantL n k t).length = lq := ⟨_, rfl⟩
    rw [hlq] at hq
    subst hq
    obtain ⟨m, hm⟩ : ∃ m, min t 400 = m := ⟨_, rfl⟩
    rw [hm] at q5
    obtain ⟨ag, cg, hgv, -, hag⟩ := q5.form
    subst hgv
    have CW := hid q1
    have CGo := hid q4
    have QG := hid q5
    have HTT := hid q6
    have HAG := hid hag
    have HLQ : Hid (t = (stsI n k).length → lq = 0) := fun h => by rw [← hlq, wantL_end (by omega)]; rfl
    have hmt : m ≤ t ∧ m ≤ 400 := by omega
    have HD := hid (⟨hD, hdf⟩ : V.heap.size ≤ D ∧ W.heap[D]? = some (.deferred (some [])))
    clear PN1 PK1 PC1 PR1 PBN PBK PI PW PG LLV EG0 HNE hj hD hdf q1 q2 q3 q4 q5 q6 q7 q8 hlq hag hm HGB
    obtain ⟨M4, hM4⟩ : ∃ M4 : Act → World → Prop, M4 = fun a1 W1 => W1 = W ∧ ∃ u76 u77 u78 u79 u80 u81 u82 u83, a1 = { tmps := #[.int .i64 n, .int .i64 k, .int .i64 cut, .pointer (some ⟨bN, 0, none⟩), .pointer (some ⟨bK, 0, none⟩), .pointer (some ⟨bC, 0, none⟩), .pointer (some ⟨bR, 0, none⟩), .func (.func 16) #[] #[.pointer (some ⟨bn, 0, none⟩), .pointer (some ⟨bk, 0, none⟩)], .pointer (some ⟨bW, 0, none⟩), .pointer (some ⟨bG, 0, none⟩), .pointer (some ⟨bI, 0, none⟩), undef, undef, undef, undef, undef, undef, undef, .bool true, .bool false, .int .i64 cut, .int .i64 (c : Int), .int .i64 n, .int .i64 k, .func (.func 16) #[] #[.pointer (some ⟨bn, 0, none⟩), .pointer (some ⟨bk, 0, none⟩)], .func (.func 16) #[] #[.pointer (some ⟨bn, 0, none⟩), .pointer (some ⟨bk, 0, none⟩)], .bool false, .int .i64 n, .int .i64 k, .slice aw lw cw, .func (.func 16) #[] #[.pointer (some ⟨bn, 0, none⟩), .pointer (some ⟨bk, 0, none⟩)], undef, undef, undef, undef, undef, undef, undef, undef, undef, undef, undef, undef, undef, undef, undef, undef, undef, undef, undef, undef, undef, undef, undef, undef, undef, undef, undef, undef, undef, undef, undef, undef, undef, undef, undef, undef, undef, undef, undef, undef, undef, undef, undef, undef, undef, u76, u77, u78, u79, u80, u81, u82, u83, undef, undef, undef, undef, undef, undef, undef, undef, undef, undef, undef, undef, undef, undef, undef, undef, undef, undef, undef, undef, undef, undef, undef, undef, undef, undef, undef, undef, undef, undef, undef, undef, undef, undef, undef, undef, undef, undef, undef, undef, undef, undef, undef, undef, undef, undef, undef, undef, undef, undef, undef, undef], defers := [{ target := .collected D, args := #[] }] } := ⟨_, rfl⟩
    have HM4 := hid hM4
    clear hM4
    gi_step
    gi_step
    refine wpIn_mono (Q := fun e a' w' => (∀ ch, e ≠ Exit.panic ch) ∧ bodyPostM Fence.wide 6 Try.prog Try.f3 (fun e w'' => e = .returned (.bool true) ∧ Below w.heap.size w w'') e a' w') ?_ (fun e a' w' h => h.2)
    refine seq_mid14 M4 ?test ?rest
    case test =>
      have x0 := CI.out.at (i := 0) rfl
      have x1 := CC.out.at (i := 0) rfl
      have x2 := CW.out.at (i := 0) rfl
      by_cases hct : (t : Int) < (c : Int)
      · obtain rfl : lq = 0 := HLQ.out (by omega)
        gi_wp2
        rw [HM4.out]
        exact ⟨rfl, _, _, _, _, _, _, _, _, rfl⟩
      · gi_wp2
        rw [HM4.out]
        exact ⟨rfl, _, _, _, _, _, _, _, _, rfl⟩
    case rest =>
      intro a1 W1 hm1
      rw [HM4.out] at hm1
      obtain ⟨hW1, u76, u77, u78, u79, u80, u81, u82, u83, rfl⟩ := hm1
      subst hW1
      clear HM4 CI CC CW HLQ hcs
      refine wpIn_wide.2 ?_
      have HSM := hid (someI_any (w := W1) (n := n) (k := k) (m := 1) (Nat.le_refl _) (by decide))
      have x0 := CN.out.at (i := 0) rfl
      have x1 := CK.out.at (i := 0) rfl
      go_wp2_with fail
      clear x0 x1
      refine HSM.out.mono ?_
      rintro e x3 ⟨fv, rfl, hll, b⟩
      obtain ⟨af, cf0, hfv, -, -⟩ := hll.form
      obtain ⟨lf, hlf⟩ : ∃ lf, ((stsI n k).take 1).length = lf := ⟨_, rfl⟩
      rw [hlf] at hfv
      subst hfv
      have H0 : Hid (FlH W1 n k m m (.slice af lf cf0) (.int .i64 0) x3) := ⟨0, rfl, Nat.zero_le _, rfl, hll, b⟩
      clear HSM hll b hlf CK
      go_wp2_with fail
      go_loopg [13, 14] m (fun gk s13 s14 wx => FlH W1 n k m gk s13 s14 wx)
      case atStart => exact H0.out
      case round =>
        clear H0
        obtain ⟨i, rfl, him, hgk, hll, hb⟩ := hrel
        have BB := hid hb
        have HGK := hid hgk
        have zz0 := (CGo.out.step hb).at (i := 0) rfl
        have LLF0 := hid hll
        obtain ⟨af1, cf1, hfv1, -, hafs⟩ := hll.form
        clear hb hgk hll
        by_cases hlt : i < m
        · have hltI : (i : Int) < (m : Int) := by omega
          have hiN : i < (stsI n k).length := by omega
          obtain ⟨n', k', hn', hk', hn64, hkn⟩ := stsI_ok hiN
          subst hn' hk'
          have es := stsI_nat hn64 hkn
          obtain ⟨li, hli⟩ : ∃ li, (stsI (n' : Int) (k' : Int)).getD i [] = li := ⟨_, rfl⟩
          obtain ⟨sm1, sm2, sm3⟩ := sts_mem (n := n') (k := k') (t := i) (by rw [← es]; exact hiN)
          have hrun := sts_run hkn (t := i) (by rw [← es]; exact hiN)
          rw [← es, hli] at sm1 sm2 sm3 hrun
          have SM := hid (⟨sm1, sm2, sm3⟩ : li.length = k' ∧ li.Pairwise (· < ·) ∧ ∀ x ∈ li, x < n')
          have HRUN := hid hrun
          obtain ⟨gg, rfl⟩ := HAG.out (by omega)
          obtain ⟨vi, hvi, cvi0, ivi⟩ := (QG.out.kc (kc_below BB.out)).at hlt
          rw [hli] at ivi
          obtain ⟨avi, cvi, hvv, -, -⟩ := ivi.form
          rw [sm1] at hvv
          subst hvv
          rw [wantL_at hiN, hli] at LLF0 hfv1 hafs
          obtain ⟨gf, hgf⟩ := hafs (by simp)
          have hs13 : u13 = .slice (some ⟨gf, 0, none⟩) 1 cf1 := by rw [hfv1, hgf]; rfl
          obtain ⟨cf, hcf⟩ : ∃ cf, cf1 = cf := ⟨_, rfl⟩
          rw [hcf] at hs13
          clear hfv1 hgf hafs
          subst hs13
          have LLF := LLF0
          clear LLF0
          obtain ⟨u, cu, iu⟩ := LLF.out.at (i := 0) (l := li) rfl
          obtain ⟨au, ccu, hu, -, -⟩ := iu.form
          rw [sm1] at hu
          subst hu
          have IU := hid iu
          have IVI := hid ivi
          have hgfw : gf < wr.heap.size := by
            obtain ⟨_, L, e⟩ := LLF.out.blk (b := gf) rfl
            exact (Array.getElem?_eq_some_iff.1 e).1
          have HLN : Hid (∀ X', Below wr.heap.size wr X' → Calls Try.prog 9 #[.slice avi k' cvi, .slice au k' ccu] X' (fun e w' => e = .returned (.bool true) ∧ Below X'.heap.size X' w')) := fun X' hb => likeNums_yes (IVI.out.now hb) (IU.out.now hb) (by rw [SM.out.1]; omega)
          have z0 := zz0
          have z1 := cvi0
          have z2 := cu
          clear hrun sm1 sm2 sm3 hvi ivi iu hli es hcf cu cvi0
          go_wp2_with fail
          clear zz0
          have KB : Hid (∀ w', Below wr.heap.size wr w' → w'.cell? ⟨bG, 0, none⟩ = some (.slice (some ⟨gg, 0, none⟩) m cg) ∧ w'.cell? ⟨gg, i, none⟩ = some (.slice avi k' cvi) ∧ w'.cell? ⟨gf, 0, none⟩ = some (.slice au k' ccu)) := fun w' h => ⟨cnow h z0, cnow h z1, cnow h z2⟩
          refine wp_region_tail (fun w' => w'.cell? ⟨bG, 0, none⟩ = some (.slice (some ⟨gg, 0, none⟩) m cg) ∧ w'.cell? ⟨gg, i, none⟩ = some (.slice avi k' cvi) ∧ w'.cell? ⟨gf, 0, none⟩ = some (.slice au k' ccu)) 13 (by kernel_rfl) ?_
          obtain ⟨D61, hD⟩ : ∃ D61, wr.drew = D61 := ⟨_, rfl⟩
          have GB : Hid (Below wr.heap.size wr D61) := by unfold Hid; rw [← hD]; exact (Below.refl _ _).drew
          rw [hD]
          clear hD
          refine wpAnyT_take (i := 0) (oi := { dst := some 93, op := Op.move (Operand.tmp 13), type := 27, pos := "law.go:98", after := #[], guard := none }) (v := (.slice (some ⟨gf, 0, none⟩) 1 cf)) rfl (by kernel_rfl) (fun ch _ _ h => ((show (∀ c', Exit.panic ch ≠ Exit.panic c') ∧ _ from h).1 ch rfl).elim) (Or.inl ⟨by rfl, ?_⟩) (KB.out _ GB.out) ?_
          · intro w hSw
            (try dsimp only at hSw)
            go_simp
          simp only [Act.put, List.setIfInBounds_toArray, List.set_cons_zero, List.set_cons_succ]
          refine wpAnyT_take (i := 1) (oi := { dst := some 94, op := Op.call { callee := Callee.builtin Builtin.len, args := #[Operand.tmp 93], argTypes := #[27] }, type := 3, pos := "law.go:98", after := #[{ on := 0, ground := Ground.data }], guard := none }) (v := (.int .i64 1)) rfl (by kernel_rfl) (fun ch _ _ h => ((show (∀ c', Exit.panic ch ≠ Exit.panic c') ∧ _ from h).1 ch rfl).elim) (Or.inl ⟨by rfl, ?_⟩) (KB.out _ GB.out) ?_
          · intro w hSw
            (try dsimp only at hSw)
            go_simp
          simp only [Act.put, List.setIfInBounds_toArray, List.set_cons_zero, List.set_cons_succ]
          refine wpAnyT_take (i := 2) (oi := { dst := some 95, op := Op.binOp BinOp.eql 3 (Operand.tmp 94) (Operand.const (Value.int IntKind.i64 0)) 3, type := 4, pos := "law.go:98", after := #[{ on := 1, ground := Ground.data }], guard := none }) (v := (.bool false)) rfl (by kernel_rfl) (fun ch _ _ h => ((show (∀ c', Exit.panic ch ≠ Exit.panic c') ∧ _ from h).1 ch rfl).elim) (Or.inl ⟨by rfl, ?_⟩) (KB.out _ GB.out) ?_
          · intro w hSw
            (try dsimp only at hSw)
            go_simp
          simp only [Act.put, List.setIfInBounds_toArray, List.set_cons_zero, List.set_cons_succ]
          refine wpAnyT_take (i := 3) (oi := { dst := some 96, op := Op.move (Operand.tmp 95), type := 4, pos := "law.go:98", after := #[{ on := 2, ground := Ground.data }], guard := none }) (v := (.bool false)) rfl (by kernel_rfl) (fun ch _ _ h => ((show (∀ c', Exit.panic ch ≠ Exit.panic c') ∧ _ from h).1 ch rfl).elim) (Or.inl ⟨by rfl, ?_⟩) (KB.out _ GB.out) ?_
          · intro w hSw
            (try dsimp only at hSw)
            go_simp
          simp only [Act.put, List.setIfInBounds_toArray, List.set_cons_zero, List.set_cons_succ]
          refine wpAnyT_take (i := 4) (oi := { dst := some 97, op := Op.load 27 (Operand.tmp 9), type := 27, pos := "law.go:98", after := #[{ on := 3, ground := Ground.guard }], guard := some (3, false) }) (v := (.slice (some ⟨gg, 0, none⟩) m cg)) rfl (by kernel_rfl) (fun ch _ _ h => ((show (∀ c', Exit.panic ch ≠ Exit.panic c') ∧ _ from h).1 ch rfl).elim) (Or.inl ⟨by rfl, ?_⟩) (KB.out _ GB.out) ?_
          · intro w hSw
            (try dsimp only at hSw)
            go_simp
          simp only [Act.put, List.setIfInBounds_toArray, List.set_cons_zero, List.set_cons_succ]
          refine wpAnyT_take (i := 5) (oi := { dst := some 98, op := Op.move (Operand.tmp 14), type := 3, pos := "law.go:98", after := #[{ on := 3, ground := Ground.guard }], guard := some (3, false) }) (v := (.int .i64 (i : Int))) rfl (by kernel_rfl) (fun ch _ _ h => ((show (∀ c', Exit.panic ch ≠ Exit.panic c') ∧ _ from h).1 ch rfl).elim) (Or.inl ⟨by rfl, ?_⟩) (KB.out _ GB.out) ?_
          · intro w hSw
            (try dsimp only at hSw)
            go_simp
          simp only [Act.put, List.setIfInBounds_toArray, List.set_cons_zero, List.set_cons_succ]
          refine wpAnyT_take (i := 6) (oi := { dst := some 99, op := Op.indexAddr 27 (Operand.tmp 97) (Operand.tmp 98), type := 0, pos := "law.go:98", after := #[{ on := 4, ground := Ground.data }, { on := 5, ground := Ground.data }, { on := 3, ground := Ground.guard }], guard := some (3, false) }) (v := (.pointer (some ⟨gg, i, none⟩))) rfl (by kernel_rfl) (fun ch _ _ h => ((show (∀ c', Exit.panic ch ≠ Exit.panic c') ∧ _ from h).1 ch rfl).elim) (Or.inl ⟨by rfl, ?_⟩) (KB.out _ GB.out) ?_
          · intro w hSw
            (try dsimp only at hSw)
            go_simp
          simp only [Act.put, List.setIfInBounds_toArray, List.set_cons_zero, List.set_cons_succ]
          refine wpAnyT_take (i := 7) (oi := { dst := some 100, op := Op.load 29 (Operand.tmp 99), type := 29, pos := "law.go:98", after := #[{ on := 6, ground := Ground.data }, { on := 3, ground := Ground.guard }], guard := some (3, false) }) (v := (.slice avi k' cvi)) rfl (by kernel_rfl) (fun ch _ _ h => ((show (∀ c', Exit.panic ch ≠ Exit.panic c') ∧ _ from h).1 ch rfl).elim) (Or.inl ⟨by rfl, ?_⟩) (KB.out _ GB.out) ?_
          · intro w hSw
            (try dsimp only at hSw)
            go_simp
          simp only [Act.put, List.setIfInBounds_toArray, List.set_cons_zero, List.set_cons_succ]
          refine wpAnyT_take (i := 8) (oi := { dst := some 101, op := Op.move (Operand.tmp 13), type := 27, pos := "law.go:98", after := #[{ on := 3, ground := Ground.guard }], guard := some (3, false) }) (v := (.slice (some ⟨gf, 0, none⟩) 1 cf)) rfl (by kernel_rfl) (fun ch _ _ h => ((show (∀ c', Exit.panic ch ≠ Exit.panic c') ∧ _ from h).1 ch rfl).elim) (Or.inl ⟨by rfl, ?_⟩) (KB.out _ GB.out) ?_
          · intro w hSw
            (try dsimp only at hSw)
            go_simp
          simp only [Act.put, List.setIfInBounds_toArray, List.set_cons_zero, List.set_cons_succ]
          refine wpAnyT_take (i := 9) (oi := { dst := some 102, op := Op.indexAddr 27 (Operand.tmp 101) (Operand.const (Value.int IntKind.i64 0)), type := 0, pos := "law.go:98", after := #[{ on := 8, ground := Ground.data }, { on := 3, ground := Ground.guard }], guard := some (3, false) }) (v := (.pointer (some ⟨gf, 0, none⟩))) rfl (by kernel_rfl) (fun ch _ _ h => ((show (∀ c', Exit.panic ch ≠ Exit.panic c') ∧ _ from h).1 ch rfl).elim) (Or.inl ⟨by rfl, ?_⟩) (KB.out _ GB.out) ?_
          · intro w hSw
            (try dsimp only at hSw)
            go_simp
          simp only [Act.put, List.setIfInBounds_toArray, List.set_cons_zero, List.set_cons_succ]
          refine wpAnyT_take (i := 10) (oi := { dst := some 103, op := Op.load 29 (Operand.tmp 102), type := 29, pos := "law.go:98", after := #[{ on := 9, ground := Ground.data }, { on := 3, ground := Ground.guard }], guard := some (3, false) }) (v := (.slice au k' ccu)) rfl (by kernel_rfl) (fun ch _ _ h => ((show (∀ c', Exit.panic ch ≠ Exit.panic c') ∧ _ from h).1 ch rfl).elim) (Or.inl ⟨by rfl, ?_⟩) (KB.out _ GB.out) ?_
          · intro w hSw
            (try dsimp only at hSw)
            go_simp
          simp only [Act.put, List.setIfInBounds_toArray, List.set_cons_zero, List.set_cons_succ]
          refine wpAnyT_one (i := 11) (o := { dst := some 104, op := Op.call { callee := Callee.value (Operand.func 9), args := #[Operand.tmp 100, Operand.tmp 103], argTypes := #[29, 29] }, type := 4, pos := "law.go:98", after := #[{ on := 7, ground := Ground.data }, { on := 10, ground := Ground.data }, { on := 3, ground := Ground.chain }, { on := 3, ground := Ground.guard }], guard := some (3, false) }) (by kernel_rfl) rfl (fun K hK => ?_)
          go_simp
          go_at_call 9
          refine (HLN.out _ GB.out).mono ?_
          rintro e w62 ⟨rfl, b⟩
          have lz62 := (show Below _ _ _ from b).size
          replace GB := hid (below_step GB.out b)
          skip
          clear b
          refine hK.out _ _ (fun _ => KB.out _ GB.out) ?_
          clear hK
          refine wpAnyT_take (i := 12) (oi := { dst := some 105, op := Op.unOp UnOp.not 4 (Operand.tmp 104), type := 4, pos := "law.go:98", after := #[{ on := 11, ground := Ground.data }, { on := 3, ground := Ground.guard }], guard := some (3, false) }) (v := (.bool false)) rfl (by kernel_rfl) (fun ch _ _ h => ((show (∀ c', Exit.panic ch ≠ Exit.panic c') ∧ _ from h).1 ch rfl).elim) (Or.inl ⟨by rfl, ?_⟩) (KB.out _ GB.out) ?_
          · intro w hSw
            (try dsimp only at hSw)
            go_simp
          simp only [Act.put, List.setIfInBounds_toArray, List.set_cons_zero, List.set_cons_succ]
          refine wpAnyT_one (i := 13) (o := { dst := some 106, op := Op.pick (Operand.tmp 96) (Operand.const (Value.bool true)) (Operand.tmp 105), type := 4, pos := "law.go:98", after := #[{ on := 3, ground := Ground.data }, { on := 12, ground := Ground.data }], guard := none }) (by kernel_rfl) rfl (fun K hK => ?_)
          go_simp
          refine hK.out _ _ (fun h => absurd h (by decide)) ?_
          clear hK
          try simp only [Act.put]
          refine wpAnyT_done (by kernel_rfl) ?_ _
          clear KB HLN
          obtain ⟨w5, hw5⟩ : ∃ w5, w62 = w5 := ⟨_, rfl⟩
          rw [hw5] at GB ⊢
          clear hw5
          have B5 : Hid (Below W1.heap.size W1 w5) := below_step BB.out GB.out
          have LL5 := hid (LLF.out.now GB.out)
          have y1 := (GB.out.cell (p := ⟨gf, 0, none⟩) hgfw).trans z2
          have y2 := ((CN.out.step BB.out).step GB.out).at (i := 0) rfl
          have IU5 := hid (IU.out.now GB.out)
          have HNX : Hid (∀ X', Below w5.heap.size w5 X' → Calls Try.prog 10 #[.slice au k' ccu, .int .i64 (n' : Int)] X' (fun e w' => ∃ r, e = .returned r ∧ NxV X'.heap.size w' n' k' li r ∧ Below X'.heap.size X' w')) := fun X' hb => nextV (n := n') (IU5.out.now hb) SM.out.1 (by omega) hn64 SM.out.2.1 SM.out.2.2
          clear z0 z1 z2 GB BB LLF IU IVI hgfw
          go_wp2_with fail
          have KB : Hid (∀ w', Below w5.heap.size w5 w' → w'.cell? ⟨gf, 0, none⟩ = some (.slice au k' ccu) ∧ w'.cell? ⟨bN, 0, none⟩ = some (.int .i64 (n' : Int))) := fun w' h => ⟨cnow h y1, cnow h y2⟩
          refine wp_region_tail (fun w' => w'.cell? ⟨gf, 0, none⟩ = some (.slice au k' ccu) ∧ w'.cell? ⟨bN, 0, none⟩ = some (.int .i64 (n' : Int))) 5 (by kernel_rfl) ?_
          obtain ⟨D81, hD⟩ : ∃ D81, w5.drew = D81 := ⟨_, rfl⟩
          have GB : Hid (Below w5.heap.size w5 D81) := by unfold Hid; rw [← hD]; exact (Below.refl _ _).drew
          rw [hD]
          clear hD
          refine wpAnyT_take (i := 0) (oi := { dst := some 107, op := Op.move (Operand.tmp 13), type := 27, pos := "law.go:101", after := #[], guard := none }) (v := (.slice (some ⟨gf, 0, none⟩) 1 cf)) rfl (by kernel_rfl) (fun ch _ _ h => ((show (∀ c', Exit.panic ch ≠ Exit.panic c') ∧ _ from h).1 ch rfl).elim) (Or.inl ⟨by rfl, ?_⟩) (KB.out _ GB.out) ?_
          · intro w hSw
            (try dsimp only at hSw)
            go_simp
          simp only [Act.put, List.setIfInBounds_toArray, List.set_cons_zero, List.set_cons_succ]
          refine wpAnyT_take (i := 1) (oi := { dst := some 108, op := Op.indexAddr 27 (Operand.tmp 107) (Operand.const (Value.int IntKind.i64 0)), type := 0, pos := "law.go:101", after := #[{ on := 0, ground := Ground.data }], guard := none }) (v := (.pointer (some ⟨gf, 0, none⟩))) rfl (by kernel_rfl) (fun ch _ _ h => ((show (∀ c', Exit.panic ch ≠ Exit.panic c') ∧ _ from h).1 ch rfl).elim) (Or.inl ⟨by rfl, ?_⟩) (KB.out _ GB.out) ?_
          · intro w hSw
            (try dsimp only at hSw)
            go_simp
          simp only [Act.put, List.setIfInBounds_toArray, List.set_cons_zero, List.set_cons_succ]
          refine wpAnyT_take (i := 2) (oi := { dst := some 109, op := Op.load 29 (Operand.tmp 108), type := 29, pos := "law.go:101", after := #[{ on := 1, ground := Ground.data }], guard := none }) (v := (.slice au k' ccu)) rfl (by kernel_rfl) (fun ch _ _ h => ((show (∀ c', Exit.panic ch ≠ Exit.panic c') ∧ _ from h).1 ch rfl).elim) (Or.inl ⟨by rfl, ?_⟩) (KB.out _ GB.out) ?_
          · intro w hSw
            (try dsimp only at hSw)
            go_simp
          simp only [Act.put, List.setIfInBounds_toArray, List.set_cons_zero, List.set_cons_succ]
          refine wpAnyT_take (i := 3) (oi := { dst := some 110, op := Op.load 3 (Operand.tmp 3), type := 3, pos := "law.go:101", after := #[], guard := none }) (v := (.int .i64 (n' : Int))) rfl (by kernel_rfl) (fun ch _ _ h => ((show (∀ c', Exit.panic ch ≠ Exit.panic c') ∧ _ from h).1 ch rfl).elim) (Or.inl ⟨by rfl, ?_⟩) (KB.out _ GB.out) ?_
          · intro w hSw
            (try dsimp only at hSw)
            go_simp
          simp only [Act.put, List.setIfInBounds_toArray, List.set_cons_zero, List.set_cons_succ]
          refine wpAnyT_one (i := 4) (o := { dst := some 111, op := Op.call { callee := Callee.value (Operand.func 10), args := #[Operand.tmp 109, Operand.tmp 110], argTypes := #[29, 3] }, type := 29, pos := "law.go:101", after := #[{ on := 2, ground := Ground.data }, { on := 3, ground := Ground.data }], guard := none }) (by kernel_rfl) rfl (fun K hK => ?_)
          have hs0 := GB.out.size
          go_simp
          go_at_call 10
          refine (HNX.out _ GB.out).mono ?_
          rintro e w82 ⟨r1, rfl, hnv, b⟩
          have lz82 := (show Below _ _ _ from b).size
          replace GB := hid (below_step GB.out b)
          have HNV := hid (hnv.mono (B' := w5.heap.size) (by first | exact Nat.le_refl _ | exact hs0))
          clear hnv
          clear b
          refine hK.out _ _ (fun _ => KB.out _ GB.out) ?_
          clear hK
          refine wpAnyT_one (i := 5) (o := { dst := some 15, op := Op.assign (Operand.tmp 111), type := 29, pos := "law.go:101", after := #[{ on := 4, ground := Ground.data }, { on := 4, ground := Ground.chain }, { on := 0, ground := Ground.phase }, { on := 1, ground := Ground.phase }, { on := 2, ground := Ground.phase }, { on := 3, ground := Ground.phase }, { on := 4, ground := Ground.phase }], guard := none }) (by kernel_rfl) rfl (fun K hK => ?_)
          go_simp
          refine hK.out _ _ (fun h => absurd h (by decide)) ?_
          clear hK
          try simp only [Act.put]
          refine wpAnyT_done (by kernel_rfl) ?_ _
          clear KB HNX
          obtain ⟨w7, hw7⟩ : ∃ w7, w82 = w7 := ⟨_, rfl⟩
          rw [hw7] at HNV GB ⊢
          clear hw7
          have hsl := fun W => slice_none14 W gf 1 cf
          have B7 : Hid (Below W1.heap.size W1 w7) := below_step B5.out GB.out
          have LL7 := hid (LL5.out.now GB.out)
          have lz7 := GB.out.size
          have lz5 := B5.out.size
          clear y1 y2 GB
          rcases HNV.out with ⟨hn0, hr⟩ | ⟨l', gn, cn, hn1, hl', hk0, hr, hI⟩
          · subst hr
            have hnq := fun W => run_neq_nil14 W
            have HN1 : Hid (FlH W1 (n' : Int) (k' : Int) m (m - (i + 1)) (.slice (some ⟨gf, 0, none⟩) 0 cf) (.int .i64 ((i + 1 : Nat) : Int)) w7) := ⟨i + 1, rfl, by omega, rfl, by
              have hend : ¬ i + 1 < (stsI (n' : Int) (k' : Int)).length := fun q => by
                have := HRUN.out
                rw [if_pos q, hn0] at this
                cases this
              rw [wantL_end (by omega)]
              exact LL7.out.cut, B7.out⟩
            have HMM : Hid (m - (i + 1) < gk) := by unfold Hid; rw [HGK.out]; omega
            have hwi := wrapI9 (i := i) (by omega)
            clear hn0 HNV LL7 B7 HRUN HGK LL5 B5
            go_wp2_with fail
            go_roundg (m - (i + 1))
            case rel => exact HN1.out
            case measure => exact HMM.out
          · subst hr
            have hnq := fun W => run_neq_some14 W ⟨gn, 0, none⟩ k' cn
            have hmore : l' = (stsI (n' : Int) (k' : Int)).getD (i + 1) [] ∧ i + 1 < (stsI (n' : Int) (k' : Int)).length := by
              have h1 := HRUN.out
              rw [hn1] at h1
              by_cases q : i + 1 < (stsI (n' : Int) (k' : Int)).length
              · rw [if_pos q, Option.some.injEq] at h1; exact ⟨h1, q⟩
              · rw [if_neg q] at h1; cases h1
            have HM := hid hmore
            obtain ⟨V8, hV8⟩ : ∃ V8, w7.alloc (.cells #[.slice (some ⟨gn, 0, none⟩) k' cn] 29) = V8 := ⟨_, rfl⟩
            obtain ⟨b8, sz8⟩ := alo1 w7 (.cells #[.slice (some ⟨gn, 0, none⟩) k' cn] 29)
            rw [hV8] at b8 sz8
            have CV8 : Hid (V8.cell? ⟨w7.heap.size, 0, none⟩ = some (.slice (some ⟨gn, 0, none⟩) k' cn)) := by unfold Hid; rw [← hV8]; exact (Cel.new w7 29 [.slice (some ⟨gn, 0, none⟩) k' cn]).at (i := 0) rfl
            have LV8 := hid ((LL7.out.cut (E' := W1.heap.size)).now b8)
            have IV8 : Hid (Ivs W1.heap.size V8 (.slice (some ⟨gn, 0, none⟩) k' cn) l') := owns_le14 (hI.now b8) lz5
            have BV8 := hid (below_step B7.out b8)
            have EV8 := hid hV8
            have hs8 : W1.heap.size ≤ V8.heap.size := BV8.out.size
            have hwi := wrapI9 (i := i) (by omega)
            clear hV8 b8 hI hn1 hmore HNV LL7 B7 HRUN LL5 B5
            go_wp2_with (at_builtin; rw [EV8.out]; refine wpList_append_lls V8 rfl (.tmp 116) (.tmp 118) rfl W1.heap.size W1.heap.size _ [] _ l' rfl LV8.out IV8.out w7.heap.size rfl CV8.out (by simp) hs8 ?_)
            intro g' cap' w9 hL9 hg9 hb9
            have HN1 : Hid (FlH W1 (n' : Int) (k' : Int) m (m - (i + 1)) (.slice (some ⟨g', 0, none⟩) 1 cap') (.int .i64 ((i + 1 : Nat) : Int)) w9) := ⟨i + 1, rfl, by omega, rfl, by
              rw [wantL_at HM.out.2, ← HM.out.1]
              exact hL9.out, below_lls BV8.out hs8 LV8.out hg9.out⟩
            have HMM : Hid (m - (i + 1) < gk) := by unfold Hid; rw [HGK.out]; omega
            clear hL9 hg9 hb9 EV8 CV8 IV8 LV8 BV8 HM HGK
            try simp only [List.length_nil, Nat.zero_add]
            go_wp2_with fail
            go_roundg (m - (i + 1))
            case rel => exact HN1.out
            case measure => exact HMM.out
        · have hltI : ¬ (i : Int) < (m : Int) := by omega
          obtain rfl : i = m := by omega
          obtain ⟨X6, hX6⟩ : ∃ X6, wr = X6 := ⟨_, rfl⟩
          rw [hX6] at BB zz0 ⊢
          clear hX6 LLF0 hafs HGK him
          rw [hfv1]
          clear hfv1
          obtain ⟨V7, hV7⟩ : ∃ V7, X6.alloc (.cells #[.slice none 0 0, .slice none 0 0, .slice none 0 0] 36) = V7 := ⟨_, rfl⟩
          obtain ⟨b7, sz7⟩ := alo1 X6 (.cells #[.slice none 0 0, .slice none 0 0, .slice none 0 0] 36)
          rw [hV7] at b7 sz7
          have H1 : Hid (NmH X6 X6.heap.size i vs i (.int .i64 0) V7) := ⟨0, none, 0, 0, rfl, Nat.zero_le _, rfl, by rw [← hV7]; exact Cel.new X6 _ _, World.ownsRow_nil _ _ _ _, b7⟩
          have EV7 := hid hV7
          have G6 := hid (QG.out.kc (kc_below BB.out))
          have CG6 := hid (CGo.out.step BB.out)
          have CR6 := hid (CR.out.step BB.out)
          have BW6 := hid (below_step GW.out BB.out)
          have HD6 : Hid (V.heap.size ≤ D ∧ X6.heap[D]? = some (.deferred (some []))) := ⟨HD.out.1, (BB.out.block D (Array.getElem?_eq_some_iff.1 HD.out.2).1).trans HD.out.2⟩
          have HT6 : Hid (T ≤ X6.heap.size) := Nat.le_trans HTT.out BB.out.size
          have hvl : vs.length = i := QG.out.2.1
          have HL6 : Hid (∀ j, j < i → ((stsI n k).getD j []).length ≤ 64) := fun j hj => by
            obtain ⟨n', k', hn', hk', hn64, hkn⟩ := stsI_ok (n := n) (k := k) (t := j) (by omega)
            subst hn' hk'
            have es := stsI_nat hn64 hkn
            have := (sts_mem (n := n') (k := k') (t := j) (by rw [← es]; omega)).1
            rw [← es] at this
            omega
          clear hV7 b7 sz7 QG CGo CR GW HD HTT BB CN
          go_wp2_with fail
          rw [EV7.out]
          clear EV7 zz0
          go_loopg [17] i (fun gk s17 wz => NmH X6 X6.heap.size i vs gk s17 wz)
          case atStart => exact H1.out
          case round =>
            clear H1
            obtain ⟨j, na, nl, nc, rfl, hji, hgk, hC, hO, hB6⟩ := hrel
            have HGK := hid hgk
            have HC := hid hC
            have HO := hid hO
            have HB := hid hB6
            have zz0 := (CG6.out.step hB6).at (i := 0) rfl
            clear hgk hC hO hB6
            by_cases hlt2 : j < i
            · have hltJ : (j : Int) < (i : Int) := by omega
              obtain ⟨gg, rfl⟩ := HAG.out (by omega)
              obtain ⟨vj, hvj, cvj, ivj⟩ := (G6.out.kc (kc_below HB.out)).at hlt2
              obtain ⟨avj, cvj2, hvv, -, -⟩ := ivj.form
              obtain ⟨lj, hlj⟩ : ∃ lj, ((stsI n k).getD j []).length = lj := ⟨_, rfl⟩
              rw [hlj] at hvv
              subst hvv
              have HNU := hid (num_any14 (ua := avj) (ul := lj) (uc := cvj2) HC.out HO.out (by omega) HB.out.size)
              have HTK : Hid (vs.take j ++ [.slice avj lj cvj2] = vs.take (j + 1)) := by
                unfold Hid
                rw [List.take_add_one, hvj]
                rfl
              have hwj := wrapI9 (i := j) (by omega)
              have HOB : Hid (∀ b, (Value.slice na nl nc).ownBlock = some b → X6.heap.size ≤ b) := fun b hb => by
                obtain ⟨_, ⟨r2, _⟩ | ⟨g2, cap, cur, r2, r3, r4, r5⟩⟩ := HO.out
                · rw [r2] at hb; cases hb
                · rw [r2] at hb
                  simp only [Value.ownBlock, Option.some.injEq] at hb
                  omega
              clear hlj ivj hvj
              go_wp2_with fail
              clear zz0 cvj
              refine HNU.out.mono ?_
              rintro e w8 ⟨rfl, g8, cap8, hC8, hO8, hT8⟩
              have HN1 : Hid (NmH X6 X6.heap.size i vs (i - (j + 1)) (.int .i64 ((j + 1 : Nat) : Int)) w8) := ⟨j + 1, _, _, _, rfl, by omega, rfl, hC8, by rw [← HTK.out]; exact hO8, below_touch HB.out HB.out.size hT8 (fun b q => by
                rcases q with q | q
                · omega
                · exact HOB.out b q)⟩
              have HMM : Hid (i - (j + 1) < gk) := by unfold Hid; rw [HGK.out]; omega
              clear HNU hC8 hO8 hT8 HTK HC HO HB HGK HOB
              go_wp2_with fail
              go_roundg (i - (j + 1))
              case rel => exact HN1.out
              case measure => exact HMM.out
            · have hltJ : ¬ (j : Int) < (i : Int) := by omega
              obtain rfl : j = i := by omega
              obtain ⟨wz, hwz⟩ : ∃ wz, wr = wz := ⟨_, rfl⟩
              rw [hwz] at HC HO HB zz0 ⊢
              clear hwz HGK
              have hOO := HO.out
              rw [List.take_of_length_le (by omega)] at hOO
              obtain ⟨S, hS⟩ : ∃ S : Nat → Prop, S = BlkI j (fun i => vs.getD i undef) := ⟨_, rfl⟩
              have HSB : Hid (∀ b, S b → B ≤ b ∧ b < X6.heap.size ∧ ∃ L, X6.heap[b]? = some (.cells L 3 (0, 0))) := fun b hb => by
                rw [hS] at hb
                obtain ⟨q, hq, hqb⟩ := hb
                have hvq : vs[q]? = some (vs.getD q undef) := by
                  have : q < vs.length := by omega
                  simp [this]
                obtain ⟨h1, L, h2⟩ := (G6.out.2.2.1 q _ hvq).1.blk hqb
                exact ⟨h1, (Array.getElem?_eq_some_iff.1 h2).1, L, h2⟩
              have HAP := hid (apart14 (S := S) HC.out (fun w' hb' => by
                rcases hOO with ⟨e1, ⟨e2, e3⟩ | ⟨g2, cap, cur, e2, e4, e5, e6⟩⟩
                · refine (nums_none (w := w') (bb := X6.heap.size) (by have := (HC.out.step hb').at (i := 2) rfl; rw [this, e2])).mono fun e w'' h => ⟨h.1, Touch.ofBelow h.2⟩
                · simp only [Value.slice.injEq] at e2
                  obtain ⟨f1, f2, f3⟩ := e2
                  subst f1 f2 f3
                  rw [hS]
                  exact nums_yes (G6.out.book14 HT6.out (by omega) HL6.out (HC.out.step hb') (Nat.le_refl _) (owns_keep ⟨e1, .inr ⟨g2, _, cur, rfl, e4, e5, e6⟩⟩ fun b _ hlt => hb'.block b hlt) (below_step HB.out hb'))))
              have CRz := hid (CR6.out.step HB.out)
              have BWz := hid (below_step BW6.out HB.out)
              have HDz : Hid (wz.heap[D]? = some (.deferred (some []))) := (HB.out.block D (Array.getElem?_eq_some_iff.1 HD6.out.2).1).trans HD6.out.2
              have HSz : Hid (∀ b, S b → B ≤ b ∧ ∃ L, wz.heap[b]? = some (.cells L 3 (0, 0))) := fun b hb => by
                obtain ⟨h1, h2, L, h3⟩ := HSB.out b hb
                exact ⟨h1, L, (HB.out.block b h2).trans h3⟩
              clear hOO hS HSB HC HO
              go_wp2_with fail
              clear zz0
              refine HAP.out.mono ?_
              rintro e w9 ⟨rfl, t9⟩
              have CR9 := hid (CRz.out.tch t9 (fun q => by have := (HSz.out bR q).1; omega))
              have y0 := CR9.out.at (i := 0) rfl
              have y1 := CR9.out.fz 0
              obtain ⟨U9, hU9⟩ : ∃ U9, w9.setCell ⟨bR, 0, none⟩ (.bool true) = U9 := ⟨_, rfl⟩
              have hDV := HD6.out.1
              have HK : Hid (U9.heap[D]? = some (.deferred (some []))) := by
                unfold Hid
                rw [← hU9]
                refine (Below.heap_setCell w9 ⟨bR, 0, none⟩ _ D (fun q => absurd (show D = bR by simpa using q) (by omega))).trans ((t9.block D (Array.getElem?_eq_some_iff.1 HDz.out).1 (fun q => ?_)).trans HDz.out)
                obtain ⟨_, L, e⟩ := HSz.out D q
                rw [HDz.out] at e
                cases e
              have CU9 : Hid (Cel U9 bR 4 [.bool true]) := by unfold Hid; rw [← hU9]; exact CR9.out.set 0 _
              have BU9 : Hid (Below w.heap.size w U9) := by
                unfold Hid
                rw [← hU9]
                exact bset (below_touch BWz.out BWz.out.size t9 (fun b q => by have h1 := (HSz.out b q).1; have h2 := HG1.out.size; omega)) (by omega)
              have kg := kc_grown (grownBy_putObj' U9 D (.deferred none)) (fun r e => by cases e; exact ⟨_, HK.out, rfl⟩)
              have PP := hid (kg.cel CU9.out)
              have BB9 := hid (BU9.out.trans (belowK_b (w := w) (Nat.le_refl _) _ D _ (.deferred none) (by have h2 := HG1.out.size; omega) HK.out rfl rfl))
              have EU9 := hid hU9
              clear hU9 kg t9 HAP
              go_wp2
              rw [EU9.out]
              refine ⟨fun ch h => (by cases h), ?_⟩
              refine ⟨by simp, .inl ⟨_, _, rfl, run_takeDeferred HK.out, ?_⟩⟩
              exact ⟨_, bback14 Try.results3 PP.out _ (by rfl), rfl, BB9.out⟩
  refine rangeL (σ := Nat × Nat) (α := Value) (by decide) rfl (enters_of Try.func16 (by kernel_rfl) rfl) (fun x => #[x]) (fun _ => rfl)
    (MsJ w V bW bG bI bR g0 n k 100002) (MsJ.own HG1.out.size) (AtM w V bW bG bI bR 100002 g0 n k) (fun s x => AtM.own s x) (fun s _ => (s.1, s.2 + 1))
    (fun s => KpL (MsS bW bG bI bR g0) s.1) (fun h h' => h.trans h') (fun s W l o o' _ h1 h2 => KpL.put h1 h2)
    (fun s gs A => 0 < s.2 ∧ gs < s.1 ∧ ∃ L, A.heap[gs]? = some (.cells L 3 (0, 0))) (fun s A Z gs h h1 h2 t => ?js) (fun s => s.2 = 0 ∧ V.heap.size ≤ s.1) (fun s => s.2 = (stsI n k).length) ?ini
    (fun cd W => cd = .exit 0 ∧ ∃ s, MsJ w V bW bG bI bR g0 n k 100002 s W ∧ c ≤ s.2) (fun cd _ W W' row hs hg hr => ⟨hs.1, hs.2.choose, MsJ.own HG1.out.size _ W W' row hs.2.choose_spec.1 hg hr, hs.2.choose_spec.2⟩) ?it
    (fun x a' W => a' = { tmps := #[.int .i64 n, .int .i64 k, .int .i64 cut, .pointer (some ⟨bN, 0, none⟩), .pointer (some ⟨bK, 0, none⟩), .pointer (some ⟨bC, 0, none⟩), .pointer (some ⟨bR, 0, none⟩), .func (.func 16) #[] #[.pointer (some ⟨bn, 0, none⟩), .pointer (some ⟨bk, 0, none⟩)], .pointer (some ⟨bW, 0, none⟩), .pointer (some ⟨bG, 0, none⟩), .pointer (some ⟨bI, 0, none⟩), x, undef, undef, undef, undef, undef, undef, .bool true, .bool false, .int .i64 cut, .int .i64 (c : Int), .int .i64 n, .int .i64 k, .func (.func 16) #[] #[.pointer (some ⟨bn, 0, none⟩), .pointer (some ⟨bk, 0, none⟩)], .func (.func 16) #[] #[.pointer (some ⟨bn, 0, none⟩), .pointer (some ⟨bk, 0, none⟩)], .bool false, .int .i64 n, .int .i64 k, .slice aw lw cw, .func (.func 16) #[] #[.pointer (some ⟨bn, 0, none⟩), .pointer (some ⟨bk, 0, none⟩)], x, undef, undef, undef, undef, undef, undef, undef, undef, undef, undef, undef, undef, undef, undef, undef, undef, undef, undef, undef, undef, undef, undef, undef, undef, undef, undef, undef, undef, undef, undef, undef, undef, undef, undef, undef, undef, undef, undef, undef, undef, undef, undef, undef, undef, undef, undef, undef, undef, undef, undef, undef, undef, undef, undef, undef, undef, undef, undef, undef, undef, undef, undef, undef, undef, undef, undef, undef, undef, undef, undef, undef, undef, undef, undef, undef, undef, undef, undef, undef, undef, undef, undef, undef, undef, undef, undef, undef, undef, undef, undef, undef, undef, undef, undef, undef, undef, undef, undef, undef, undef, undef, undef, undef, undef], defers := [] }) (fun x a' _ W W' row hs hg hr => hs) ?assign ?body ?done ?stop
  case js =>
    obtain ⟨h3, h4, L, hL⟩ := h2
    exact h.tou HG1.out.size ⟨by have := OO.out; omega, by have := OO.out; omega, by have := OO.out; omega, by have := OO.out; omega⟩ h1 h3 h4 hL t
  case ini =>
    rintro ⟨B, t⟩ ⟨ht, hB⟩
    dsimp only at ht hB
    subst ht
    exact ⟨Nat.zero_le _, hB, Nat.zero_le _, KpL.refl _ _ _, PI.out, PR1.out, ⟨_, _, 0, [], PW.out, by rw [if_pos rfl]; exact LLV.out.mono (Nat.zero_le _) (Nat.zero_le _), fun b hb => .inl (by rw [← EG0.out]; exact hb), PG.out, GotV.nil14, Nat.zero_le _, (fun b _ h => by cases h), HNE.out⟩, HG1.out⟩
  case it =>
    intro l J' Jy W hW hJ hJb hJs' hJ0 hY
    have oo := OO.out
    exact sets1_inK (S := MsS bW bG bI bR g0) (nn := 5) (l := l) (by decide) J' ((PBN.out.step hW).at (i := 0) rfl) ((PBK.out.step hW).at (i := 0) rfl)
      (by rintro (q | q | q | q | q); (· omega); (· omega); (· omega); (· omega); (· have := HGB.out _ q; omega)) (by rintro (q | q | q | q | q); (· omega); (· omega); (· omega); (· omega); (· have := HGB.out _ q; omega))
      hJb (fun s A B gs h h1 h2 t => hJs' s A B gs h h1 h2 t) (fun B hB => hJ0 _ ⟨rfl, Nat.le_trans hW.size hB⟩)
      (fun b hb => by have := hW.size; rcases hb with q | q | q | q | q; (· omega); (· omega); (· omega); (· omega); (· have := HGB.out _ q; omega)) Jy (fun s x X h1 h2 h3 => by
        obtain ⟨X0, k1, k2, k3⟩ := h3
        exact hY s x X h1 ⟨h2, X0, hJ s X0 k1, kc_below k2, k3⟩)
  case assign =>
    intro l s x W K hj hat hK
    have HKK := hid (hK { tmps := #[.int .i64 n, .int .i64 k, .int .i64 cut, .pointer (some ⟨bN, 0, none⟩), .pointer (some ⟨bK, 0, none⟩), .pointer (some ⟨bC, 0, none⟩), .pointer (some ⟨bR, 0, none⟩), .func (.func 16) #[] #[.pointer (some ⟨bn, 0, none⟩), .pointer (some ⟨bk, 0, none⟩)], .pointer (some ⟨bW, 0, none⟩), .pointer (some ⟨bG, 0, none⟩), .pointer (some ⟨bI, 0, none⟩), x, undef, undef, undef, undef, undef, undef, .bool true, .bool false, .int .i64 cut, .int .i64 (c : Int), .int .i64 n, .int .i64 k, .func (.func 16) #[] #[.pointer (some ⟨bn, 0, none⟩), .pointer (some ⟨bk, 0, none⟩)], .func (.func 16) #[] #[.pointer (some ⟨bn, 0, none⟩), .pointer (some ⟨bk, 0, none⟩)], .bool false, .int .i64 n, .int .i64 k, .slice aw lw cw, .func (.func 16) #[] #[.pointer (some ⟨bn, 0, none⟩), .pointer (some ⟨bk, 0, none⟩)], x, undef, undef, undef, undef, undef, undef, undef, undef, undef, undef, undef, undef, undef, undef, undef, undef, undef, undef, undef, undef, undef, undef, undef, undef, undef, undef, undef, undef, undef, undef, undef, undef, undef, undef, undef, undef, undef, undef, undef, undef, undef, undef, undef, undef, undef, undef, undef, undef, undef, undef, undef, undef, undef, undef, undef, undef, undef, undef, undef, undef, undef, undef, undef, undef, undef, undef, undef, undef, undef, undef, undef, undef, undef, undef, undef, undef, undef, undef, undef, undef, undef, undef, undef, undef, undef, undef, undef, undef, undef, undef, undef, undef, undef, undef, undef, undef, undef, undef, undef, undef, undef, undef, undef, undef], defers := [] } W ⟨Nat.le_refl _, fun _ _ _ e _ => e⟩ (KpL.refl _ _ _) hj hat rfl)
    clear hK hj hat
    gi_wp2
    exact HKK.out
  case done =>
    intro D s W hD hfin hj hdf
    exact ⟨.inl rfl, D, s, hD, rfl, hj, .inr hfin, hdf⟩
  case stop =>
    rintro D cd W hD ⟨rfl, s, hj, hc⟩ hdf
    exact wpIn_exit ⟨.inr rfl, D, s, hD, rfl, hj, .inl hc, hdf⟩
  case body =>
    rintro l ⟨B, t⟩ x a' W hl ⟨r0, hr0⟩ hj ⟨⟨hat1, hat2, hat3⟩, X0, hj0, hkc, hivs⟩ rfl
    dsimp only at hat1 hat2 hat3 hivs
    clear hr0 hl
    have oo := OO.out
    obtain ⟨n', k', hn', hk', hn64, hkn⟩ := stsI_ok hat1
    subst hn' hk'
    have es := stsI_nat hn64 hkn
    obtain ⟨ll, hll⟩ : ∃ ll, (stsI (n' : Int) (k' : Int)).getD t [] = ll := ⟨_, rfl⟩
    obtain ⟨sm1, sm2, sm3⟩ := sts_mem (n := n') (k := k') (t := t) (by rw [← es]; exact hat1)
    have hrun := sts_run hkn (t := t) (by rw [← es]; exact hat1)
    rw [← es, hll] at sm1 sm2 sm3 hrun
    rw [hll] at hat3
    obtain ⟨ax, cx, hx, hcx, hax⟩ := hat3.form
    rw [sm1] at hx hcx hax
    subst hx
    obtain ⟨wv, gv, T, vs, q1, q2, q3, q4, q5, q6, q7, q8⟩ := hj0.wt
    dsimp only at q1 q2 q3 q4 q5 q6 q7
    replace q8 := q8.keep q2 (fun b L _ e => hkc.2 b _ e rfl)
    replace q1 := hkc.cel q1
    replace q2 := q2.kc hkc
    replace q4 := hkc.cel q4
    replace q5 := q5.kc hkc
    have hX0 := hkc.1
    rw [wantL_at hat1, hll] at q2
    obtain ⟨awv, cwv, hwv, -, hawv⟩ := q2.form
    obtain ⟨g, hg⟩ := hawv (by simp)
    have hwv' : wv = .slice (some ⟨g, 0, none⟩) 1 cwv := by rw [hwv, hg]; rfl
    clear hwv hg hawv
    subst hwv'
    obtain ⟨ag, cg, hgv, -, hag⟩ := q5.form
    obtain ⟨lg, hlg⟩ : ∃ lg, min t 400 = lg := ⟨_, rfl⟩
    rw [hlg] at hgv q5
    subst hgv
    obtain ⟨u, cu, iu⟩ := q2.at (i := 0) (l := ll) rfl
    obtain ⟨au, ccu, hu, -, -⟩ := iu.form
    rw [sm1] at hu
    subst hu
    have CW := hid q1
    have CGo := hid q4
    have CG := hid cu
    have HX := hid hat3
    have HXF : Hid (∀ b, (Value.slice ax k' cx).ownBlock = some b → T ≤ b) := fun b hb => Nat.le_trans q6 (hivs.blk hb).1
    have IU := hid iu
    have LLW := hid q2
    have QB := hid q3
    have QG := hid q5
    have Q7 := hid q7
    have Q8 := hid (fun b hb => q8 g 0 cwv _ b rfl cu hb : ∀ b, (Value.slice au k' ccu).ownBlock = some b → b ≠ bI)
    have HTW : Hid (T ≤ W.heap.size) := Nat.le_trans q6 hX0
    have HJ := hid hj
    have SM := hid (⟨sm1, sm2, sm3⟩ : ll.length = k' ∧ ll.Pairwise (· < ·) ∧ ∀ x ∈ ll, x < n')
    have HRUN := hid hrun
    have HBW := hid hat2
    have HT := hid hat1
    have ELL := hid hll
    have ELG := hid hlg
    have CN := hid (hj.kp.cel14 PN1.out (by omega) (by rintro (q | q | q | q | q); (· omega); (· omega); (· omega); (· omega); (· have := HGB.out _ q; omega)))
    have CK := hid (hj.kp.cel14 PK1.out (by omega) (by rintro (q | q | q | q | q); (· omega); (· omega); (· omega); (· omega); (· have := HGB.out _ q; omega)))
    have CC := hid (hj.kp.cel14 PC1.out (by omega) (by rintro (q | q | q | q | q); (· omega); (· omega); (· omega); (· omega); (· have := HGB.out _ q; omega)))
    have CI := hid hj.i
    have htb := hj.tb
    dsimp only at htb
    have jle := hj.le
    dsimp only at jle
    clear hj hat1 hat2 hat3 es hll sm1 sm2 sm3 hrun hcx hax q1 q2 q3 q4 q5 q6 q7 q8 cu iu hj0 hkc hivs hX0 hlg hag X0
    refine wpIn_block ?_
    refine seq_mid14 (fun a1 W1 => W1 = W ∧ t + 1 ≤ 100002 ∧ ∃ u32 u33 u34 u35 u36 u37 u38, a1 = { tmps := #[.int .i64 (n' : Int), .int .i64 (k' : Int), .int .i64 cut, .pointer (some ⟨bN, 0, none⟩), .pointer (some ⟨bK, 0, none⟩), .pointer (some ⟨bC, 0, none⟩), .pointer (some ⟨bR, 0, none⟩), .func (.func 16) #[] #[.pointer (some ⟨bn, 0, none⟩), .pointer (some ⟨bk, 0, none⟩)], .pointer (some ⟨bW, 0, none⟩), .pointer (some ⟨bG, 0, none⟩), .pointer (some ⟨bI, 0, none⟩), (.slice ax k' cx), undef, undef, undef, undef, undef, undef, .bool true, .bool false, .int .i64 cut, .int .i64 (c : Int), .int .i64 (n' : Int), .int .i64 (k' : Int), .func (.func 16) #[] #[.pointer (some ⟨bn, 0, none⟩), .pointer (some ⟨bk, 0, none⟩)], .func (.func 16) #[] #[.pointer (some ⟨bn, 0, none⟩), .pointer (some ⟨bk, 0, none⟩)], .bool false, .int .i64 (n' : Int), .int .i64 (k' : Int), .slice aw lw cw, .func (.func 16) #[] #[.pointer (some ⟨bn, 0, none⟩), .pointer (some ⟨bk, 0, none⟩)], (.slice ax k' cx), u32, u33, u34, u35, u36, u37, u38, undef, undef, undef, undef, undef, undef, undef, undef, undef, undef, undef, undef, undef, undef, undef, undef, undef, undef, undef, undef, undef, undef, undef, undef, undef, undef, undef, undef, undef, undef, undef, undef, undef, undef, undef, undef, undef, undef, undef, undef, undef, undef, undef, undef, undef, undef, undef, undef, undef, undef, undef, undef, undef, undef, undef, undef, undef, undef, undef, undef, undef, undef, undef, undef, undef, undef, undef, undef, undef, undef, undef, undef, undef, undef, undef, undef, undef, undef, undef, undef, undef, undef, undef, undef, undef, undef, undef, undef, undef, undef, undef, undef, undef, undef, undef, undef, undef], defers := [] }) ?first ?more
    case first =>
      have i0 := CI.out.at (i := 0) rfl
      have i1 := CC.out.at (i := 0) rfl
      dsimp only at i0
      by_cases h1 : (c : Int) ≤ (t : Int)
      · by_cases h2 : (0 : Int) < (t : Int)
        · have FX : Hid (KeepsFrom V.heap.size W W ∧ MsJ w V bW bG bI bR g0 (n' : Int) (k' : Int) 100002 (B, t) W ∧ c ≤ t) := ⟨⟨Nat.le_refl _, fun _ _ _ e _ => e⟩, HJ.out, by omega⟩
          clear HJ
          gi_wp2
          exact ⟨FX.out.1, B, t, FX.out.2⟩
        · have hle : t + 1 ≤ 100002 := by omega
          clear HJ
          gi_wp2
      · have hle : t + 1 ≤ 100002 := by omega
        clear HJ
        gi_wp2
    case more =>
      rintro a1 W1 ⟨hW1, hle, u32, u33, u34, u35, u36, u37, u38, rfl⟩
      subst hW1
      refine seq_mid14 (fun a2 W2 => Below W1.heap.size W1 W2 ∧ ∃ u32 u33 u34 u35 u36 u37 u38 u39 u40 u41 u42 u43 u44 u45 u46 u47 u48 u49, a2 = { tmps := #[.int .i64 (n' : Int), .int .i64 (k' : Int), .int .i64 cut, .pointer (some ⟨bN, 0, none⟩), .pointer (some ⟨bK, 0, none⟩), .pointer (some ⟨bC, 0, none⟩), .pointer (some ⟨bR, 0, none⟩), .func (.func 16) #[] #[.pointer (some ⟨bn, 0, none⟩), .pointer (some ⟨bk, 0, none⟩)], .pointer (some ⟨bW, 0, none⟩), .pointer (some ⟨bG, 0, none⟩), .pointer (some ⟨bI, 0, none⟩), (.slice ax k' cx), undef, undef, undef, undef, undef, undef, .bool true, .bool false, .int .i64 cut, .int .i64 (c : Int), .int .i64 (n' : Int), .int .i64 (k' : Int), .func (.func 16) #[] #[.pointer (some ⟨bn, 0, none⟩), .pointer (some ⟨bk, 0, none⟩)], .func (.func 16) #[] #[.pointer (some ⟨bn, 0, none⟩), .pointer (some ⟨bk, 0, none⟩)], .bool false, .int .i64 (n' : Int), .int .i64 (k' : Int), .slice aw lw cw, .func (.func 16) #[] #[.pointer (some ⟨bn, 0, none⟩), .pointer (some ⟨bk, 0, none⟩)], (.slice ax k' cx), u32, u33, u34, u35, u36, u37, u38, u39, u40, u41, u42, u43, u44, u45, u46, u47, u48, u49, undef, undef, undef, undef, undef, undef, undef, undef, undef, undef, undef, undef, undef, undef, undef, undef, undef, undef, undef, undef, undef, undef, undef, undef, undef, undef, undef, undef, undef, undef, undef, undef, undef, undef, undef, undef, undef, undef, undef, undef, undef, undef, undef, undef, undef, undef, undef, undef, undef, undef, undef, undef, undef, undef, undef, undef, undef, undef, undef, undef, undef, undef, undef, undef, undef, undef, undef, undef, undef, undef, undef, undef, undef, undef, undef, undef, undef, undef, undef, undef, undef, undef, undef, undef, undef, undef], defers := [] }) ?like ?more2
      case like =>
        have HLN := hid (likeNums_yes HX.out IU.out (by rw [SM.out.1]; omega))
        have x0 := CW.out.at (i := 0) rfl
        have x1 := CG.out
        gi_wp2_with fail
        clear x0 x1
        refine ⟨trivial, (CallsIn.inRound l (callsIn_wide.2 HLN.out)).mono ?_⟩
        rintro e w4 ⟨rfl, b⟩
        have B4 := hid b
        clear b HLN
        gi_wp2
        exact ⟨B4.out, _, _, _, _, _, _, _, _, _, _, _, _, _, _, _, _, _, _, rfl⟩
      case more2 =>
        rintro a2 W2 ⟨hb2, u32, u33, u34, u35, u36, u37, u38, u39, u40, u41, u42, u43, u44, u45, u46, u47, u48, u49, rfl⟩
        have CW1 := CW
        have CGo1 := CGo
        have QG1 := QG
        have HGL1 : Hid (∃ L, W1.heap[g]? = some (.cells L 29 (0, 0))) := (LLW.out.blk (b := g) rfl).2
        replace CW := hid (CW.out.step hb2)
        replace CGo := hid (CGo.out.step hb2)
        have hgW : g < W1.heap.size := by
          obtain ⟨_, L, e⟩ := LLW.out.blk (b := g) rfl
          exact (Array.getElem?_eq_some_iff.1 e).1
        replace CG := hid ((hb2.cell (p := ⟨g, 0, none⟩) hgW).trans CG.out)
        replace IU := hid (IU.out.now hb2)
        replace LLW := hid (LLW.out.now hb2)
        replace QG := hid (QG.out.kc (kc_below hb2))
        replace CN := hid (CN.out.step hb2)
        replace CK := hid (CK.out.step hb2)
        replace CC := hid (CC.out.step hb2)
        replace CI := hid (CI.out.step hb2)
        have HX2 := hid (HX.out.now hb2)
        have T12 : Hid (Below W1.heap.size W1 W2) := hb2
        have lz2 : Hid (W1.heap.size ≤ W2.heap.size) := hb2.size
        clear hb2
        dsimp only at CI
        obtain ⟨M3, hM3⟩ : ∃ M3 : Act → World → Prop, M3 = fun a3 W3 => ∃ gv' T' vs', Cel W3 bG 27 [gv'] ∧ GotV (n' : Int) (k' : Int) B T' W3 gv' (min (t + 1) 400) vs' ∧ T' ≤ W3.heap.size ∧ gv'.ownBlock ≠ some g ∧ Touch (fun b => b = bG ∨ (Value.slice ag lg cg).ownBlock = some b) W2 W3 ∧ ∃ u32 u33 u34 u35 u36 u37 u38 u39 u40 u41 u42 u43 u44 u45 u46 u47 u48 u49 u50 u51 u52 u53 u54 u55 u56, a3 = { tmps := #[.int .i64 (n' : Int), .int .i64 (k' : Int), .int .i64 cut, .pointer (some ⟨bN, 0, none⟩), .pointer (some ⟨bK, 0, none⟩), .pointer (some ⟨bC, 0, none⟩), .pointer (some ⟨bR, 0, none⟩), .func (.func 16) #[] #[.pointer (some ⟨bn, 0, none⟩), .pointer (some ⟨bk, 0, none⟩)], .pointer (some ⟨bW, 0, none⟩), .pointer (some ⟨bG, 0, none⟩), .pointer (some ⟨bI, 0, none⟩), (.slice ax k' cx), undef, undef, undef, undef, undef, undef, .bool true, .bool false, .int .i64 cut, .int .i64 (c : Int), .int .i64 (n' : Int), .int .i64 (k' : Int), .func (.func 16) #[] #[.pointer (some ⟨bn, 0, none⟩), .pointer (some ⟨bk, 0, none⟩)], .func (.func 16) #[] #[.pointer (some ⟨bn, 0, none⟩), .pointer (some ⟨bk, 0, none⟩)], .bool false, .int .i64 (n' : Int), .int .i64 (k' : Int), .slice aw lw cw, .func (.func 16) #[] #[.pointer (some ⟨bn, 0, none⟩), .pointer (some ⟨bk, 0, none⟩)], (.slice ax k' cx), u32, u33, u34, u35, u36, u37, u38, u39, u40, u41, u42, u43, u44, u45, u46, u47, u48, u49, u50, u51, u52, u53, u54, u55, u56, undef, undef, undef, undef, undef, undef, undef, undef, undef, undef, undef, undef, undef, undef, undef, undef, undef, undef, undef, undef, undef, undef, undef, undef, undef, undef, undef, undef, undef, undef, undef, undef, undef, undef, undef, undef, undef, undef, undef, undef, undef, undef, undef, undef, undef, undef, undef, undef, undef, undef, undef, undef, undef, undef, undef, undef, undef, undef, undef, undef, undef, undef, undef, undef, undef, undef, undef, undef, undef, undef, undef, undef, undef, undef, undef, undef, undef, undef, undef], defers := [] } := ⟨_, rfl⟩
        have HM3 := hid hM3
        clear hM3
        refine seq_mid14 M3 ?gott ?more3
        case gott =>
          have x0 := CGo.out.at (i := 0) rfl
          by_cases hlt : lg < 400
          · have hltI : (lg : Int) < 400 := by omega
            obtain ⟨V5, hV5⟩ : ∃ V5, W2.alloc (.cells #[.slice ax k' cx] 29) = V5 := ⟨_, rfl⟩
            obtain ⟨b5, sz5⟩ := alo1 W2 (.cells #[.slice ax k' cx] 29)
            rw [hV5] at b5 sz5
            have CV5 : Hid (V5.cell? ⟨W2.heap.size, 0, none⟩ = some (.slice ax k' cx)) := by unfold Hid; rw [← hV5]; exact (Cel.new W2 29 [.slice ax k' cx]).at (i := 0) rfl
            have G5 := hid (QG.out.kc (kc_below b5))
            have X5 : Hid (Ivs B V5 (.slice ax k' cx) ((stsI (n' : Int) (k' : Int)).getD lg [])) := by
              unfold Hid
              rw [← ELG.out, Nat.min_eq_left (by have := ELG.out; omega), ELL.out]
              exact HX2.out.now b5
            have CB5 := hid (CGo.out.step b5)
            have hB5 : B ≤ V5.heap.size := by have h1 := HBW.out; have h2 := lz2.out; omega
            have hT5 : T ≤ V5.heap.size := by have h1 := HTW.out; have h2 := lz2.out; omega
            have EV5 := hid hV5
            have BV := hid b5
            clear hV5 b5 sz5
            gi_wp2_with (rw [EV5.out]; refine list_round (by rintro ⟨a, w, h⟩; rcases (show _ ∨ _ from h) with q | ⟨cd, (q | ⟨i, q, _⟩), _⟩; (· cases q.1); (· cases q.1); (· cases q)) _ _ _ (by intro o ho c; rcases List.mem_cons.1 ho with rfl | ho; (· intro h; cases h); rcases List.mem_cons.1 ho with rfl | ho; (· intro h; cases h); cases ho) (wpList_append_got V5 rfl (.tmp 53) (.tmp 55) rfl (n' : Int) (k' : Int) B T _ lg vs _ rfl G5.out X5.out HXF.out W2.heap.size rfl CV5.out (by omega) hB5 hT5 ?_))
            clear x0 EV5 CV5 X5
            intro g' cap' w6 hG6 hg6 hb6
            have TG : Hid (Ty 29 V5 w6) := ⟨hg6.out.size, fun b L T fr e hne => (hg6.out.block b (Array.getElem?_eq_some_iff.1 e).1 (fun q => by
              obtain ⟨_, L', e'⟩ := G5.out.blk q.symm
              rw [e', Option.some.injEq, Obj.cells.injEq] at e
              exact hne e.2.1.symm)).trans e⟩
            have C6 := hid (CB5.out.ty13 TG.out (by decide))
            obtain ⟨U2, hU2⟩ : ∃ U2, w6.setCell ⟨bG, 0, none⟩ (.slice (some ⟨g', 0, none⟩) (lg + 1) cap') = U2 := ⟨_, rfl⟩
            have FIN : Hid (Cel U2 bG 27 [.slice (some ⟨g', 0, none⟩) (lg + 1) cap'] ∧ GotV (n' : Int) (k' : Int) B V5.heap.size U2 (.slice (some ⟨g', 0, none⟩) (lg + 1) cap') (min (t + 1) 400) (vs ++ [.slice ax k' cx]) ∧ V5.heap.size ≤ U2.heap.size ∧ (Value.slice (some ⟨g', 0, none⟩) (lg + 1) cap').ownBlock ≠ some g ∧ Touch (fun b => b = bG ∨ (Value.slice ag lg cg).ownBlock = some b) W2 U2) := by
              have tz := Ty.set (i := 0) (u := .slice (some ⟨g', 0, none⟩) (lg + 1) cap') C6.out
              refine ⟨by rw [← hU2]; exact C6.out.set 0 _, ?_, by rw [← hU2]; simp; exact hg6.out.size, fun q => ?_, ?_⟩
              · rw [show min (t + 1) 400 = lg + 1 by have := ELG.out; omega, ← hU2]
                exact hG6.out.keep (fun b L _ e => tz.2 b _ _ _ e (by decide)) (fun b L _ e => tz.2 b _ _ _ e (by decide))
              · simp only [Value.ownBlock, Option.some.injEq] at q
                subst q
                rcases hb6.out with r | r
                · exact Q7.out g' rfl r
                · have h1 := BV.out.size; have h2 := lz2.out; omega
              · rw [← hU2]
                exact ((Touch.ofBelow BV.out).grown hg6.out (fun q hq => .inr (.inr hq))).setCell (.inr (.inl rfl)) 0 _
            have y0 := C6.out.at (i := 0) rfl
            have y1 := C6.out.fz 0
            have EU := hid hU2
            clear hG6 hg6 hb6 TG C6 CB5 G5 hU2 BV
            go_wp2_with fail
            gi_wp2
            rw [EU.out, HM3.out]
            exact ⟨_, _, _, FIN.out.1, FIN.out.2.1, FIN.out.2.2.1, FIN.out.2.2.2.1, FIN.out.2.2.2.2, _, _, _, _, _, _, _, _, _, _, _, _, _, _, _, _, _, _, _, _, _, _, _, _, _, rfl⟩
          · have hltI : ¬ (lg : Int) < 400 := by omega
            have FIN : Hid (Cel W2 bG 27 [.slice ag lg cg] ∧ GotV (n' : Int) (k' : Int) B T W2 (.slice ag lg cg) (min (t + 1) 400) vs ∧ T ≤ W2.heap.size ∧ (Value.slice ag lg cg).ownBlock ≠ some g ∧ Touch (fun b => b = bG ∨ (Value.slice ag lg cg).ownBlock = some b) W2 W2) :=
              ⟨CGo.out, by rw [show min (t + 1) 400 = lg by have := ELG.out; omega]; exact QG.out, Nat.le_trans HTW.out lz2.out, Q7.out g rfl, Touch.refl _ _⟩
            gi_wp2
            rw [HM3.out]
            exact ⟨_, _, _, FIN.out.1, FIN.out.2.1, FIN.out.2.2.1, FIN.out.2.2.2.1, FIN.out.2.2.2.2, _, _, _, _, _, _, _, _, _, _, _, _, _, _, _, _, _, _, _, _, _, _, _, _, _, rfl⟩
        case more3 =>
          intro a3 W3 hm3
          rw [HM3.out] at hm3
          obtain ⟨gv', T', vs', cg3, gt3, hT3, hap3, tt3, u32, u33, u34, u35, u36, u37, u38, u39, u40, u41, u42, u43, u44, u45, u46, u47, u48, u49, u50, u51, u52, u53, u54, u55, u56, rfl⟩ := hm3
          clear HM3
          have CG3 := hid cg3
          have GT3 := hid gt3
          have HT3 := hid hT3
          have HAP3 := hid hap3
          have TT3 := hid tt3
          have nb : ∀ b, b < V.heap.size → b ≠ bG → ¬ (b = bG ∨ (Value.slice ag lg cg).ownBlock = some b) := fun b h1 h2 q => by
            rcases q with q | q
            · exact h2 q
            · have := (QG.out.blk q).1; omega
          have ng : ¬ (g = bG ∨ (Value.slice ag lg cg).ownBlock = some g) := by
            rintro (q | q)
            · rcases QB.out g rfl with r | r
              · have := HGB.out _ r; omega
              · omega
            · exact Q7.out g rfl q
          have ni : ∀ (b : Nat) (L : Array Value), W2.heap[b]? = some (.cells L 3 (0, 0)) → ¬ (b = bG ∨ (Value.slice ag lg cg).ownBlock = some b) := fun b L e q => by
            rcases q with q | q
            · subst q
              have := (show W2.heap[b]? = _ from CGo.out).symm.trans e
              rw [Option.some.injEq, Obj.cells.injEq] at this
              exact absurd this.2.1 (by decide)
            · obtain ⟨_, L', e'⟩ := QG.out.blk q
              rw [e', Option.some.injEq, Obj.cells.injEq] at e
              exact absurd e.2.1 (by decide)
          have CI0 := CI.out.tch tt3 (nb bI (by omega) (by omega))
          have HGL : ∃ L, W2.heap[g]? = some (.cells L 29 (0, 0)) := (LLW.out.blk (b := g) rfl).2
          have HGL3 : Hid (∃ L, W3.heap[g]? = some (.cells L 29 (0, 0))) := by
            obtain ⟨L, e⟩ := HGL
            exact ⟨L, (tt3.block g (Array.getElem?_eq_some_iff.1 e).1 ng).trans e⟩
          have CW0 := CW.out.tch tt3 (nb bW (by omega) (by omega))
          have CN0 := CN.out.tch tt3 (nb bN (by omega) (by omega))
          have CK0 := CK.out.tch tt3 (nb bK (by omega) (by omega))
          have IU0 : Ivs 0 W3 (.slice au k' ccu) ll := (owns_mono14 IU.out).keep fun b L _ e => (tt3.block b (Array.getElem?_eq_some_iff.1 e).1 (ni b L e)).trans e
          have LL0 : LLs 0 0 W3 (.slice (some ⟨g, 0, none⟩) 1 cwv) [ll] := (LLW.out.mono (Nat.le_refl _) (Nat.zero_le _)).keep (fun b L hb e => by
            simp only [Value.ownBlock, Option.some.injEq] at hb
            subst hb
            exact (tt3.block _ (Array.getElem?_eq_some_iff.1 e).1 ng).trans e) (fun b L _ e => (tt3.block b (Array.getElem?_eq_some_iff.1 e).1 (ni b L e)).trans e)
          have cu0 : W3.cell? ⟨g, 0, none⟩ = some (.slice au k' ccu) := (tt3.cell (by
            obtain ⟨L, e⟩ := HGL
            exact (Array.getElem?_eq_some_iff.1 e).1) ng 0).trans CG.out
          have hwt : IntKind.i64.wrap ((t : Int) + 1) = (t : Int) + 1 := by rw [wrap_is] <;> omega
          obtain ⟨U3, hU3⟩ : ∃ U3, W3.setCell ⟨bI, 0, none⟩ (.int .i64 ((t : Int) + 1)) = U3 := ⟨_, rfl⟩
          have gI : g ≠ bI := fun q => by
            rcases QB.out g rfl with r | r
            · have := HGB.out _ r; omega
            · omega
          have TU3 : Hid (Touch (fun b => b = bI) W3 U3) := by unfold Hid; rw [← hU3]; exact (Touch.refl (fun b => b = bI) W3).setCell (g := bI) (.inr rfl) 0 _
          have CI3 := hid (show Cel U3 bI 3 [.int .i64 ((t : Int) + 1)] by rw [← hU3]; exact CI0.set 0 _)
          have CW3 := hid (show Cel U3 bW 27 [.slice (some ⟨g, 0, none⟩) 1 cwv] by rw [← hU3]; exact CW0.ne (by omega))
          have CN3 := hid (show Cel U3 bN 3 [.int .i64 (n' : Int)] by rw [← hU3]; exact CN0.ne (by omega))
          have CK3 := hid (show Cel U3 bK 3 [.int .i64 (k' : Int)] by rw [← hU3]; exact CK0.ne (by omega))
          have IU3 : Hid (Ivs 0 U3 (.slice au k' ccu) ll) := IU0.keep fun b L hb e => (TU3.out.block b (Array.getElem?_eq_some_iff.1 e).1 (fun q => Q8.out b hb q)).trans e
          have LLC3 : Hid (LLs 0 (bI + 1) U3 (.slice (some ⟨g, 0, none⟩) 0 cwv) []) := (LL0.cut (E' := bI + 1)).keep (fun b L hb e => (TU3.out.block b (Array.getElem?_eq_some_iff.1 e).1 (fun q => by
              simp only [Value.ownBlock, Option.some.injEq] at hb
              exact gI (hb.trans q))).trans e) (fun b L hb e => (TU3.out.block b (Array.getElem?_eq_some_iff.1 e).1 (fun q => by omega)).trans e)
          have lzU : Hid (W1.heap.size ≤ U3.heap.size) := by unfold Hid; have h1 := lz2.out; have h2 := tt3.size; have h3 := TU3.out.size; omega
          have sz3 : Hid (W3.heap.size ≤ U3.heap.size) := TU3.out.size
          have CGU3 := (TU3.out.cell (b := g) (by
            obtain ⟨L, e⟩ := HGL3.out
            exact (Array.getElem?_eq_some_iff.1 e).1) gI 0).trans cu0
          have HNX : Hid (∀ X', Below U3.heap.size U3 X' → Calls Try.prog 10 #[.slice au k' ccu, .int .i64 (n' : Int)] X' (fun e w' => ∃ r, e = .returned r ∧ NxV X'.heap.size w' n' k' ll r ∧ Below X'.heap.size X' w')) := fun X' hb => nextV (n := n') (IU3.out.now hb) SM.out.1 (by omega) hn64 SM.out.2.1 SM.out.2.2
          have z0 := CW3.out.at (i := 0) rfl
          have z1 := CGU3
          have z2 := CN3.out.at (i := 0) rfl
          have i0 := CI0.at (i := 0) rfl
          have i1 := CI0.fz 0
          have EU3 := hid hU3
          clear cg3 gt3 hT3 hap3 tt3 nb ng ni CI0 HGL CW0 CN0 CK0 IU0 LL0 cu0 hU3 gI CGU3 IU3 CW CGo CG IU LLW CN CK CC CI HX HX2 QG
          gi_wp2_with fail
          rw [EU3.out]
          clear EU3 i0 i1
          have KB : Hid (∀ w', Below U3.heap.size U3 w' → w'.cell? ⟨bW, 0, none⟩ = some (.slice (some ⟨g, 0, none⟩) 1 cwv) ∧ w'.cell? ⟨g, 0, none⟩ = some (.slice au k' ccu) ∧ w'.cell? ⟨bN, 0, none⟩ = some (.int .i64 (n' : Int))) := fun w' h => ⟨cnow h z0, cnow h z1, cnow h z2⟩
          refine region_round (by kernel_rfl) (hno_of11 (by kernel_rfl)) (by rintro ⟨a, w, h⟩; rcases (show _ ∨ _ from h) with q | ⟨cd, (q | ⟨i, q, _⟩), _⟩; (· cases q.1); (· cases q.1); (· cases q)) (wpAny_of_tail (S := fun w' => w'.cell? ⟨bW, 0, none⟩ = some (.slice (some ⟨g, 0, none⟩) 1 cwv) ∧ w'.cell? ⟨g, 0, none⟩ = some (.slice au k' ccu) ∧ w'.cell? ⟨bN, 0, none⟩ = some (.int .i64 (n' : Int))) (n := 5) _ _ _ _ ?_)
          obtain ⟨D61, hD⟩ : ∃ D61, U3.drew = D61 := ⟨_, rfl⟩
          have GB : Hid (Below U3.heap.size U3 D61) := by unfold Hid; rw [← hD]; exact (Below.refl _ _).drew
          rw [hD]
          clear hD
          refine wpAnyT_take (i := 0) (oi := { dst := some 59, op := Op.load 27 (Operand.tmp 8), type := 27, pos := "law.go:87", after := #[], guard := none }) (v := (.slice (some ⟨g, 0, none⟩) 1 cwv)) rfl (by kernel_rfl) (fun _ _ _ h => h) (Or.inl ⟨by rfl, ?_⟩) (KB.out _ GB.out) ?_
          · intro w hSw
            (try dsimp only at hSw)
            go_simp
          simp only [Act.put, List.setIfInBounds_toArray, List.set_cons_zero, List.set_cons_succ]
          refine wpAnyT_take (i := 1) (oi := { dst := some 60, op := Op.indexAddr 27 (Operand.tmp 59) (Operand.const (Value.int IntKind.i64 0)), type := 0, pos := "law.go:87", after := #[{ on := 0, ground := Ground.data }], guard := none }) (v := (.pointer (some ⟨g, 0, none⟩))) rfl (by kernel_rfl) (fun _ _ _ h => h) (Or.inl ⟨by rfl, ?_⟩) (KB.out _ GB.out) ?_
          · intro w hSw
            (try dsimp only at hSw)
            go_simp
          simp only [Act.put, List.setIfInBounds_toArray, List.set_cons_zero, List.set_cons_succ]
          refine wpAnyT_take (i := 2) (oi := { dst := some 61, op := Op.load 29 (Operand.tmp 60), type := 29, pos := "law.go:87", after := #[{ on := 1, ground := Ground.data }], guard := none }) (v := (.slice au k' ccu)) rfl (by kernel_rfl) (fun _ _ _ h => h) (Or.inl ⟨by rfl, ?_⟩) (KB.out _ GB.out) ?_
          · intro w hSw
            (try dsimp only at hSw)
            go_simp
          simp only [Act.put, List.setIfInBounds_toArray, List.set_cons_zero, List.set_cons_succ]
          refine wpAnyT_take (i := 3) (oi := { dst := some 62, op := Op.load 3 (Operand.tmp 3), type := 3, pos := "law.go:87", after := #[], guard := none }) (v := (.int .i64 (n' : Int))) rfl (by kernel_rfl) (fun _ _ _ h => h) (Or.inl ⟨by rfl, ?_⟩) (KB.out _ GB.out) ?_
          · intro w hSw
            (try dsimp only at hSw)
            go_simp
          simp only [Act.put, List.setIfInBounds_toArray, List.set_cons_zero, List.set_cons_succ]
          refine wpAnyT_one (i := 4) (o := { dst := some 63, op := Op.call { callee := Callee.value (Operand.func 10), args := #[Operand.tmp 61, Operand.tmp 62], argTypes := #[29, 3] }, type := 29, pos := "law.go:87", after := #[{ on := 2, ground := Ground.data }, { on := 3, ground := Ground.data }], guard := none }) (by kernel_rfl) rfl (fun K hK => ?_)
          have hs0 := GB.out.size
          go_simp
          go_at_call 10
          refine (HNX.out _ GB.out).mono ?_
          rintro e w62 ⟨r1, rfl, hnv, b⟩
          have lz62 := (show Below _ _ _ from b).size
          replace GB := hid (below_step GB.out b)
          have HNV := hid (hnv.mono (B' := U3.heap.size) (by first | exact Nat.le_refl _ | exact hs0))
          clear hnv
          clear b
          refine hK.out _ _ (fun _ => KB.out _ GB.out) ?_
          clear hK
          refine wpAnyT_one (i := 5) (o := { dst := some 12, op := Op.assign (Operand.tmp 63), type := 29, pos := "law.go:87", after := #[{ on := 4, ground := Ground.data }, { on := 4, ground := Ground.chain }, { on := 0, ground := Ground.phase }, { on := 1, ground := Ground.phase }, { on := 2, ground := Ground.phase }, { on := 3, ground := Ground.phase }, { on := 4, ground := Ground.phase }], guard := none }) (by kernel_rfl) rfl (fun K hK => ?_)
          go_simp
          refine hK.out _ _ (fun h => absurd h (by decide)) ?_
          clear hK
          try simp only [Act.put]
          refine wpAnyT_done (by kernel_rfl) ?_ _
          clear KB HNX
          obtain ⟨w5, hw5⟩ : ∃ w5, w62 = w5 := ⟨_, rfl⟩
          rw [hw5] at HNV GB ⊢
          clear hw5
          have hsl := fun W => slice_none14 W g 1 cwv
          have T5 : Hid (Below U3.heap.size U3 w5) := GB.out
          have lz5 : Hid (U3.heap.size ≤ w5.heap.size) := GB.out.size
          clear z0 z1 z2 GB
          have C5 := hid (CW3.out.step T5.out)
          have y0 := C5.out.at (i := 0) rfl
          have y1 := C5.out.fz 0
          obtain ⟨U1, hU1⟩ : ∃ U1, w5.setCell ⟨bW, 0, none⟩ (.slice (some ⟨g, 0, none⟩) 0 cwv) = U1 := ⟨_, rfl⟩
          have LU : Hid (LLs 0 U3.heap.size U1 (.slice (some ⟨g, 0, none⟩) 0 cwv) []) := by
            unfold Hid
            rw [← hU1]
            exact ((LLC3.out.now T5.out).cut).ty (Ty.set C5.out) (by decide) (by decide)
          have EU := hid hU1
          rcases HNV.out with ⟨hn0, hr⟩ | ⟨l', gn, cn, hn1, hl', hk0, hr, hI⟩
          · subst hr
            have hnq := fun W => run_neq_nil14 W
            have TU : Hid (Touch (fun b => b = bW ∨ b = g) U3 U1) := by
              unfold Hid
              rw [← hU1]
              exact (Touch.ofBelow T5.out).setCell (.inr (.inl rfl)) 0 _
            have CU := hid (show Cel U1 bW 27 [.slice (some ⟨g, 0, none⟩) 0 cwv] by rw [← hU1]; exact C5.out.set 0 _)
            have WN : Hid (LLs 0 U3.heap.size U1 (.slice (some ⟨g, 0, none⟩) 0 cwv) (wantL (n' : Int) (k' : Int) (t + 1))) := by
              unfold Hid
              have hend : ¬ t + 1 < (stsI (n' : Int) (k' : Int)).length := fun q => by
                have := HRUN.out
                rw [if_pos q, hn0] at this
                cases this
              rw [wantL_end (by omega)]
              exact LU.out
            have WO : Hid (∀ b, (Value.slice (some ⟨g, 0, none⟩) 0 cwv).ownBlock = some b → g0 = some b ∨ B ≤ b) := fun b hb => QB.out b hb
            have WA : Hid (∀ b, (Value.slice (some ⟨g, 0, none⟩) 0 cwv).ownBlock = some b → gv'.ownBlock ≠ some b) := fun b hb => by
              simp only [Value.ownBlock, Option.some.injEq] at hb
              subst hb
              exact HAP3.out
            clear hn0 LU HNV hU1 HRUN CN3
            have TUU : Hid (Touch (fun b => b = bW ∨ b = bG ∨ b = bI ∨ b = g ∨ (Value.slice ag lg cg).ownBlock = some b) W1 U1) := (((Touch.ofBelow T12.out).trans (TT3.out.mono14 fun b q => q.elim (fun q => .inr (.inl q)) (fun q => .inr (.inr (.inr (.inr q)))))).trans (TU3.out.mono14 fun b q => .inr (.inr (.inl q)))).trans (TU.out.mono14 fun b q => q.elim .inl (fun q => .inr (.inr (.inr (.inl q)))))
            have T3U : Hid (Touch (fun b => b = bI ∨ b = bW ∨ b = g) W3 U1) := (TU3.out.mono14 fun b q => .inl q).trans (TU.out.mono14 fun b q => q.elim (fun q => .inr (.inl q)) (fun q => .inr (.inr q)))
            have CIU : Hid (Cel U1 bI 3 [.int .i64 ((t : Int) + 1)]) := CI3.out.tch TU.out (by
              rintro (q | q)
              · omega
              · rcases QB.out g rfl with r | r
                · have := HGB.out _ r; omega
                · omega)
            have CGU : Hid (Cel U1 bG 27 [gv']) := CG3.out.tch T3U.out (by
              rintro (q | q | q)
              · omega
              · omega
              · rcases QB.out g rfl with r | r
                · have := HGB.out _ r; omega
                · omega)
            have GTU : Hid (GotV (n' : Int) (k' : Int) B T' U1 gv' (min (t + 1) 400) vs') := GT3.out.keep (fun b L hb e => (T3U.out.block b (Array.getElem?_eq_some_iff.1 e).1 (by
                rintro (q | q | q)
                · have := (GT3.out.blk hb).1; omega
                · have := (GT3.out.blk hb).1; omega
                · rw [q] at hb; exact HAP3.out hb)).trans e) (fun b L hb e => (T3U.out.block b (Array.getElem?_eq_some_iff.1 e).1 (by
                rintro (q | q | q)
                · omega
                · omega
                · obtain ⟨L', e'⟩ := HGL3.out
                  rw [q, e', Option.some.injEq, Obj.cells.injEq] at e
                  exact absurd e.2.1 (by decide))).trans e)
            have FIN := hid (HJ.out.round (M := 100002) HT.out TUU.out (fun b q => by
              rcases q with q | q | q | q | q
              · exact ⟨.inl q, fun o e => by subst q; exact CW1.out.isC o e⟩
              · exact ⟨.inr (.inl q), fun o e => by subst q; exact CGo1.out.isC o e⟩
              · exact ⟨.inr (.inr (.inl q)), fun o e => by subst q; exact HJ.out.i.isC o e⟩
              · refine ⟨by
                  subst q
                  rcases QB.out b rfl with r | r
                  · exact .inr (.inr (.inr (.inl r)))
                  · exact .inr (.inr (.inr (.inr r))), fun o e => ?_⟩
                obtain ⟨L', e'⟩ := HGL1.out
                rw [q, e', Option.some.injEq] at e
                subst e
                rfl
              · refine ⟨.inr (.inr (.inr (.inr (QG1.out.blk q).1))), fun o e => ?_⟩
                obtain ⟨_, L', e'⟩ := QG1.out.blk q
                rw [e', Option.some.injEq] at e
                subst e
                rfl) ⟨by omega, by omega, by omega, fun q => by have := HGB.out _ q; omega, by omega⟩ (by omega) (fun b q => by
              rcases q with q | q | q | q
              · omega
              · omega
              · omega
              · have := HGB.out _ q; omega) HG1.out.size (by rw [show ((t + 1 : Nat) : Int) = (t : Int) + 1 by omega]; exact CIU.out) CU.out (WN.out.mono (Nat.le_refl _) (by have h1 := HBW.out; have h2 := lzU.out; omega)) WO.out CGU.out GTU.out (Nat.le_trans HT3.out T3U.out.size) WA.out)
            have FX : Hid (KeepsFrom V.heap.size W1 U1 ∧ MsJ w V bW bG bI bR g0 (n' : Int) (k' : Int) 100002 (B, t + 1) U1 ∧ KpL (MsS bW bG bI bR g0) B W1 U1) := ⟨FIN.out.1, FIN.out.2.1.tight (by show t + 1 ≤ 100002; omega), FIN.out.2.2⟩
            clear FIN TUU T3U CIU CGU GTU WN WO WA CU TU
            gi_wp2
            rw [EU.out]
            first | exact FX.out | exact .inl ⟨trivial, FX.out⟩ | exact .inl ⟨rfl, FX.out⟩
          · subst hr
            have hnq := fun W => run_neq_some14 W ⟨gn, 0, none⟩ k' cn
            have hkp : (0 : Int) < (k' : Int) := by omega
            have hmore : l' = (stsI (n' : Int) (k' : Int)).getD (t + 1) [] ∧ t + 1 < (stsI (n' : Int) (k' : Int)).length := by
              have h1 := HRUN.out
              rw [hn1] at h1
              by_cases q : t + 1 < (stsI (n' : Int) (k' : Int)).length
              · rw [if_pos q, Option.some.injEq] at h1; exact ⟨h1, q⟩
              · rw [if_neg q] at h1; cases h1
            have HM := hid hmore
            have y3 : U1.cell? ⟨bK, 0, none⟩ = some (.int .i64 (k' : Int)) := by rw [← hU1]; exact (((CK3.out.step T5.out).ne (by omega)).at (i := 0) rfl)
            obtain ⟨V5, hV5⟩ : ∃ V5, U1.alloc (.cells #[.slice (some ⟨gn, 0, none⟩) k' cn] 29) = V5 := ⟨_, rfl⟩
            obtain ⟨b5, sz5⟩ := alo1 U1 (.cells #[.slice (some ⟨gn, 0, none⟩) k' cn] 29)
            rw [hV5] at b5 sz5
            have CV5 : Hid (V5.cell? ⟨w5.heap.size, 0, none⟩ = some (.slice (some ⟨gn, 0, none⟩) k' cn)) := by unfold Hid; rw [← hV5, show w5.heap.size = U1.heap.size by rw [← hU1]; simp]; exact (Cel.new U1 29 [.slice (some ⟨gn, 0, none⟩) k' cn]).at (i := 0) rfl
            have LV := hid (LU.out.now b5)
            have hIU : Ivs U3.heap.size U1 (.slice (some ⟨gn, 0, none⟩) k' cn) l' := by
              rw [← hU1]
              exact hI.keep fun b L _ e => (Ty.set C5.out).2 b _ _ _ e (by decide)
            have IV5 := hid (hIU.now b5)
            have TU1 : Hid (Touch (fun b => b = bW ∨ b = g) U3 U1) := by
              unfold Hid
              rw [← hU1]
              exact (Touch.ofBelow T5.out).setCell (.inr (.inl rfl)) 0 _
            have CB5 := hid ((show Cel U1 bW 27 [.slice (some ⟨g, 0, none⟩) 0 cwv] by rw [← hU1]; exact C5.out.set 0 _).step b5)
            have TV5 := hid (TU1.out.trans (Touch.ofBelow b5))
            have EV5 := hid hV5
            have hs5 : Hid (U3.heap.size ≤ V5.heap.size) := by
              unfold Hid
              have h1 := b5.size
              have h2 : w5.heap.size = U1.heap.size := by rw [← hU1]; simp
              have h3 := lz5.out
              omega
            rw [← hU1] at y3
            clear LU HNV hU1 hn1 hV5 hI hIU b5 sz5 hmore HRUN TU1
            have y4 := (show Cel U1 bW 27 [.slice (some ⟨g, 0, none⟩) 0 cwv] by rw [← EU.out]; exact C5.out.set 0 _).at (i := 0) rfl
            rw [← EU.out] at y4
            gi_wp2_with (rw [EU.out, EV5.out]; refine list_round (by rintro ⟨a, w, h⟩; rcases (show _ ∨ _ from h) with q | ⟨cd, (q | ⟨i, q, _⟩), _⟩; (· cases q.1); (· cases q.1); (· cases q)) _ _ _ (by intro o ho c; rcases List.mem_cons.1 ho with rfl | ho; (· intro h; cases h); rcases List.mem_cons.1 ho with rfl | ho; (· intro h; cases h); cases ho) (wpList_append_lls V5 rfl (.tmp 72) (.tmp 74) rfl 0 U3.heap.size _ [] _ l' rfl LV.out IV5.out w5.heap.size rfl CV5.out (by simp) (Nat.zero_le _) ?_))
            clear EU y0 y1 y3 y4 hsl hnq C5 EV5 CV5 IV5
            intro g' cap' w6 hL6 hg6 hb6
            have TG : Hid (Ty 29 V5 w6) := ⟨hg6.out.size, fun b L T fr e hne => (hg6.out.block b (Array.getElem?_eq_some_iff.1 e).1 (fun q => by
              obtain ⟨_, L', e'⟩ := LV.out.blk q.symm
              rw [e', Option.some.injEq, Obj.cells.injEq] at e
              exact hne e.2.1.symm)).trans e⟩
            have C6 := hid (CB5.out.ty13 TG.out (by decide))
            obtain ⟨U2, hU2⟩ : ∃ U2, w6.setCell ⟨bW, 0, none⟩ (.slice (some ⟨g', 0, none⟩) 1 cap') = U2 := ⟨_, rfl⟩
            have CU := hid (show Cel U2 bW 27 [.slice (some ⟨g', 0, none⟩) 1 cap'] by rw [← hU2]; exact C6.out.set 0 _)
            have TU : Hid (Touch (fun b => b = bW ∨ b = g) U3 U2) := by
              unfold Hid
              rw [← hU2]
              exact (TV5.out.grown hg6.out (fun q hq => .inr (.inr (by cases hq; rfl)))).setCell (.inr (.inl rfl)) 0 _
            have WN : Hid (LLs 0 U3.heap.size U2 (.slice (some ⟨g', 0, none⟩) 1 cap') (wantL (n' : Int) (k' : Int) (t + 1))) := by
              unfold Hid
              rw [wantL_at HM.out.2, ← HM.out.1, ← hU2]
              exact (show LLs 0 U3.heap.size w6 (.slice (some ⟨g', 0, none⟩) 1 cap') [l'] from hL6.out).ty (Ty.set C6.out) (by decide) (by decide)
            have WO : Hid (∀ b, (Value.slice (some ⟨g', 0, none⟩) 1 cap').ownBlock = some b → g0 = some b ∨ B ≤ b) := fun b hb => by
              simp only [Value.ownBlock, Option.some.injEq] at hb
              subst hb
              rcases hb6.out with q | q
              · exact QB.out _ q
              · refine .inr ?_
                rw [q]
                have h1 := hs5.out; have h2 := lzU.out; have h3 := HBW.out
                omega
            have WA : Hid (∀ b, (Value.slice (some ⟨g', 0, none⟩) 1 cap').ownBlock = some b → gv'.ownBlock ≠ some b) := fun b hb hb2 => by
              simp only [Value.ownBlock, Option.some.injEq] at hb
              subst hb
              rcases hb6.out with q | q
              · simp only [Value.ownBlock, Option.some.injEq] at q
                rw [← q] at hb2
                exact HAP3.out hb2
              · have h1 := (Array.getElem?_eq_some_iff.1 (GT3.out.blk hb2).2.choose_spec).1
                have h2 := hs5.out; have h3 := sz3.out
                omega
            have y0 := C6.out.at (i := 0) rfl
            have y1 := C6.out.fz 0
            have EU := hid hU2
            clear hL6 hg6 hb6 TG C6 CB5 TV5 LV HM hU2 hs5 hkp
            try simp only [List.length_nil, Nat.zero_add]
            have TUU : Hid (Touch (fun b => b = bW ∨ b = bG ∨ b = bI ∨ b = g ∨ (Value.slice ag lg cg).ownBlock = some b) W1 U2) := (((Touch.ofBelow T12.out).trans (TT3.out.mono14 fun b q => q.elim (fun q => .inr (.inl q)) (fun q => .inr (.inr (.inr (.inr q)))))).trans (TU3.out.mono14 fun b q => .inr (.inr (.inl q)))).trans (TU.out.mono14 fun b q => q.elim .inl (fun q => .inr (.inr (.inr (.inl q)))))
            have T3U : Hid (Touch (fun b => b = bI ∨ b = bW ∨ b = g) W3 U2) := (TU3.out.mono14 fun b q => .inl q).trans (TU.out.mono14 fun b q => q.elim (fun q => .inr (.inl q)) (fun q => .inr (.inr q)))
            have CIU : Hid (Cel U2 bI 3 [.int .i64 ((t : Int) + 1)]) := CI3.out.tch TU.out (by
              rintro (q | q)
              · omega
              · rcases QB.out g rfl with r | r
                · have := HGB.out _ r; omega
                · omega)
            have CGU : Hid (Cel U2 bG 27 [gv']) := CG3.out.tch T3U.out (by
              rintro (q | q | q)
              · omega
              · omega
              · rcases QB.out g rfl with r | r
                · have := HGB.out _ r; omega
                · omega)
            have GTU : Hid (GotV (n' : Int) (k' : Int) B T' U2 gv' (min (t + 1) 400) vs') := GT3.out.keep (fun b L hb e => (T3U.out.block b (Array.getElem?_eq_some_iff.1 e).1 (by
                rintro (q | q | q)
                · have := (GT3.out.blk hb).1; omega
                · have := (GT3.out.blk hb).1; omega
                · rw [q] at hb; exact HAP3.out hb)).trans e) (fun b L hb e => (T3U.out.block b (Array.getElem?_eq_some_iff.1 e).1 (by
                rintro (q | q | q)
                · omega
                · omega
                · obtain ⟨L', e'⟩ := HGL3.out
                  rw [q, e', Option.some.injEq, Obj.cells.injEq] at e
                  exact absurd e.2.1 (by decide))).trans e)
            have FIN := hid (HJ.out.round (M := 100002) HT.out TUU.out (fun b q => by
              rcases q with q | q | q | q | q
              · exact ⟨.inl q, fun o e => by subst q; exact CW1.out.isC o e⟩
              · exact ⟨.inr (.inl q), fun o e => by subst q; exact CGo1.out.isC o e⟩
              · exact ⟨.inr (.inr (.inl q)), fun o e => by subst q; exact HJ.out.i.isC o e⟩
              · refine ⟨by
                  subst q
                  rcases QB.out b rfl with r | r
                  · exact .inr (.inr (.inr (.inl r)))
                  · exact .inr (.inr (.inr (.inr r))), fun o e => ?_⟩
                obtain ⟨L', e'⟩ := HGL1.out
                rw [q, e', Option.some.injEq] at e
                subst e
                rfl
              · refine ⟨.inr (.inr (.inr (.inr (QG1.out.blk q).1))), fun o e => ?_⟩
                obtain ⟨_, L', e'⟩ := QG1.out.blk q
                rw [e', Option.some.injEq] at e
                subst e
                rfl) ⟨by omega, by omega, by omega, fun q => by have := HGB.out _ q; omega, by omega⟩ (by omega) (fun b q => by
              rcases q with q | q | q | q
              · omega
              · omega
              · omega
              · have := HGB.out _ q; omega) HG1.out.size (by rw [show ((t + 1 : Nat) : Int) = (t : Int) + 1 by omega]; exact CIU.out) CU.out (WN.out.mono (Nat.le_refl _) (by have h1 := HBW.out; have h2 := lzU.out; omega)) WO.out CGU.out GTU.out (Nat.le_trans HT3.out T3U.out.size) WA.out)
            have FX : Hid (KeepsFrom V.heap.size W1 U2 ∧ MsJ w V bW bG bI bR g0 (n' : Int) (k' : Int) 100002 (B, t + 1) U2 ∧ KpL (MsS bW bG bI bR g0) B W1 U2) := ⟨FIN.out.1, FIN.out.2.1.tight (by show t + 1 ≤ 100002; omega), FIN.out.2.2⟩
            clear FIN TUU T3U CIU CGU GTU WN WO WA CU TU
            go_wp2_with fail
            gi_wp2
            rw [EU.out]
            first | exact FX.out | exact .inl ⟨trivial, FX.out⟩ | exact .inl ⟨rfl, FX.out⟩
end Go.Proofs.Ytplldfnldaehiaa
