/-
  Su72: the law ApproxSums where all are finite
-/
import Derived.Test.YtbamffggnnacaaaDoorQNz7ToSu70
namespace Go.Proofs.YtbamffggnnacaaaDoor
open Go.RowKit
set_option linter.unusedVariables false

set_option maxHeartbeats 25600000 in
set_option maxRecDepth 100000 in
theorem sums_all {w : World} {v0 v1 v3 : Value} {xs ps qs : List Int} {X : Nat} (h0 : Sl w.heap.size w v0 xs) (hl : xs.length ≤ 1048576) (h1 : SlI w.heap.size w v1 ps) (hpl : ps.length ≤ 1048576) (hX : X < 2 ^ 64) (h3 : Sl32 w.heap.size w v3 qs) (hT : Tab w) (hno : ∀ f ∈ fl7 xs, Fin7 f) :
    Calls Tryd.prog 5 #[.agg #[v0, v1, .int .u64 (X : Int), v3]] w fun e w' => e = .returned (.bool true) ∧ Below w.heap.size w w' := by
  have H1 := hid h1
  have H3 := hid h3
  obtain ⟨-, ap, cp, rfl, hcp, hcp2, -⟩ := h1
  obtain ⟨-, aq, cq, rfl, hcq, hlq, -⟩ := h3
  obtain ⟨np, hnp⟩ : ∃ np, ps.length = np := ⟨_, rfl⟩
  have HNP := hid hnp
  rw [hnp] at hpl hcp H1 ⊢
  obtain ⟨nq7, hnq⟩ : ∃ nq7, qs.length = nq7 := ⟨_, rfl⟩
  have HNQ := hid hnq
  rw [hnq] at hlq hcq H3 ⊢
  clear hnp hnq hcp2
  obtain ⟨W0, hW0⟩ : ∃ W0, w.alloc (.cells #[v0, .slice ap np cp, .int .u64 (X : Int), .slice aq nq7 cq] 54) = W0 := ⟨_, rfl⟩
  have b0 : Below w.heap.size w W0 := by rw [← hW0]; exact (Below.refl _ _).alloc (Nat.le_refl _) _
  have p0 : HpB w W0 v0 (.slice ap np cp) X (.slice aq nq7 cq) := by rw [← hW0]; exact heap_alloc_new w _
  have HA := hid (awake7 (hT.now b0))
  have HS0 := hid h0
  have HT0 := hid hT
  have HNO := hid hno
  have EW := hid hW0
  have B0 := hid b0
  have P0 := hid p0
  clear h0 hT hno hW0 b0 p0
  go_enter Tryd.func5, Tryd.ntmps5
  go_wp2_with fail
  rw [EW.out]
  clear EW
  refine HA.out.mono ?_
  rintro e w1 ⟨rfl, b1⟩
  have P1 := hid (P0.out.now b1)
  have G := hid (below_step B0.out b1)
  clear b1 HA
  obtain ⟨c0, c1, c2, c3⟩ := P1.out.c
  go_wp2_with fail
  go_quiet (fail)
  obtain ⟨W2, hW2⟩ : ∃ W2, w1.drewN nq = W2 := ⟨_, rfl⟩
  have bq : Below w1.heap.size w1 W2 := by rw [← hW2]; exact below_drewN _ _ _
  rw [hW2]
  have P2 := hid (P1.out.now bq)
  have G2 := hid (below_step G.out bq)
  clear hW2 bq P1 G c0 c1 c2 c3 P0 B0
  obtain ⟨c0, c1, c2, c3⟩ := P2.out.c
  go_wp2_with fail
  refine (floats_any (HS0.out.now G2.out) hl).mono ?_
  rintro e w3 ⟨g, rfl, row, hg, b3⟩
  have P3 := hid (P2.out.now b3)
  have G3 := hid (below_step G2.out b3)
  have R3 := hid row
  have hgn : w.heap.size < g := by have := P2.out.lt; omega
  clear row b3 P2 G2 c0 c1 c2 c3
  obtain ⟨n, hn⟩ : ∃ n, xs.length = n := ⟨_, rfl⟩
  rw [hn] at hl ⊢
  have HN : Hid ((fl7 xs).length = n) := by unfold Hid; rw [fl7_len]; exact hn
  have HLT := hid (fl7_lt HS0.out.1)
  clear hn HS0
  obtain ⟨fs, hfs⟩ : ∃ fs, fl7 xs = fs := ⟨_, rfl⟩
  rw [hfs] at HNO R3 HN HLT
  clear hfs
  have HFS := hid (R3.out.fs (n := n) (cap := n) HLT.out HN.out (Nat.le_refl _) (by omega))
  go_wp2_with fail
  refine (total_any HFS.out (HT0.out.now G3.out)).mono ?_
  rintro e w4 ht
  rcases ht with ⟨q, rfl, b4⟩ | ⟨⟨f, hf1, hf2⟩, _⟩
  case inr => exact absurd (HNO.out f hf1) hf2
  clear q
  obtain ⟨S, hS⟩ : ∃ S, ssum fs = S := ⟨_, rfl⟩
  rw [hS]
  have HS := hid hS
  obtain ⟨F, hF⟩ : ∃ F, zw S (-1074) = F := ⟨_, rfl⟩
  rw [hF]
  have HFe := hid hF
  clear hS hF
  have H0 : Hid (AllH w v0 (.slice ap np cp) (.slice aq nq7 cq) X g n fs n (.bool true) (.int .i64 0) w4) := ⟨0, true, rfl, rfl, Nat.zero_le _, rfl, ⟨fun _ j _ h => absurd h (Nat.not_lt_zero _), fun _ => rfl⟩, P3.out.now b4, R3.out.now b4, below_step G3.out b4⟩
  clear b4 P3 G3 R3 HFS
  go_wp2_with fail
  go_loopg [8, 9] n (fun gg s8 s9 wx => AllH w v0 (.slice ap np cp) (.slice aq nq7 cq) X g n fs gg s8 s9 wx)
  case atStart => exact H0.out
  case round =>
    clear H0
    obtain ⟨i, A, rfl, rfl, hin, hgg, hA, pp, rr, hG⟩ := hrel
    have P := hid pp
    have R := hid rr
    have G := hid hG
    have HG := hid hgg
    have HA := hid hA
    clear pp rr hG hgg hA
    by_cases hlt : i < n
    · have hlt' : (i : Int) < (n : Int) := by omega
      have hli : i < fs.length := by rw [HN.out]; exact hlt
      have hw := wrapI7 (i := i) (by omega)
      cases A
      · have HN1 : Hid (AllH w v0 (.slice ap np cp) (.slice aq nq7 cq) X g n fs (n - (i + 1)) (.bool false) (.int .i64 ((i + 1 : Nat) : Int)) wr) := ⟨i + 1, false, rfl, rfl, by omega, rfl, ⟨fun e => (by cases e), fun q => HA.out.2 (fun j h hj => q j h (by omega))⟩, P.out, R.out, G.out⟩
        have HMM : Hid (n - (i + 1) < gk) := by unfold Hid; rw [HG.out]; omega
        clear P R G HG HA
        go_wp2_with fail
        go_roundg (n - (i + 1))
        case rel => exact HN1.out
        case measure => exact HMM.out
      · have cf : wr.cell? ⟨g, i, none⟩ = some (.float .f64 fs[i]) := R.out.cell hli
        obtain ⟨f, hfe⟩ : ∃ f, fs[i] = f := ⟨_, rfl⟩
        have HFE := hid hfe
        rw [hfe] at cf
        clear hfe
        go_wp2_with fail
        refine (finite_any f _).mono ?_
        rintro e w5 ⟨rfl, b5⟩
        have HN1 : Hid (AllH w v0 (.slice ap np cp) (.slice aq nq7 cq) X g n fs (n - (i + 1)) (.bool (decide (Fin7 f))) (.int .i64 ((i + 1 : Nat) : Int)) w5) := ⟨i + 1, decide (Fin7 f), rfl, rfl, by omega, rfl, ⟨fun e j h hj => by
            by_cases q : j < i
            · exact HA.out.1 (by first | rfl | trivial) j h q
            · obtain rfl : j = i := by omega
              rw [HFE.out]; exact of_decide_eq_true e, fun q => decide_eq_true (by have := q i hli (by omega); rw [HFE.out] at this; exact this)⟩, P.out.now b5, R.out.now b5, below_step G.out b5⟩
        have HMM : Hid (n - (i + 1) < gk) := by unfold Hid; rw [HG.out]; omega
        clear P R G HG HA b5 cf HFE
        generalize decide (Fin7 f) = D at *
        go_wp2_with fail
        go_roundg (n - (i + 1))
        case rel => exact HN1.out
        case measure => exact HMM.out
    · have hlt' : ¬ (i : Int) < (n : Int) := by omega
      obtain rfl : i = n := by omega
      have hAt : A = true := HA.out.2 (fun j h hj => HNO.out _ (List.getElem_mem h))
      subst hAt
      have hz1 := (zw_no S (-1074)).1
      have hz2 := (zw_no S (-1074)).2
      rw [HFe.out] at hz1 hz2
      have k1 := fbits_run F
      have q0 : ((0 : Int) != 0) = false := rfl
      have H0 : Hid (SwapH w v0 (.slice ap np cp) (.slice aq nq7 cq) X g i np S (np + 1) (.int .i64 0) wr) := ⟨0, fs, rfl, Nat.zero_le _, rfl, HN.out, HNO.out, HLT.out, HS.out, P.out, R.out, G.out⟩
      clear HA P R HG G hin hlt hlt'
      obtain ⟨n, rfl⟩ : ∃ n, n = i := ⟨_, rfl⟩
      go_wp2_with fail
      go_loopg [10] (np + 1) (fun gg s10 wx => SwapH w v0 (.slice ap np cp) (.slice aq nq7 cq) X g n np S gg s10 wx)
      case atStart => exact H0.out
      case round =>
        clear H0
        obtain ⟨i, zs, rfl, hin, hgg, hzl, hzf, hzt, hzs, pp, rr, hG⟩ := hrel
        have P := hid pp
        have R := hid rr
        have G := hid hG
        have HG := hid hgg
        have HZL := hid hzl
        have HZF := hid hzf
        have HZT := hid hzt
        have HZS := hid hzs
        clear pp rr hG hgg hzl hzf hzt hzs
        have hw1 : IntKind.i64.wrap ((i : Int) + 1) = ((i + 1 : Nat) : Int) := wrapI7 (by omega)
        have hw2 : IntKind.i64.wrap ((i : Int) + 2) = ((i + 2 : Nat) : Int) := by rw [wrap_is] <;> omega
        by_cases hlt : i + 1 < np
        · have hlt' : ((i + 1 : Nat) : Int) < (np : Int) := by omega
          obtain ⟨hpb, a9, c9, e9, -, -, hpc⟩ := H1.out
          simp only [Value.slice.injEq] at e9
          obtain ⟨rfl, -, rfl⟩ := e9
          have hip : i < ps.length := by rw [HNP.out]; omega
          have hip1 : i + 1 < ps.length := by rw [HNP.out]; omega
          rcases hpc with e | ⟨bp, op, rfl, hbp, hcc⟩
          · rw [e] at hip; simp at hip
          have cp0 : wr.cell? ⟨bp, op + i, none⟩ = some (.int .i64 ps[i]) := (G.out.cell (p := ⟨bp, op + i, none⟩) hbp).trans (hcc i hip)
          have cp1 : wr.cell? ⟨bp, op + (i + 1), none⟩ = some (.int .i64 ps[i + 1]) := (G.out.cell (p := ⟨bp, op + (i + 1), none⟩) hbp).trans (hcc (i + 1) hip1)
          obtain ⟨p, hpe⟩ : ∃ p, ps[i] = p := ⟨_, rfl⟩
          obtain ⟨q, hqe⟩ : ∃ q, ps[i + 1] = q := ⟨_, rfl⟩
          rw [hpe] at cp0
          rw [hqe] at cp1
          clear hcc hpb hpe hqe hip hip1
          go_wp2_with fail
          go_quiet (fail)
          obtain ⟨V, hV⟩ : ∃ V, wr.drewN nq = V := ⟨_, rfl⟩
          have bq : Below wr.heap.size wr V := by rw [← hV]; exact below_drewN _ _ _
          rw [hV]
          have PV := hid (P.out.now bq)
          have RV := hid (R.out.now bq)
          have GV := hid (below_step G.out bq)
          clear hV bq P R G cp0 cp1
          by_cases a1 : 0 ≤ p
          · by_cases a2 : p < (n : Int)
            · by_cases a3 : 0 ≤ q
              · by_cases a4 : q < (n : Int)
                · obtain ⟨P7, rfl⟩ := Int.eq_ofNat_of_zero_le a1
                  obtain ⟨Q7, rfl⟩ := Int.eq_ofNat_of_zero_le a3
                  have hP : P7 < zs.length := by rw [HZL.out]; omega
                  have hQ : Q7 < zs.length := by rw [HZL.out]; omega
                  have RD : RowF V g (fws zs) := RV.out
                  have cP : V.drew.cell? ⟨g, P7, none⟩ = some (.float .f64 zs[P7]) := RD.cell hP
                  have cQ : V.drew.cell? ⟨g, Q7, none⟩ = some (.float .f64 zs[Q7]) := RD.cell hQ
                  have R1 := RD.set P7 zs[Q7]
                  have ks1 := store_float (P := Tryd.prog) (w := V.drew) (x := zs[Q7]) cP (RD.frozen P7)
                  have cQ2 : (V.setCell ⟨g, P7, none⟩ (.float .f64 zs[Q7])).drew.cell? ⟨g, Q7, none⟩ = some (.float .f64 ((zs.set P7 zs[Q7])[Q7]'(by simpa using hQ))) := R1.cell (i := Q7) (by simpa using hQ)
                  have ks2 := store_float (P := Tryd.prog) (w := (V.setCell ⟨g, P7, none⟩ (.float .f64 zs[Q7])).drew) (x := zs[P7]) cQ2 (R1.frozen Q7)
                  have RN : Hid (RowF ((V.setCell ⟨g, P7, none⟩ (.float .f64 zs[Q7])).setCell ⟨g, Q7, none⟩ (.float .f64 zs[P7])).drew g (fws ((zs.set P7 zs[Q7]).set Q7 zs[P7]))) := R1.set Q7 zs[P7]
                  have HW1 := hid (ssum_swap hP hQ)
                  have HW2 : Hid (∀ f ∈ (zs.set P7 zs[Q7]).set Q7 zs[P7], f ∈ zs) := fun f hf => swap_mem hP hQ hf
                  have HW3 : Hid (((zs.set P7 zs[Q7]).set Q7 zs[P7]).length = n) := by unfold Hid; simp; exact HZL.out
                  have PN : Hid (HpB w ((V.setCell ⟨g, P7, none⟩ (.float .f64 zs[Q7])).setCell ⟨g, Q7, none⟩ (.float .f64 zs[P7])).drew v0 (.slice (some ⟨bp, op, none⟩) np cp) X (.slice aq nq7 cq)) := HpB.ne (HpB.ne PV.out hgn) hgn
                  have GN : Hid (Below w.heap.size w ((V.setCell ⟨g, P7, none⟩ (.float .f64 zs[Q7])).setCell ⟨g, Q7, none⟩ (.float .f64 zs[P7])).drew) := below_step (bset (bset GV.out (by omega)) (by omega)) ((Below.refl _ _).drew)
                  clear cQ2
                  generalize (zs.set P7 zs[Q7]).set Q7 zs[P7] = zn at *
                  generalize zs[P7] = zP at *
                  generalize zs[Q7] = zQ at *
                  clear R1 RD
                  go_wp2_with fail
                  refine wp_region_X (fun w' => w'.cell? ⟨g, P7, none⟩ = some (.float .f64 zP) ∧ w'.cell? ⟨g, Q7, none⟩ = some (.float .f64 zQ)) [13, 15] (by kernel_rfl) ?_
                  refine wpAnyX_pure (i := 0) (oi := { dst := some 99, op := Op.move (Operand.tmp 5), type := 55, pos := "outright.go:158", after := #[], guard := none }) (v := (.slice (some ⟨g, 0, none⟩) n n)) rfl (by kernel_rfl) (fun _ _ _ h => h) (Or.inl ⟨by rfl, ?_⟩)  ?_
                  · intro w hSw
                    (try dsimp only at hSw)
                    go_simp
                  simp only [Act.put, List.setIfInBounds_toArray, List.set_cons_zero, List.set_cons_succ]
                  refine wpAnyX_pure (i := 1) (oi := { dst := some 100, op := Op.move (Operand.tmp 11), type := 3, pos := "outright.go:158", after := #[], guard := none }) (v := (.int .i64 (P7 : Int))) rfl (by kernel_rfl) (fun _ _ _ h => h) (Or.inl ⟨by rfl, ?_⟩)  ?_
                  · intro w hSw
                    (try dsimp only at hSw)
                    go_simp
                  simp only [Act.put, List.setIfInBounds_toArray, List.set_cons_zero, List.set_cons_succ]
                  refine wpAnyX_pure (i := 2) (oi := { dst := some 101, op := Op.move (Operand.tmp 5), type := 55, pos := "outright.go:158", after := #[{ on := 13, ground := Ground.gcOnly Departure.lateStores }], guard := none }) (v := (.slice (some ⟨g, 0, none⟩) n n)) rfl (by kernel_rfl) (fun _ _ _ h => h) (Or.inl ⟨by rfl, ?_⟩)  ?_
                  · intro w hSw
                    (try dsimp only at hSw)
                    go_simp
                  simp only [Act.put, List.setIfInBounds_toArray, List.set_cons_zero, List.set_cons_succ]
                  refine wpAnyX_pure (i := 3) (oi := { dst := some 102, op := Op.move (Operand.tmp 12), type := 3, pos := "outright.go:158", after := #[{ on := 13, ground := Ground.gcOnly Departure.lateStores }], guard := none }) (v := (.int .i64 (Q7 : Int))) rfl (by kernel_rfl) (fun _ _ _ h => h) (Or.inl ⟨by rfl, ?_⟩)  ?_
                  · intro w hSw
                    (try dsimp only at hSw)
                    go_simp
                  simp only [Act.put, List.setIfInBounds_toArray, List.set_cons_zero, List.set_cons_succ]
                  refine wpAnyX_pure (i := 4) (oi := { dst := some 103, op := Op.move (Operand.tmp 5), type := 55, pos := "outright.go:158", after := #[], guard := none }) (v := (.slice (some ⟨g, 0, none⟩) n n)) rfl (by kernel_rfl) (fun _ _ _ h => h) (Or.inl ⟨by rfl, ?_⟩)  ?_
                  · intro w hSw
                    (try dsimp only at hSw)
                    go_simp
                  simp only [Act.put, List.setIfInBounds_toArray, List.set_cons_zero, List.set_cons_succ]
                  refine wpAnyX_pure (i := 5) (oi := { dst := some 104, op := Op.move (Operand.tmp 12), type := 3, pos := "outright.go:158", after := #[], guard := none }) (v := (.int .i64 (Q7 : Int))) rfl (by kernel_rfl) (fun _ _ _ h => h) (Or.inl ⟨by rfl, ?_⟩)  ?_
                  · intro w hSw
                    (try dsimp only at hSw)
                    go_simp
                  simp only [Act.put, List.setIfInBounds_toArray, List.set_cons_zero, List.set_cons_succ]
                  refine wpAnyX_pure (i := 6) (oi := { dst := some 105, op := Op.indexAddr 55 (Operand.tmp 103) (Operand.tmp 104), type := 0, pos := "outright.go:158", after := #[{ on := 4, ground := Ground.data }, { on := 5, ground := Ground.data }], guard := none }) (v := (.pointer (some ⟨g, Q7, none⟩))) rfl (by kernel_rfl) (fun _ _ _ h => h) (Or.inl ⟨by rfl, ?_⟩)  ?_
                  · intro w hSw
                    (try dsimp only at hSw)
                    go_simp
                  simp only [Act.put, List.setIfInBounds_toArray, List.set_cons_zero, List.set_cons_succ]
                  refine wpAnyX_take (i := 7) (oi := { dst := some 106, op := Op.load 26 (Operand.tmp 105), type := 26, pos := "outright.go:158", after := #[{ on := 6, ground := Ground.data }], guard := none }) (v := (.float .f64 zQ)) rfl (by kernel_rfl) (fun _ _ _ h => h) (Or.inl ⟨by rfl, ?_⟩) ⟨cP, cQ⟩ ?_
                  · intro w hSw
                    (try dsimp only at hSw)
                    go_simp
                  simp only [Act.put, List.setIfInBounds_toArray, List.set_cons_zero, List.set_cons_succ]
                  refine wpAnyX_pure (i := 8) (oi := { dst := some 107, op := Op.move (Operand.tmp 5), type := 55, pos := "outright.go:158", after := #[], guard := none }) (v := (.slice (some ⟨g, 0, none⟩) n n)) rfl (by kernel_rfl) (fun _ _ _ h => h) (Or.inl ⟨by rfl, ?_⟩)  ?_
                  · intro w hSw
                    (try dsimp only at hSw)
                    go_simp
                  simp only [Act.put, List.setIfInBounds_toArray, List.set_cons_zero, List.set_cons_succ]
                  refine wpAnyX_pure (i := 9) (oi := { dst := some 108, op := Op.move (Operand.tmp 11), type := 3, pos := "outright.go:158", after := #[], guard := none }) (v := (.int .i64 (P7 : Int))) rfl (by kernel_rfl) (fun _ _ _ h => h) (Or.inl ⟨by rfl, ?_⟩)  ?_
                  · intro w hSw
                    (try dsimp only at hSw)
                    go_simp
                  simp only [Act.put, List.setIfInBounds_toArray, List.set_cons_zero, List.set_cons_succ]
                  refine wpAnyX_pure (i := 10) (oi := { dst := some 109, op := Op.indexAddr 55 (Operand.tmp 107) (Operand.tmp 108), type := 0, pos := "outright.go:158", after := #[{ on := 8, ground := Ground.data }, { on := 9, ground := Ground.data }], guard := none }) (v := (.pointer (some ⟨g, P7, none⟩))) rfl (by kernel_rfl) (fun _ _ _ h => h) (Or.inl ⟨by rfl, ?_⟩)  ?_
                  · intro w hSw
                    (try dsimp only at hSw)
                    go_simp
                  simp only [Act.put, List.setIfInBounds_toArray, List.set_cons_zero, List.set_cons_succ]
                  refine wpAnyX_take (i := 11) (oi := { dst := some 110, op := Op.load 26 (Operand.tmp 109), type := 26, pos := "outright.go:158", after := #[{ on := 10, ground := Ground.data }], guard := none }) (v := (.float .f64 zP)) rfl (by kernel_rfl) (fun _ _ _ h => h) (Or.inl ⟨by rfl, ?_⟩) ⟨cP, cQ⟩ ?_
                  · intro w hSw
                    (try dsimp only at hSw)
                    go_simp
                  simp only [Act.put, List.setIfInBounds_toArray, List.set_cons_zero, List.set_cons_succ]
                  refine wpAnyX_pure (i := 12) (oi := { dst := some 111, op := Op.indexAddr 55 (Operand.tmp 99) (Operand.tmp 100), type := 0, pos := "outright.go:158", after := #[{ on := 0, ground := Ground.data }, { on := 1, ground := Ground.data }, { on := 0, ground := Ground.phase }, { on := 1, ground := Ground.phase }, { on := 2, ground := Ground.textOnly Departure.lateStores }, { on := 3, ground := Ground.textOnly Departure.lateStores }, { on := 4, ground := Ground.phase }, { on := 5, ground := Ground.phase }, { on := 6, ground := Ground.phase }, { on := 7, ground := Ground.phase }, { on := 8, ground := Ground.textOnly Departure.lateStores }, { on := 9, ground := Ground.textOnly Departure.lateStores }, { on := 10, ground := Ground.textOnly Departure.lateStoresUnsure }, { on := 11, ground := Ground.phase }], guard := none }) (v := (.pointer (some ⟨g, P7, none⟩))) rfl (by kernel_rfl) (fun _ _ _ h => h) (Or.inl ⟨by rfl, ?_⟩)  ?_
                  · intro w hSw
                    (try dsimp only at hSw)
                    go_simp
                  simp only [Act.put, List.setIfInBounds_toArray, List.set_cons_zero, List.set_cons_succ]
                  refine wpAnyX_one (i := 13) (o := { dst := none, op := Op.store 26 (Operand.tmp 111) (Operand.tmp 106), type := 0, pos := "outright.go:158", after := #[{ on := 12, ground := Ground.data }, { on := 7, ground := Ground.data }, { on := 0, ground := Ground.phase }, { on := 1, ground := Ground.phase }, { on := 2, ground := Ground.textOnly Departure.lateStores }, { on := 3, ground := Ground.textOnly Departure.lateStores }, { on := 4, ground := Ground.phase }, { on := 5, ground := Ground.phase }, { on := 6, ground := Ground.phase }, { on := 7, ground := Ground.phase }, { on := 8, ground := Ground.textOnly Departure.lateStores }, { on := 9, ground := Ground.textOnly Departure.lateStores }, { on := 10, ground := Ground.textOnly Departure.lateStoresUnsure }, { on := 11, ground := Ground.phase }], guard := none }) (by kernel_rfl) rfl (fun K hK => ?_)
                  go_simp
                  refine hK.out _ _ (fun h => absurd h (by decide)) ?_
                  clear hK
                  try simp only [Act.put]
                  refine wpAnyX_pure (i := 14) (oi := { dst := some 112, op := Op.indexAddr 55 (Operand.tmp 101) (Operand.tmp 102), type := 0, pos := "outright.go:158", after := #[{ on := 2, ground := Ground.data }, { on := 3, ground := Ground.data }, { on := 0, ground := Ground.phase }, { on := 1, ground := Ground.phase }, { on := 2, ground := Ground.phase }, { on := 3, ground := Ground.phase }, { on := 4, ground := Ground.phase }, { on := 5, ground := Ground.phase }, { on := 6, ground := Ground.phase }, { on := 7, ground := Ground.phase }, { on := 8, ground := Ground.phase }, { on := 9, ground := Ground.phase }, { on := 10, ground := Ground.phase }, { on := 11, ground := Ground.phase }, { on := 12, ground := Ground.phase }, { on := 13, ground := Ground.phase }], guard := none }) (v := (.pointer (some ⟨g, Q7, none⟩))) rfl (by kernel_rfl) (fun _ _ _ h => h) (Or.inl ⟨by rfl, ?_⟩)  ?_
                  · intro w hSw
                    (try dsimp only at hSw)
                    go_simp
                  simp only [Act.put, List.setIfInBounds_toArray, List.set_cons_zero, List.set_cons_succ]
                  refine wpAnyX_one (i := 15) (o := { dst := none, op := Op.store 26 (Operand.tmp 112) (Operand.tmp 110), type := 0, pos := "outright.go:158", after := #[{ on := 14, ground := Ground.data }, { on := 11, ground := Ground.data }, { on := 13, ground := Ground.chain }, { on := 0, ground := Ground.phase }, { on := 1, ground := Ground.phase }, { on := 2, ground := Ground.phase }, { on := 3, ground := Ground.phase }, { on := 4, ground := Ground.phase }, { on := 5, ground := Ground.phase }, { on := 6, ground := Ground.phase }, { on := 7, ground := Ground.phase }, { on := 8, ground := Ground.phase }, { on := 9, ground := Ground.phase }, { on := 10, ground := Ground.phase }, { on := 11, ground := Ground.phase }, { on := 12, ground := Ground.phase }, { on := 13, ground := Ground.phase }], guard := none }) (by kernel_rfl) rfl (fun K hK => ?_)
                  go_simp
                  refine hK.out _ _ (fun h => absurd h (by decide)) ?_
                  clear hK
                  try simp only [Act.put]
                  refine wpAnyX_done (by kernel_rfl) ?_ _
                  have HN1 : Hid (SwapH w v0 (.slice (some ⟨bp, op, none⟩) np cp) (.slice aq nq7 cq) X g n np S (np + 1 - (i + 2)) (.int .i64 ((i + 2 : Nat) : Int)) ((V.setCell ⟨g, P7, none⟩ (.float .f64 zQ)).setCell ⟨g, Q7, none⟩ (.float .f64 zP)).drew) := ⟨i + 2, zn, rfl, by omega, rfl, HW3.out, (fun f hf => HZF.out f (HW2.out f hf)), (fun f hf => HZT.out f (HW2.out f hf)), (HW1.out.trans HZS.out), PN.out, RN.out, GN.out⟩
                  have HMM : Hid (np + 1 - (i + 2) < gk) := by unfold Hid; rw [HG.out]; omega
                  clear PV RV GV HG
                  go_wp2_with fail
                  go_roundg (np + 1 - (i + 2))
                  case rel => exact HN1.out
                  case measure => exact HMM.out
                · have d4 : decide (q < (n : Int)) = false := decide_eq_false a4
                  have HN1 : Hid (SwapH w v0 (.slice (some ⟨bp, op, none⟩) np cp) (.slice aq nq7 cq) X g n np S (np + 1 - (i + 2)) (.int .i64 ((i + 2 : Nat) : Int)) V) := ⟨i + 2, zs, rfl, by omega, rfl, HZL.out, HZF.out, HZT.out, HZS.out, PV.out, RV.out, GV.out⟩
                  have HMM : Hid (np + 1 - (i + 2) < gk) := by unfold Hid; rw [HG.out]; omega
                  clear PV RV GV HG
                  go_wp2_with fail
                  go_roundg (np + 1 - (i + 2))
                  case rel => exact HN1.out
                  case measure => exact HMM.out
              · have d3 : decide (0 ≤ q) = false := decide_eq_false a3
                have HN1 : Hid (SwapH w v0 (.slice (some ⟨bp, op, none⟩) np cp) (.slice aq nq7 cq) X g n np S (np + 1 - (i + 2)) (.int .i64 ((i + 2 : Nat) : Int)) V) := ⟨i + 2, zs, rfl, by omega, rfl, HZL.out, HZF.out, HZT.out, HZS.out, PV.out, RV.out, GV.out⟩
                have HMM : Hid (np + 1 - (i + 2) < gk) := by unfold Hid; rw [HG.out]; omega
                clear PV RV GV HG
                go_wp2_with fail
                go_roundg (np + 1 - (i + 2))
                case rel => exact HN1.out
                case measure => exact HMM.out
            · have d2 : decide (p < (n : Int)) = false := decide_eq_false a2
              have HN1 : Hid (SwapH w v0 (.slice (some ⟨bp, op, none⟩) np cp) (.slice aq nq7 cq) X g n np S (np + 1 - (i + 2)) (.int .i64 ((i + 2 : Nat) : Int)) V) := ⟨i + 2, zs, rfl, by omega, rfl, HZL.out, HZF.out, HZT.out, HZS.out, PV.out, RV.out, GV.out⟩
              have HMM : Hid (np + 1 - (i + 2) < gk) := by unfold Hid; rw [HG.out]; omega
              clear PV RV GV HG
              go_wp2_with fail
              go_roundg (np + 1 - (i + 2))
              case rel => exact HN1.out
              case measure => exact HMM.out
          · have d1 : decide (0 ≤ p) = false := decide_eq_false a1
            have HN1 : Hid (SwapH w v0 (.slice (some ⟨bp, op, none⟩) np cp) (.slice aq nq7 cq) X g n np S (np + 1 - (i + 2)) (.int .i64 ((i + 2 : Nat) : Int)) V) := ⟨i + 2, zs, rfl, by omega, rfl, HZL.out, HZF.out, HZT.out, HZS.out, PV.out, RV.out, GV.out⟩
            have HMM : Hid (np + 1 - (i + 2) < gk) := by unfold Hid; rw [HG.out]; omega
            clear PV RV GV HG
            go_wp2_with fail
            go_roundg (np + 1 - (i + 2))
            case rel => exact HN1.out
            case measure => exact HMM.out
        · have hlt' : ¬ ((i + 1 : Nat) : Int) < (np : Int) := by omega
          have HFS := hid (R.out.fs (n := n) (cap := n) HZT.out HZL.out (Nat.le_refl _) (by omega))
          have qb : (((bv F : Nat) : Int) != ((bv F : Nat) : Int)) = false := by simp
          have qe : (((bv F : Nat) : Int) == ((bv F : Nat) : Int)) = true := by simp
          have HTOT : Hid (∀ (w' : World) (v : Value) (l : List Nat), Fs w'.heap.size w' v l → Tab w' → (∀ f ∈ l, Fin7 f) → ssum l = S → Calls Tryd.prog 26 #[v] w' fun e w'' => e = .returned (.tuple #[.float .f64 F, .int .i64 0]) ∧ Below w'.heap.size w' w'') := fun w' v l q1 q2 q3 q4 => (total_any q1 q2).mono fun e w'' ht => by
            rcases ht with ⟨_, he, hb⟩ | ⟨⟨f, hf1, hf2⟩, _⟩
            · rw [q4, HFe.out] at he; exact ⟨he, hb⟩
            · exact absurd (q3 f hf1) hf2
          have HBV : Hid (∀ w' : World, Calls Tryd.prog 23 #[.float .f64 F] w' fun e w'' => e = .returned (.int .u64 ((bv F : Nat) : Int)) ∧ Below w'.heap.size w' w'') := fun w' => bits_any F w'
          generalize bv F = BF at *
          clear HG hlt
          go_wp2_with fail
          refine (HTOT.out _ _ _ HFS.out (HT0.out.now G.out) HZF.out HZS.out).mono ?_
          rintro e w5 ⟨rfl, b5⟩
          have P5 := hid (P.out.now b5)
          have R5 := hid (R.out.now b5)
          have G5 := hid (below_step G.out b5)
          clear b5 P R G HFS
          go_wp2_with fail
          refine (HBV.out _).mono ?_
          rintro e w6 ⟨rfl, b6⟩
          have P6 := hid (P5.out.now b6)
          have R6 := hid (R5.out.now b6)
          have G6 := hid (below_step G5.out b6)
          clear b6 P5 R5 G5
          go_wp2_with fail
          refine (HBV.out _).mono ?_
          rintro e w7 ⟨rfl, b7⟩
          have P7 := hid (P6.out.now b7)
          have R7 := hid (R6.out.now b7)
          have G7 := hid (below_step G6.out b7)
          clear b7 P6 R6 G6
          obtain ⟨-, -, cX, -⟩ := P7.out.c
          have k2 := ffrom_run X
          by_cases hfx : Fin7 X
          · have HFX := hid hfx
            clear hfx
            go_wp2_with fail
            refine (finite_yes HFX.out _).mono ?_
            rintro e w8 ⟨rfl, b8⟩
            have P8 := hid (P7.out.now b8)
            have R8 := hid (R7.out.now b8)
            have G8 := hid (below_step G7.out b8)
            clear b8 P7 R7 G7 cX
            obtain ⟨V8, hV8⟩ : ∃ V8, w8.alloc (.cells #[.float .f64 X] 26) = V8 := ⟨_, rfl⟩
            have bl : Below w8.heap.size w8 V8 := by rw [← hV8]; exact (Below.refl _ _).alloc (Nat.le_refl _) _
            have gt := Gat.new w8 X
            rw [hV8] at gt
            have GT := hid gt
            have RL := hid (R8.out.now bl)
            have BL := hid bl
            have EV := hid hV8
            clear gt bl hV8
            go_wp2_with (rw [EV.out]; refine wpList_append_gat _ rfl _ _ rfl w8.heap.size _ [X] zs rfl GT.out g n n rfl HZL.out (fun j hj => RL.out.cell hj) (by simp; omega) BL.out.size ?_)
            intro v9 w9 gt9 kp9 bl9
            have B9 : Hid (Below w8.heap.size w8 w9) := BL.out.trans bl9.out
            have G9 := hid (below_step G8.out B9.out)
            obtain ⟨NX, hNX⟩ : ∃ NX, Op.negFloat .f64 X = NX := ⟨_, rfl⟩
            have kn : ∀ w, (Op.unary .neg (.float .f64 X)).run Tryd.prog w = .ok (.float .f64 NX) w := fun w => by rw [← hNX]; rfl
            obtain ⟨hn1, hn2, hn3⟩ := neg_sv hX
            rw [hNX] at hn1 hn2 hn3
            obtain ⟨V9, hV9⟩ : ∃ V9, w9.alloc (.cells #[.float .f64 NX] 26) = V9 := ⟨_, rfl⟩
            have bl : Below w9.heap.size w9 V9 := by rw [← hV9]; exact (Below.refl _ _).alloc (Nat.le_refl _) _
            have gt := gt9.out.now bl
            have cN : V9.cell? ⟨w9.heap.size, 0, none⟩ = some (.float .f64 NX) := by rw [← hV9]; exact cell_new w9 NX
            have GT9 := hid gt
            have BL9 := hid bl
            have EV9 := hid hV9
            have CN := hid cN
            have HNXs := hid hn1
            have HNXl := hid hn2
            have HNXf := hid (hn3 HFX.out)
            have hs9 : w8.heap.size ≤ V9.heap.size := Nat.le_trans B9.out.size BL9.out.size
            have G8s : w.heap.size ≤ w8.heap.size := G8.out.size
            clear gt bl hV9 cN hn1 hn2 hn3 hNX gt9 kp9 bl9 GT RL BL EV P8 R8 G8
            go_wp2_with (first | (rw [EV9.out]; refine wpList_append_gat _ rfl _ _ rfl w8.heap.size _ (X :: zs) [NX] rfl GT9.out w9.heap.size 1 1 rfl rfl (fun j hj => by obtain rfl : j = 0 := (by simp at hj; omega); exact CN.out) (by simp; rw [HZL.out]; omega) hs9 ?_))
            intro v10 w10 gt10 kp10 bl10
            have B10 : Hid (Below w8.heap.size w8 w10) := (B9.out.trans (below_weak BL9.out B9.out.size)).trans bl10.out
            have G10 : Hid (Below w.heap.size w w10) := below_step G9.out (below_weak BL9.out (Nat.le_refl _)) |>.trans (below_weak bl10.out (by omega))
            have FS10 : Hid (Fs w10.heap.size w10 v10 (X :: (zs ++ [NX]))) := gt10.out.fs (fun f hf => by
              rcases List.mem_cons.1 hf with rfl | q
              · exact hX
              · rcases List.mem_append.1 q with q | q
                · exact HZT.out f q
                · obtain rfl := List.mem_singleton.1 q
                  exact HNXl.out) (by simp; rw [HZL.out]; omega)
            have A10 : Hid (∀ f ∈ X :: (zs ++ [NX]), Fin7 f) := fun f hf => by
              rcases List.mem_cons.1 hf with rfl | q
              · exact HFX.out
              · rcases List.mem_append.1 q with q | q
                · exact HZF.out f q
                · obtain rfl := List.mem_singleton.1 q
                  exact HNXf.out
            have S10 : Hid (ssum (X :: (zs ++ [NX])) = S) := by
              unfold Hid
              simp only [ssum]
              rw [ssum_append]
              simp only [ssum]
              rw [HNXs.out, HZS.out]; omega
            clear gt10 kp10 bl10 B10 B9 G9 GT9 BL9 EV9 CN
            go_wp2_with fail
            refine (HTOT.out _ _ _ FS10.out (HT0.out.now G10.out) A10.out S10.out).mono ?_
            rintro e w11 ⟨rfl, b11⟩
            have G11 := hid (below_step G10.out b11)
            clear b11 G10 FS10 A10 S10
            go_wp2_with fail
            refine (HBV.out _).mono ?_
            rintro e w12 ⟨rfl, b12⟩
            have G12 := hid (below_step G11.out b12)
            clear b12 G11
            go_wp2_with fail
            refine (HBV.out _).mono ?_
            rintro e w13 ⟨rfl, b13⟩
            have G := hid (below_step G12.out b13)
            clear b13 G12
            obtain ⟨U0, hU0⟩ : ∃ U0, w13.alloc zbox = U0 := ⟨_, rfl⟩
            have bu : Below w13.heap.size w13 U0 := by rw [← hU0]; exact (Below.refl _ _).alloc (Nat.le_refl _) _
            have szu : U0.heap.size = w13.heap.size + 1 := by rw [← hU0]; simp
            have pS : Duo U0 w13.heap.size (.bool false) (.slice none 0 0) := by rw [← hU0]; exact duo_at rfl
            have gs_ := G.out.size
            have H0 : Hid (PartH w w13.heap.size nq7 qs nq7 (.slice none 0 0) (.int .i64 0) U0) := ⟨0, [], _, _, rfl, Nat.zero_le _, rfl, Gat.nil _ _, rfl, fun f hf => (by cases hf), fun f hf => (by cases hf), by simp [ssum, isum], pS, by simpa [isum] using zm_nil 0 U0 1, gs_, by omega, below_step G.out bu⟩
            have EU := hid hU0
            obtain ⟨bs, hbs⟩ : ∃ bs, w13.heap.size = bs := ⟨_, rfl⟩
            clear hU0 bu szu pS G
            go_wp2_with fail
            rw [EU.out]
            clear EU
            rw [hbs] at H0 gs_
            clear hbs
            go_loopg [17, 19] nq7 (fun gg s17 s19 wx => PartH w bs nq7 qs gg s17 s19 wx)
            case atStart => exact H0.out
            case round =>
              clear H0
              obtain ⟨i, gs, r0, r1, rfl, hin, hgg, ga, gl, gf, gt, gsum, pS, zS, hbs, hbw, hG⟩ := hrel
              obtain ⟨ns, xs7, ads, qs7, rfl, rfl⟩ := zS.comp7
              have PS := hid pS
              have Zs := hid zS
              have G := hid hG
              have HG := hid hgg
              have GA := hid ga
              have GL := hid gl
              have GF := hid gf
              have GLT := hid gt
              have GS := hid gsum
              clear pS zS hG hgg ga gl gf gt gsum
              by_cases hlt : i < nq7
              · have hlt' : (i : Int) < (nq7 : Int) := by omega
                have hw := wrapI7 (i := i) (by omega)
                obtain ⟨hqb, a9, c9, e9, -, -, hqc⟩ := H3.out
                simp only [Value.slice.injEq] at e9
                obtain ⟨rfl, -, rfl⟩ := e9
                have hiq : i < qs.length := by rw [HNQ.out]; exact hlt
                rcases hqc with e | ⟨bq, oq, rfl, hbq, hcc⟩
                · rw [e] at hiq; simp at hiq
                have cq0 : wr.cell? ⟨bq, oq + i, none⟩ = some (.int .i32 qs[i]) := (G.out.cell (p := ⟨bq, oq + i, none⟩) hbq).trans (hcc i hiq)
                obtain ⟨hz1, hz2⟩ := hqb _ (List.getElem_mem hiq)
                have HIS := hid (isum_take hiq)
                obtain ⟨z, hze⟩ : ∃ z, qs[i] = z := ⟨_, rfl⟩
                rw [hze] at cq0 hz1 hz2 HIS
                obtain ⟨hw1, hw2⟩ := int_word (z := z) (by omega)
                have hw3 := (zw_no z 0).1
                obtain ⟨f, hfe⟩ : ∃ f, zw z 0 = f := ⟨_, rfl⟩
                rw [hfe] at hw1 hw2 hw3
                have HFZ := hid hfe
                have HW1 := hid hw1
                have HW2 := hid hw2
                have HW3 := hid hw3
                clear hcc hqb hze hfe hw1 hw2 hw3
                go_wp2_with fail
                refine (of_z (n := z) (by omega) (by omega) _).mono ?_
                rintro e wa ⟨ra, rfl, ma, ba⟩
                obtain ⟨na, xa, ada, qa, rfl, -⟩ := id ma
                replace PS := hid (PS.out.step ba)
                replace Zs := hid (Zs.out.now ba)
                replace G := hid (below_step G.out ba)
                replace GA := hid (GA.out.now ba)
                have hbw2 := Nat.le_trans hbw ba.size
                have Za := hid ma
                clear ba ma cq0
                obtain ⟨wb, hwb⟩ : ∃ wb, wa.alloc (duo (.bool na) (.slice ada xa.length qa)) = wb := ⟨_, rfl⟩
                obtain ⟨bb, szb⟩ := alloc1 wa (duo (.bool na) (.slice ada xa.length qa))
                rw [hwb] at bb szb
                have PA : Hid (Duo wb wa.heap.size (.bool na) (.slice ada xa.length qa)) := by unfold Hid; rw [← hwb]; exact duo_at rfl
                replace PS := hid (PS.out.step bb)
                replace Zs := hid (Zs.out.now bb)
                replace G := hid (below_step G.out bb)
                replace GA := hid (GA.out.now bb)
                replace Za := hid (Za.out.now bb)
                have hbw3 := Nat.le_trans hbw2 bb.size
                have ca0 := PA.out.c0
                have ca1 := PA.out.c1
                rw [← hwb] at ca0 ca1
                have EB := hid hwb
                have SZB := hid szb
                clear bb hwb szb
                go_wp2_with fail
                rw [EB.out]
                clear EB ca0 ca1
                refine (near_any Za.out (HT0.out.now G.out) (by decide) HFZ.out).mono ?_
                rintro e wd ⟨rfl, bd⟩
                replace PS := hid (PS.out.step bd)
                replace PA := hid (PA.out.step bd)
                replace Zs := hid (Zs.out.now bd)
                replace G := hid (below_step G.out bd)
                replace GA := hid (GA.out.now bd)
                replace Za := hid (Za.out.now bd)
                have hbw4 := Nat.le_trans hbw3 bd.size
                clear bd
                obtain ⟨wf, hwf⟩ : ∃ wf, wd.alloc (.cells #[.float .f64 f] 26) = wf := ⟨_, rfl⟩
                obtain ⟨bf, szf⟩ := alloc1 wd (.cells #[.float .f64 f] 26)
                have cN := cell_new wd f
                rw [hwf] at bf szf cN
                replace PS := hid (PS.out.step bf)
                replace PA := hid (PA.out.step bf)
                replace Zs := hid (Zs.out.now bf)
                replace G := hid (below_step G.out bf)
                replace GA := hid (GA.out.now bf)
                replace Za := hid (Za.out.now bf)
                have hbw5 := Nat.le_trans hbw4 bf.size
                have CN := hid cN
                have EF := hid hwf
                clear bf szf hwf cN
                go_wp2_with (rw [EF.out]; refine wpList_append_gat _ rfl _ _ rfl (bs + 1) _ gs [f] rfl GA.out wd.heap.size 1 1 rfl rfl (fun j hj => by obtain rfl : j = 0 := (by simp at hj; omega); exact CN.out) (by rw [GL.out]; omega) hbw5 ?_)
                intro vg wg gg9 kg bg
                replace PS := hid (kg.out.duo _ _ _ PS.out)
                replace PA := hid (kg.out.duo _ _ _ PA.out)
                replace Zs := hid (kg.out.zm _ _ _ _ Zs.out)
                replace Za := hid (kg.out.zm _ _ _ _ Za.out)
                replace G : Hid (Below w.heap.size w wg) := G.out.trans (below_weak bg.out (by omega))
                have hbw6 := Nat.le_trans hbw5 kg.out.size
                have cs0 := PS.out.c0
                have cs1 := PS.out.c1
                have ca0 := PA.out.c0
                have ca1 := PA.out.c1
                clear GA EF CN kg bg
                go_wp2_with fail
                refine (add_z Zs.out.zi Za.out.zi (by omega) (by omega)).mono ?_
                rintro e wh ⟨rh, rfl, mh, bh⟩
                obtain ⟨nh, xh, adh, qh, rfl, -⟩ := id mh
                replace PS := hid (PS.out.step bh)
                replace G := hid (below_step G.out bh)
                have GA := hid (gg9.out.now bh)
                have Zh := hid mh
                have hbw7 := Nat.le_trans hbw6 bh.size
                clear bh mh cs0 cs1 ca0 ca1 gg9 Zs Za PA
                have r0 := PS.out.c0
                have r1 := PS.out.c1
                have f0 := PS.out.fz 0
                have f1 := PS.out.fz 1
                have HN1 : Hid (PartH w bs nq7 qs (nq7 - (i + 1)) vg (.int .i64 ((i + 1 : Nat) : Int)) ((wh.setCell ⟨bs, 0, none⟩ (.bool nh)).setCell ⟨bs, 1, none⟩ (.slice adh xh.length qh))) := ⟨i + 1, gs ++ [f], _, _, rfl, by omega, rfl, (GA.out.ne (by omega)).ne (by omega), by simp [GL.out], fun x hx => by
                    rcases List.mem_append.1 hx with q | q
                    · exact GF.out x q
                    · obtain rfl := List.mem_singleton.1 q
                      exact HW1.out, fun x hx => by
                    rcases List.mem_append.1 hx with q | q
                    · exact GLT.out x q
                    · obtain rfl := List.mem_singleton.1 q
                      exact HW3.out, by
                    rw [ssum_append, GS.out, HIS.out]
                    simp only [ssum]
                    rw [HW2.out, Int.add_mul]; omega, PS.out.set _ _, by rw [HIS.out]; exact ((Zh.out.box PS.out _ _).more (by omega)).mono (by omega), hbs, by simpa using hbw7, bset (bset G.out (by omega)) (by omega)⟩
                have HMM : Hid (nq7 - (i + 1) < gk) := by unfold Hid; rw [HG.out]; omega
                clear GA PS G HG Zh
                go_wp2_with fail
                go_roundg (nq7 - (i + 1))
                case rel => exact HN1.out
                case measure => exact HMM.out
              · have hlt' : ¬ (i : Int) < (nq7 : Int) := by omega
                obtain rfl : i = nq7 := by omega
                rw [show qs.take i = qs by rw [← HNQ.out]; exact List.take_length] at Zs GS
                have FSP := hid (GA.out.fs GLT.out (by rw [GL.out]; omega))
                obtain ⟨Q, hQ⟩ : ∃ Q, isum qs = Q := ⟨_, rfl⟩
                rw [hQ] at Zs GS
                obtain ⟨F3, hF3⟩ : ∃ F3, zw Q 0 = F3 := ⟨_, rfl⟩
                have HF3 := hid hF3
                have qe3 : (((bv F3 : Nat) : Int) == ((bv F3 : Nat) : Int)) = true := by simp
                have qz : ((0 : Int) == 0) = true := rfl
                clear hQ hF3 HG
                go_wp2_with fail
                refine (total_any FSP.out (HT0.out.now G.out)).mono ?_
                rintro e wk ht
                rcases ht with ⟨_, rfl, bk⟩ | ⟨⟨x, hx1, hx2⟩, _⟩
                case inr => exact absurd (GF.out x hx1) hx2
                rw [GS.out, sum_word, HF3.out]
                replace PS := hid (PS.out.step bk)
                replace Zs := hid (Zs.out.now bk)
                replace G := hid (below_step G.out bk)
                clear bk FSP GA GF GLT GS
                go_wp2_with fail
                refine wp_region_X (fun w' => w'.cell? ⟨bs, 0, none⟩ = some (.bool ns) ∧ w'.cell? ⟨bs, 1, none⟩ = some (.slice ads xs7.length qs7)) [] (by kernel_rfl) ?_
                obtain ⟨D1, hD⟩ : ∃ D1, wk.drew = D1 := ⟨_, rfl⟩
                have b : Below wk.heap.size wk D1 := by rw [← hD]; exact (Below.refl _ _).drew
                rw [hD]
                clear hD
                replace Zs := hid (Zs.out.now b)
                replace PS := hid (PS.out.step b)
                replace G := hid (below_step G.out b)
                have lz2 := (show Below _ _ _ from b).size
                clear b
                refine wpAnyX_pure (i := 0) (oi := { dst := some 180, op := Op.move (Operand.tmp 14), type := 33, pos := "outright.go:182", after := #[], guard := none }) (v := (.int .i64 0)) rfl (by kernel_rfl) (fun _ _ _ h => h) (Or.inl ⟨by rfl, ?_⟩)  ?_
                · intro w hSw
                  (try dsimp only at hSw)
                  go_simp
                simp only [Act.put, List.setIfInBounds_toArray, List.set_cons_zero, List.set_cons_succ]
                refine wpAnyX_pure (i := 1) (oi := { dst := some 181, op := Op.binOp BinOp.eql 33 (Operand.tmp 180) (Operand.const (Value.int IntKind.i64 0)) 33, type := 4, pos := "outright.go:182", after := #[{ on := 0, ground := Ground.data }], guard := none }) (v := (.bool true)) rfl (by kernel_rfl) (fun _ _ _ h => h) (Or.inl ⟨by rfl, ?_⟩)  ?_
                · intro w hSw
                  (try dsimp only at hSw)
                  go_simp
                simp only [Act.put, List.setIfInBounds_toArray, List.set_cons_zero, List.set_cons_succ]
                refine wpAnyX_pure (i := 2) (oi := { dst := some 182, op := Op.move (Operand.tmp 181), type := 4, pos := "outright.go:182", after := #[{ on := 1, ground := Ground.data }], guard := none }) (v := (.bool true)) rfl (by kernel_rfl) (fun _ _ _ h => h) (Or.inl ⟨by rfl, ?_⟩)  ?_
                · intro w hSw
                  (try dsimp only at hSw)
                  go_simp
                simp only [Act.put, List.setIfInBounds_toArray, List.set_cons_zero, List.set_cons_succ]
                refine wpAnyX_pure (i := 3) (oi := { dst := some 183, op := Op.move (Operand.tmp 13), type := 26, pos := "outright.go:182", after := #[{ on := 2, ground := Ground.guard }], guard := some (2, true) }) (v := (.float .f64 F3)) rfl (by kernel_rfl) (fun _ _ _ h => h) (Or.inl ⟨by rfl, ?_⟩)  ?_
                · intro w hSw
                  (try dsimp only at hSw)
                  go_simp
                simp only [Act.put, List.setIfInBounds_toArray, List.set_cons_zero, List.set_cons_succ]
                refine wpAnyX_take (i := 5) (oi := { dst := some 185, op := Op.load 24 (Operand.tmp 18), type := 24, pos := "outright.go:182", after := #[{ on := 2, ground := Ground.guard }], guard := some (2, true) }) (v := (.agg #[(.bool ns), (.slice ads xs7.length qs7)])) rfl (by kernel_rfl) (fun _ _ _ h => h) (Or.inl ⟨by rfl, ?_⟩) ⟨PS.out.c0, PS.out.c1⟩ ?_
                · intro w hSw
                  (try dsimp only at hSw)
                  go_simp
                simp only [Act.put, List.setIfInBounds_toArray, List.set_cons_zero, List.set_cons_succ]
                refine wpAnyX_one (i := 4) (o := { dst := some 184, op := Op.call { callee := Callee.value (Operand.func 23), args := #[Operand.tmp 183], argTypes := #[26] }, type := 37, pos := "outright.go:182", after := #[{ on := 3, ground := Ground.data }, { on := 2, ground := Ground.chain }, { on := 2, ground := Ground.guard }], guard := some (2, true) }) (by kernel_rfl) rfl (fun K hK => ?_)
                go_simp
                go_at_call 23
                refine (bits_any F3 _).mono ?_
                rintro e w3 ⟨rfl, b⟩
                replace Zs := hid (Zs.out.now b)
                replace PS := hid (PS.out.step b)
                replace G := hid (below_step G.out b)
                have lz4 := (show Below _ _ _ from b).size
                clear b 
                refine hK.out _ _ (fun _ _ => ⟨PS.out.c0, PS.out.c1⟩) ?_
                clear hK
                refine wpAnyX_one (i := 6) (o := { dst := some 186, op := Op.call { callee := Callee.value (Operand.func 7), args := #[Operand.tmp 185], argTypes := #[24] }, type := 26, pos := "outright.go:182", after := #[{ on := 5, ground := Ground.data }, { on := 4, ground := Ground.chain }, { on := 2, ground := Ground.guard }], guard := some (2, true) }) (by kernel_rfl) rfl (fun K hK => ?_)
                go_simp
                go_at_call 7
                refine (near_any Zs.out (HT0.out.now G.out) (by omega) HF3.out).mono ?_
                rintro e w5 ⟨rfl, b⟩
                replace Zs := hid (Zs.out.now b)
                replace PS := hid (PS.out.step b)
                replace G := hid (below_step G.out b)
                have lz6 := (show Below _ _ _ from b).size
                clear b 
                refine hK.out _ _ (fun _ _ => ⟨PS.out.c0, PS.out.c1⟩) ?_
                clear hK
                refine wpAnyX_one (i := 7) (o := { dst := some 187, op := Op.call { callee := Callee.value (Operand.func 23), args := #[Operand.tmp 186], argTypes := #[26] }, type := 37, pos := "outright.go:182", after := #[{ on := 6, ground := Ground.data }, { on := 6, ground := Ground.chain }, { on := 2, ground := Ground.guard }], guard := some (2, true) }) (by kernel_rfl) rfl (fun K hK => ?_)
                go_simp
                go_at_call 23
                refine (bits_any F3 _).mono ?_
                rintro e w7 ⟨rfl, b⟩
                replace Zs := hid (Zs.out.now b)
                replace PS := hid (PS.out.step b)
                replace G := hid (below_step G.out b)
                have lz8 := (show Below _ _ _ from b).size
                clear b 
                refine hK.out _ _ (fun _ _ => ⟨PS.out.c0, PS.out.c1⟩) ?_
                clear hK
                refine wpAnyX_pure (i := 8) (oi := { dst := some 188, op := Op.binOp BinOp.eql 37 (Operand.tmp 184) (Operand.tmp 187) 37, type := 4, pos := "outright.go:182", after := #[{ on := 4, ground := Ground.data }, { on := 7, ground := Ground.data }, { on := 2, ground := Ground.guard }], guard := some (2, true) }) (v := (.bool true)) rfl (by kernel_rfl) (fun _ _ _ h => h) (Or.inl ⟨by rfl, ?_⟩)  ?_
                · intro w hSw
                  (try dsimp only at hSw)
                  go_simp
                simp only [Act.put, List.setIfInBounds_toArray, List.set_cons_zero, List.set_cons_succ]
                refine wpAnyX_pure (i := 9) (oi := { dst := some 189, op := Op.pick (Operand.tmp 182) (Operand.tmp 188) (Operand.const (Value.bool false)), type := 4, pos := "outright.go:182", after := #[{ on := 2, ground := Ground.data }, { on := 8, ground := Ground.data }], guard := none }) (v := (.bool true)) rfl (by kernel_rfl) (fun _ _ _ h => h) (Or.inl ⟨by rfl, ?_⟩)  ?_
                · intro w hSw
                  (try dsimp only at hSw)
                  go_simp
                simp only [Act.put, List.setIfInBounds_toArray, List.set_cons_zero, List.set_cons_succ]
                refine wpAnyX_pure (i := 10) (oi := { dst := some 2, op := Op.assign (Operand.tmp 189), type := 4, pos := "outright.go:182", after := #[{ on := 9, ground := Ground.data }, { on := 7, ground := Ground.chain }, { on := 0, ground := Ground.phase }, { on := 1, ground := Ground.phase }, { on := 2, ground := Ground.phase }, { on := 3, ground := Ground.phase }, { on := 4, ground := Ground.phase }, { on := 5, ground := Ground.phase }, { on := 6, ground := Ground.phase }, { on := 7, ground := Ground.phase }, { on := 8, ground := Ground.phase }, { on := 9, ground := Ground.phase }], guard := none }) (v := (.bool true)) rfl (by kernel_rfl) (fun _ _ _ h => h) (Or.inl ⟨by rfl, ?_⟩)  ?_
                · intro w hSw
                  (try dsimp only at hSw)
                  go_simp
                simp only [Act.put, List.setIfInBounds_toArray, List.set_cons_zero, List.set_cons_succ]
                refine wpAnyX_done (by kernel_rfl) ?_ _
                go_wp2
                go_ret
                exact ⟨rfl, G.out⟩
          · go_wp2_with fail
            refine (finite_no hfx _).mono ?_
            rintro e w8 ⟨rfl, b8⟩
            have G := hid (below_step G7.out b8)
            clear b8 P7 R7 G7 cX
            obtain ⟨U0, hU0⟩ : ∃ U0, w8.alloc zbox = U0 := ⟨_, rfl⟩
            have bu : Below w8.heap.size w8 U0 := by rw [← hU0]; exact (Below.refl _ _).alloc (Nat.le_refl _) _
            have szu : U0.heap.size = w8.heap.size + 1 := by rw [← hU0]; simp
            have pS : Duo U0 w8.heap.size (.bool false) (.slice none 0 0) := by rw [← hU0]; exact duo_at rfl
            have gs_ := G.out.size
            have H0 : Hid (PartH w w8.heap.size nq7 qs nq7 (.slice none 0 0) (.int .i64 0) U0) := ⟨0, [], _, _, rfl, Nat.zero_le _, rfl, Gat.nil _ _, rfl, fun f hf => (by cases hf), fun f hf => (by cases hf), by simp [ssum, isum], pS, by simpa [isum] using zm_nil 0 U0 1, gs_, by omega, below_step G.out bu⟩
            have EU := hid hU0
            obtain ⟨bs, hbs⟩ : ∃ bs, w8.heap.size = bs := ⟨_, rfl⟩
            clear hU0 bu szu pS G
            go_wp2_with fail
            rw [EU.out]
            clear EU
            rw [hbs] at H0 gs_
            clear hbs
            go_loopg [17, 19] nq7 (fun gg s17 s19 wx => PartH w bs nq7 qs gg s17 s19 wx)
            case atStart => exact H0.out
            case round =>
              clear H0
              obtain ⟨i, gs, r0, r1, rfl, hin, hgg, ga, gl, gf, gt, gsum, pS, zS, hbs, hbw, hG⟩ := hrel
              obtain ⟨ns, xs7, ads, qs7, rfl, rfl⟩ := zS.comp7
              have PS := hid pS
              have Zs := hid zS
              have G := hid hG
              have HG := hid hgg
              have GA := hid ga
              have GL := hid gl
              have GF := hid gf
              have GLT := hid gt
              have GS := hid gsum
              clear pS zS hG hgg ga gl gf gt gsum
              by_cases hlt : i < nq7
              · have hlt' : (i : Int) < (nq7 : Int) := by omega
                have hw := wrapI7 (i := i) (by omega)
                obtain ⟨hqb, a9, c9, e9, -, -, hqc⟩ := H3.out
                simp only [Value.slice.injEq] at e9
                obtain ⟨rfl, -, rfl⟩ := e9
                have hiq : i < qs.length := by rw [HNQ.out]; exact hlt
                rcases hqc with e | ⟨bq, oq, rfl, hbq, hcc⟩
                · rw [e] at hiq; simp at hiq
                have cq0 : wr.cell? ⟨bq, oq + i, none⟩ = some (.int .i32 qs[i]) := (G.out.cell (p := ⟨bq, oq + i, none⟩) hbq).trans (hcc i hiq)
                obtain ⟨hz1, hz2⟩ := hqb _ (List.getElem_mem hiq)
                have HIS := hid (isum_take hiq)
                obtain ⟨z, hze⟩ : ∃ z, qs[i] = z := ⟨_, rfl⟩
                rw [hze] at cq0 hz1 hz2 HIS
                obtain ⟨hw1, hw2⟩ := int_word (z := z) (by omega)
                have hw3 := (zw_no z 0).1
                obtain ⟨f, hfe⟩ : ∃ f, zw z 0 = f := ⟨_, rfl⟩
                rw [hfe] at hw1 hw2 hw3
                have HFZ := hid hfe
                have HW1 := hid hw1
                have HW2 := hid hw2
                have HW3 := hid hw3
                clear hcc hqb hze hfe hw1 hw2 hw3
                go_wp2_with fail
                refine (of_z (n := z) (by omega) (by omega) _).mono ?_
                rintro e wa ⟨ra, rfl, ma, ba⟩
                obtain ⟨na, xa, ada, qa, rfl, -⟩ := id ma
                replace PS := hid (PS.out.step ba)
                replace Zs := hid (Zs.out.now ba)
                replace G := hid (below_step G.out ba)
                replace GA := hid (GA.out.now ba)
                have hbw2 := Nat.le_trans hbw ba.size
                have Za := hid ma
                clear ba ma cq0
                obtain ⟨wb, hwb⟩ : ∃ wb, wa.alloc (duo (.bool na) (.slice ada xa.length qa)) = wb := ⟨_, rfl⟩
                obtain ⟨bb, szb⟩ := alloc1 wa (duo (.bool na) (.slice ada xa.length qa))
                rw [hwb] at bb szb
                have PA : Hid (Duo wb wa.heap.size (.bool na) (.slice ada xa.length qa)) := by unfold Hid; rw [← hwb]; exact duo_at rfl
                replace PS := hid (PS.out.step bb)
                replace Zs := hid (Zs.out.now bb)
                replace G := hid (below_step G.out bb)
                replace GA := hid (GA.out.now bb)
                replace Za := hid (Za.out.now bb)
                have hbw3 := Nat.le_trans hbw2 bb.size
                have ca0 := PA.out.c0
                have ca1 := PA.out.c1
                rw [← hwb] at ca0 ca1
                have EB := hid hwb
                have SZB := hid szb
                clear bb hwb szb
                go_wp2_with fail
                rw [EB.out]
                clear EB ca0 ca1
                refine (near_any Za.out (HT0.out.now G.out) (by decide) HFZ.out).mono ?_
                rintro e wd ⟨rfl, bd⟩
                replace PS := hid (PS.out.step bd)
                replace PA := hid (PA.out.step bd)
                replace Zs := hid (Zs.out.now bd)
                replace G := hid (below_step G.out bd)
                replace GA := hid (GA.out.now bd)
                replace Za := hid (Za.out.now bd)
                have hbw4 := Nat.le_trans hbw3 bd.size
                clear bd
                obtain ⟨wf, hwf⟩ : ∃ wf, wd.alloc (.cells #[.float .f64 f] 26) = wf := ⟨_, rfl⟩
                obtain ⟨bf, szf⟩ := alloc1 wd (.cells #[.float .f64 f] 26)
                have cN := cell_new wd f
                rw [hwf] at bf szf cN
                replace PS := hid (PS.out.step bf)
                replace PA := hid (PA.out.step bf)
                replace Zs := hid (Zs.out.now bf)
                replace G := hid (below_step G.out bf)
                replace GA := hid (GA.out.now bf)
                replace Za := hid (Za.out.now bf)
                have hbw5 := Nat.le_trans hbw4 bf.size
                have CN := hid cN
                have EF := hid hwf
                clear bf szf hwf cN
                go_wp2_with (rw [EF.out]; refine wpList_append_gat _ rfl _ _ rfl (bs + 1) _ gs [f] rfl GA.out wd.heap.size 1 1 rfl rfl (fun j hj => by obtain rfl : j = 0 := (by simp at hj; omega); exact CN.out) (by rw [GL.out]; omega) hbw5 ?_)
                intro vg wg gg9 kg bg
                replace PS := hid (kg.out.duo _ _ _ PS.out)
                replace PA := hid (kg.out.duo _ _ _ PA.out)
                replace Zs := hid (kg.out.zm _ _ _ _ Zs.out)
                replace Za := hid (kg.out.zm _ _ _ _ Za.out)
                replace G : Hid (Below w.heap.size w wg) := G.out.trans (below_weak bg.out (by omega))
                have hbw6 := Nat.le_trans hbw5 kg.out.size
                have cs0 := PS.out.c0
                have cs1 := PS.out.c1
                have ca0 := PA.out.c0
                have ca1 := PA.out.c1
                clear GA EF CN kg bg
                go_wp2_with fail
                refine (add_z Zs.out.zi Za.out.zi (by omega) (by omega)).mono ?_
                rintro e wh ⟨rh, rfl, mh, bh⟩
                obtain ⟨nh, xh, adh, qh, rfl, -⟩ := id mh
                replace PS := hid (PS.out.step bh)
                replace G := hid (below_step G.out bh)
                have GA := hid (gg9.out.now bh)
                have Zh := hid mh
                have hbw7 := Nat.le_trans hbw6 bh.size
                clear bh mh cs0 cs1 ca0 ca1 gg9 Zs Za PA
                have r0 := PS.out.c0
                have r1 := PS.out.c1
                have f0 := PS.out.fz 0
                have f1 := PS.out.fz 1
                have HN1 : Hid (PartH w bs nq7 qs (nq7 - (i + 1)) vg (.int .i64 ((i + 1 : Nat) : Int)) ((wh.setCell ⟨bs, 0, none⟩ (.bool nh)).setCell ⟨bs, 1, none⟩ (.slice adh xh.length qh))) := ⟨i + 1, gs ++ [f], _, _, rfl, by omega, rfl, (GA.out.ne (by omega)).ne (by omega), by simp [GL.out], fun x hx => by
                    rcases List.mem_append.1 hx with q | q
                    · exact GF.out x q
                    · obtain rfl := List.mem_singleton.1 q
                      exact HW1.out, fun x hx => by
                    rcases List.mem_append.1 hx with q | q
                    · exact GLT.out x q
                    · obtain rfl := List.mem_singleton.1 q
                      exact HW3.out, by
                    rw [ssum_append, GS.out, HIS.out]
                    simp only [ssum]
                    rw [HW2.out, Int.add_mul]; omega, PS.out.set _ _, by rw [HIS.out]; exact ((Zh.out.box PS.out _ _).more (by omega)).mono (by omega), hbs, by simpa using hbw7, bset (bset G.out (by omega)) (by omega)⟩
                have HMM : Hid (nq7 - (i + 1) < gk) := by unfold Hid; rw [HG.out]; omega
                clear GA PS G HG Zh
                go_wp2_with fail
                go_roundg (nq7 - (i + 1))
                case rel => exact HN1.out
                case measure => exact HMM.out
              · have hlt' : ¬ (i : Int) < (nq7 : Int) := by omega
                obtain rfl : i = nq7 := by omega
                rw [show qs.take i = qs by rw [← HNQ.out]; exact List.take_length] at Zs GS
                have FSP := hid (GA.out.fs GLT.out (by rw [GL.out]; omega))
                obtain ⟨Q, hQ⟩ : ∃ Q, isum qs = Q := ⟨_, rfl⟩
                rw [hQ] at Zs GS
                obtain ⟨F3, hF3⟩ : ∃ F3, zw Q 0 = F3 := ⟨_, rfl⟩
                have HF3 := hid hF3
                have qe3 : (((bv F3 : Nat) : Int) == ((bv F3 : Nat) : Int)) = true := by simp
                have qz : ((0 : Int) == 0) = true := rfl
                clear hQ hF3 HG
                go_wp2_with fail
                refine (total_any FSP.out (HT0.out.now G.out)).mono ?_
                rintro e wk ht
                rcases ht with ⟨_, rfl, bk⟩ | ⟨⟨x, hx1, hx2⟩, _⟩
                case inr => exact absurd (GF.out x hx1) hx2
                rw [GS.out, sum_word, HF3.out]
                replace PS := hid (PS.out.step bk)
                replace Zs := hid (Zs.out.now bk)
                replace G := hid (below_step G.out bk)
                clear bk FSP GA GF GLT GS
                go_wp2_with fail
                refine wp_region_X (fun w' => w'.cell? ⟨bs, 0, none⟩ = some (.bool ns) ∧ w'.cell? ⟨bs, 1, none⟩ = some (.slice ads xs7.length qs7)) [] (by kernel_rfl) ?_
                obtain ⟨D1, hD⟩ : ∃ D1, wk.drew = D1 := ⟨_, rfl⟩
                have b : Below wk.heap.size wk D1 := by rw [← hD]; exact (Below.refl _ _).drew
                rw [hD]
                clear hD
                replace Zs := hid (Zs.out.now b)
                replace PS := hid (PS.out.step b)
                replace G := hid (below_step G.out b)
                have lz2 := (show Below _ _ _ from b).size
                clear b
                refine wpAnyX_pure (i := 0) (oi := { dst := some 180, op := Op.move (Operand.tmp 14), type := 33, pos := "outright.go:182", after := #[], guard := none }) (v := (.int .i64 0)) rfl (by kernel_rfl) (fun _ _ _ h => h) (Or.inl ⟨by rfl, ?_⟩)  ?_
                · intro w hSw
                  (try dsimp only at hSw)
                  go_simp
                simp only [Act.put, List.setIfInBounds_toArray, List.set_cons_zero, List.set_cons_succ]
                refine wpAnyX_pure (i := 1) (oi := { dst := some 181, op := Op.binOp BinOp.eql 33 (Operand.tmp 180) (Operand.const (Value.int IntKind.i64 0)) 33, type := 4, pos := "outright.go:182", after := #[{ on := 0, ground := Ground.data }], guard := none }) (v := (.bool true)) rfl (by kernel_rfl) (fun _ _ _ h => h) (Or.inl ⟨by rfl, ?_⟩)  ?_
                · intro w hSw
                  (try dsimp only at hSw)
                  go_simp
                simp only [Act.put, List.setIfInBounds_toArray, List.set_cons_zero, List.set_cons_succ]
                refine wpAnyX_pure (i := 2) (oi := { dst := some 182, op := Op.move (Operand.tmp 181), type := 4, pos := "outright.go:182", after := #[{ on := 1, ground := Ground.data }], guard := none }) (v := (.bool true)) rfl (by kernel_rfl) (fun _ _ _ h => h) (Or.inl ⟨by rfl, ?_⟩)  ?_
                · intro w hSw
                  (try dsimp only at hSw)
                  go_simp
                simp only [Act.put, List.setIfInBounds_toArray, List.set_cons_zero, List.set_cons_succ]
                refine wpAnyX_pure (i := 3) (oi := { dst := some 183, op := Op.move (Operand.tmp 13), type := 26, pos := "outright.go:182", after := #[{ on := 2, ground := Ground.guard }], guard := some (2, true) }) (v := (.float .f64 F3)) rfl (by kernel_rfl) (fun _ _ _ h => h) (Or.inl ⟨by rfl, ?_⟩)  ?_
                · intro w hSw
                  (try dsimp only at hSw)
                  go_simp
                simp only [Act.put, List.setIfInBounds_toArray, List.set_cons_zero, List.set_cons_succ]
                refine wpAnyX_take (i := 5) (oi := { dst := some 185, op := Op.load 24 (Operand.tmp 18), type := 24, pos := "outright.go:182", after := #[{ on := 2, ground := Ground.guard }], guard := some (2, true) }) (v := (.agg #[(.bool ns), (.slice ads xs7.length qs7)])) rfl (by kernel_rfl) (fun _ _ _ h => h) (Or.inl ⟨by rfl, ?_⟩) ⟨PS.out.c0, PS.out.c1⟩ ?_
                · intro w hSw
                  (try dsimp only at hSw)
                  go_simp
                simp only [Act.put, List.setIfInBounds_toArray, List.set_cons_zero, List.set_cons_succ]
                refine wpAnyX_one (i := 4) (o := { dst := some 184, op := Op.call { callee := Callee.value (Operand.func 23), args := #[Operand.tmp 183], argTypes := #[26] }, type := 37, pos := "outright.go:182", after := #[{ on := 3, ground := Ground.data }, { on := 2, ground := Ground.chain }, { on := 2, ground := Ground.guard }], guard := some (2, true) }) (by kernel_rfl) rfl (fun K hK => ?_)
                go_simp
                go_at_call 23
                refine (bits_any F3 _).mono ?_
                rintro e w3 ⟨rfl, b⟩
                replace Zs := hid (Zs.out.now b)
                replace PS := hid (PS.out.step b)
                replace G := hid (below_step G.out b)
                have lz4 := (show Below _ _ _ from b).size
                clear b 
                refine hK.out _ _ (fun _ _ => ⟨PS.out.c0, PS.out.c1⟩) ?_
                clear hK
                refine wpAnyX_one (i := 6) (o := { dst := some 186, op := Op.call { callee := Callee.value (Operand.func 7), args := #[Operand.tmp 185], argTypes := #[24] }, type := 26, pos := "outright.go:182", after := #[{ on := 5, ground := Ground.data }, { on := 4, ground := Ground.chain }, { on := 2, ground := Ground.guard }], guard := some (2, true) }) (by kernel_rfl) rfl (fun K hK => ?_)
                go_simp
                go_at_call 7
                refine (near_any Zs.out (HT0.out.now G.out) (by omega) HF3.out).mono ?_
                rintro e w5 ⟨rfl, b⟩
                replace Zs := hid (Zs.out.now b)
                replace PS := hid (PS.out.step b)
                replace G := hid (below_step G.out b)
                have lz6 := (show Below _ _ _ from b).size
                clear b 
                refine hK.out _ _ (fun _ _ => ⟨PS.out.c0, PS.out.c1⟩) ?_
                clear hK
                refine wpAnyX_one (i := 7) (o := { dst := some 187, op := Op.call { callee := Callee.value (Operand.func 23), args := #[Operand.tmp 186], argTypes := #[26] }, type := 37, pos := "outright.go:182", after := #[{ on := 6, ground := Ground.data }, { on := 6, ground := Ground.chain }, { on := 2, ground := Ground.guard }], guard := some (2, true) }) (by kernel_rfl) rfl (fun K hK => ?_)
                go_simp
                go_at_call 23
                refine (bits_any F3 _).mono ?_
                rintro e w7 ⟨rfl, b⟩
                replace Zs := hid (Zs.out.now b)
                replace PS := hid (PS.out.step b)
                replace G := hid (below_step G.out b)
                have lz8 := (show Below _ _ _ from b).size
                clear b 
                refine hK.out _ _ (fun _ _ => ⟨PS.out.c0, PS.out.c1⟩) ?_
                clear hK
                refine wpAnyX_pure (i := 8) (oi := { dst := some 188, op := Op.binOp BinOp.eql 37 (Operand.tmp 184) (Operand.tmp 187) 37, type := 4, pos := "outright.go:182", after := #[{ on := 4, ground := Ground.data }, { on := 7, ground := Ground.data }, { on := 2, ground := Ground.guard }], guard := some (2, true) }) (v := (.bool true)) rfl (by kernel_rfl) (fun _ _ _ h => h) (Or.inl ⟨by rfl, ?_⟩)  ?_
                · intro w hSw
                  (try dsimp only at hSw)
                  go_simp
                simp only [Act.put, List.setIfInBounds_toArray, List.set_cons_zero, List.set_cons_succ]
                refine wpAnyX_pure (i := 9) (oi := { dst := some 189, op := Op.pick (Operand.tmp 182) (Operand.tmp 188) (Operand.const (Value.bool false)), type := 4, pos := "outright.go:182", after := #[{ on := 2, ground := Ground.data }, { on := 8, ground := Ground.data }], guard := none }) (v := (.bool true)) rfl (by kernel_rfl) (fun _ _ _ h => h) (Or.inl ⟨by rfl, ?_⟩)  ?_
                · intro w hSw
                  (try dsimp only at hSw)
                  go_simp
                simp only [Act.put, List.setIfInBounds_toArray, List.set_cons_zero, List.set_cons_succ]
                refine wpAnyX_pure (i := 10) (oi := { dst := some 2, op := Op.assign (Operand.tmp 189), type := 4, pos := "outright.go:182", after := #[{ on := 9, ground := Ground.data }, { on := 7, ground := Ground.chain }, { on := 0, ground := Ground.phase }, { on := 1, ground := Ground.phase }, { on := 2, ground := Ground.phase }, { on := 3, ground := Ground.phase }, { on := 4, ground := Ground.phase }, { on := 5, ground := Ground.phase }, { on := 6, ground := Ground.phase }, { on := 7, ground := Ground.phase }, { on := 8, ground := Ground.phase }, { on := 9, ground := Ground.phase }], guard := none }) (v := (.bool true)) rfl (by kernel_rfl) (fun _ _ _ h => h) (Or.inl ⟨by rfl, ?_⟩)  ?_
                · intro w hSw
                  (try dsimp only at hSw)
                  go_simp
                simp only [Act.put, List.setIfInBounds_toArray, List.set_cons_zero, List.set_cons_succ]
                refine wpAnyX_done (by kernel_rfl) ?_ _
                go_wp2
                go_ret
                exact ⟨rfl, G.out⟩
end Go.Proofs.YtbamffggnnacaaaDoor
