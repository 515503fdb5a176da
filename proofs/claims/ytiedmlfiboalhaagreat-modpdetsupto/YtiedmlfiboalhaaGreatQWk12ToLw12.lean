/-
  QWk12ToLw12: Wk12, Lw12, joined.
-/
import Derived.Test.YtiedmlfiboalhaaGreatQPure9ToDt12
import Derived.Test.YtiedmlfiboalhaaGreatQColsP9ToOpenM9
import Derived.Test.YtiedmlfiboalhaaGreatQLst9ToTail

/- Wk12 -/
namespace Go.Proofs.YtiedmlfiboalhaaGreat
open Go.RowKit
set_option linter.unusedVariables false

set_option maxHeartbeats 3200000 in
set_option maxRecDepth 100000 in
theorem of12 {n : Int} (h0 : 0 ≤ n) (h1 : n ≤ 18446744073709551615) (w : World) :
    Calls Tryz.prog 17 #[.int .u64 n] w fun e w' => ∃ r, e = .returned r ∧ Zi w' r n 1 ∧ Below w.heap.size w w' := by
  obtain ⟨WX, hWX⟩ : ∃ WX, (w.alloc (duo (.bool false) (.slice (some ⟨w.heap.size + 1, 0, none⟩) 1 1))).alloc (.cells #[.int .u64 n] 25) = WX := ⟨_, rfl⟩
  obtain ⟨b0, sz0⟩ := alloc2 w (duo (.bool false) (.slice (some ⟨w.heap.size + 1, 0, none⟩) 1 1)) (.cells #[.int .u64 n] 25)
  rw [hWX] at b0 sz0
  have dX : Duo WX w.heap.size (.bool false) (.slice (some ⟨w.heap.size + 1, 0, none⟩) 1 1) := by rw [← hWX]; exact duo_late (duo_at rfl) _
  have sX : Sl WX.heap.size WX (.slice (some ⟨w.heap.size + 1, 0, none⟩) 1 1) [n] := by
    have := word_one (w.alloc (duo (.bool false) (.slice (some ⟨w.heap.size + 1, 0, none⟩) 1 1))) n ⟨h0, h1⟩
    rw [hWX] at this
    simpa using this
  have eV : iv false [n] = n := by simp [iv, val]
  have FIN : Hid (Zi WX (.agg #[.bool false, .slice (some ⟨w.heap.size + 1, 0, none⟩) 1 1]) n 1) := ⟨false, [n], _, _, rfl, sX, eV, by simp⟩
  have EW := hid hWX
  have DX := hid dX
  have BX := hid b0
  clear sX dX eV b0 hWX
  go_enter Tryz.func17, Tryz.ntmps17
  go_wp2
  rw [EW.out]
  exact bodyPost_ret (zback Tryz.results17 DX.out _ (by rfl)) rfl ⟨_, rfl, FIN.out, BX.out⟩
theorem det_nine : detN 7 1 [9] = 2 := by decide
theorem blw_ten : blw 10 = 7 := by decide
theorem gd_seven : gdB 7 = true := by decide
set_option maxHeartbeats 3200000 in
set_option maxRecDepth 100000 in
theorem wakes12 (w : World) : Calls Tryz.prog 4 #[] w fun e w' => e = .returned (.bool true) ∧ Below w.heap.size w w' := by
  have HB := hid (below_any (w := w) (n := 10) (by omega))
  rw [blw_ten] at HB
  have HO := hid (of12 (n := 9) (by omega) (by omega) w)
  go_enter Tryz.func4, Tryz.ntmps4
  go_wp2_with fail
  refine HB.out.mono ?_
  rintro e w1 ⟨rfl, hw1⟩
  have hw1' := hw1.symm
  subst hw1'
  clear hw1 HB
  go_wp2_with fail
  refine HO.out.mono ?_
  rintro e w2 ⟨r, rfl, hz, b2⟩
  have hz0 := hz
  obtain ⟨n2, x2, a2, c2, rfl, -, -, -⟩ := hz
  obtain ⟨V, hV⟩ : ∃ V, w2.alloc (.cells #[.bool n2, .slice a2 x2.length c2] 43) = V := ⟨_, rfl⟩
  obtain ⟨bV, szV⟩ := alo12 w2 (.cells #[.bool n2, .slice a2 x2.length c2] 43)
  rw [hV] at bV szV
  have DV : Cel V w2.heap.size 43 [.bool n2, .slice a2 x2.length c2] := by rw [← hV]; exact Cel.new w2 _ _
  have MX : Mx V (matv 1 1 (.slice (some ⟨w2.heap.size, 0, none⟩) 1 1)) 1 1 [9] 1 := by
    refine ⟨_, [(.bool n2, .slice a2 x2.length c2)], rfl, ⟨_, 1, rfl, by simp, by simp, (fun q => by cases q), .inr ⟨w2.heap.size, 0, rfl, Nat.zero_le _, DV.blk, fun j p hj => ?_⟩⟩, ⟨rfl, fun j p z hp hz => ?_⟩, rfl, by omega, by omega⟩
    · match j, hj with
      | 0, hj =>
        simp at hj
        subst hj
        exact ⟨DV.at (i := 0) rfl, DV.at (i := 1) rfl⟩
    · match j, hp, hz with
      | 0, hp, hz =>
        simp at hp hz
        subst hp hz
        exact hz0.now bV
  have HD := hid (det12 gd_seven MX (by omega))
  rw [det_nine] at HD
  have G := hid (below_step b2 bV)
  have EV := hid hV
  clear HO hz0 b2 bV szV hV DV MX
  go_wp2_with fail
  rw [EV.out]
  refine HD.out.mono ?_
  rintro e w3 ⟨rfl, b3⟩
  have G3 := hid (below_step G.out b3)
  clear HD b3 EV
  go_wp2
  go_ret
  exact ⟨rfl, G3.out⟩
end Go.Proofs.YtiedmlfiboalhaaGreat

/- Lw12 -/
namespace Go.Proofs.YtiedmlfiboalhaaGreat
open Go.RowKit
set_option linter.unusedVariables false

set_option maxHeartbeats 1600000 in
set_option maxRecDepth 100000 in
theorem alike12_yes {w : World} {v u : Value} {z y : Int} {k l : Nat} (h : Zc w v z k) (h' : Zc w u y l) (hzy : z = y) :
    Calls Tryz.prog 51 #[v, u] w fun e w' => e = .returned (.bool true) ∧ Below w.heap.size w w' := by
  subst hzy
  obtain ⟨n, xs, a, c, rfl, s0, q0, e0, z0, k0⟩ := h
  obtain ⟨m, ys, b, d, rfl, s1, q1, e1, z1, k1⟩ := h'
  obtain ⟨rfl, rfl⟩ := iv_one (z0.trans z1.symm) q0 q1 e0 e1
  obtain ⟨W0, hW⟩ : ∃ W0, (w.alloc (duo (.bool n) (.slice a xs.length c))).alloc (duo (.bool n) (.slice b xs.length d)) = W0 := ⟨_, rfl⟩
  have b0 := (alloc2 w (duo (.bool n) (.slice a xs.length c)) (duo (.bool n) (.slice b xs.length d))).1
  rw [hW] at b0
  have P2 : Hid (Duo W0 w.heap.size (.bool n) (.slice a xs.length c)) := by unfold Hid; rw [← hW]; exact (Duo.new w _ _).later (by simp) _
  have P3 : Hid (Duo W0 (w.heap.size + 1) (.bool n) (.slice b xs.length d)) := by
    unfold Hid
    rw [← hW]
    have := Duo.new (w.alloc (duo (.bool n) (.slice a xs.length c))) (.bool n) (.slice b xs.length d)
    simpa using this
  have HC := hid (same_yes (s0.now b0) (s1.now b0) rfl)
  have B0 := hid b0
  have x1 := P2.out.c1
  have y1 := P3.out.c1
  rw [← hW] at x1 y1
  have EW := hid hW
  have hq : (n == n) = true := by simp
  clear s0 s1 z0 z1 b0 q0 q1 e0 e1 hW
  go_enter Tryz.func51, Tryz.ntmps51
  go_wp2_with fail
  rw [EW.out]
  refine HC.out.mono ?_
  rintro e w1 ⟨rfl, b1⟩
  have B1 := hid (below_step B0.out b1)
  have x0 := (P2.out.step b1).c0
  have y0 := (P3.out.step b1).c0
  clear b1 HC x1 y1 EW
  go_wp2
  go_ret
  exact ⟨rfl, B1.out⟩
set_option maxHeartbeats 1600000 in
set_option maxRecDepth 100000 in
theorem alikeRows12_yes {w : World} {B B' k l : Nat} {va vb : Value} {ps qs : List (Value × Value)} {zs : List Int} (ha : Prs B w va ps) (hza : Zcs w ps zs k) (hb : Prs B' w vb qs) (hzb : Zcs w qs zs l) :
    Calls Tryz.prog 31 #[va, vb] w fun e w' => e = .returned (.bool true) ∧ Below w.heap.size w w' := by
  have A0 := hid ha
  have B0 := hid hb
  have ZA := hid hza
  have ZB := hid hzb
  obtain ⟨aa, ca, rfl, hca, hna, -, hfa⟩ := ha.form
  obtain ⟨ab, cb, rfl, hcb, hnb, -, hfb⟩ := hb.form
  obtain ⟨n, hn⟩ : ∃ n, zs.length = n := ⟨_, rfl⟩
  rw [hza.1, hn] at A0 hca hna ⊢
  rw [hzb.1, hn] at B0 hcb hnb ⊢
  have FA : Hid (n ≠ 0 → ∃ b off, aa = some ⟨b, off, none⟩) := fun h => by
    obtain ⟨b, off, e, -⟩ := hfa (fun e => h (by rw [← hn, ← hza.1, e]; rfl))
    exact ⟨b, off, e⟩
  have FB : Hid (n ≠ 0 → ∃ b off, ab = some ⟨b, off, none⟩) := fun h => by
    obtain ⟨b, off, e, -⟩ := hfb (fun e => h (by rw [← hn, ← hzb.1, e]; rfl))
    exact ⟨b, off, e⟩
  have HN := hid hn
  have H0 : Hid (SameH w n n (.int .i64 0) w) := ⟨0, rfl, Nat.zero_le _, by omega, Below.refl _ _⟩
  have q0 : ((n : Int) != (n : Int)) = false := by simp
  clear ha hb hza hzb hfa hfb hn
  go_enter Tryz.func31, Tryz.ntmps31
  go_wp2_with fail
  go_loopg [5] n (fun gk s5 wx => SameH w n gk s5 wx)
  case atStart => exact H0.out
  case round =>
    clear H0
    obtain ⟨i, rfl, hin, hg, hG⟩ := hrel
    have G := hid hG
    have HG := hid hg
    clear hG hg
    by_cases hlt : i < n
    · have hlt' : (i : Int) < (n : Int) := by omega
      obtain ⟨b1, o1, rfl⟩ := FA.out (by omega)
      obtain ⟨b2, o2, rfl⟩ := FB.out (by omega)
      obtain ⟨nf, xf, adf, qf, k0, k1, zf⟩ := Zcs.at9 (A0.out.now G.out) (ZA.out.now G.out) (i := i) (by rw [HN.out]; exact hlt)
      obtain ⟨ng, xg, adg, qg, k2, k3, zg⟩ := Zcs.at9 (B0.out.now G.out) (ZB.out.now G.out) (i := i) (by rw [HN.out]; exact hlt)
      have HS : Hid (∀ w', Below wr.heap.size wr w' → Calls Tryz.prog 51 #[.agg #[.bool nf, .slice adf xf.length qf], .agg #[.bool ng, .slice adg xg.length qg]] w' fun e w'' => e = .returned (.bool true) ∧ Below w'.heap.size w' w'') := fun w' h => alike12_yes (zf.now h) (zg.now h) rfl
      clear zf zg
      have hw := wrapI9 (i := i) (by omega)
      go_wp2_with fail
      have KB : Hid (∀ w', Below wr.heap.size wr w' → w'.cell? ⟨b1, o1 + i * 2, none⟩ = some (.bool nf) ∧ w'.cell? ⟨b1, o1 + i * 2 + 1, none⟩ = some (.slice adf xf.length qf) ∧ w'.cell? ⟨b2, o2 + i * 2, none⟩ = some (.bool ng) ∧ w'.cell? ⟨b2, o2 + i * 2 + 1, none⟩ = some (.slice adg xg.length qg)) := fun w' h => ⟨cnow h k0, cnow h k1, cnow h k2, cnow h k3⟩
      refine wp_region_tail (fun w' => w'.cell? ⟨b1, o1 + i * 2, none⟩ = some (.bool nf) ∧ w'.cell? ⟨b1, o1 + i * 2 + 1, none⟩ = some (.slice adf xf.length qf) ∧ w'.cell? ⟨b2, o2 + i * 2, none⟩ = some (.bool ng) ∧ w'.cell? ⟨b2, o2 + i * 2 + 1, none⟩ = some (.slice adg xg.length qg)) 9 (by kernel_rfl) ?_
      obtain ⟨D1, hD⟩ : ∃ D1, wr.drew = D1 := ⟨_, rfl⟩
      have GB : Hid (Below wr.heap.size wr D1) := by unfold Hid; rw [← hD]; exact (Below.refl _ _).drew
      rw [hD]
      clear hD
      refine wpAnyT_take (i := 0) (oi := { dst := some 18, op := Op.move (Operand.tmp 0), type := 22, pos := "law.go:105", after := #[], guard := none }) (v := (.slice (some ⟨b1, o1, none⟩) n ca)) rfl (by kernel_rfl) (fun _ _ _ h => h) (Or.inl ⟨by rfl, ?_⟩) (KB.out _ GB.out) ?_
      · intro w hSw
        (try dsimp only at hSw)
        go_simp
      simp only [Act.put, List.setIfInBounds_toArray, List.set_cons_zero, List.set_cons_succ]
      refine wpAnyT_take (i := 1) (oi := { dst := some 19, op := Op.move (Operand.tmp 5), type := 3, pos := "law.go:105", after := #[], guard := none }) (v := (.int .i64 (i : Int))) rfl (by kernel_rfl) (fun _ _ _ h => h) (Or.inl ⟨by rfl, ?_⟩) (KB.out _ GB.out) ?_
      · intro w hSw
        (try dsimp only at hSw)
        go_simp
      simp only [Act.put, List.setIfInBounds_toArray, List.set_cons_zero, List.set_cons_succ]
      refine wpAnyT_take (i := 2) (oi := { dst := some 20, op := Op.indexAddr 22 (Operand.tmp 18) (Operand.tmp 19), type := 0, pos := "law.go:105", after := #[{ on := 0, ground := Ground.data }, { on := 1, ground := Ground.data }], guard := none }) (v := (.pointer (some ⟨b1, o1 + i * 2, none⟩))) rfl (by kernel_rfl) (fun _ _ _ h => h) (Or.inl ⟨by rfl, ?_⟩) (KB.out _ GB.out) ?_
      · intro w hSw
        (try dsimp only at hSw)
        go_simp
      simp only [Act.put, List.setIfInBounds_toArray, List.set_cons_zero, List.set_cons_succ]
      refine wpAnyT_take (i := 3) (oi := { dst := some 21, op := Op.load 43 (Operand.tmp 20), type := 43, pos := "law.go:105", after := #[{ on := 2, ground := Ground.data }], guard := none }) (v := (.agg #[.bool nf, .slice adf xf.length qf])) rfl (by kernel_rfl) (fun _ _ _ h => h) (Or.inl ⟨by rfl, ?_⟩) (KB.out _ GB.out) ?_
      · intro w hSw
        (try dsimp only at hSw)
        go_simp
      simp only [Act.put, List.setIfInBounds_toArray, List.set_cons_zero, List.set_cons_succ]
      refine wpAnyT_take (i := 4) (oi := { dst := some 22, op := Op.move (Operand.tmp 1), type := 22, pos := "law.go:105", after := #[], guard := none }) (v := (.slice (some ⟨b2, o2, none⟩) n cb)) rfl (by kernel_rfl) (fun _ _ _ h => h) (Or.inl ⟨by rfl, ?_⟩) (KB.out _ GB.out) ?_
      · intro w hSw
        (try dsimp only at hSw)
        go_simp
      simp only [Act.put, List.setIfInBounds_toArray, List.set_cons_zero, List.set_cons_succ]
      refine wpAnyT_take (i := 5) (oi := { dst := some 23, op := Op.move (Operand.tmp 5), type := 3, pos := "law.go:105", after := #[], guard := none }) (v := (.int .i64 (i : Int))) rfl (by kernel_rfl) (fun _ _ _ h => h) (Or.inl ⟨by rfl, ?_⟩) (KB.out _ GB.out) ?_
      · intro w hSw
        (try dsimp only at hSw)
        go_simp
      simp only [Act.put, List.setIfInBounds_toArray, List.set_cons_zero, List.set_cons_succ]
      refine wpAnyT_take (i := 6) (oi := { dst := some 24, op := Op.indexAddr 22 (Operand.tmp 22) (Operand.tmp 23), type := 0, pos := "law.go:105", after := #[{ on := 4, ground := Ground.data }, { on := 5, ground := Ground.data }], guard := none }) (v := (.pointer (some ⟨b2, o2 + i * 2, none⟩))) rfl (by kernel_rfl) (fun _ _ _ h => h) (Or.inl ⟨by rfl, ?_⟩) (KB.out _ GB.out) ?_
      · intro w hSw
        (try dsimp only at hSw)
        go_simp
      simp only [Act.put, List.setIfInBounds_toArray, List.set_cons_zero, List.set_cons_succ]
      refine wpAnyT_take (i := 7) (oi := { dst := some 25, op := Op.load 43 (Operand.tmp 24), type := 43, pos := "law.go:105", after := #[{ on := 6, ground := Ground.data }], guard := none }) (v := (.agg #[.bool ng, .slice adg xg.length qg])) rfl (by kernel_rfl) (fun _ _ _ h => h) (Or.inl ⟨by rfl, ?_⟩) (KB.out _ GB.out) ?_
      · intro w hSw
        (try dsimp only at hSw)
        go_simp
      simp only [Act.put, List.setIfInBounds_toArray, List.set_cons_zero, List.set_cons_succ]
      refine wpAnyT_one (i := 8) (o := { dst := some 26, op := Op.call { callee := Callee.value (Operand.func 51), args := #[Operand.tmp 21, Operand.tmp 25], argTypes := #[43, 43] }, type := 4, pos := "law.go:105", after := #[{ on := 3, ground := Ground.data }, { on := 7, ground := Ground.data }], guard := none }) (by kernel_rfl) rfl (fun K hK => ?_)
      go_simp
      go_at_call 51
      refine (HS.out _ GB.out).mono ?_
      rintro e w2 ⟨rfl, b⟩
      have lz2 := (show Below _ _ _ from b).size
      replace GB := hid (below_step GB.out b)
      have G1 := hid (below_step G.out GB.out)
      clear b
      refine hK.out _ _ (fun _ => KB.out _ GB.out) ?_
      clear hK
      refine wpAnyT_one (i := 9) (o := { dst := some 6, op := Op.assign (Operand.tmp 26), type := 4, pos := "law.go:105", after := #[{ on := 8, ground := Ground.data }, { on := 8, ground := Ground.chain }, { on := 0, ground := Ground.phase }, { on := 1, ground := Ground.phase }, { on := 2, ground := Ground.phase }, { on := 3, ground := Ground.phase }, { on := 4, ground := Ground.phase }, { on := 5, ground := Ground.phase }, { on := 6, ground := Ground.phase }, { on := 7, ground := Ground.phase }, { on := 8, ground := Ground.phase }], guard := none }) (by kernel_rfl) rfl (fun K hK => ?_)
      go_simp
      refine hK.out _ _ (fun h => absurd h (by decide)) ?_
      clear hK
      try simp only [Act.put]
      refine wpAnyT_done (by kernel_rfl) ?_ _
      have HN1 : Hid (SameH w n (n - (i + 1)) (.int .i64 ((i + 1 : Nat) : Int)) w2) := ⟨i + 1, rfl, by omega, rfl, G1.out⟩
      have HMM : Hid (n - (i + 1) < gk) := by unfold Hid; rw [HG.out]; omega
      clear HS G HG G1 GB KB
      go_wp2_with fail
      go_roundg (n - (i + 1))
      case rel => exact HN1.out
      case measure => exact HMM.out
    · have hlt' : ¬ (i : Int) < (n : Int) := by omega
      clear HG
      go_wp2
      go_ret
      exact ⟨rfl, G.out⟩
set_option maxHeartbeats 1600000 in
set_option maxRecDepth 100000 in
theorem alikeMats12_yes {w : World} {va vb : Value} {r c k l : Nat} {zs ys : List Int} (ha : Mc w va r c zs k) (hb : Mc w vb r c ys l) (he : zs = ys) :
    Calls Tryz.prog 12 #[va, vb] w fun e w' => e = .returned (.bool true) ∧ Below w.heap.size w w' := by
  subst he
  obtain ⟨ata, pa, rfl, pa1, pa2, -, -, -⟩ := ha
  obtain ⟨atb, pb, rfl, pb1, pb2, -, -, -⟩ := hb
  obtain ⟨W0, hW⟩ : ∃ W0, (w.alloc (matO r c ata)).alloc (matO r c atb) = W0 := ⟨_, rfl⟩
  obtain ⟨b0, sz0⟩ := alloc2 w (matO r c ata) (matO r c atb)
  rw [hW] at b0
  have qa : Cel W0 w.heap.size 24 (matc r c ata) := by
    rw [← hW]
    exact (Cel.new w 24 (matc r c ata)).step ((Below.refl _ _).alloc (Nat.le_refl _) _)
  have qb : Cel W0 (w.heap.size + 1) 24 (matc r c atb) := by
    rw [← hW]
    have := Cel.new (w.alloc (matO r c ata)) 24 (matc r c atb)
    simpa using this
  have HS := hid (alikeRows12_yes (pa1.now b0) (pa2.now b0) (pb1.now b0) (pb2.now b0))
  obtain ⟨aa, ca, rfl, -, -, -, -⟩ := pa1.form
  obtain ⟨ab, cb, rfl, -, -, -, -⟩ := pb1.form
  have x2 := qa.at (i := 2) rfl
  have y2 := qb.at (i := 2) rfl
  rw [← hW] at x2 y2
  have QA := hid qa
  have QB := hid qb
  have q0 : ((r : Int) == (r : Int)) = true := by simp
  have q1 : ((c : Int) == (c : Int)) = true := by simp
  have G0 := hid b0
  have EW := hid hW
  clear b0 sz0 hW qa qb pa1 pa2 pb1 pb2
  go_enter Tryz.func12, Tryz.ntmps12
  go_wp2_with fail
  rw [EW.out]
  refine HS.out.mono ?_
  rintro e w1 ⟨rfl, b⟩
  have x0 := (QA.out.step b).at (i := 0) rfl
  have x1 := (QA.out.step b).at (i := 1) rfl
  have y0 := (QB.out.step b).at (i := 0) rfl
  have y1 := (QB.out.step b).at (i := 1) rfl
  have G1 := hid (below_step G0.out b)
  clear b HS x2 y2 EW QA QB
  go_wp2
  go_ret
  exact ⟨rfl, G1.out⟩
set_option maxHeartbeats 3200000 in
set_option maxRecDepth 100000 in
theorem sound12 {w : World} {r c : Int} {a : Option Addr} {l cap : Nat} (hl : l ≤ 1048576) : Calls Tryz.prog 5 #[.agg #[.int .i64 r, .int .i64 c, .slice a l cap]] w (Sounded w r c l) := by
  have b0 := (alo1 w (.cells #[.int .i64 r, .int .i64 c, .slice a l cap] 24)).1
  have P1 := Cel.new w 24 [.int .i64 r, .int .i64 c, .slice a l cap]
  have x0 := P1.at (i := 0) rfl
  have x1 := P1.at (i := 1) rfl
  have x2 := P1.at (i := 2) rfl
  have G0 := hid b0
  clear b0 P1
  by_cases h1 : 0 ≤ r
  case neg =>
    have FIN : Hid (Sounded w r c l (.returned (.bool false)) (w.alloc (.cells #[.int .i64 r, .int .i64 c, .slice a l cap] 24))) := ⟨false, rfl, ⟨(fun e => by cases e), (fun e => by unfold Snd at e; omega)⟩, G0.out⟩
    go_enter Tryz.func5, Tryz.ntmps5
    go_wp2
    go_ret
    exact FIN.out
  by_cases h2 : r ≤ 64
  case neg =>
    have FIN : Hid (Sounded w r c l (.returned (.bool false)) (w.alloc (.cells #[.int .i64 r, .int .i64 c, .slice a l cap] 24))) := ⟨false, rfl, ⟨(fun e => by cases e), (fun e => by unfold Snd at e; omega)⟩, G0.out⟩
    go_enter Tryz.func5, Tryz.ntmps5
    go_wp2
    go_ret
    exact FIN.out
  by_cases h3 : 0 ≤ c
  case neg =>
    have FIN : Hid (Sounded w r c l (.returned (.bool false)) (w.alloc (.cells #[.int .i64 r, .int .i64 c, .slice a l cap] 24))) := ⟨false, rfl, ⟨(fun e => by cases e), (fun e => by unfold Snd at e; omega)⟩, G0.out⟩
    go_enter Tryz.func5, Tryz.ntmps5
    go_wp2
    go_ret
    exact FIN.out
  by_cases h4 : c ≤ 64
  case neg =>
    have FIN : Hid (Sounded w r c l (.returned (.bool false)) (w.alloc (.cells #[.int .i64 r, .int .i64 c, .slice a l cap] 24))) := ⟨false, rfl, ⟨(fun e => by cases e), (fun e => by unfold Snd at e; omega)⟩, G0.out⟩
    go_enter Tryz.func5, Tryz.ntmps5
    go_wp2
    go_ret
    exact FIN.out
  have hm : 0 ≤ r * c ∧ r * c ≤ 64 * 64 := ⟨Int.mul_nonneg h1 h3, Int.mul_le_mul h2 h4 h3 (by omega)⟩
  have hw : IntKind.i64.wrap (r * c) = r * c := by rw [wrap_is] <;> omega
  obtain ⟨q, hq⟩ : ∃ q, r * c = q := ⟨_, rfl⟩
  have HQ := hid hq
  replace hw : IntKind.i64.wrap (r * c) = q := hw.trans hq
  have hw2 := hw
  rw [IntKind.wrap_i64] at hw2
  rw [hq] at hm
  by_cases h5 : (l : Int) = q
  case neg =>
    have h6 : ((l : Int) == q) = false := by simpa using h5
    have FIN : Hid (Sounded w r c l (.returned (.bool false)) (w.alloc (.cells #[.int .i64 r, .int .i64 c, .slice a l cap] 24))) := ⟨false, rfl, ⟨(fun e => by cases e), (fun e => by unfold Snd at e; rw [HQ.out] at e; exact absurd e.2.2.2.2 h5)⟩, G0.out⟩
    clear hq
    go_enter Tryz.func5, Tryz.ntmps5
    go_wp2
    go_ret
    exact FIN.out
  case pos =>
    have h6 : ((l : Int) == q) = true := by simpa using h5
    have FIN : Hid (Sounded w r c l (.returned (.bool true)) (w.alloc (.cells #[.int .i64 r, .int .i64 c, .slice a l cap] 24))) := ⟨true, rfl, ⟨fun _ => ⟨h1, h2, h3, h4, h5.trans HQ.out.symm⟩, fun _ => rfl⟩, G0.out⟩
    clear hq
    go_enter Tryz.func5, Tryz.ntmps5
    go_wp2
    go_ret
    exact FIN.out
end Go.Proofs.YtiedmlfiboalhaaGreat
