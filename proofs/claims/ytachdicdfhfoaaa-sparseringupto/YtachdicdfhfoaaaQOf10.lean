/-
  Of10: Of, at a sound matrix.
-/
import Derived.Test.YtachdicdfhfoaaaQAdd10
import Derived.Test.YtachdicdfhfoaaaQAdd9
namespace Go.Proofs.Ytachdicdfhfoaaa
open Go.RowKit Go.ChangeMaps Go.MapKept
set_option linter.unusedVariables false

/-- A matrix as a grid sees it, its first t places. -/
def ofF (c : Nat) (zs : List Int) (t : Nat) : Nat → Nat → Int := fun i j => if j < c ∧ i * c + j < t then zs.getD (i * c + j) 0 else 0
theorem ofF_zero (c : Nat) (zs : List Int) : ∀ i j, (fun _ _ => (0 : Int)) i j = ofF c zs 0 i j := fun i j => by simp [ofF]
theorem ofF_step {c t : Nat} {zs : List Int} (hc : 0 < c) : ∀ i j, setF (ofF c zs t) (t / c, t % c) (zs.getD t 0) i j = ofF c zs (t + 1) i j := fun i j => by
  have h0 := Nat.div_add_mod t c
  have h1 := Nat.mod_lt t hc
  unfold setF ofF
  by_cases e : (i, j) = (t / c, t % c)
  · rw [if_pos e]
    simp only [Prod.mk.injEq] at e
    have : i * c + j = t := by rw [e.1, e.2, Nat.mul_comm]; exact h0
    rw [if_pos ⟨by omega, by omega⟩, this]
  · rw [if_neg e]
    by_cases hj : j < c
    · have hne : i * c + j ≠ t := fun q => e (by
        have e1 : (i * c + j) / c = i := by rw [Nat.mul_comm, Nat.mul_add_div hc, Nat.div_eq_of_lt hj]; rfl
        have e3 : (i * c + j) % c = j := by rw [Nat.mul_comm, Nat.mul_add_mod, Nat.mod_eq_of_lt hj]
        rw [q] at e1 e3
        rw [e1, e3])
      by_cases hl : i * c + j < t
      · rw [if_pos ⟨hj, hl⟩, if_pos ⟨hj, by omega⟩]
      · rw [if_neg (by omega), if_neg (by omega)]
    · rw [if_neg (by omega), if_neg (by omega)]
def HypOf (w : World) (g' b' mb r c N k : Nat) (at_ : Value) (zs : List Int) (gk : Nat) (s : Value) (wx : World) : Prop :=
  ∃ t : Nat, s = .int .i64 (t : Int) ∧ t ≤ N ∧ gk = N - t ∧ Gq wx g' b' r c (ofF c zs t) k ∧ Cel wx mb 24 [.int .i64 (r : Int), .int .i64 (c : Int), at_] ∧ Below w.heap.size w wx
set_option maxHeartbeats 3200000 in
set_option maxRecDepth 100000 in
theorem of_any {w : World} {v : Value} {r c k : Nat} {zs : List Int} (h : Mx w v r c zs k) : Calls Try.prog 7 #[v] w (MadeG2 w r c (ofF c zs (r * c)) k) := by
  obtain ⟨a0, cap0, rfl, hr, hc⟩ := h.form
  obtain ⟨N, hN⟩ : ∃ N, r * c = N := ⟨_, rfl⟩
  have hrc : r * c ≤ 64 * 64 := Nat.mul_le_mul hr hc
  have HNN := hid hN
  rw [hN] at h hrc ⊢
  obtain ⟨hzl, hln⟩ := h.zl
  rw [hN] at hln
  obtain ⟨W0, hW⟩ : ∃ W0, w.alloc (.cells #[.int .i64 (r : Int), .int .i64 (c : Int), .slice a0 N cap0] 24) = W0 := ⟨_, rfl⟩
  obtain ⟨b0, sz0⟩ := alo1 w (.cells #[.int .i64 (r : Int), .int .i64 (c : Int), .slice a0 N cap0] 24)
  rw [hW] at b0 sz0
  have PB : Cel W0 w.heap.size 24 [.int .i64 (r : Int), .int .i64 (c : Int), .slice a0 N cap0] := by rw [← hW]; exact Cel.new w 24 [.int .i64 (r : Int), .int .i64 (c : Int), .slice a0 N cap0]
  have HC := hid (check_yes (h.now b0))
  have x0 := PB.at (i := 0) rfl
  have x1 := PB.at (i := 1) rfl
  have x2 := PB.at (i := 2) rfl
  have P0 := hid PB
  have G0 := hid b0
  have EW := hid hW
  have SZ := hid sz0
  have HZL := hid hzl
  have HLN := hid hln
  clear hzl h b0 hW sz0 PB hN hln
  show Calls Try.prog 7 #[.agg #[.int .i64 (r : Int), .int .i64 (c : Int), .slice a0 N cap0]] w _
  go_enter Try.func7, Try.ntmps7
  go_wp2_with fail
  rw [EW.out]
  refine HC.out.mono ?_
  rintro e w1 ⟨rfl, b1⟩
  replace P0 := hid (P0.out.step b1)
  replace G0 := hid (below_step G0.out b1)
  have hs1 := b1.size
  clear EW HC x0 x1 x2 b1
  have x0 := P0.out.at (i := 0) rfl
  have x1 := P0.out.at (i := 1) rfl
  go_wp2_with fail
  refine (empty_any (w := w1) (r := r) (c := c) (by omega) (by omega)).mono ?_
  rintro e w2 ⟨g', b', rfl, hg, hm, hgg, hbb, b2⟩
  replace P0 := hid (P0.out.step b2)
  replace G0 := hid (below_step G0.out b2)
  have hs0 := SZ.out
  have EB : Hid (w.heap.size < g' ∧ w.heap.size < b') := ⟨by omega, by omega⟩
  have H0 : Hid (HypOf w g' b' w.heap.size r c N k (.slice a0 N cap0) zs N (.int .i64 0) w2) := ⟨0, rfl, Nat.zero_le _, by omega, (Gq.empty hg hm).ext (ofF_zero c zs), P0.out, G0.out⟩
  clear x0 x1
  have x2 := P0.out.at (i := 2) rfl
  clear hg hm hgg hbb b2 hs1 hs0 P0 G0 SZ
  go_wp2_with fail
  clear x2
  go_loopg [21] N (fun gk s wx => HypOf w g' b' w.heap.size r c N k (.slice a0 N cap0) zs gk s wx)
  case atStart => exact H0.out
  case round =>
    clear H0
    obtain ⟨t, rfl, htn, hgk, hgq, hpm, hG⟩ := hrel
    have GQ := hid hgq
    have PM := hid hpm
    have G := hid hG
    have HGK := hid hgk
    clear hgq hpm hG hgk
    by_cases hlt : t < N
    · have hlt' : (t : Int) < (N : Int) := by omega
      have hc0 : 0 < c := Nat.pos_of_ne_zero (fun e => by have := HNN.out; rw [e, Nat.mul_zero] at this; omega)
      have hcz : ¬ c = 0 := by omega
      obtain ⟨fa, fc, fe, -, -, fs⟩ := HZL.out.form9
      obtain ⟨ba, oa, rfl⟩ : ∃ b off, a0 = some ⟨b, off, none⟩ := by
        simp only [Value.slice.injEq] at fe
        obtain ⟨rfl, -, -⟩ := fe
        exact fs (fun e => by have := HLN.out; rw [e] at this; simp at this; omega)
      clear fe fs
      obtain ⟨m, xs, a, cc, k0, k1, zf⟩ := (HZL.out.now G.out).at9 (i := t) (by rw [HLN.out]; exact hlt)
      rw [getD_at] at zf
      obtain ⟨V6, hV⟩ : ∃ V6, wr.alloc (duo (.bool m) (.slice a xs.length cc)) = V6 := ⟨_, rfl⟩
      obtain ⟨b6, sz6⟩ := alo1 wr (duo (.bool m) (.slice a xs.length cc))
      rw [hV] at b6 sz6
      have PV : Duo V6 wr.heap.size (.bool m) (.slice a xs.length cc) := by rw [← hV]; exact heap_alloc_new wr _
      obtain ⟨f', n', hg3, hm3, hf3, hw3⟩ := GQ.out.now b6
      have y2 := hg3.1.at (i := 2) rfl
      have HG3 := hid hg3
      have HM3 := hid hm3
      have HF3 := hid hf3
      have HW3 := hid hw3
      have G2 := hid (below_step G.out b6)
      have PM2 := hid (PM.out.step b6)
      have ZF2 := hid (zf.now b6)
      have EV := hid hV
      have v0 := PV.c0
      have v1 := PV.c1
      have z1 := PM2.out.at (i := 1) rfl
      have hqr : t / c < r := by
        rw [Nat.div_lt_iff_lt_mul hc0, HNN.out]; exact hlt
      have hmc : t % c < c := Nat.mod_lt t hc0
      have hq1 : (t : Int).tdiv (c : Int) = ((t / c : Nat) : Int) := by rw [Int.ofNat_tdiv]
      have hq3 : (t : Int).tmod (c : Int) = ((t % c : Nat) : Int) := by rw [Int.ofNat_tmod]
      have HST : Hid (∀ z, z = zs.getD t 0 → ∀ i j, setF (ofF c zs t) (t / c, t % c) z i j = ofF c zs (t + 1) i j) := fun z e => by rw [e]; exact ofF_step hc0
      obtain ⟨q, hq⟩ : ∃ q, t / c = q := ⟨_, rfl⟩
      obtain ⟨p, hp⟩ : ∃ p, t % c = p := ⟨_, rfl⟩
      rw [hq] at hqr hq1 HST
      rw [hp] at hmc hq3 HST
      have hq2 : IntKind.i64.wrap (q : Int) = (q : Int) := wrap_is (by omega) (by omega)
      have hq4 : IntKind.i64.wrap (p : Int) = (p : Int) := wrap_is (by omega) (by omega)
      have HOK : Hid (spok (q, p)) := ⟨by show q < 1048576; omega, by show p < 1048576; omega⟩
      have HQP := hid (And.intro hqr hmc)
      have hw := wrapI9 (i := t) (by omega)
      clear hV b6 sz6 GQ PM G PV hg3 hm3 hf3 hw3 zf hq hp hqr hmc hc0
      go_wp2_with fail
      rw [EV.out]
      clear EV k0 k1
      have KB : Hid (∀ w', Below V6.heap.size V6 w' → w'.cell? ⟨g', 2, none⟩ = some (.map (some b')) ∧ w'.cell? ⟨w.heap.size, 1, none⟩ = some (.int .i64 (c : Int)) ∧ w'.cell? ⟨wr.heap.size, 0, none⟩ = some (.bool m) ∧ w'.cell? ⟨wr.heap.size, 1, none⟩ = some (.slice a xs.length cc)) := fun w' h => ⟨cnow h y2, cnow h z1, cnow h v0, cnow h v1⟩
      refine wp_region_tail (fun w' => w'.cell? ⟨g', 2, none⟩ = some (.map (some b')) ∧ w'.cell? ⟨w.heap.size, 1, none⟩ = some (.int .i64 (c : Int)) ∧ w'.cell? ⟨wr.heap.size, 0, none⟩ = some (.bool m) ∧ w'.cell? ⟨wr.heap.size, 1, none⟩ = some (.slice a xs.length cc)) 15 (by kernel_rfl) ?_
      obtain ⟨D21, hD⟩ : ∃ D21, V6.drew = D21 := ⟨_, rfl⟩
      have GB : Hid (Below V6.heap.size V6 D21) := by unfold Hid; rw [← hD]; exact (Below.refl _ _).drew
      rw [hD]
      clear hD
      refine wpAnyT_take (i := 0) (oi := { dst := some 26, op := Op.move (Operand.tmp 5), type := 27, pos := "sparse.go:35", after := #[], guard := none }) (v := (.pointer (some ⟨g', 0, none⟩))) rfl (by kernel_rfl) (fun _ _ _ h => h) (Or.inl ⟨by rfl, ?_⟩) (KB.out _ GB.out) ?_
      · intro w hSw
        (try dsimp only at hSw)
        go_simp
      simp only [Act.put, List.setIfInBounds_toArray, List.set_cons_zero, List.set_cons_succ]
      refine wpAnyT_take (i := 1) (oi := { dst := some 27, op := Op.nilCheck (Operand.tmp 26), type := 0, pos := "sparse.go:35", after := #[{ on := 0, ground := Ground.data }], guard := none }) (v := (.pointer (some ⟨g', 0, none⟩))) rfl (by kernel_rfl) (fun _ _ _ h => h) (Or.inl ⟨by rfl, ?_⟩) (KB.out _ GB.out) ?_
      · intro w hSw
        (try dsimp only at hSw)
        go_simp
      simp only [Act.put, List.setIfInBounds_toArray, List.set_cons_zero, List.set_cons_succ]
      refine wpAnyT_take (i := 2) (oi := { dst := some 28, op := Op.fieldAddr 68 (Operand.tmp 27) 2, type := 0, pos := "sparse.go:35", after := #[{ on := 1, ground := Ground.data }], guard := none }) (v := (.pointer (some ⟨g', 2, none⟩))) rfl (by kernel_rfl) (fun _ _ _ h => h) (Or.inl ⟨by rfl, ?_⟩) (KB.out _ GB.out) ?_
      · intro w hSw
        (try dsimp only at hSw)
        go_simp
      simp only [Act.put, List.setIfInBounds_toArray, List.set_cons_zero, List.set_cons_succ]
      refine wpAnyT_take (i := 3) (oi := { dst := some 29, op := Op.load 66 (Operand.tmp 28), type := 66, pos := "sparse.go:35", after := #[{ on := 2, ground := Ground.data }], guard := none }) (v := (.map (some b'))) rfl (by kernel_rfl) (fun _ _ _ h => h) (Or.inl ⟨by rfl, ?_⟩) (KB.out _ GB.out) ?_
      · intro w hSw
        (try dsimp only at hSw)
        go_simp
      simp only [Act.put, List.setIfInBounds_toArray, List.set_cons_zero, List.set_cons_succ]
      refine wpAnyT_take (i := 4) (oi := { dst := some 30, op := Op.move (Operand.tmp 6), type := 3, pos := "sparse.go:35", after := #[], guard := none }) (v := (.int .i64 (t : Int))) rfl (by kernel_rfl) (fun _ _ _ h => h) (Or.inl ⟨by rfl, ?_⟩) (KB.out _ GB.out) ?_
      · intro w hSw
        (try dsimp only at hSw)
        go_simp
      simp only [Act.put, List.setIfInBounds_toArray, List.set_cons_zero, List.set_cons_succ]
      refine wpAnyT_take (i := 5) (oi := { dst := some 31, op := Op.fieldAddr 24 (Operand.tmp 1) 1, type := 0, pos := "sparse.go:35", after := #[], guard := none }) (v := (.pointer (some ⟨w.heap.size, 1, none⟩))) rfl (by kernel_rfl) (fun _ _ _ h => h) (Or.inl ⟨by rfl, ?_⟩) (KB.out _ GB.out) ?_
      · intro w hSw
        (try dsimp only at hSw)
        go_simp
      simp only [Act.put, List.setIfInBounds_toArray, List.set_cons_zero, List.set_cons_succ]
      refine wpAnyT_take (i := 6) (oi := { dst := some 32, op := Op.load 3 (Operand.tmp 31), type := 3, pos := "sparse.go:35", after := #[{ on := 5, ground := Ground.data }], guard := none }) (v := (.int .i64 (c : Int))) rfl (by kernel_rfl) (fun _ _ _ h => h) (Or.inl ⟨by rfl, ?_⟩) (KB.out _ GB.out) ?_
      · intro w hSw
        (try dsimp only at hSw)
        go_simp
      simp only [Act.put, List.setIfInBounds_toArray, List.set_cons_zero, List.set_cons_succ]
      refine wpAnyT_take (i := 7) (oi := { dst := some 33, op := Op.binOp BinOp.quo 3 (Operand.tmp 30) (Operand.tmp 32) 3, type := 3, pos := "sparse.go:35", after := #[{ on := 4, ground := Ground.data }, { on := 6, ground := Ground.data }], guard := none }) (v := (.int .i64 (q : Int))) rfl (by kernel_rfl) (fun _ _ _ h => h) (Or.inl ⟨by rfl, ?_⟩) (KB.out _ GB.out) ?_
      · intro w hSw
        (try dsimp only at hSw)
        go_simp
      simp only [Act.put, List.setIfInBounds_toArray, List.set_cons_zero, List.set_cons_succ]
      refine wpAnyT_take (i := 8) (oi := { dst := some 34, op := Op.move (Operand.tmp 6), type := 3, pos := "sparse.go:35", after := #[], guard := none }) (v := (.int .i64 (t : Int))) rfl (by kernel_rfl) (fun _ _ _ h => h) (Or.inl ⟨by rfl, ?_⟩) (KB.out _ GB.out) ?_
      · intro w hSw
        (try dsimp only at hSw)
        go_simp
      simp only [Act.put, List.setIfInBounds_toArray, List.set_cons_zero, List.set_cons_succ]
      refine wpAnyT_take (i := 9) (oi := { dst := some 35, op := Op.fieldAddr 24 (Operand.tmp 1) 1, type := 0, pos := "sparse.go:35", after := #[], guard := none }) (v := (.pointer (some ⟨w.heap.size, 1, none⟩))) rfl (by kernel_rfl) (fun _ _ _ h => h) (Or.inl ⟨by rfl, ?_⟩) (KB.out _ GB.out) ?_
      · intro w hSw
        (try dsimp only at hSw)
        go_simp
      simp only [Act.put, List.setIfInBounds_toArray, List.set_cons_zero, List.set_cons_succ]
      refine wpAnyT_take (i := 10) (oi := { dst := some 36, op := Op.load 3 (Operand.tmp 35), type := 3, pos := "sparse.go:35", after := #[{ on := 9, ground := Ground.data }], guard := none }) (v := (.int .i64 (c : Int))) rfl (by kernel_rfl) (fun _ _ _ h => h) (Or.inl ⟨by rfl, ?_⟩) (KB.out _ GB.out) ?_
      · intro w hSw
        (try dsimp only at hSw)
        go_simp
      simp only [Act.put, List.setIfInBounds_toArray, List.set_cons_zero, List.set_cons_succ]
      refine wpAnyT_take (i := 11) (oi := { dst := some 37, op := Op.binOp BinOp.rem 3 (Operand.tmp 34) (Operand.tmp 36) 3, type := 3, pos := "sparse.go:35", after := #[{ on := 8, ground := Ground.data }, { on := 10, ground := Ground.data }], guard := none }) (v := (.int .i64 (p : Int))) rfl (by kernel_rfl) (fun _ _ _ h => h) (Or.inl ⟨by rfl, ?_⟩) (KB.out _ GB.out) ?_
      · intro w hSw
        (try dsimp only at hSw)
        go_simp
      simp only [Act.put, List.setIfInBounds_toArray, List.set_cons_zero, List.set_cons_succ]
      refine wpAnyT_take (i := 12) (oi := { dst := some 38, op := Op.build 71 #[(0, Operand.tmp 33), (1, Operand.tmp 37)], type := 71, pos := "sparse.go:35", after := #[{ on := 7, ground := Ground.data }, { on := 11, ground := Ground.data }], guard := none }) (v := (.agg #[.int .i64 (q : Int), .int .i64 (p : Int)])) rfl (by kernel_rfl) (fun _ _ _ h => h) (Or.inl ⟨by rfl, ?_⟩) (KB.out _ GB.out) ?_
      · intro w hSw
        (try dsimp only at hSw)
        go_simp
      simp only [Act.put, List.setIfInBounds_toArray, List.set_cons_zero, List.set_cons_succ]
      refine wpAnyT_take (i := 13) (oi := { dst := some 39, op := Op.load 35 (Operand.tmp 7), type := 35, pos := "sparse.go:35", after := #[], guard := none }) (v := (.agg #[.bool m, .slice a xs.length cc])) rfl (by kernel_rfl) (fun _ _ _ h => h) (Or.inl ⟨by rfl, ?_⟩) (KB.out _ GB.out) ?_
      · intro w hSw
        (try dsimp only at hSw)
        go_simp
      simp only [Act.put, List.setIfInBounds_toArray, List.set_cons_zero, List.set_cons_succ]
      refine wpAnyT_one (i := 14) (o := { dst := some 40, op := Op.call { callee := Callee.value (Operand.func 34), args := #[Operand.tmp 39], argTypes := #[35] }, type := 35, pos := "sparse.go:35", after := #[{ on := 13, ground := Ground.data }], guard := none }) (by kernel_rfl) rfl (fun K hK => ?_)
      go_simp
      go_at_call 34
      refine (least_z (ZF2.out.now GB.out)).mono ?_
      rintro e w22 ⟨v, rfl, m1, b⟩
      have lz22 := (show Below _ _ _ from b).size
      replace GB := hid (below_step GB.out b)
      have M1 := hid m1
      clear m1
      clear b
      refine hK.out _ _ (fun _ => KB.out _ GB.out) ?_
      clear hK
      refine wpAnyT_one (i := 15) (o := { dst := some 41, op := Op.call { callee := Callee.value (Operand.func 33), args := #[Operand.tmp 29, Operand.tmp 38, Operand.tmp 40], argTypes := #[66, 71, 35] }, type := 0, pos := "sparse.go:35", after := #[{ on := 3, ground := Ground.data }, { on := 12, ground := Ground.data }, { on := 14, ground := Ground.data }, { on := 14, ground := Ground.chain }], guard := none }) (by kernel_rfl) rfl (fun K hK => ?_)
      go_simp
      go_at_call 33
      refine (put_any (s := (q, p)) (HM3.out.now GB.out) (wide_room HG3.out.2.1 HG3.out.2.2 (HM3.out.count2 HW3.out)) HOK.out M1.out.zi).mono ?_
      rintro e wz ⟨rfl, q1, q2⟩
      have hm4 := HM3.out.now GB.out
      have GQ3 : Hid (Gq wz g' b' r c _ k) := Gq.put (HG3.out.now GB.out) hm4 (HF3.out.now GB.out) HW3.out (M1.out.mono (Nat.zero_le _)) (s := (q, p)) HQP.out.1 HQP.out.2 q1 q2
      have PM3 := hid ((PM2.out.step GB.out).cl (hm4.cl q2))
      have G3 := hid (below_grown (below_step G2.out GB.out) q2 (Nat.le_of_lt EB.out.2))
      clear q1 q2 hm4
      refine hK.out _ _ (fun h => absurd h (by decide)) ?_
      clear hK
      refine wpAnyT_done (by kernel_rfl) ?_ _
      have HN1 : Hid (HypOf w g' b' w.heap.size r c N k (.slice (some ⟨ba, oa, none⟩) N cap0) zs (N - (t + 1)) (.int .i64 ((t + 1 : Nat) : Int)) wz) := ⟨t + 1, rfl, by omega, rfl, GQ3.out.ext (HST.out _ rfl), PM3.out, G3.out⟩
      have HMM : Hid (N - (t + 1) < gk) := by unfold Hid; rw [HGK.out]; omega
      clear HG3 HM3 HF3 HW3 G2 PM2 ZF2 M1 GB KB v0 v1 z1 y2 GQ3 PM3 G3 HST hq1 hq2 hq3 hq4
      go_wp2_with fail
      go_roundg (N - (t + 1))
      case rel => exact HN1.out
      case measure => exact HMM.out
    · have hlt' : ¬ (t : Int) < (N : Int) := by omega
      obtain rfl : t = N := by omega
      have FIN : Hid (MadeG2 w r c (ofF c zs t) k (.returned (.tuple #[.pointer (some ⟨g', 0, none⟩), .int .i64 0])) wr) := ⟨_, _, rfl, GQ.out, Nat.le_of_lt EB.out.1, Nat.le_of_lt EB.out.2, G.out⟩
      clear GQ PM G HGK
      go_wp2
      go_ret2
      exact FIN.out
end Go.Proofs.Ytachdicdfhfoaaa
