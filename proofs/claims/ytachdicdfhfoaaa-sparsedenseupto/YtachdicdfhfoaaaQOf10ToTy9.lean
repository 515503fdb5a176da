/-
  QOf10ToTy9: Of10, Ty9, joined.
-/
import Derived.Test.YtachdicdfhfoaaaQAdd10
import Derived.Test.YtachdicdfhfoaaaQAdd9
import Derived.Test.YtachdicdfhfoaaaQCat9

/- Of10 -/
namespace Go.Proofs.Ytachdicdfhfoaaa
open Go.RowKit Go.ChangeMaps Go.MapKept
set_option linter.unusedVariables false

/-- A matrix as a grid sees it, its first t places. -/
def ofF (c : Nat) (zs : List Int) (t : Nat) : Nat → Nat → Int := fun i j => if j < c ∧ i * c + j < t then zs.getD (i * c + j) 0 else 0
theorem ofF_zero (c : Nat) (zs : List Int) : ∀ i j, (fun _ _ => (0 : Int)) i j = ofF c zs 0 i j := fun i j => by simp [ofF]
theorem ofF_step {c t : Nat} {zs : List Int} (hc : 0 < c) : ∀ i j, setF (ofF c zs t) (t / c, t % c) (zs.getD t 0) i j = ofF c zs (t + 1) i j := fun i j => by
  have h0 := Nat.div_add_mod t c
  have h1 := Nat.mod_lt t hc
  unfold setF ofF
  by_cases e : (i, j) = (t / c, t % c)
  · rw [if_pos e]
    simp only [Prod.mk.injEq] at e
    have : i * c + j = t := by rw [e.1, e.2, Nat.mul_comm]; exact h0
    rw [if_pos ⟨by omega, by omega⟩, this]
  · rw [if_neg e]
    by_cases hj : j < c
    · have hne : i * c + j ≠ t := fun q => e (by
        have e1 : (i * c + j) / c = i := by rw [Nat.mul_comm, Nat.mul_add_div hc, Nat.div_eq_of_lt hj]; rfl
        have e3 : (i * c + j) % c = j := by rw [Nat.mul_comm, Nat.mul_add_mod, Nat.mod_eq_of_lt hj]
        rw [q] at e1 e3
        rw [e1, e3])
      by_cases hl : i * c + j < t
      · rw [if_pos ⟨hj, hl⟩, if_pos ⟨hj, by omega⟩]
      · rw [if_neg (by omega), if_neg (by omega)]
    · rw [if_neg (by omega), if_neg (by omega)]
def HypOf (w : World) (g' b' mb r c N k : Nat) (at_ : Value) (zs : List Int) (gk : Nat) (s : Value) (wx : World) : Prop :=
  ∃ t : Nat, s = .int .i64 (t : Int) ∧ t ≤ N ∧ gk = N - t ∧ Gq wx g' b' r c (ofF c zs t) k ∧ Cel wx mb 24 [.int .i64 (r : Int), .int .i64 (c : Int), at_] ∧ Below w.heap.size w wx
set_option maxHeartbeats 3200000 in
set_option maxRecDepth 100000 in
theorem of_any {w : World} {v : Value} {r c k : Nat} {zs : List Int} (h : Mx w v r c zs k) : Calls Try.prog 7 #[v] w (MadeG2 w r c (ofF c zs (r * c)) k) := by
  obtain ⟨a0, cap0, rfl, hr, hc⟩ := h.form
  obtain ⟨N, hN⟩ : ∃ N, r * c = N := ⟨_, rfl⟩
  have hrc : r * c ≤ 64 * 64 := Nat.mul_le_mul hr hc
  have HNN := hid hN
  rw [hN] at h hrc ⊢
  obtain ⟨hzl, hln⟩ := h.zl
  rw [hN] at hln
  obtain ⟨W0, hW⟩ : ∃ W0, w.alloc (.cells #[.int .i64 (r : Int), .int .i64 (c : Int), .slice a0 N cap0] 24) = W0 := ⟨_, rfl⟩
  obtain ⟨b0, sz0⟩ := alo1 w (.cells #[.int .i64 (r : Int), .int .i64 (c : Int), .slice a0 N cap0] 24)
  rw [hW] at b0 sz0
  have PB : Cel W0 w.heap.size 24 [.int .i64 (r : Int), .int .i64 (c : Int), .slice a0 N cap0] := by rw [← hW]; exact Cel.new w 24 [.int .i64 (r : Int), .int .i64 (c : Int), .slice a0 N cap0]
  have HC := hid (check_yes (h.now b0))
  have x0 := PB.at (i := 0) rfl
  have x1 := PB.at (i := 1) rfl
  have x2 := PB.at (i := 2) rfl
  have P0 := hid PB
  have G0 := hid b0
  have EW := hid hW
  have SZ := hid sz0
  have HZL := hid hzl
  have HLN := hid hln
  clear hzl h b0 hW sz0 PB hN hln
  show Calls Try.prog 7 #[.agg #[.int .i64 (r : Int), .int .i64 (c : Int), .slice a0 N cap0]] w _
  go_enter Try.func7, Try.ntmps7
  go_wp2_with fail
  rw [EW.out]
  refine HC.out.mono ?_
  rintro e w1 ⟨rfl, b1⟩
  replace P0 := hid (P0.out.step b1)
  replace G0 := hid (below_step G0.out b1)
  have hs1 := b1.size
  clear EW HC x0 x1 x2 b1
  have x0 := P0.out.at (i := 0) rfl
  have x1 := P0.out.at (i := 1) rfl
  go_wp2_with fail
  refine (empty_any (w := w1) (r := r) (c := c) (by omega) (by omega)).mono ?_
  rintro e w2 ⟨g', b', rfl, hg, hm, hgg, hbb, b2⟩
  replace P0 := hid (P0.out.step b2)
  replace G0 := hid (below_step G0.out b2)
  have hs0 := SZ.out
  have EB : Hid (w.heap.size < g' ∧ w.heap.size < b') := ⟨by omega, by omega⟩
  have H0 : Hid (HypOf w g' b' w.heap.size r c N k (.slice a0 N cap0) zs N (.int .i64 0) w2) := ⟨0, rfl, Nat.zero_le _, by omega, (Gq.empty hg hm).ext (ofF_zero c zs), P0.out, G0.out⟩
  clear x0 x1
  have x2 := P0.out.at (i := 2) rfl
  clear hg hm hgg hbb b2 hs1 hs0 P0 G0 SZ
  go_wp2_with fail
  clear x2
  go_loopg [21] N (fun gk s wx => HypOf w g' b' w.heap.size r c N k (.slice a0 N cap0) zs gk s wx)
  case atStart => exact H0.out
  case round =>
    clear H0
    obtain ⟨t, rfl, htn, hgk, hgq, hpm, hG⟩ := hrel
    have GQ := hid hgq
    have PM := hid hpm
    have G := hid hG
    have HGK := hid hgk
    clear hgq hpm hG hgk
    by_cases hlt : t < N
    · have hlt' : (t : Int) < (N : Int) := by omega
      have hc0 : 0 < c := Nat.pos_of_ne_zero (fun e => by have := HNN.out; rw [e, Nat.mul_zero] at this; omega)
      have hcz : ¬ c = 0 := by omega
      obtain ⟨fa, fc, fe, -, -, fs⟩ := HZL.out.form9
      obtain ⟨ba, oa, rfl⟩ : ∃ b off, a0 = some ⟨b, off, none⟩ := by
        simp only [Value.slice.injEq] at fe
        obtain ⟨rfl, -, -⟩ := fe
        exact fs (fun e => by have := HLN.out; rw [e] at this; simp at this; omega)
      clear fe fs
      obtain ⟨m, xs, a, cc, k0, k1, zf⟩ := (HZL.out.now G.out).at9 (i := t) (by rw [HLN.out]; exact hlt)
      rw [getD_at] at zf
      obtain ⟨V6, hV⟩ : ∃ V6, wr.alloc (duo (.bool m) (.slice a xs.length cc)) = V6 := ⟨_, rfl⟩
      obtain ⟨b6, sz6⟩ := alo1 wr (duo (.bool m) (.slice a xs.length cc))
      rw [hV] at b6 sz6
      have PV : Duo V6 wr.heap.size (.bool m) (.slice a xs.length cc) := by rw [← hV]; exact heap_alloc_new wr _
      obtain ⟨f', n', hg3, hm3, hf3, hw3⟩ := GQ.out.now b6
      have y2 := hg3.1.at (i := 2) rfl
      have HG3 := hid hg3
      have HM3 := hid hm3
      have HF3 := hid hf3
      have HW3 := hid hw3
      have G2 := hid (below_step G.out b6)
      have PM2 := hid (PM.out.step b6)
      have ZF2 := hid (zf.now b6)
      have EV := hid hV
      have v0 := PV.c0
      have v1 := PV.c1
      have z1 := PM2.out.at (i := 1) rfl
      have hqr : t / c < r := by
        rw [Nat.div_lt_iff_lt_mul hc0, HNN.out]; exact hlt
      have hmc : t % c < c := Nat.mod_lt t hc0
      have hq1 : (t : Int).tdiv (c : Int) = ((t / c : Nat) : Int) := by rw [Int.ofNat_tdiv]
      have hq3 : (t : Int).tmod (c : Int) = ((t % c : Nat) : Int) := by rw [Int.ofNat_tmod]
      have HST : Hid (∀ z, z = zs.getD t 0 → ∀ i j, setF (ofF c zs t) (t / c, t % c) z i j = ofF c zs (t + 1) i j) := fun z e => by rw [e]; exact ofF_step hc0
      obtain ⟨q, hq⟩ : ∃ q, t / c = q := ⟨_, rfl⟩
      obtain ⟨p, hp⟩ : ∃ p, t % c = p := ⟨_, rfl⟩
      rw [hq] at hqr hq1 HST
      rw [hp] at hmc hq3 HST
      have hq2 : IntKind.i64.wrap (q : Int) = (q : Int) := wrap_is (by omega) (by omega)
      have hq4 : IntKind.i64.wrap (p : Int) = (p : Int) := wrap_is (by omega) (by omega)
      have HOK : Hid (spok (q, p)) := ⟨by show q < 1048576; omega, by show p < 1048576; omega⟩
      have HQP := hid (And.intro hqr hmc)
      have hw := wrapI9 (i := t) (by omega)
      clear hV b6 sz6 GQ PM G PV hg3 hm3 hf3 hw3 zf hq hp hqr hmc hc0
      go_wp2_with fail
      rw [EV.out]
      clear EV k0 k1
      have KB : Hid (∀ w', Below V6.heap.size V6 w' → w'.cell? ⟨g', 2, none⟩ = some (.map (some b')) ∧ w'.cell? ⟨w.heap.size, 1, none⟩ = some (.int .i64 (c : Int)) ∧ w'.cell? ⟨wr.heap.size, 0, none⟩ = some (.bool m) ∧ w'.cell? ⟨wr.heap.size, 1, none⟩ = some (.slice a xs.length cc)) := fun w' h => ⟨cnow h y2, cnow h z1, cnow h v0, cnow h v1⟩
      refine wp_region_tail (fun w' => w'.cell? ⟨g', 2, none⟩ = some (.map (some b')) ∧ w'.cell? ⟨w.heap.size, 1, none⟩ = some (.int .i64 (c : Int)) ∧ w'.cell? ⟨wr.heap.size, 0, none⟩ = some (.bool m) ∧ w'.cell? ⟨wr.heap.size, 1, none⟩ = some (.slice a xs.length cc)) 15 (by kernel_rfl) ?_
      obtain ⟨D21, hD⟩ : ∃ D21, V6.drew = D21 := ⟨_, rfl⟩
      have GB : Hid (Below V6.heap.size V6 D21) := by unfold Hid; rw [← hD]; exact (Below.refl _ _).drew
      rw [hD]
      clear hD
      refine wpAnyT_take (i := 0) (oi := { dst := some 26, op := Op.move (Operand.tmp 5), type := 27, pos := "sparse.go:35", after := #[], guard := none }) (v := (.pointer (some ⟨g', 0, none⟩))) rfl (by kernel_rfl) (fun _ _ _ h => h) (Or.inl ⟨by rfl, ?_⟩) (KB.out _ GB.out) ?_
      · intro w hSw
        (try dsimp only at hSw)
        go_simp
      simp only [Act.put, List.setIfInBounds_toArray, List.set_cons_zero, List.set_cons_succ]
      refine wpAnyT_take (i := 1) (oi := { dst := some 27, op := Op.nilCheck (Operand.tmp 26), type := 0, pos := "sparse.go:35", after := #[{ on := 0, ground := Ground.data }], guard := none }) (v := (.pointer (some ⟨g', 0, none⟩))) rfl (by kernel_rfl) (fun _ _ _ h => h) (Or.inl ⟨by rfl, ?_⟩) (KB.out _ GB.out) ?_
      · intro w hSw
        (try dsimp only at hSw)
        go_simp
      simp only [Act.put, List.setIfInBounds_toArray, List.set_cons_zero, List.set_cons_succ]
      refine wpAnyT_take (i := 2) (oi := { dst := some 28, op := Op.fieldAddr 68 (Operand.tmp 27) 2, type := 0, pos := "sparse.go:35", after := #[{ on := 1, ground := Ground.data }], guard := none }) (v := (.pointer (some ⟨g', 2, none⟩))) rfl (by kernel_rfl) (fun _ _ _ h => h) (Or.inl ⟨by rfl, ?_⟩) (KB.out _ GB.out) ?_
      · intro w hSw
        (try dsimp only at hSw)
        go_simp
      simp only [Act.put, List.setIfInBounds_toArray, List.set_cons_zero, List.set_cons_succ]
      refine wpAnyT_take (i := 3) (oi := { dst := some 29, op := Op.load 66 (Operand.tmp 28), type := 66, pos := "sparse.go:35", after := #[{ on := 2, ground := Ground.data }], guard := none }) (v := (.map (some b'))) rfl (by kernel_rfl) (fun _ _ _ h => h) (Or.inl ⟨by rfl, ?_⟩) (KB.out _ GB.out) ?_
      · intro w hSw
        (try dsimp only at hSw)
        go_simp
      simp only [Act.put, List.setIfInBounds_toArray, List.set_cons_zero, List.set_cons_succ]
      refine wpAnyT_take (i := 4) (oi := { dst := some 30, op := Op.move (Operand.tmp 6), type := 3, pos := "sparse.go:35", after := #[], guard := none }) (v := (.int .i64 (t : Int))) rfl (by kernel_rfl) (fun _ _ _ h => h) (Or.inl ⟨by rfl, ?_⟩) (KB.out _ GB.out) ?_
      · intro w hSw
        (try dsimp only at hSw)
        go_simp
      simp only [Act.put, List.setIfInBounds_toArray, List.set_cons_zero, List.set_cons_succ]
      refine wpAnyT_take (i := 5) (oi := { dst := some 31, op := Op.fieldAddr 24 (Operand.tmp 1) 1, type := 0, pos := "sparse.go:35", after := #[], guard := none }) (v := (.pointer (some ⟨w.heap.size, 1, none⟩))) rfl (by kernel_rfl) (fun _ _ _ h => h) (Or.inl ⟨by rfl, ?_⟩) (KB.out _ GB.out) ?_
      · intro w hSw
        (try dsimp only at hSw)
        go_simp
      simp only [Act.put, List.setIfInBounds_toArray, List.set_cons_zero, List.set_cons_succ]
      refine wpAnyT_take (i := 6) (oi := { dst := some 32, op := Op.load 3 (Operand.tmp 31), type := 3, pos := "sparse.go:35", after := #[{ on := 5, ground := Ground.data }], guard := none }) (v := (.int .i64 (c : Int))) rfl (by kernel_rfl) (fun _ _ _ h => h) (Or.inl ⟨by rfl, ?_⟩) (KB.out _ GB.out) ?_
      · intro w hSw
        (try dsimp only at hSw)
        go_simp
      simp only [Act.put, List.setIfInBounds_toArray, List.set_cons_zero, List.set_cons_succ]
      refine wpAnyT_take (i := 7) (oi := { dst := some 33, op := Op.binOp BinOp.quo 3 (Operand.tmp 30) (Operand.tmp 32) 3, type := 3, pos := "sparse.go:35", after := #[{ on := 4, ground := Ground.data }, { on := 6, ground := Ground.data }], guard := none }) (v := (.int .i64 (q : Int))) rfl (by kernel_rfl) (fun _ _ _ h => h) (Or.inl ⟨by rfl, ?_⟩) (KB.out _ GB.out) ?_
      · intro w hSw
        (try dsimp only at hSw)
        go_simp
      simp only [Act.put, List.setIfInBounds_toArray, List.set_cons_zero, List.set_cons_succ]
      refine wpAnyT_take (i := 8) (oi := { dst := some 34, op := Op.move (Operand.tmp 6), type := 3, pos := "sparse.go:35", after := #[], guard := none }) (v := (.int .i64 (t : Int))) rfl (by kernel_rfl) (fun _ _ _ h => h) (Or.inl ⟨by rfl, ?_⟩) (KB.out _ GB.out) ?_
      · intro w hSw
        (try dsimp only at hSw)
        go_simp
      simp only [Act.put, List.setIfInBounds_toArray, List.set_cons_zero, List.set_cons_succ]
      refine wpAnyT_take (i := 9) (oi := { dst := some 35, op := Op.fieldAddr 24 (Operand.tmp 1) 1, type := 0, pos := "sparse.go:35", after := #[], guard := none }) (v := (.pointer (some ⟨w.heap.size, 1, none⟩))) rfl (by kernel_rfl) (fun _ _ _ h => h) (Or.inl ⟨by rfl, ?_⟩) (KB.out _ GB.out) ?_
      · intro w hSw
        (try dsimp only at hSw)
        go_simp
      simp only [Act.put, List.setIfInBounds_toArray, List.set_cons_zero, List.set_cons_succ]
      refine wpAnyT_take (i := 10) (oi := { dst := some 36, op := Op.load 3 (Operand.tmp 35), type := 3, pos := "sparse.go:35", after := #[{ on := 9, ground := Ground.data }], guard := none }) (v := (.int .i64 (c : Int))) rfl (by kernel_rfl) (fun _ _ _ h => h) (Or.inl ⟨by rfl, ?_⟩) (KB.out _ GB.out) ?_
      · intro w hSw
        (try dsimp only at hSw)
        go_simp
      simp only [Act.put, List.setIfInBounds_toArray, List.set_cons_zero, List.set_cons_succ]
      refine wpAnyT_take (i := 11) (oi := { dst := some 37, op := Op.binOp BinOp.rem 3 (Operand.tmp 34) (Operand.tmp 36) 3, type := 3, pos := "sparse.go:35", after := #[{ on := 8, ground := Ground.data }, { on := 10, ground := Ground.data }], guard := none }) (v := (.int .i64 (p : Int))) rfl (by kernel_rfl) (fun _ _ _ h => h) (Or.inl ⟨by rfl, ?_⟩) (KB.out _ GB.out) ?_
      · intro w hSw
        (try dsimp only at hSw)
        go_simp
      simp only [Act.put, List.setIfInBounds_toArray, List.set_cons_zero, List.set_cons_succ]
      refine wpAnyT_take (i := 12) (oi := { dst := some 38, op := Op.build 71 #[(0, Operand.tmp 33), (1, Operand.tmp 37)], type := 71, pos := "sparse.go:35", after := #[{ on := 7, ground := Ground.data }, { on := 11, ground := Ground.data }], guard := none }) (v := (.agg #[.int .i64 (q : Int), .int .i64 (p : Int)])) rfl (by kernel_rfl) (fun _ _ _ h => h) (Or.inl ⟨by rfl, ?_⟩) (KB.out _ GB.out) ?_
      · intro w hSw
        (try dsimp only at hSw)
        go_simp
      simp only [Act.put, List.setIfInBounds_toArray, List.set_cons_zero, List.set_cons_succ]
      refine wpAnyT_take (i := 13) (oi := { dst := some 39, op := Op.load 35 (Operand.tmp 7), type := 35, pos := "sparse.go:35", after := #[], guard := none }) (v := (.agg #[.bool m, .slice a xs.length cc])) rfl (by kernel_rfl) (fun _ _ _ h => h) (Or.inl ⟨by rfl, ?_⟩) (KB.out _ GB.out) ?_
      · intro w hSw
        (try dsimp only at hSw)
        go_simp
      simp only [Act.put, List.setIfInBounds_toArray, List.set_cons_zero, List.set_cons_succ]
      refine wpAnyT_one (i := 14) (o := { dst := some 40, op := Op.call { callee := Callee.value (Operand.func 34), args := #[Operand.tmp 39], argTypes := #[35] }, type := 35, pos := "sparse.go:35", after := #[{ on := 13, ground := Ground.data }], guard := none }) (by kernel_rfl) rfl (fun K hK => ?_)
      go_simp
      go_at_call 34
      refine (least_z (ZF2.out.now GB.out)).mono ?_
      rintro e w22 ⟨v, rfl, m1, b⟩
      have lz22 := (show Below _ _ _ from b).size
      replace GB := hid (below_step GB.out b)
      have M1 := hid m1
      clear m1
      clear b
      refine hK.out _ _ (fun _ => KB.out _ GB.out) ?_
      clear hK
      refine wpAnyT_one (i := 15) (o := { dst := some 41, op := Op.call { callee := Callee.value (Operand.func 33), args := #[Operand.tmp 29, Operand.tmp 38, Operand.tmp 40], argTypes := #[66, 71, 35] }, type := 0, pos := "sparse.go:35", after := #[{ on := 3, ground := Ground.data }, { on := 12, ground := Ground.data }, { on := 14, ground := Ground.data }, { on := 14, ground := Ground.chain }], guard := none }) (by kernel_rfl) rfl (fun K hK => ?_)
      go_simp
      go_at_call 33
      refine (put_any (s := (q, p)) (HM3.out.now GB.out) (wide_room HG3.out.2.1 HG3.out.2.2 (HM3.out.count2 HW3.out)) HOK.out M1.out.zi).mono ?_
      rintro e wz ⟨rfl, q1, q2⟩
      have hm4 := HM3.out.now GB.out
      have GQ3 : Hid (Gq wz g' b' r c _ k) := Gq.put (HG3.out.now GB.out) hm4 (HF3.out.now GB.out) HW3.out (M1.out.mono (Nat.zero_le _)) (s := (q, p)) HQP.out.1 HQP.out.2 q1 q2
      have PM3 := hid ((PM2.out.step GB.out).cl (hm4.cl q2))
      have G3 := hid (below_grown (below_step G2.out GB.out) q2 (Nat.le_of_lt EB.out.2))
      clear q1 q2 hm4
      refine hK.out _ _ (fun h => absurd h (by decide)) ?_
      clear hK
      refine wpAnyT_done (by kernel_rfl) ?_ _
      have HN1 : Hid (HypOf w g' b' w.heap.size r c N k (.slice (some ⟨ba, oa, none⟩) N cap0) zs (N - (t + 1)) (.int .i64 ((t + 1 : Nat) : Int)) wz) := ⟨t + 1, rfl, by omega, rfl, GQ3.out.ext (HST.out _ rfl), PM3.out, G3.out⟩
      have HMM : Hid (N - (t + 1) < gk) := by unfold Hid; rw [HGK.out]; omega
      clear HG3 HM3 HF3 HW3 G2 PM2 ZF2 M1 GB KB v0 v1 z1 y2 GQ3 PM3 G3 HST hq1 hq2 hq3 hq4
      go_wp2_with fail
      go_roundg (N - (t + 1))
      case rel => exact HN1.out
      case measure => exact HMM.out
    · have hlt' : ¬ (t : Int) < (N : Int) := by omega
      obtain rfl : t = N := by omega
      have FIN : Hid (MadeG2 w r c (ofF c zs t) k (.returned (.tuple #[.pointer (some ⟨g', 0, none⟩), .int .i64 0])) wr) := ⟨_, _, rfl, GQ.out, Nat.le_of_lt EB.out.1, Nat.le_of_lt EB.out.2, G.out⟩
      clear GQ PM G HGK
      go_wp2
      go_ret2
      exact FIN.out
end Go.Proofs.Ytachdicdfhfoaaa

/- Ty9 -/
namespace Go.Proofs.Ytachdicdfhfoaaa
open Go.RowKit
set_option linter.unusedVariables false

/-- Blocks of other types than T are as they were. -/
def Ty (T : TypeId) (w w' : World) : Prop := w.heap.size ≤ w'.heap.size ∧ ∀ (b : Nat) (L : Array Value) (T' : TypeId) (fr : Nat × Nat), w.heap[b]? = some (.cells L T' fr) → T' ≠ T → w'.heap[b]? = some (.cells L T' fr)
theorem Ty.of {T : TypeId} {w w' : World} (h : Below w.heap.size w w') : Ty T w w' := ⟨h.size, fun b L T' fr e _ => (h.block b (Array.getElem?_eq_some_iff.1 e).1).trans e⟩
theorem Ty.trans {T : TypeId} {a b c : World} (h : Ty T a b) (h' : Ty T b c) : Ty T a c := ⟨Nat.le_trans h.1 h'.1, fun g L T' fr e hne => h'.2 g L T' fr (h.2 g L T' fr e hne) hne⟩
theorem Ty.set {T : TypeId} {w : World} {g i : Nat} {L : List Value} {u : Value} (d : Cel w g T L) : Ty T w (w.setCell ⟨g, i, none⟩ u) := by
  refine ⟨by simp, fun b L' T' fr e hne => ?_⟩
  have hb : b ≠ g := fun q => by
    subst q
    have := e.symm.trans (show w.heap[b]? = _ from d)
    simp at this
    exact hne this.2.1
  exact (Below.heap_setCell w _ u b (fun q => hb (by simpa using q))).trans e
theorem Ty.grown {T : TypeId} {w w' : World} {B size n : Nat} {v : Value} {xs : List Value} (h : w.ownsRow B T size v n xs) (hg : w.grownBy w' v.ownBlock) : Ty T w w' := by
  refine ⟨hg.size, fun b L' T' fr e hne => (hg.block b (Array.getElem?_eq_some_iff.1 e).1 (fun q => ?_)).trans e⟩
  obtain ⟨_, ⟨q1, _⟩ | ⟨g, cap, cur, q1, _, q3, _⟩⟩ := h
  · rw [q1] at q; cases q
  · rw [q1] at q
    simp only [Value.ownBlock, Option.some.injEq] at q
    subst q
    have := e.symm.trans q3
    simp at this
    exact hne this.2.1
theorem Zm.ty {T : TypeId} {B k : Nat} {w w' : World} {v : Value} {z : Int} (h : Zm B w v z k) (ht : Ty T w w') (hT : 62 ≠ T) : Zm B w' v z k := by
  obtain ⟨n1, zs, a, c, e, hm, rest⟩ := h
  refine ⟨n1, zs, a, c, e, ?_, rest⟩
  obtain ⟨hw, h | ⟨g, r, cap, h1, h2, h3, h4, h5, h6⟩⟩ := hm
  · exact ⟨hw, .inl h⟩
  · exact ⟨hw, .inr ⟨g, r, cap, h1, h2, h3, h4, h5, ht.2 g _ _ _ h6 hT⟩⟩
/-- A list of pairs in a block of integers. -/
def PrsT (w : World) (v : Value) (ps : List (Value × Value)) : Prop := Prs 0 w v ps ∧ ∀ (b off l c : Nat), v = .slice (some ⟨b, off, none⟩) l c → ∃ (L : Array Value) (fr : Nat × Nat), w.heap[b]? = some (.cells L 35 fr)
theorem PrsT.ty {T : TypeId} {w w' : World} {v : Value} {ps : List (Value × Value)} (h : PrsT w v ps) (ht : Ty T w w') (hT : 35 ≠ T) : PrsT w' v ps := by
  have key : ∀ (b off l c : Nat), v = .slice (some ⟨b, off, none⟩) l c → w'.heap[b]? = w.heap[b]? := fun b off l c e => by
    obtain ⟨L, fr, q⟩ := h.2 b off l c e
    rw [ht.2 b L _ fr q hT, q]
  refine ⟨?_, fun b off l c e => by
    obtain ⟨L, fr, q⟩ := h.2 b off l c e
    exact ⟨L, fr, ht.2 b L _ fr q hT⟩⟩
  obtain ⟨a, c, h1, h2, h3, hx, h4⟩ := h.1
  refine ⟨a, c, h1, h2, h3, hx, ?_⟩
  rcases h4 with h4 | ⟨b, off, h5, h5', h6, h7⟩
  · exact .inl h4
  · have e := key b off ps.length c (by rw [h1, h5])
    refine .inr ⟨b, off, h5, h5', Nat.lt_of_lt_of_le h6 ht.1, fun j p hp => ?_⟩
    have q := h7 j p hp
    exact ⟨(World.cell?_of_block (a := ⟨b, off + j * 2, none⟩) e).trans q.1, (World.cell?_of_block (a := ⟨b, off + j * 2 + 1, none⟩) e).trans q.2⟩
theorem PrsT.now {w w' : World} {v : Value} {ps : List (Value × Value)} (h : PrsT w v ps) (hb : Below w.heap.size w w') : PrsT w' v ps := h.ty (T := 62) (.of hb) (by decide)
theorem Arr.prsT {w : World} {g : Nat} {ps : List (Value × Value)} (h : Arr w g ps) (hl : ps.length ≤ 1048576) : PrsT w (.slice (some ⟨g, 0, none⟩) ps.length ps.length) ps := by
  refine ⟨h.prs (Nat.zero_le _) hl (Nat.le_refl _), fun b off l c e => ?_⟩
  simp only [Value.slice.injEq, Option.some.injEq, Addr.mk.injEq] at e
  obtain ⟨⟨rfl, -, -⟩, -, -⟩ := e
  exact ⟨_, _, h.1⟩
theorem OwnP.prsT {B : Nat} {w : World} {v : Value} {ps : List (Value × Value)} (h : OwnP B w v ps) (hl : ps.length ≤ 1048576) : PrsT w v ps := by
  refine ⟨(owns_prs h hl).mono (Nat.zero_le _), fun b off l c e => ?_⟩
  obtain ⟨_, ⟨q1, _⟩ | ⟨g, cap, cur, q1, _, q3, _⟩⟩ := h
  · rw [q1] at e; cases e
  · rw [q1] at e
    simp only [Value.slice.injEq, Option.some.injEq, Addr.mk.injEq] at e
    obtain ⟨⟨rfl, -, -⟩, -, -⟩ := e
    exact ⟨cur, _, q3⟩
/-- The pairs stand for these integers, each in least form with memory of its own. -/
def Zms (w : World) (ps : List (Value × Value)) (zs : List Int) (k : Nat) : Prop := ps.length = zs.length ∧ ∀ (j : Nat) (p : Value × Value) (z : Int), ps[j]? = some p → zs[j]? = some z → Zm 0 w (.agg #[p.1, p.2]) z k
theorem Zms.ty {T : TypeId} {w w' : World} {ps : List (Value × Value)} {zs : List Int} {k : Nat} (h : Zms w ps zs k) (ht : Ty T w w') (hT : 62 ≠ T) : Zms w' ps zs k := ⟨h.1, fun j p z hp hz => (h.2 j p z hp hz).ty ht hT⟩
theorem Zms.now {w w' : World} {ps : List (Value × Value)} {zs : List Int} {k : Nat} (h : Zms w ps zs k) (hb : Below w.heap.size w w') : Zms w' ps zs k := ⟨h.1, fun j p z hp hz => (h.2 j p z hp hz).now hb⟩
theorem Zms.zcs {w : World} {ps : List (Value × Value)} {zs : List Int} {k : Nat} (h : Zms w ps zs k) : Zcs w ps zs k := ⟨h.1, fun j p z hp hz => (h.2 j p z hp hz).zc⟩
theorem Zms.append {w : World} {ps qs : List (Value × Value)} {zs ys : List Int} {k : Nat} (h : Zms w ps zs k) (h' : Zms w qs ys k) : Zms w (ps ++ qs) (zs ++ ys) k := by
  refine ⟨by simp [h.1, h'.1], fun j p z hp hz => ?_⟩
  by_cases q : j < ps.length
  · rw [List.getElem?_append_left q] at hp
    rw [List.getElem?_append_left (by rw [← h.1]; exact q)] at hz
    exact h.2 j p z hp hz
  · rw [List.getElem?_append_right (by omega)] at hp
    rw [List.getElem?_append_right (by rw [← h.1]; omega), ← h.1] at hz
    exact h'.2 _ p z hp hz
def Zmss (w : World) (pss : List (List (Value × Value))) (zss : List (List Int)) (k : Nat) : Prop := pss.length = zss.length ∧ ∀ (j : Nat) (ps : List (Value × Value)), pss[j]? = some ps → Zms w ps (zss.getD j []) k
theorem Zmss.flat {w : World} {k : Nat} : ∀ {pss : List (List (Value × Value))} {zss : List (List Int)}, Zmss w pss zss k → Zms w pss.flatten zss.flatten k
  | [], [], _ => ⟨rfl, fun j p z hp => by simp at hp⟩
  | [], z :: zss, h => by have := h.1; simp at this
  | p :: pss, [], h => by have := h.1; simp at this
  | p :: pss, z :: zss, h => by
    have h1 := h.2 0 p rfl
    have h2 : Zmss w pss zss k := ⟨by have := h.1; simpa using this, fun j ps hp => by simpa using h.2 (j + 1) ps (by simpa using hp)⟩
    simpa using Zms.append h1 (Zmss.flat h2)
theorem Zmss.now {w w' : World} {pss : List (List (Value × Value))} {zss : List (List Int)} {k : Nat} (h : Zmss w pss zss k) (hb : Below w.heap.size w w') : Zmss w' pss zss k := ⟨h.1, fun j ps hp => (h.2 j ps hp).now hb⟩
/-- An array that a loop fills with integers of their own. -/
def FilM (wx : World) (g n i : Nat) (F : Nat → Int) (k : Nat) : Prop := ∃ ps, Arr wx g ps ∧ ps.length = n ∧ ∀ (j : Nat) (p : Value × Value), j < i → ps[j]? = some p → Zm 0 wx (.agg #[p.1, p.2]) (F j) k
theorem FilM.start {w : World} {g n : Nat} (h : Arr w g (List.replicate n zpair)) (F : Nat → Int) (k : Nat) : FilM w g n 0 F k := ⟨_, h, by simp, fun j p hj => by omega⟩
theorem FilM.step {w w' : World} {g n i : Nat} {F : Nat → Int} {k : Nat} (h : FilM w g n i F k) (hb : Below w.heap.size w w') : FilM w' g n i F k := by
  obtain ⟨ps, h1, h2, h3⟩ := h
  exact ⟨ps, h1.step hb, h2, fun j p hj hp => (h3 j p hj hp).now hb⟩
theorem FilM.put {w : World} {g n i : Nat} {F : Nat → Int} {k : Nat} {x y : Value} (h : FilM w g n i F k) (hi : i < n) (hz : Zm 0 w (.agg #[x, y]) (F i) k) : FilM ((w.setCell ⟨g, i * 2, none⟩ x).setCell ⟨g, i * 2 + 1, none⟩ y) g n (i + 1) F k := by
  obtain ⟨ps, h1, h2, h3⟩ := h
  have ht : Ty 35 w ((w.setCell ⟨g, i * 2, none⟩ x).setCell ⟨g, i * 2 + 1, none⟩ y) := (Ty.set h1.1).trans (Ty.set (h1.1.set _ _))
  refine ⟨ps.set i (x, y), h1.put (by omega) hz.zi.isI, by simpa using h2, fun j p hj hp => ?_⟩
  by_cases q : j = i
  · subst q
    rw [List.getElem?_set_self (by omega), Option.some.injEq] at hp
    subst hp
    exact hz.ty ht (by decide)
  · rw [List.getElem?_set_ne (by omega)] at hp
    exact (h3 j p (by omega) hp).ty ht (by decide)
theorem FilM.cells {w : World} {g n i j : Nat} {F : Nat → Int} {k : Nat} (h : FilM w g n i F k) (hj : j < n) : ∃ m a l c, w.cell? ⟨g, j * 2, none⟩ = some (.bool m) ∧ w.cell? ⟨g, j * 2 + 1, none⟩ = some (.slice a l c) ∧ w.frozen? ⟨g, j * 2, none⟩ = false ∧ w.frozen? ⟨g, j * 2 + 1, none⟩ = false := by
  obtain ⟨ps, h1, h2, h3⟩ := h
  have hp : ps[j]? = some (ps[j]'(by omega)) := List.getElem?_eq_getElem (by omega)
  obtain ⟨m, a, l, c, e⟩ := h1.2 _ (List.getElem_mem (l := ps) (n := j) (by omega))
  have q := h1.at hp
  rw [e] at q
  exact ⟨m, a, l, c, q.1, q.2, h1.1.fz _, h1.1.fz _⟩
theorem FilM.done {w : World} {g n : Nat} {F : Nat → Int} {k : Nat} (h : FilM w g n n F k) (hn : n ≤ 1048576) : ∃ ps, PrsT w (.slice (some ⟨g, 0, none⟩) n n) ps ∧ Zms w ps ((List.range n).map F) k := by
  obtain ⟨ps, h1, rfl, h3⟩ := h
  refine ⟨ps, h1.prsT hn, by simp, fun j p z hp hz => ?_⟩
  have hj : j < ps.length := (List.getElem?_eq_some_iff.1 hp).1
  rw [List.getElem?_map, List.getElem?_range hj, Option.map_some, Option.some.injEq] at hz
  subst hz
  exact h3 j p hj hp
def ListedM (w : World) (zs : List Int) (k : Nat) (e : Ending) (w' : World) : Prop := ∃ u ps, e = .returned u ∧ PrsT w' u ps ∧ Zms w' ps zs k ∧ Below w.heap.size w w'
end Go.Proofs.Ytachdicdfhfoaaa
