/-
  QDot9ToRowsOf9: Dot9, Rows9, RowsOf9, joined.
-/
import Derived.Test.YthpldhaolpmneaaGreatQLst9ToFil9
import Derived.Test.YthpldhaolpmneaaGreatQTailToMWord

/- Dot9 -/
namespace Go.Proofs.YthpldhaolpmneaaGreat
open Go.RowKit
set_option linter.unusedVariables false

theorem cnow {w w' : World} {p : Addr} {v : Value} (h : Below w.heap.size w w') (k : w.cell? p = some v) : w'.cell? p = some v := (h.cell (World.block_lt_of_cell? w p k)).trans k
theorem getD_at {xs : List Int} {i : Nat} (h : i < xs.length) : xs[i] = xs.getD i 0 := by simp [h]
def dotv (xs ys : List Int) : Int := zsum ((List.range xs.length).map fun j => xs.getD j 0 * ys.getD j 0)
def DotH (w : World) (g n : Nat) (F : Nat → Int) (k gk : Nat) (s : Value) (wx : World) : Prop :=
  ∃ i : Nat, s = .int .i64 (i : Int) ∧ i ≤ n ∧ gk = n - i ∧ Fil wx g n i F k ∧ Duo wx w.heap.size (.bool false) (.slice none 0 0) ∧ Below w.heap.size w wx
def Dotted (w : World) (z : Int) (k : Nat) (e : Ending) (w' : World) : Prop := ∃ r, e = .returned (.tuple #[r, .int .i64 0]) ∧ Zm w.heap.size w' r z k ∧ Below w.heap.size w w'
set_option maxHeartbeats 1600000 in
set_option maxRecDepth 100000 in
theorem dot_any {w : World} {va vb : Value} {xs ys : List Int} {k l : Nat} (ha : Zl w va xs k) (hb : Zl w vb ys l) (he : ys.length = xs.length) (hk : k + l + xs.length < 35184372088832) :
    Calls Tryz.prog 51 #[va, vb] w (Dotted w (dotv xs ys) (k + l + xs.length)) := by
  have A0 := hid ha
  have B0 := hid hb
  obtain ⟨a0, c0, rfl, hc0, hn0, hf0⟩ := ha.form9
  obtain ⟨a1, c1, rfl, hc1, hn1, hf1⟩ := hb.form9
  have DV : Hid (dotv xs ys = zsum ((List.range xs.length).map fun j => xs.getD j 0 * ys.getD j 0)) := rfl
  obtain ⟨D, hD⟩ : ∃ D, dotv xs ys = D := ⟨_, rfl⟩
  rw [hD] at DV ⊢
  obtain ⟨n, hn⟩ : ∃ n, xs.length = n := ⟨_, rfl⟩
  rw [he] at hc1 hn1 B0 ⊢
  rw [hn] at A0 B0 hc0 hn0 hc1 hn1 hk DV ⊢
  have HN := hid hn
  have HE := hid (he.trans hn)
  have F0 := hid hf0
  have F1 := hid hf1
  clear ha hb hf0 hf1 hn he hD
  obtain ⟨W0, hW⟩ : ∃ W0, w.alloc zbox = W0 := ⟨_, rfl⟩
  obtain ⟨b0, sz0⟩ := alo1 w zbox
  rw [hW] at b0 sz0
  have P4 : Hid (Duo W0 w.heap.size (.bool false) (.slice none 0 0)) := by unfold Hid; rw [← hW]; exact Duo.new w _ _
  have G0 := hid b0
  have EW := hid hW
  have SZ := hid sz0
  have q0 : ((n : Int) != (n : Int)) = false := by simp
  clear b0 hW sz0
  go_enter Tryz.func51, Tryz.ntmps51
  go_wp2_with (at_make; rw [EW.out]; refine wpList_make_pairs9 _ rfl _ _ rfl _ _ n n rfl rfl rfl rfl (Nat.le_refl _) (by omega) ?_)
  intro w1 hrow hb1 hsz1
  have H0 : Hid (DotH w W0.heap.size n (fun j => xs.getD j 0 * ys.getD j 0) (k + l) n (.int .i64 0) w1) := ⟨0, rfl, Nat.zero_le _, by omega, Fil.start hrow _ _, P4.out.step hb1, below_step G0.out hb1⟩
  have HGE : Hid (w.heap.size < W0.heap.size) := by unfold Hid; rw [SZ.out]; omega
  clear hrow hb1 hsz1 P4 G0 EW SZ
  generalize W0.heap.size = g at *
  go_wp2_with fail
  go_loopg [19] n (fun gk s19 wx => DotH w g n (fun j => xs.getD j 0 * ys.getD j 0) (k + l) gk s19 wx)
  case atStart => exact H0.out
  case round =>
    clear H0
    obtain ⟨i, rfl, hin, hg, hfil, hduo, hG⟩ := hrel
    have FI := hid hfil
    have P4 := hid hduo
    have G := hid hG
    have HG := hid hg
    clear hfil hduo hG hg
    by_cases hlt : i < n
    · have hlt' : (i : Int) < (n : Int) := by omega
      obtain ⟨b1, o1, rfl⟩ := F0.out (fun e => by have := HN.out; rw [e] at this; simp at this; omega)
      obtain ⟨b2, o2, rfl⟩ := F1.out (fun e => by have := HE.out; rw [e] at this; simp at this; omega)
      obtain ⟨nf, xf, adf, qf, k0, k1, zf⟩ := (A0.out.now G.out).at9 (i := i) (by rw [HN.out]; exact hlt)
      obtain ⟨ng, xg, adg, qg, k2, k3, zg⟩ := (B0.out.now G.out).at9 (i := i) (by rw [HE.out]; exact hlt)
      have ZF : Hid (∀ h : i < xs.length, ∀ h' : i < ys.length, xs[i] * ys[i] = xs.getD i 0 * ys.getD i 0) := fun h h' => by rw [getD_at h, getD_at h']
      have HS : Hid (∀ w', Below wr.heap.size wr w' → Calls Tryz.prog 53 #[.agg #[.bool nf, .slice adf xf.length qf], .agg #[.bool ng, .slice adg xg.length qg]] w' (GivesZ w' _ (k + l))) := fun w' h => mul_z (zf.now h) (zg.now h) (by omega)
      clear zf zg
      have hw := wrapI9 (i := i) (by omega)
      go_wp2_with fail
      have KB : Hid (∀ w', Below wr.heap.size wr w' → w'.cell? ⟨b1, o1 + i * 2, none⟩ = some (.bool nf) ∧ w'.cell? ⟨b1, o1 + i * 2 + 1, none⟩ = some (.slice adf xf.length qf) ∧ w'.cell? ⟨b2, o2 + i * 2, none⟩ = some (.bool ng) ∧ w'.cell? ⟨b2, o2 + i * 2 + 1, none⟩ = some (.slice adg xg.length qg)) := fun w' h => ⟨cnow h k0, cnow h k1, cnow h k2, cnow h k3⟩
      refine wp_region_tail (fun w' => w'.cell? ⟨b1, o1 + i * 2, none⟩ = some (.bool nf) ∧ w'.cell? ⟨b1, o1 + i * 2 + 1, none⟩ = some (.slice adf xf.length qf) ∧ w'.cell? ⟨b2, o2 + i * 2, none⟩ = some (.bool ng) ∧ w'.cell? ⟨b2, o2 + i * 2 + 1, none⟩ = some (.slice adg xg.length qg)) 12 (by kernel_rfl) ?_
      obtain ⟨D1, hD⟩ : ∃ D1, wr.drew = D1 := ⟨_, rfl⟩
      have GB : Hid (Below wr.heap.size wr D1) := by unfold Hid; rw [← hD]; exact (Below.refl _ _).drew
      rw [hD]
      clear hD
      have GBs := GB
      refine wpAnyT_take (i := 0) (oi := { dst := some 22, op := Op.move (Operand.tmp 6), type := 33, pos := "zint.go:129", after := #[], guard := none }) (v := (.slice (some ⟨g, 0, none⟩) n n)) rfl (by kernel_rfl) (fun _ _ _ h => h) (Or.inl ⟨by rfl, ?_⟩) (KB.out _ GB.out) ?_
      · intro w hSw
        (try dsimp only at hSw)
        go_simp
      simp only [Act.put, List.setIfInBounds_toArray, List.set_cons_zero, List.set_cons_succ]
      refine wpAnyT_take (i := 1) (oi := { dst := some 23, op := Op.move (Operand.tmp 7), type := 3, pos := "zint.go:129", after := #[], guard := none }) (v := (.int .i64 (i : Int))) rfl (by kernel_rfl) (fun _ _ _ h => h) (Or.inl ⟨by rfl, ?_⟩) (KB.out _ GB.out) ?_
      · intro w hSw
        (try dsimp only at hSw)
        go_simp
      simp only [Act.put, List.setIfInBounds_toArray, List.set_cons_zero, List.set_cons_succ]
      refine wpAnyT_take (i := 2) (oi := { dst := some 24, op := Op.move (Operand.tmp 0), type := 33, pos := "zint.go:129", after := #[], guard := none }) (v := (.slice (some ⟨b1, o1, none⟩) n c0)) rfl (by kernel_rfl) (fun _ _ _ h => h) (Or.inl ⟨by rfl, ?_⟩) (KB.out _ GB.out) ?_
      · intro w hSw
        (try dsimp only at hSw)
        go_simp
      simp only [Act.put, List.setIfInBounds_toArray, List.set_cons_zero, List.set_cons_succ]
      refine wpAnyT_take (i := 3) (oi := { dst := some 25, op := Op.move (Operand.tmp 7), type := 3, pos := "zint.go:129", after := #[], guard := none }) (v := (.int .i64 (i : Int))) rfl (by kernel_rfl) (fun _ _ _ h => h) (Or.inl ⟨by rfl, ?_⟩) (KB.out _ GB.out) ?_
      · intro w hSw
        (try dsimp only at hSw)
        go_simp
      simp only [Act.put, List.setIfInBounds_toArray, List.set_cons_zero, List.set_cons_succ]
      refine wpAnyT_take (i := 4) (oi := { dst := some 26, op := Op.indexAddr 33 (Operand.tmp 24) (Operand.tmp 25), type := 0, pos := "zint.go:129", after := #[{ on := 2, ground := Ground.data }, { on := 3, ground := Ground.data }], guard := none }) (v := (.pointer (some ⟨b1, o1 + i * 2, none⟩))) rfl (by kernel_rfl) (fun _ _ _ h => h) (Or.inl ⟨by rfl, ?_⟩) (KB.out _ GB.out) ?_
      · intro w hSw
        (try dsimp only at hSw)
        go_simp
      simp only [Act.put, List.setIfInBounds_toArray, List.set_cons_zero, List.set_cons_succ]
      refine wpAnyT_take (i := 5) (oi := { dst := some 27, op := Op.load 45 (Operand.tmp 26), type := 45, pos := "zint.go:129", after := #[{ on := 4, ground := Ground.data }], guard := none }) (v := (.agg #[.bool nf, .slice adf xf.length qf])) rfl (by kernel_rfl) (fun _ _ _ h => h) (Or.inl ⟨by rfl, ?_⟩) (KB.out _ GB.out) ?_
      · intro w hSw
        (try dsimp only at hSw)
        go_simp
      simp only [Act.put, List.setIfInBounds_toArray, List.set_cons_zero, List.set_cons_succ]
      refine wpAnyT_take (i := 6) (oi := { dst := some 28, op := Op.move (Operand.tmp 1), type := 33, pos := "zint.go:129", after := #[], guard := none }) (v := (.slice (some ⟨b2, o2, none⟩) n c1)) rfl (by kernel_rfl) (fun _ _ _ h => h) (Or.inl ⟨by rfl, ?_⟩) (KB.out _ GB.out) ?_
      · intro w hSw
        (try dsimp only at hSw)
        go_simp
      simp only [Act.put, List.setIfInBounds_toArray, List.set_cons_zero, List.set_cons_succ]
      refine wpAnyT_take (i := 7) (oi := { dst := some 29, op := Op.move (Operand.tmp 7), type := 3, pos := "zint.go:129", after := #[], guard := none }) (v := (.int .i64 (i : Int))) rfl (by kernel_rfl) (fun _ _ _ h => h) (Or.inl ⟨by rfl, ?_⟩) (KB.out _ GB.out) ?_
      · intro w hSw
        (try dsimp only at hSw)
        go_simp
      simp only [Act.put, List.setIfInBounds_toArray, List.set_cons_zero, List.set_cons_succ]
      refine wpAnyT_take (i := 8) (oi := { dst := some 30, op := Op.indexAddr 33 (Operand.tmp 28) (Operand.tmp 29), type := 0, pos := "zint.go:129", after := #[{ on := 6, ground := Ground.data }, { on := 7, ground := Ground.data }], guard := none }) (v := (.pointer (some ⟨b2, o2 + i * 2, none⟩))) rfl (by kernel_rfl) (fun _ _ _ h => h) (Or.inl ⟨by rfl, ?_⟩) (KB.out _ GB.out) ?_
      · intro w hSw
        (try dsimp only at hSw)
        go_simp
      simp only [Act.put, List.setIfInBounds_toArray, List.set_cons_zero, List.set_cons_succ]
      refine wpAnyT_take (i := 9) (oi := { dst := some 31, op := Op.load 45 (Operand.tmp 30), type := 45, pos := "zint.go:129", after := #[{ on := 8, ground := Ground.data }], guard := none }) (v := (.agg #[.bool ng, .slice adg xg.length qg])) rfl (by kernel_rfl) (fun _ _ _ h => h) (Or.inl ⟨by rfl, ?_⟩) (KB.out _ GB.out) ?_
      · intro w hSw
        (try dsimp only at hSw)
        go_simp
      simp only [Act.put, List.setIfInBounds_toArray, List.set_cons_zero, List.set_cons_succ]
      refine wpAnyT_one (i := 10) (o := { dst := some 32, op := Op.call { callee := Callee.value (Operand.func 53), args := #[Operand.tmp 27, Operand.tmp 31], argTypes := #[45, 45] }, type := 45, pos := "zint.go:129", after := #[{ on := 5, ground := Ground.data }, { on := 9, ground := Ground.data }], guard := none }) (by kernel_rfl) rfl (fun K hK => ?_)
      go_simp
      go_at_call 53
      refine (HS.out _ GB.out).mono ?_
      rintro e w2 ⟨r, rfl, m1, b⟩
      have lz2 := (show Below _ _ _ from b).size
      replace GB := hid (below_step GB.out b)
      have FI1 := hid (FI.out.step (below_step (w0 := wr) GBs.out b))
      have P41 := hid (P4.out.step (below_step (w0 := wr) GBs.out b))
      have G1 := hid (below_step G.out (below_step (w0 := wr) GBs.out b))
      have M1 := hid m1.zc
      obtain ⟨nr, xr, ar, cr, rfl⟩ := m1.parts
      rw [ZF.out (by rw [HN.out]; exact hlt) (by rw [HE.out]; exact hlt)] at M1
      clear m1
      clear b
      refine hK.out _ _ (fun _ => KB.out _ GB.out) ?_
      clear hK
      refine wpAnyT_take (i := 11) (oi := { dst := some 33, op := Op.indexAddr 33 (Operand.tmp 22) (Operand.tmp 23), type := 0, pos := "zint.go:129", after := #[{ on := 0, ground := Ground.data }, { on := 1, ground := Ground.data }, { on := 0, ground := Ground.phase }, { on := 1, ground := Ground.phase }, { on := 2, ground := Ground.phase }, { on := 3, ground := Ground.phase }, { on := 4, ground := Ground.phase }, { on := 5, ground := Ground.phase }, { on := 6, ground := Ground.phase }, { on := 7, ground := Ground.phase }, { on := 8, ground := Ground.phase }, { on := 9, ground := Ground.phase }, { on := 10, ground := Ground.phase }], guard := none }) (v := (.pointer (some ⟨g, i * 2, none⟩))) rfl (by kernel_rfl) (fun _ _ _ h => h) (Or.inl ⟨by rfl, ?_⟩) (KB.out _ GB.out) ?_
      · intro w hSw
        (try dsimp only at hSw)
        go_simp
      simp only [Act.put, List.setIfInBounds_toArray, List.set_cons_zero, List.set_cons_succ]
      refine wpAnyT_one (i := 12) (o := { dst := none, op := Op.store 45 (Operand.tmp 33) (Operand.tmp 32), type := 0, pos := "zint.go:129", after := #[{ on := 11, ground := Ground.data }, { on := 10, ground := Ground.data }, { on := 10, ground := Ground.chain }, { on := 0, ground := Ground.phase }, { on := 1, ground := Ground.phase }, { on := 2, ground := Ground.phase }, { on := 3, ground := Ground.phase }, { on := 4, ground := Ground.phase }, { on := 5, ground := Ground.phase }, { on := 6, ground := Ground.phase }, { on := 7, ground := Ground.phase }, { on := 8, ground := Ground.phase }, { on := 9, ground := Ground.phase }, { on := 10, ground := Ground.phase }], guard := none }) (by kernel_rfl) rfl (fun K hK => ?_)
      obtain ⟨m0, am, lm, cm, e0, e1, e2, e3⟩ := FI1.out.cells hlt
      go_simp
      clear e0 e1 e2 e3
      obtain ⟨V3, hW⟩ : ∃ V3, ((w2.setCell ⟨g, i * 2, none⟩ (.bool nr)).setCell ⟨g, i * 2 + 1, none⟩ (.slice ar xr.length cr)) = V3 := ⟨_, rfl⟩
      have HN1 : Hid (DotH w g n (fun j => xs.getD j 0 * ys.getD j 0) (k + l) (n - (i + 1)) (.int .i64 ((i + 1 : Nat) : Int)) V3) := by
        unfold Hid
        rw [← hW]
        exact ⟨i + 1, rfl, by omega, rfl, FI1.out.put hlt M1.out, P41.out.ne (by have := HGE.out; omega) |>.ne (by have := HGE.out; omega), bset (bset G1.out (by have := HGE.out; omega)) (by have := HGE.out; omega)⟩
      rw [hW]
      clear hW
      refine hK.out _ _ (fun h => absurd h (by decide)) ?_
      clear hK
      try simp only [Act.put]
      refine wpAnyT_done (by kernel_rfl) ?_ _
      have HMM : Hid (n - (i + 1) < gk) := by unfold Hid; rw [HG.out]; omega
      clear HS FI P4 G HG FI1 P41 G1 M1 ZF GBs GB KB HGE
      go_wp2_with fail
      go_roundg (n - (i + 1))
      case rel => exact HN1.out
      case measure => exact HMM.out
    · have hlt' : ¬ (i : Int) < (n : Int) := by omega
      obtain rfl : i = n := by omega
      obtain ⟨ps, p1, p2⟩ := FI.out.done (B := 0) (Nat.zero_le _) hn0
      have HS := hid (sum_z (zl_of p1 p2.zis) (by simp; omega))
      rw [← DV.out] at HS
      simp only [List.length_map, List.length_range] at HS
      clear p1 p2
      go_wp2_with fail
      refine HS.out.mono ?_
      rintro e w1 ⟨r, rfl, m1, b⟩
      have P41 := hid (P4.out.step b)
      have G1 := hid (below_step G.out b)
      have HM := hid (m1.mono G.out.size)
      obtain ⟨nr, xr, ar, cr, rfl⟩ := m1.parts
      have r0 := P41.out.c0
      have r1 := P41.out.c1
      have f0 := P41.out.fz 0
      have f1 := P41.out.fz 1
      clear HS FI P4 G HG m1 b
      go_wp2
      exact bodyPost_ret (zback1 Tryz.results51 (P41.out.set _ _) _ (by rfl) (by rfl)) rfl ⟨_, rfl, HM.out.box P41.out _ _, bset (bset G1.out (Nat.le_refl _)) (Nat.le_refl _)⟩
end Go.Proofs.YthpldhaolpmneaaGreat

/- Rows9 -/
namespace Go.Proofs.YthpldhaolpmneaaGreat
open Go.RowKit
set_option linter.unusedVariables false

/-- A list of lists of pairs; the inner ones lie from block B on. -/
def Prr (B : Nat) (w : World) (v : Value) (pss : List (List (Value × Value))) : Prop :=
  ∃ a c, v = .slice a pss.length c ∧ pss.length ≤ c ∧ pss.length ≤ 1048576 ∧ (pss = [] ∨ ∃ b off, a = some ⟨b, off, none⟩ ∧ b < w.heap.size ∧ ∀ (j : Nat) (ps : List (Value × Value)), pss[j]? = some ps → ∃ u, w.cell? ⟨b, off + j, none⟩ = some u ∧ Prs B w u ps)
theorem Prr.now {B : Nat} {w w' : World} {v : Value} {pss : List (List (Value × Value))} (h : Prr B w v pss) (hb : Below w.heap.size w w') : Prr B w' v pss := by
  obtain ⟨a, c, h1, h2, h3, h4⟩ := h
  refine ⟨a, c, h1, h2, h3, ?_⟩
  rcases h4 with h4 | ⟨b, off, h5, h6, h7⟩
  · exact .inl h4
  · refine .inr ⟨b, off, h5, Nat.lt_of_lt_of_le h6 hb.size, fun j ps hp => ?_⟩
    obtain ⟨u, q1, q2⟩ := h7 j ps hp
    exact ⟨u, (hb.cell (p := ⟨b, off + j, none⟩) h6).trans q1, q2.now hb⟩
theorem Prr.form {B : Nat} {w : World} {v : Value} {pss : List (List (Value × Value))} (h : Prr B w v pss) : ∃ a c, v = .slice a pss.length c ∧ pss.length ≤ c ∧ pss.length ≤ 1048576 ∧ (pss ≠ [] → ∃ b off, a = some ⟨b, off, none⟩) := by
  obtain ⟨a, c, h1, h2, h3, h4⟩ := h
  refine ⟨a, c, h1, h2, h3, fun hne => ?_⟩
  rcases h4 with h4 | ⟨b, off, h5, h6, h7⟩
  · exact absurd h4 hne
  · exact ⟨b, off, h5⟩
theorem Prr.at {B : Nat} {w : World} {b off l c : Nat} {pss : List (List (Value × Value))} (h : Prr B w (.slice (some ⟨b, off, none⟩) l c) pss) {i : Nat} {ps : List (Value × Value)} (hi : pss[i]? = some ps) : ∃ u, w.cell? ⟨b, off + i, none⟩ = some u ∧ Prs B w u ps := by
  obtain ⟨a', c', h1, h2, h3, h4⟩ := h
  rcases h4 with h4 | ⟨b', off', h5, h6, h7⟩
  · subst h4; simp at hi
  · simp only [Value.slice.injEq] at h1
    obtain ⟨rfl, -, -⟩ := h1
    simp only [Option.some.injEq, Addr.mk.injEq, and_true] at h5
    obtain ⟨rfl, rfl⟩ := h5
    exact h7 i ps hi
end Go.Proofs.YthpldhaolpmneaaGreat

/- RowsOf9 -/
namespace Go.Proofs.YthpldhaolpmneaaGreat
open Go.RowKit
set_option linter.unusedVariables false

/-- The value of a matrix. -/
abbrev matv (r c : Nat) (at_ : Value) : Value := .agg #[.int .i64 (r : Int), .int .i64 (c : Int), at_]
abbrev matc (r c : Nat) (at_ : Value) : List Value := [.int .i64 (r : Int), .int .i64 (c : Int), at_]
theorem wrapM9 {i c : Nat} (hi : i ≤ 64) (hc : c ≤ 64) : IntKind.i64.wrap ((i : Int) * (c : Int)) = ((i * c : Nat) : Int) := by
  have h : i * c ≤ 64 * 64 := Nat.mul_le_mul hi hc
  rw [show (i : Int) * (c : Int) = ((i * c : Nat) : Int) by simp]
  rw [wrap_is] <;> omega
end Go.Proofs.YthpldhaolpmneaaGreat
