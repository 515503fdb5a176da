/-
  Eq9: equal of the statements.
-/
import Derived.Test.YtojhmkkjjalonaaQTrace9
import Derived.Test.YtojhmkkjjalonaaQR5Cmp
namespace Go.Proofs.Ytojhmkkjjalonaa
open Go.RowKit
set_option linter.unusedVariables false

theorem rcmp_same {w : World} {va vb : Value} {A B : Int} {ka kb : Nat} (ha : Zi w va A ka) (hb : Zi w vb B kb) (he : A = B) (hk : ka ≤ 1099511627776) (hl : kb ≤ 1099511627776) : Calls Try.prog 17 #[va, vb] w fun e w' => e = .returned (.int .i64 0) ∧ Below w.heap.size w w' := by
  subst he
  have q := rcmp_z ha hb hk hl
  have e0 : cmpI A A = 0 := by
    rcases cmp_cases A A with ⟨h, _⟩ | ⟨_, h⟩ | ⟨h, _⟩
    · omega
    · exact h
    · omega
  rw [e0] at q
  exact q
def EqH (w0 : World) (n gk : Nat) (s : Value) (wx : World) : Prop := ∃ i : Nat, s = .int .i64 (i : Int) ∧ i ≤ n ∧ gk = n - i ∧ Below w0.heap.size w0 wx
set_option maxHeartbeats 1600000 in
set_option maxRecDepth 100000 in
theorem equal9_yes {w : World} {va vb : Value} {r c k l : Nat} {zs ys : List Int} (ha : Mx w va r c zs k) (hb : Mx w vb r c ys l) (he : zs = ys) (hk : k ≤ 1099511627776) (hl : l ≤ 1099511627776) :
    Calls Try.prog 16 #[va, vb] w fun e w' => e = .returned (.bool true) ∧ Below w.heap.size w w' := by
  subst he
  obtain ⟨aa, qa, rfl, hr, hc⟩ := ha.form
  obtain ⟨ab, qb, rfl, -, -⟩ := hb.form
  have ZA := hid ha.zl
  have ZB := hid hb.zl
  obtain ⟨n, hn⟩ : ∃ n, r * c = n := ⟨_, rfl⟩
  rw [hn] at ZA ZB ⊢
  have hn64 : n ≤ 64 * 64 := by rw [← hn]; exact Nat.mul_le_mul hr hc
  obtain ⟨W0, hW⟩ : ∃ W0, (w.alloc (matO r c (.slice aa n qa))).alloc (matO r c (.slice ab n qb)) = W0 := ⟨_, rfl⟩
  obtain ⟨b0, sz0⟩ := alloc2 w (matO r c (.slice aa n qa)) (matO r c (.slice ab n qb))
  rw [hW] at b0
  have pa : Cel W0 w.heap.size 24 (matc r c (.slice aa n qa)) := by
    rw [← hW]
    exact (Cel.new w 24 (matc r c (.slice aa n qa))).step ((Below.refl _ _).alloc (Nat.le_refl _) _)
  have pb : Cel W0 (w.heap.size + 1) 24 (matc r c (.slice ab n qb)) := by
    rw [← hW]
    have := Cel.new (w.alloc (matO r c (.slice aa n qa))) 24 (matc r c (.slice ab n qb))
    simpa using this
  obtain ⟨ax9, cx9, fx, hcx, hnx, ffx⟩ := ZA.out.1.form9
  obtain ⟨ay9, cy9, fy, hcy, hny, ffy⟩ := ZB.out.1.form9
  simp only [Value.slice.injEq] at fx fy
  obtain ⟨fx1, -, fx2⟩ := fx
  obtain ⟨fy1, -, fy2⟩ := fy
  subst fx1 fx2 fy1 fy2
  have HLX := hid ZA.out.2
  have FX := hid ffx
  have FY := hid ffy
  have x0 := pa.at (i := 0) rfl
  have x1 := pa.at (i := 1) rfl
  have x2 := pa.at (i := 2) rfl
  have y0 := pb.at (i := 0) rfl
  have y1 := pb.at (i := 1) rfl
  have y2 := pb.at (i := 2) rfl
  rw [← hW] at x0 x1 x2 y0 y1 y2
  have PA := hid pa
  have PB := hid pb
  have A0 := hid (ZA.out.1.now b0)
  have B0 := hid (ZB.out.1.now b0)
  have G0 := hid b0
  have EW := hid hW
  have HK := hid hk
  have HK2 := hid hl
  rw [HLX.out] at hcx hcy
  have HCX := hid hcx
  have HCY := hid hcy
  have q0 : ((r : Int) != (r : Int)) = false := by simp
  have q1 : ((c : Int) != (c : Int)) = false := by simp
  have q2 : ((n : Int) != (n : Int)) = false := by simp
  have H0 : Hid (EqH W0 n n (.int .i64 0) W0) := ⟨0, rfl, Nat.zero_le _, by omega, Below.refl _ _⟩
  clear ha hb hk hl b0 sz0 hW pa pb hn ZA ZB hcx hcy hnx hny ffx ffy
  go_enter Try.func16, Try.ntmps16
  go_wp2_with fail
  rw [EW.out]
  clear x0 x1 x2 y0 y1 y2 EW
  go_loopg [5] n (fun gk s5 wx => EqH W0 n gk s5 wx)
  case atStart => exact H0.out
  case round =>
    clear H0
    obtain ⟨i, rfl, hin, hg, hG⟩ := hrel
    have G := hid hG
    have HG := hid hg
    clear hG hg
    have k4 := (PA.out.step G.out).at (i := 2) rfl
    have k5 := (PB.out.step G.out).at (i := 2) rfl
    by_cases hlt : i < n
    · have hlt' : (i : Int) < (n : Int) := by omega
      obtain ⟨b1, o1, rfl⟩ := FX.out (fun e => by have := HLX.out; rw [e] at this; simp at this; omega)
      obtain ⟨b2, o2, rfl⟩ := FY.out (fun e => by have := HLX.out; rw [e] at this; simp at this; omega)
      obtain ⟨nf, xf, adf, qf, k0, k1, zf⟩ := (A0.out.now G.out).at9 (i := i) (by rw [HLX.out]; exact hlt)
      obtain ⟨ng, xg, adg, qg, k2, k3, zg⟩ := (B0.out.now G.out).at9 (i := i) (by rw [HLX.out]; exact hlt)
      have HS : Hid (∀ w', Below wr.heap.size wr w' → Calls Try.prog 17 #[.agg #[.bool nf, .slice adf xf.length qf], .agg #[.bool ng, .slice adg xg.length qg]] w' fun e w'' => e = .returned (.int .i64 0) ∧ Below w'.heap.size w' w'') := fun w' h => rcmp_same (zf.now h) (zg.now h) rfl HK.out HK2.out
      clear zf zg
      have hw := wrapI9 (i := i) (by omega)
      go_wp2_with fail
      have KB : Hid (∀ w', Below wr.heap.size wr w' → w'.cell? ⟨b1, o1 + i * 2, none⟩ = some (.bool nf) ∧ w'.cell? ⟨b1, o1 + i * 2 + 1, none⟩ = some (.slice adf xf.length qf) ∧ w'.cell? ⟨b2, o2 + i * 2, none⟩ = some (.bool ng) ∧ w'.cell? ⟨b2, o2 + i * 2 + 1, none⟩ = some (.slice adg xg.length qg) ∧ w'.cell? ⟨w.heap.size, 2, none⟩ = some (.slice (some ⟨b1, o1, none⟩) n qa) ∧ w'.cell? ⟨w.heap.size + 1, 2, none⟩ = some (.slice (some ⟨b2, o2, none⟩) n qb)) := fun w' h => ⟨cnow h k0, cnow h k1, cnow h k2, cnow h k3, cnow h k4, cnow h k5⟩
      refine wp_region_tail (fun w' => w'.cell? ⟨b1, o1 + i * 2, none⟩ = some (.bool nf) ∧ w'.cell? ⟨b1, o1 + i * 2 + 1, none⟩ = some (.slice adf xf.length qf) ∧ w'.cell? ⟨b2, o2 + i * 2, none⟩ = some (.bool ng) ∧ w'.cell? ⟨b2, o2 + i * 2 + 1, none⟩ = some (.slice adg xg.length qg) ∧ w'.cell? ⟨w.heap.size, 2, none⟩ = some (.slice (some ⟨b1, o1, none⟩) n qa) ∧ w'.cell? ⟨w.heap.size + 1, 2, none⟩ = some (.slice (some ⟨b2, o2, none⟩) n qb)) 11 (by kernel_rfl) ?_
      obtain ⟨D1, hD⟩ : ∃ D1, wr.drew = D1 := ⟨_, rfl⟩
      have GB : Hid (Below wr.heap.size wr D1) := by unfold Hid; rw [← hD]; exact (Below.refl _ _).drew
      rw [hD]
      clear hD
      refine wpAnyT_take (i := 0) (oi := { dst := some 35, op := Op.fieldAddr 24 (Operand.tmp 2) 2, type := 0, pos := "plain.go:26", after := #[], guard := none }) (v := (.pointer (some ⟨w.heap.size, 2, none⟩))) rfl (by kernel_rfl) (fun _ _ _ h => h) (Or.inl ⟨by rfl, ?_⟩) (KB.out _ GB.out) ?_
      · intro w hSw
        (try dsimp only at hSw)
        go_simp
      simp only [Act.put, List.setIfInBounds_toArray, List.set_cons_zero, List.set_cons_succ]
      refine wpAnyT_take (i := 1) (oi := { dst := some 36, op := Op.load 22 (Operand.tmp 35), type := 22, pos := "plain.go:26", after := #[{ on := 0, ground := Ground.data }], guard := none }) (v := (.slice (some ⟨b1, o1, none⟩) n qa)) rfl (by kernel_rfl) (fun _ _ _ h => h) (Or.inl ⟨by rfl, ?_⟩) (KB.out _ GB.out) ?_
      · intro w hSw
        (try dsimp only at hSw)
        go_simp
      simp only [Act.put, List.setIfInBounds_toArray, List.set_cons_zero, List.set_cons_succ]
      refine wpAnyT_take (i := 2) (oi := { dst := some 37, op := Op.move (Operand.tmp 5), type := 3, pos := "plain.go:26", after := #[], guard := none }) (v := (.int .i64 (i : Int))) rfl (by kernel_rfl) (fun _ _ _ h => h) (Or.inl ⟨by rfl, ?_⟩) (KB.out _ GB.out) ?_
      · intro w hSw
        (try dsimp only at hSw)
        go_simp
      simp only [Act.put, List.setIfInBounds_toArray, List.set_cons_zero, List.set_cons_succ]
      refine wpAnyT_take (i := 3) (oi := { dst := some 38, op := Op.indexAddr 22 (Operand.tmp 36) (Operand.tmp 37), type := 0, pos := "plain.go:26", after := #[{ on := 1, ground := Ground.data }, { on := 2, ground := Ground.data }], guard := none }) (v := (.pointer (some ⟨b1, o1 + i * 2, none⟩))) rfl (by kernel_rfl) (fun _ _ _ h => h) (Or.inl ⟨by rfl, ?_⟩) (KB.out _ GB.out) ?_
      · intro w hSw
        (try dsimp only at hSw)
        go_simp
      simp only [Act.put, List.setIfInBounds_toArray, List.set_cons_zero, List.set_cons_succ]
      refine wpAnyT_take (i := 4) (oi := { dst := some 39, op := Op.load 37 (Operand.tmp 38), type := 37, pos := "plain.go:26", after := #[{ on := 3, ground := Ground.data }], guard := none }) (v := (.agg #[.bool nf, .slice adf xf.length qf])) rfl (by kernel_rfl) (fun _ _ _ h => h) (Or.inl ⟨by rfl, ?_⟩) (KB.out _ GB.out) ?_
      · intro w hSw
        (try dsimp only at hSw)
        go_simp
      simp only [Act.put, List.setIfInBounds_toArray, List.set_cons_zero, List.set_cons_succ]
      refine wpAnyT_take (i := 5) (oi := { dst := some 40, op := Op.fieldAddr 24 (Operand.tmp 3) 2, type := 0, pos := "plain.go:26", after := #[], guard := none }) (v := (.pointer (some ⟨w.heap.size + 1, 2, none⟩))) rfl (by kernel_rfl) (fun _ _ _ h => h) (Or.inl ⟨by rfl, ?_⟩) (KB.out _ GB.out) ?_
      · intro w hSw
        (try dsimp only at hSw)
        go_simp
      simp only [Act.put, List.setIfInBounds_toArray, List.set_cons_zero, List.set_cons_succ]
      refine wpAnyT_take (i := 6) (oi := { dst := some 41, op := Op.load 22 (Operand.tmp 40), type := 22, pos := "plain.go:26", after := #[{ on := 5, ground := Ground.data }], guard := none }) (v := (.slice (some ⟨b2, o2, none⟩) n qb)) rfl (by kernel_rfl) (fun _ _ _ h => h) (Or.inl ⟨by rfl, ?_⟩) (KB.out _ GB.out) ?_
      · intro w hSw
        (try dsimp only at hSw)
        go_simp
      simp only [Act.put, List.setIfInBounds_toArray, List.set_cons_zero, List.set_cons_succ]
      refine wpAnyT_take (i := 7) (oi := { dst := some 42, op := Op.move (Operand.tmp 5), type := 3, pos := "plain.go:26", after := #[], guard := none }) (v := (.int .i64 (i : Int))) rfl (by kernel_rfl) (fun _ _ _ h => h) (Or.inl ⟨by rfl, ?_⟩) (KB.out _ GB.out) ?_
      · intro w hSw
        (try dsimp only at hSw)
        go_simp
      simp only [Act.put, List.setIfInBounds_toArray, List.set_cons_zero, List.set_cons_succ]
      refine wpAnyT_take (i := 8) (oi := { dst := some 43, op := Op.indexAddr 22 (Operand.tmp 41) (Operand.tmp 42), type := 0, pos := "plain.go:26", after := #[{ on := 6, ground := Ground.data }, { on := 7, ground := Ground.data }], guard := none }) (v := (.pointer (some ⟨b2, o2 + i * 2, none⟩))) rfl (by kernel_rfl) (fun _ _ _ h => h) (Or.inl ⟨by rfl, ?_⟩) (KB.out _ GB.out) ?_
      · intro w hSw
        (try dsimp only at hSw)
        go_simp
      simp only [Act.put, List.setIfInBounds_toArray, List.set_cons_zero, List.set_cons_succ]
      refine wpAnyT_take (i := 9) (oi := { dst := some 44, op := Op.load 37 (Operand.tmp 43), type := 37, pos := "plain.go:26", after := #[{ on := 8, ground := Ground.data }], guard := none }) (v := (.agg #[.bool ng, .slice adg xg.length qg])) rfl (by kernel_rfl) (fun _ _ _ h => h) (Or.inl ⟨by rfl, ?_⟩) (KB.out _ GB.out) ?_
      · intro w hSw
        (try dsimp only at hSw)
        go_simp
      simp only [Act.put, List.setIfInBounds_toArray, List.set_cons_zero, List.set_cons_succ]
      refine wpAnyT_one (i := 10) (o := { dst := some 45, op := Op.call { callee := Callee.value (Operand.func 17), args := #[Operand.tmp 39, Operand.tmp 44], argTypes := #[37, 37] }, type := 3, pos := "plain.go:26", after := #[{ on := 4, ground := Ground.data }, { on := 9, ground := Ground.data }], guard := none }) (by kernel_rfl) rfl (fun K hK => ?_)
      go_simp
      go_at_call 17
      refine (HS.out _ GB.out).mono ?_
      rintro e w2 ⟨rfl, b⟩
      have lz2 := (show Below _ _ _ from b).size
      replace GB := hid (below_step GB.out b)
      have G1 := hid (below_step G.out GB.out)
      clear b
      refine hK.out _ _ (fun _ => KB.out _ GB.out) ?_
      clear hK
      refine wpAnyT_one (i := 11) (o := { dst := some 6, op := Op.assign (Operand.tmp 45), type := 3, pos := "plain.go:26", after := #[{ on := 10, ground := Ground.data }, { on := 10, ground := Ground.chain }, { on := 0, ground := Ground.phase }, { on := 1, ground := Ground.phase }, { on := 2, ground := Ground.phase }, { on := 3, ground := Ground.phase }, { on := 4, ground := Ground.phase }, { on := 5, ground := Ground.phase }, { on := 6, ground := Ground.phase }, { on := 7, ground := Ground.phase }, { on := 8, ground := Ground.phase }, { on := 9, ground := Ground.phase }, { on := 10, ground := Ground.phase }], guard := none }) (by kernel_rfl) rfl (fun K hK => ?_)
      go_simp
      refine hK.out _ _ (fun h => absurd h (by decide)) ?_
      clear hK
      try simp only [Act.put]
      refine wpAnyT_done (by kernel_rfl) ?_ _
      have HN1 : Hid (EqH W0 n (n - (i + 1)) (.int .i64 ((i + 1 : Nat) : Int)) w2) := ⟨i + 1, rfl, by omega, rfl, G1.out⟩
      have HMM : Hid (n - (i + 1) < gk) := by unfold Hid; rw [HG.out]; omega
      clear HS G HG G1 GB KB
      go_wp2_with fail
      go_roundg (n - (i + 1))
      case rel => exact HN1.out
      case measure => exact HMM.out
    · have hlt' : ¬ (i : Int) < (n : Int) := by omega
      have GF := hid (below_step G0.out G.out)
      clear HG G
      go_wp2
      go_ret
      exact ⟨rfl, GF.out⟩
end Go.Proofs.Ytojhmkkjjalonaa
