/-
  Law10: alike, mats.
-/
import Derived.Test.YtachdicdfhfoaaaQLaw9ToUnitA9
import Derived.Test.YtachdicdfhfoaaaQFil9ToDot9
import Derived.Test.YtachdicdfhfoaaaQPut10ToTailA
namespace Go.Proofs.Ytachdicdfhfoaaa
open Go.RowKit
set_option linter.unusedVariables false

set_option maxHeartbeats 1600000 in
set_option maxRecDepth 100000 in
theorem alike10_yes {w : World} {v u : Value} {z y : Int} {k l : Nat} (h : Zc w v z k) (h' : Zc w u y l) (hzy : z = y) :
    Calls Try.prog 47 #[v, u] w fun e w' => e = .returned (.bool true) ∧ Below w.heap.size w w' := by
  subst hzy
  obtain ⟨n, xs, a, c, rfl, s0, q0, e0, z0, k0⟩ := h
  obtain ⟨m, ys, b, d, rfl, s1, q1, e1, z1, k1⟩ := h'
  obtain ⟨rfl, rfl⟩ := iv_one (z0.trans z1.symm) q0 q1 e0 e1
  obtain ⟨W0, hW⟩ : ∃ W0, (w.alloc (duo (.bool n) (.slice a xs.length c))).alloc (duo (.bool n) (.slice b xs.length d)) = W0 := ⟨_, rfl⟩
  have b0 := (alloc2 w (duo (.bool n) (.slice a xs.length c)) (duo (.bool n) (.slice b xs.length d))).1
  rw [hW] at b0
  have P2 : Hid (Duo W0 w.heap.size (.bool n) (.slice a xs.length c)) := by unfold Hid; rw [← hW]; exact (Duo.new w _ _).later (by simp) _
  have P3 : Hid (Duo W0 (w.heap.size + 1) (.bool n) (.slice b xs.length d)) := by
    unfold Hid
    rw [← hW]
    have := Duo.new (w.alloc (duo (.bool n) (.slice a xs.length c))) (.bool n) (.slice b xs.length d)
    simpa using this
  have HC := hid (same_yes (s0.now b0) (s1.now b0) rfl)
  have B0 := hid b0
  have x1 := P2.out.c1
  have y1 := P3.out.c1
  rw [← hW] at x1 y1
  have EW := hid hW
  have hq : (n == n) = true := by simp
  clear s0 s1 z0 z1 b0 q0 q1 e0 e1 hW
  go_enter Try.func47, Try.ntmps47
  go_wp2_with fail
  rw [EW.out]
  refine HC.out.mono ?_
  rintro e w1 ⟨rfl, b1⟩
  have B1 := hid (below_step B0.out b1)
  have x0 := (P2.out.step b1).c0
  have y0 := (P3.out.step b1).c0
  clear b1 HC x1 y1 EW
  go_wp2
  go_ret
  exact ⟨rfl, B1.out⟩
set_option maxHeartbeats 3200000 in
set_option maxRecDepth 100000 in
theorem mats10_yes {w : World} {va vb : Value} {r c k l : Nat} {zs ys : List Int} (ha : Mc w va r c zs k) (hb : Mc w vb r c ys l) (he : zs = ys) :
    Calls Try.prog 15 #[va, vb] w fun e w' => e = .returned (.bool true) ∧ Below w.heap.size w w' := by
  subst he
  obtain ⟨ata, ps, rfl, pa1, pa2, -, -, -⟩ := ha
  obtain ⟨atb, qs, rfl, pb1, pb2, -, -, -⟩ := hb
  obtain ⟨aa, ca, rfl, hca, hna, -, hfa⟩ := pa1.form
  obtain ⟨ab, cb, rfl, hcb, hnb, -, hfb⟩ := pb1.form
  obtain ⟨n, hn⟩ : ∃ n, zs.length = n := ⟨_, rfl⟩
  have ea : ps.length = n := pa2.1.trans hn
  have eb : qs.length = n := pb2.1.trans hn
  rw [ea] at pa1 hna ⊢
  rw [eb] at pb1 hnb ⊢
  obtain ⟨W0, hW⟩ : ∃ W0, (w.alloc (matO r c (.slice aa n ca))).alloc (matO r c (.slice ab n cb)) = W0 := ⟨_, rfl⟩
  obtain ⟨b0, sz0⟩ := alloc2 w (matO r c (.slice aa n ca)) (matO r c (.slice ab n cb))
  rw [hW] at b0 sz0
  have pa : Cel W0 w.heap.size 24 (matc r c (.slice aa n ca)) := by
    rw [← hW]
    exact (Cel.new w 24 (matc r c (.slice aa n ca))).step ((Below.refl _ _).alloc (Nat.le_refl _) _)
  have pb : Cel W0 (w.heap.size + 1) 24 (matc r c (.slice ab n cb)) := by
    rw [← hW]
    have := Cel.new (w.alloc (matO r c (.slice aa n ca))) 24 (matc r c (.slice ab n cb))
    simpa using this
  have x0 := pa.at (i := 0) rfl
  have x1 := pa.at (i := 1) rfl
  have x2 := pa.at (i := 2) rfl
  have y0 := pb.at (i := 0) rfl
  have y1 := pb.at (i := 1) rfl
  have y2 := pb.at (i := 2) rfl
  rw [← hW] at x0 x1 x2 y0 y1 y2
  have q0 : ((r : Int) != (r : Int)) = false := by simp
  have q1 : ((c : Int) != (c : Int)) = false := by simp
  have q2 : ((n : Int) != (n : Int)) = false := by simp
  have A0 := hid (pa1.now b0)
  have B0 := hid (pb1.now b0)
  have ZA := hid (pa2.now b0)
  have ZB := hid (pb2.now b0)
  have FA : Hid (n ≠ 0 → ∃ b off, aa = some ⟨b, off, none⟩) := fun h => by
    obtain ⟨b, off, e, -⟩ := hfa (fun e => h (by rw [← ea, e]; rfl))
    exact ⟨b, off, e⟩
  have FB : Hid (n ≠ 0 → ∃ b off, ab = some ⟨b, off, none⟩) := fun h => by
    obtain ⟨b, off, e, -⟩ := hfb (fun e => h (by rw [← eb, e]; rfl))
    exact ⟨b, off, e⟩
  have PA := hid pa
  have PB := hid pb
  have HN := hid hn
  have G0 := hid b0
  have EW := hid hW
  have H0 : Hid (SameH W0 n n (.int .i64 0) W0) := ⟨0, rfl, Nat.zero_le _, by omega, Below.refl _ _⟩
  rw [ea] at hca
  rw [eb] at hcb
  clear pa1 pa2 pb1 pb2 hfa hfb hn ea eb b0 sz0 hW pa pb
  go_enter Try.func15, Try.ntmps15
  go_wp2_with fail
  rw [EW.out]
  clear x0 x1 x2 y0 y1 y2 EW
  go_loopg [5] n (fun gk s5 wx => SameH W0 n gk s5 wx)
  case atStart => exact H0.out
  case round =>
    clear H0
    obtain ⟨i, rfl, hin, hg, hG⟩ := hrel
    have G := hid hG
    have HG := hid hg
    have x2 := (PA.out.step hG).at (i := 2) rfl
    have y2 := (PB.out.step hG).at (i := 2) rfl
    clear hG hg
    by_cases hlt : i < n
    · have hlt' : (i : Int) < (n : Int) := by omega
      obtain ⟨b1, o1, rfl⟩ := FA.out (by omega)
      obtain ⟨b2, o2, rfl⟩ := FB.out (by omega)
      obtain ⟨nf, xf, adf, qf, k0, k1, zf⟩ := Zcs.at9 (A0.out.now G.out) (ZA.out.now G.out) (i := i) (by rw [HN.out]; exact hlt)
      obtain ⟨ng, xg, adg, qg, k2, k3, zg⟩ := Zcs.at9 (B0.out.now G.out) (ZB.out.now G.out) (i := i) (by rw [HN.out]; exact hlt)
      have HS : Hid (∀ w', Below wr.heap.size wr w' → Calls Try.prog 47 #[.agg #[.bool nf, .slice adf xf.length qf], .agg #[.bool ng, .slice adg xg.length qg]] w' fun e w'' => e = .returned (.bool true) ∧ Below w'.heap.size w' w'') := fun w' h => alike10_yes (zf.now h) (zg.now h) rfl
      clear zf zg
      have hw := wrapI9 (i := i) (by omega)
      go_wp2_with fail
      have KB : Hid (∀ w', Below wr.heap.size wr w' → w'.cell? ⟨w.heap.size, 2, none⟩ = some (.slice (some ⟨b1, o1, none⟩) n ca) ∧ w'.cell? ⟨w.heap.size + 1, 2, none⟩ = some (.slice (some ⟨b2, o2, none⟩) n cb) ∧ w'.cell? ⟨b1, o1 + i * 2, none⟩ = some (.bool nf) ∧ w'.cell? ⟨b1, o1 + i * 2 + 1, none⟩ = some (.slice adf xf.length qf) ∧ w'.cell? ⟨b2, o2 + i * 2, none⟩ = some (.bool ng) ∧ w'.cell? ⟨b2, o2 + i * 2 + 1, none⟩ = some (.slice adg xg.length qg)) := fun w' h => ⟨cnow h x2, cnow h y2, cnow h k0, cnow h k1, cnow h k2, cnow h k3⟩
      refine wp_region_tail (fun w' => w'.cell? ⟨w.heap.size, 2, none⟩ = some (.slice (some ⟨b1, o1, none⟩) n ca) ∧ w'.cell? ⟨w.heap.size + 1, 2, none⟩ = some (.slice (some ⟨b2, o2, none⟩) n cb) ∧ w'.cell? ⟨b1, o1 + i * 2, none⟩ = some (.bool nf) ∧ w'.cell? ⟨b1, o1 + i * 2 + 1, none⟩ = some (.slice adf xf.length qf) ∧ w'.cell? ⟨b2, o2 + i * 2, none⟩ = some (.bool ng) ∧ w'.cell? ⟨b2, o2 + i * 2 + 1, none⟩ = some (.slice adg xg.length qg)) 11 (by kernel_rfl) ?_
      obtain ⟨D1, hD⟩ : ∃ D1, wr.drew = D1 := ⟨_, rfl⟩
      have GB : Hid (Below wr.heap.size wr D1) := by unfold Hid; rw [← hD]; exact (Below.refl _ _).drew
      rw [hD]
      clear hD
      refine wpAnyT_take (i := 0) (oi := { dst := some 34, op := Op.fieldAddr 24 (Operand.tmp 2) 2, type := 0, pos := "law.go:84", after := #[], guard := none }) (v := (.pointer (some ⟨w.heap.size, 2, none⟩))) rfl (by kernel_rfl) (fun _ _ _ h => h) (Or.inl ⟨by rfl, ?_⟩) (KB.out _ GB.out) ?_
      · intro w hSw
        (try dsimp only at hSw)
        go_simp
      simp only [Act.put, List.setIfInBounds_toArray, List.set_cons_zero, List.set_cons_succ]
      refine wpAnyT_take (i := 1) (oi := { dst := some 35, op := Op.load 22 (Operand.tmp 34), type := 22, pos := "law.go:84", after := #[{ on := 0, ground := Ground.data }], guard := none }) (v := (.slice (some ⟨b1, o1, none⟩) n ca)) rfl (by kernel_rfl) (fun _ _ _ h => h) (Or.inl ⟨by rfl, ?_⟩) (KB.out _ GB.out) ?_
      · intro w hSw
        (try dsimp only at hSw)
        go_simp
      simp only [Act.put, List.setIfInBounds_toArray, List.set_cons_zero, List.set_cons_succ]
      refine wpAnyT_take (i := 2) (oi := { dst := some 36, op := Op.move (Operand.tmp 5), type := 3, pos := "law.go:84", after := #[], guard := none }) (v := (.int .i64 (i : Int))) rfl (by kernel_rfl) (fun _ _ _ h => h) (Or.inl ⟨by rfl, ?_⟩) (KB.out _ GB.out) ?_
      · intro w hSw
        (try dsimp only at hSw)
        go_simp
      simp only [Act.put, List.setIfInBounds_toArray, List.set_cons_zero, List.set_cons_succ]
      refine wpAnyT_take (i := 3) (oi := { dst := some 37, op := Op.indexAddr 22 (Operand.tmp 35) (Operand.tmp 36), type := 0, pos := "law.go:84", after := #[{ on := 1, ground := Ground.data }, { on := 2, ground := Ground.data }], guard := none }) (v := (.pointer (some ⟨b1, o1 + i * 2, none⟩))) rfl (by kernel_rfl) (fun _ _ _ h => h) (Or.inl ⟨by rfl, ?_⟩) (KB.out _ GB.out) ?_
      · intro w hSw
        (try dsimp only at hSw)
        go_simp
      simp only [Act.put, List.setIfInBounds_toArray, List.set_cons_zero, List.set_cons_succ]
      refine wpAnyT_take (i := 4) (oi := { dst := some 38, op := Op.load 35 (Operand.tmp 37), type := 35, pos := "law.go:84", after := #[{ on := 3, ground := Ground.data }], guard := none }) (v := (.agg #[.bool nf, .slice adf xf.length qf])) rfl (by kernel_rfl) (fun _ _ _ h => h) (Or.inl ⟨by rfl, ?_⟩) (KB.out _ GB.out) ?_
      · intro w hSw
        (try dsimp only at hSw)
        go_simp
      simp only [Act.put, List.setIfInBounds_toArray, List.set_cons_zero, List.set_cons_succ]
      refine wpAnyT_take (i := 5) (oi := { dst := some 39, op := Op.fieldAddr 24 (Operand.tmp 3) 2, type := 0, pos := "law.go:84", after := #[], guard := none }) (v := (.pointer (some ⟨w.heap.size + 1, 2, none⟩))) rfl (by kernel_rfl) (fun _ _ _ h => h) (Or.inl ⟨by rfl, ?_⟩) (KB.out _ GB.out) ?_
      · intro w hSw
        (try dsimp only at hSw)
        go_simp
      simp only [Act.put, List.setIfInBounds_toArray, List.set_cons_zero, List.set_cons_succ]
      refine wpAnyT_take (i := 6) (oi := { dst := some 40, op := Op.load 22 (Operand.tmp 39), type := 22, pos := "law.go:84", after := #[{ on := 5, ground := Ground.data }], guard := none }) (v := (.slice (some ⟨b2, o2, none⟩) n cb)) rfl (by kernel_rfl) (fun _ _ _ h => h) (Or.inl ⟨by rfl, ?_⟩) (KB.out _ GB.out) ?_
      · intro w hSw
        (try dsimp only at hSw)
        go_simp
      simp only [Act.put, List.setIfInBounds_toArray, List.set_cons_zero, List.set_cons_succ]
      refine wpAnyT_take (i := 7) (oi := { dst := some 41, op := Op.move (Operand.tmp 5), type := 3, pos := "law.go:84", after := #[], guard := none }) (v := (.int .i64 (i : Int))) rfl (by kernel_rfl) (fun _ _ _ h => h) (Or.inl ⟨by rfl, ?_⟩) (KB.out _ GB.out) ?_
      · intro w hSw
        (try dsimp only at hSw)
        go_simp
      simp only [Act.put, List.setIfInBounds_toArray, List.set_cons_zero, List.set_cons_succ]
      refine wpAnyT_take (i := 8) (oi := { dst := some 42, op := Op.indexAddr 22 (Operand.tmp 40) (Operand.tmp 41), type := 0, pos := "law.go:84", after := #[{ on := 6, ground := Ground.data }, { on := 7, ground := Ground.data }], guard := none }) (v := (.pointer (some ⟨b2, o2 + i * 2, none⟩))) rfl (by kernel_rfl) (fun _ _ _ h => h) (Or.inl ⟨by rfl, ?_⟩) (KB.out _ GB.out) ?_
      · intro w hSw
        (try dsimp only at hSw)
        go_simp
      simp only [Act.put, List.setIfInBounds_toArray, List.set_cons_zero, List.set_cons_succ]
      refine wpAnyT_take (i := 9) (oi := { dst := some 43, op := Op.load 35 (Operand.tmp 42), type := 35, pos := "law.go:84", after := #[{ on := 8, ground := Ground.data }], guard := none }) (v := (.agg #[.bool ng, .slice adg xg.length qg])) rfl (by kernel_rfl) (fun _ _ _ h => h) (Or.inl ⟨by rfl, ?_⟩) (KB.out _ GB.out) ?_
      · intro w hSw
        (try dsimp only at hSw)
        go_simp
      simp only [Act.put, List.setIfInBounds_toArray, List.set_cons_zero, List.set_cons_succ]
      refine wpAnyT_one (i := 10) (o := { dst := some 44, op := Op.call { callee := Callee.value (Operand.func 47), args := #[Operand.tmp 38, Operand.tmp 43], argTypes := #[35, 35] }, type := 4, pos := "law.go:84", after := #[{ on := 4, ground := Ground.data }, { on := 9, ground := Ground.data }], guard := none }) (by kernel_rfl) rfl (fun K hK => ?_)
      go_simp
      go_at_call 47
      refine (HS.out _ GB.out).mono ?_
      rintro e w2 ⟨rfl, b⟩
      have lz2 := (show Below _ _ _ from b).size
      replace GB := hid (below_step GB.out b)
      have G1 := hid (below_step G.out GB.out)
      clear b
      refine hK.out _ _ (fun _ => KB.out _ GB.out) ?_
      clear hK
      refine wpAnyT_one (i := 11) (o := { dst := some 45, op := Op.unOp UnOp.not 4 (Operand.tmp 44), type := 4, pos := "law.go:84", after := #[{ on := 10, ground := Ground.data }], guard := none }) (by kernel_rfl) rfl (fun K hK => ?_)
      go_simp
      refine hK.out _ _ (fun h => absurd h (by decide)) ?_
      clear hK
      try simp only [Act.put]
      refine wpAnyT_done (by kernel_rfl) ?_ _
      have HN1 : Hid (SameH W0 n (n - (i + 1)) (.int .i64 ((i + 1 : Nat) : Int)) w2) := ⟨i + 1, rfl, by omega, rfl, G1.out⟩
      have HMM : Hid (n - (i + 1) < gk) := by unfold Hid; rw [HG.out]; omega
      clear HS G HG G1 GB KB k0 k1 k2 k3 x2 y2
      go_wp2_with fail
      go_roundg (n - (i + 1))
      case rel => exact HN1.out
      case measure => exact HMM.out
    · have hlt' : ¬ (i : Int) < (n : Int) := by omega
      have FIN := hid (below_step G0.out G.out)
      clear HG G G0
      go_wp2
      go_ret
      exact ⟨rfl, FIN.out⟩
end Go.Proofs.Ytachdicdfhfoaaa
