/-
  ExtAll6: ExtAll of bezout.
-/
import Derived.Test.YtkikiddoiigbjaaQTy9ToExtH6
namespace Go.Proofs.Ytkikiddoiigbjaa
open Go.RowKit
set_option linter.unusedVariables false

def Made2 (W : World) (n : Nat) (s1 s2 : Value) (wx : World) : Prop := ∃ g h, s1 = .slice (some ⟨g, 0, none⟩) n n ∧ s2 = .slice (some ⟨h, 0, none⟩) n n ∧ g ≠ h ∧ W.heap.size ≤ g ∧ W.heap.size ≤ h ∧ Arr wx g (List.replicate n zpair) ∧ Arr wx h (List.replicate n zpair) ∧ Below W.heap.size W wx
def EAH (w : World) (L : List Int) (k n g h gk : Nat) (s : Value) (wx : World) : Prop :=
  ∃ i X Y, s = .int .i64 ((i : Nat) : Int) ∧ i ≤ n ∧ gk = n - i ∧ Exts L X Y i ∧ (∃ m a l c, Duo wx (w.heap.size + 1) (.bool m) (.slice a l c) ∧ Zm 0 wx (.agg #[.bool m, .slice a l c]) (gcdL (L.take i)) k) ∧ Duo wx w.heap.size (.bool false) (.slice none 0 0) ∧ FilM wx g n i X k ∧ FilM wx h n i Y k ∧ Below w.heap.size w wx
def EBH (w : World) (L : List Int) (k n g h bb : Nat) (X Y : Nat → Int) (gk : Nat) (s : Value) (wx : World) : Prop :=
  ∃ d : Nat, s = .int .i64 ((n : Int) - ((d : Int) + 1)) ∧ d ≤ n ∧ gk = n - d ∧ (∃ m a l c, Duo wx bb (.bool m) (.slice a l c) ∧ Zm 0 wx (.agg #[.bool m, .slice a l c]) (behN X n d) (d * k + 1)) ∧ (∃ m a l c, Duo wx (w.heap.size + 1) (.bool m) (.slice a l c) ∧ Zm 0 wx (.agg #[.bool m, .slice a l c]) (gcdL L) k) ∧ Duo wx w.heap.size (.bool false) (.slice none 0 0) ∧ FilM wx g n n X k ∧ FilM wx h n (n - d) Y k ∧ FilM wx h n n (fun t => if n - d ≤ t then mulN X Y n t else Y t) (n * k + k + 1) ∧ Below w.heap.size w wx
def ExtAlled (w : World) (L : List Int) (k n : Nat) (e : Ending) (w' : World) : Prop :=
  ∃ r h X Y, e = .returned (.tuple #[r, .slice (some ⟨h, 0, none⟩) n n]) ∧ Zm 0 w' r (gcdL L) k ∧ Exts L X Y n ∧ FilM w' h n n (mulN X Y n) (n * k + k + 1) ∧ Below w.heap.size w w'
set_option maxHeartbeats 1600000 in
set_option maxRecDepth 100000 in
theorem extAll6 {w : World} {v : Value} {L : List Int} {k : Nat} (hv : Zl w v L k) (h1 : 1 ≤ k) (hk : k ≤ 1048576) :
    Calls Try.prog 6 #[v] w (ExtAlled w L k L.length) := by
  have V0 := hid hv
  obtain ⟨a0, c0, rfl, hc0, hn0, hf0⟩ := hv.form9
  obtain ⟨n, hn⟩ : ∃ n, L.length = n := ⟨_, rfl⟩
  have GT : Hid (gcdL L = gcdL (L.take L.length)) := by unfold Hid; rw [List.take_length]
  rw [hn] at V0 hc0 hn0 GT ⊢
  have HN := hid hn
  have F0 := hid hf0
  have HK := hid hk
  have H1 := hid h1
  clear hv hf0 hn hk h1
  obtain ⟨W0, hW⟩ : ∃ W0, (w.alloc zbox).alloc zbox = W0 := ⟨_, rfl⟩
  obtain ⟨b0, sz0⟩ := alloc2 w zbox zbox
  rw [hW] at b0 sz0
  have p2 : Duo W0 w.heap.size (.bool false) (.slice none 0 0) := by rw [← hW]; exact (Duo.new w _ _).later (by simp) _
  have p3 : Duo W0 (w.heap.size + 1) (.bool false) (.slice none 0 0) := by
    rw [← hW]
    have := Duo.new (w.alloc zbox) (.bool false) (.slice none 0 0)
    simpa using this
  have PR := hid p2
  have PG := hid p3
  have G0 := hid b0
  have SZ := hid sz0
  have EW := hid hW
  clear b0 sz0 hW p2 p3
  go_enter Try.func6, Try.ntmps6
  go_wp2_with fail
  rw [EW.out]
  clear EW
  go_cut [5, 6] from 11 (fun s1 s2 wx => Made2 W0 n s1 s2 wx)
  case first =>
    refine wp_region_tail (fun _ => True) 7 (by kernel_rfl) ?_
    obtain ⟨D1, hD⟩ : ∃ D1, W0.drew = D1 := ⟨_, rfl⟩
    have GB : Hid (Below W0.heap.size W0 D1) := by unfold Hid; rw [← hD]; exact (Below.refl _ _).drew
    rw [hD]
    clear hD
    have lz0 := GB.out.size
    refine wpAnyT_take (i := 0) (oi := { dst := some 11, op := Op.move (Operand.tmp 0), type := 22, pos := "bezout.go:63", after := #[], guard := none }) (v := (.slice a0 n c0)) rfl (by kernel_rfl) (fun _ _ _ h => h) (Or.inl ⟨by rfl, ?_⟩) (trivial) ?_
    · intro w hSw
      (try dsimp only at hSw)
      go_simp
    simp only [Act.put, List.setIfInBounds_toArray, List.set_cons_zero, List.set_cons_succ]
    refine wpAnyT_take (i := 1) (oi := { dst := some 12, op := Op.call { callee := Callee.builtin Builtin.len, args := #[Operand.tmp 11], argTypes := #[22] }, type := 3, pos := "bezout.go:63", after := #[{ on := 0, ground := Ground.data }], guard := none }) (v := (.int .i64 (n : Int))) rfl (by kernel_rfl) (fun _ _ _ h => h) (Or.inl ⟨by rfl, ?_⟩) (trivial) ?_
    · intro w hSw
      (try dsimp only at hSw)
      go_simp
    simp only [Act.put, List.setIfInBounds_toArray, List.set_cons_zero, List.set_cons_succ]
    refine wpAnyT_take (i := 3) (oi := { dst := some 14, op := Op.move (Operand.tmp 0), type := 22, pos := "bezout.go:63", after := #[], guard := none }) (v := (.slice a0 n c0)) rfl (by kernel_rfl) (fun _ _ _ h => h) (Or.inl ⟨by rfl, ?_⟩) (trivial) ?_
    · intro w hSw
      (try dsimp only at hSw)
      go_simp
    simp only [Act.put, List.setIfInBounds_toArray, List.set_cons_zero, List.set_cons_succ]
    refine wpAnyT_take (i := 4) (oi := { dst := some 15, op := Op.call { callee := Callee.builtin Builtin.len, args := #[Operand.tmp 14], argTypes := #[22] }, type := 3, pos := "bezout.go:63", after := #[{ on := 3, ground := Ground.data }], guard := none }) (v := (.int .i64 (n : Int))) rfl (by kernel_rfl) (fun _ _ _ h => h) (Or.inl ⟨by rfl, ?_⟩) (trivial) ?_
    · intro w hSw
      (try dsimp only at hSw)
      go_simp
    simp only [Act.put, List.setIfInBounds_toArray, List.set_cons_zero, List.set_cons_succ]
    refine wpAnyT_two (i := 2) (j := 5) (oi := { dst := some 13, op := Op.makeSlice 22 (Operand.tmp 12) (Operand.tmp 12), type := 22, pos := "bezout.go:63", after := #[{ on := 1, ground := Ground.data }, { on := 1, ground := Ground.data }], guard := none }) (oj := { dst := some 16, op := Op.makeSlice 22 (Operand.tmp 15) (Operand.tmp 15), type := 22, pos := "bezout.go:63", after := #[{ on := 4, ground := Ground.data }, { on := 4, ground := Ground.data }], guard := none }) (by kernel_rfl) rfl rfl (fun K hK => ?_) (fun K hK => ?_)
    · skip
      refine step_make_pairs D1 rfl (.tmp 12) (.tmp 12) rfl n rfl rfl (by omega) ?_
      intro vX2 arX b szX
      replace GB := hid (below_step GB.out b)
      have AX := hid arX
      have ZX := szX
      have lzX := GB.out.size
      clear b arX
      refine hK.out _ _ (fun _ => trivial) ?_
      clear hK
      try simp only [Act.put]
      refine wpAnyT_take (i := 6) (oi := { dst := some 5, op := Op.assign (Operand.tmp 13), type := 22, pos := "bezout.go:63", after := #[{ on := 2, ground := Ground.data }, { on := 0, ground := Ground.phase }, { on := 1, ground := Ground.phase }, { on := 2, ground := Ground.phase }, { on := 3, ground := Ground.textOnly Departure.lateStores }, { on := 4, ground := Ground.textOnly Departure.lateStoresUnsure }, { on := 5, ground := Ground.textOnly Departure.lateStoresUnsure }], guard := none }) (v := (.slice (some ⟨D1.heap.size, 0, none⟩) n n)) rfl (by kernel_rfl) (fun _ _ _ h => h) (Or.inl ⟨by rfl, ?_⟩) (trivial) ?_
      · intro w hSw
        (try dsimp only at hSw)
        go_simp
      simp only [Act.put, List.setIfInBounds_toArray, List.set_cons_zero, List.set_cons_succ]
      refine wpAnyT_one (i := 5) (o := { dst := some 16, op := Op.makeSlice 22 (Operand.tmp 15) (Operand.tmp 15), type := 22, pos := "bezout.go:63", after := #[{ on := 4, ground := Ground.data }, { on := 4, ground := Ground.data }], guard := none }) (by kernel_rfl) rfl (fun K hK => ?_)
      refine step_make_pairs vX2 rfl (.tmp 15) (.tmp 15) rfl n rfl rfl (by omega) ?_
      intro vY3 arY b szY
      replace GB := hid (below_step GB.out b)
      have AY := hid arY
      have ZY := szY
      have lzY := GB.out.size
      replace AX := hid (AX.out.step b)
      clear b arY
      refine hK.out _ _ (fun _ => trivial) ?_
      clear hK
      try simp only [Act.put]
      refine wpAnyT_one (i := 7) (o := { dst := some 6, op := Op.assign (Operand.tmp 16), type := 22, pos := "bezout.go:63", after := #[{ on := 5, ground := Ground.data }, { on := 6, ground := Ground.chain }, { on := 0, ground := Ground.phase }, { on := 1, ground := Ground.phase }, { on := 2, ground := Ground.phase }, { on := 3, ground := Ground.phase }, { on := 4, ground := Ground.phase }, { on := 5, ground := Ground.phase }, { on := 6, ground := Ground.phase }], guard := none }) (by kernel_rfl) rfl (fun K hK => ?_)
      go_simp
      refine hK.out _ _ (fun h => absurd h (by decide)) ?_
      clear hK
      try simp only [Act.put]
      refine wpAnyT_done (by kernel_rfl) ?_ _
      have h1 := ZX.out
      have h2 := ZY.out
      go_wp2_with fail
      go_meet
      exact ⟨_, _, rfl, rfl, by omega, by omega, by omega, AX.out, AY.out, GB.out⟩
    · skip
      refine step_make_pairs D1 rfl (.tmp 15) (.tmp 15) rfl n rfl rfl (by omega) ?_
      intro vY4 arY b szY
      replace GB := hid (below_step GB.out b)
      have AY := hid arY
      have ZY := szY
      have lzY := GB.out.size
      clear b arY
      refine hK.out _ _ (fun _ => trivial) ?_
      clear hK
      try simp only [Act.put]
      refine wpAnyT_one (i := 2) (o := { dst := some 13, op := Op.makeSlice 22 (Operand.tmp 12) (Operand.tmp 12), type := 22, pos := "bezout.go:63", after := #[{ on := 1, ground := Ground.data }, { on := 1, ground := Ground.data }], guard := none }) (by kernel_rfl) rfl (fun K hK => ?_)
      refine step_make_pairs vY4 rfl (.tmp 12) (.tmp 12) rfl n rfl rfl (by omega) ?_
      intro vX5 arX b szX
      replace GB := hid (below_step GB.out b)
      have AX := hid arX
      have ZX := szX
      have lzX := GB.out.size
      replace AY := hid (AY.out.step b)
      clear b arX
      refine hK.out _ _ (fun _ => trivial) ?_
      clear hK
      try simp only [Act.put]
      refine wpAnyT_take (i := 6) (oi := { dst := some 5, op := Op.assign (Operand.tmp 13), type := 22, pos := "bezout.go:63", after := #[{ on := 2, ground := Ground.data }, { on := 0, ground := Ground.phase }, { on := 1, ground := Ground.phase }, { on := 2, ground := Ground.phase }, { on := 3, ground := Ground.textOnly Departure.lateStores }, { on := 4, ground := Ground.textOnly Departure.lateStoresUnsure }, { on := 5, ground := Ground.textOnly Departure.lateStoresUnsure }], guard := none }) (v := (.slice (some ⟨vY4.heap.size, 0, none⟩) n n)) rfl (by kernel_rfl) (fun _ _ _ h => h) (Or.inl ⟨by rfl, ?_⟩) (trivial) ?_
      · intro w hSw
        (try dsimp only at hSw)
        go_simp
      simp only [Act.put, List.setIfInBounds_toArray, List.set_cons_zero, List.set_cons_succ]
      refine wpAnyT_one (i := 7) (o := { dst := some 6, op := Op.assign (Operand.tmp 16), type := 22, pos := "bezout.go:63", after := #[{ on := 5, ground := Ground.data }, { on := 6, ground := Ground.chain }, { on := 0, ground := Ground.phase }, { on := 1, ground := Ground.phase }, { on := 2, ground := Ground.phase }, { on := 3, ground := Ground.phase }, { on := 4, ground := Ground.phase }, { on := 5, ground := Ground.phase }, { on := 6, ground := Ground.phase }], guard := none }) (by kernel_rfl) rfl (fun K hK => ?_)
      go_simp
      refine hK.out _ _ (fun h => absurd h (by decide)) ?_
      clear hK
      try simp only [Act.put]
      refine wpAnyT_done (by kernel_rfl) ?_ _
      have h1 := ZX.out
      have h2 := ZY.out
      go_wp2_with fail
      go_meet
      exact ⟨_, _, rfl, rfl, by omega, by omega, by omega, AX.out, AY.out, GB.out⟩
  case rest =>
    obtain ⟨g, h, rfl, rfl, hgh, hg, hh, ag, ah, b⟩ := hcut
    have H0 : Hid (EAH w L k n g h n (.int .i64 0) wc) := ⟨0, fun _ => 0, fun _ => 0, rfl, Nat.zero_le _, by omega, fun i hi => absurd hi (Nat.not_lt_zero _), ⟨_, _, _, _, PG.out.step b, zm_zero9 _ _⟩, PR.out.step b, FilM.start ag _ _, FilM.start ah _ _, below_step G0.out b⟩
    have hg0 : w.heap.size + 1 < g := by have := SZ.out; omega
    have hh0 : w.heap.size + 1 < h := by have := SZ.out; omega
    clear ag ah b hg hh PG PR G0 SZ
    go_wp2_with fail
    go_loopg [19] n (fun gk s19 wx => EAH w L k n g h gk s19 wx)
    case atStart => exact H0.out
    case round =>
      clear H0
      obtain ⟨i, X, Y, rfl, hin, hgk, hex, ⟨m, ag, lg, cg, hd, hz⟩, hr, hfx, hfy, hG⟩ := hrel
      have PG := hid hd
      have ZG := hid hz
      have PR := hid hr
      have G := hid hG
      have HG := hid hgk
      have EX := hid hex
      have FX := hid hfx
      have FY := hid hfy
      clear hd hz hr hG hgk hex hfx hfy
      by_cases hlt : i < n
      · have hlt' : (i : Int) < (n : Int) := by omega
        obtain ⟨b1, o1, rfl⟩ := F0.out (fun e => by have := HN.out; rw [e] at this; simp at this; omega)
        obtain ⟨nf, xf, adf, qf, k0, k1, zf⟩ := (V0.out.now G.out).at9 (i := i) (by rw [HN.out]; exact hlt)
        obtain ⟨V1, hV⟩ : ∃ V1, wr.alloc (duo (.bool nf) (.slice adf xf.length qf)) = V1 := ⟨_, rfl⟩
        obtain ⟨b, sz1⟩ := alo1 wr (duo (.bool nf) (.slice adf xf.length qf))
        rw [hV] at b sz1
        have PN : Hid (Duo V1 wr.heap.size (.bool nf) (.slice adf xf.length qf)) := by unfold Hid; rw [← hV]; exact Duo.new wr _ _
        have lt0 := PR.out.blk
        have lt1 := PG.out.blk
        have hgr : g < wr.heap.size := by obtain ⟨C, q⟩ := FX.out.cel; exact q.blk
        have hhr : h < wr.heap.size := by obtain ⟨C, q⟩ := FY.out.cel; exact q.blk
        replace ZG := hid (ZG.out.now b)
        have ZF := hid (zf.now b)
        replace PG := hid (PG.out.step b)
        replace PR := hid (PR.out.step b)
        replace FX := hid (FX.out.step b)
        replace FY := hid (FY.out.step b)
        replace G := hid (below_step G.out b)
        have HS := hid (ext_z ZG.out.zi ZF.out H1.out (Nat.le_trans HK.out (by decide)))
        have n0 := PN.out.c0
        have n1 := PN.out.c1
        have g0 := PG.out.c0
        have g1 := PG.out.c1
        rw [← hV] at n0 n1 g0 g1
        have EV := hid hV
        have hw := wrapI9 (i := i) (by omega)
        clear zf b sz1 hV PN ZG ZF
        go_wp2_with fail
        rw [EV.out]
        refine HS.out.mono ?_
        rintro e w1 ⟨zg, zx, zy, rg, rx, ry, ev, rfl, mg, mx, my, b⟩
        clear EV k0 k1 n0 n1 g0 g1 HS
        replace PG := hid (PG.out.step b)
        replace PR := hid (PR.out.step b)
        replace FX := hid (FX.out.step b)
        replace FY := hid (FY.out.step b)
        replace G := hid (below_step G.out b)
        replace EX := hid (EX.out.next (by rw [HN.out]; exact hlt) ev)
        have EG := hid (ev.gcd.trans (gcdL_take (L := L) (i := i) (by rw [HN.out]; exact hlt)).symm)
        obtain ⟨n1, x1, a1, c1, rfl⟩ := mg.parts
        obtain ⟨n2, x2, a2, c2, rfl⟩ := mx.parts
        obtain ⟨n3, x3, a3, c3, rfl⟩ := my.parts
        have MG := hid (mg.mono (Nat.zero_le _))
        have MX := hid (mx.mono (Nat.zero_le _))
        have MY := hid (my.mono (Nat.zero_le _))
        rw [EG.out] at MG
        replace FX := hid (FX.out.same (F' := fun t => if t = i then zx else X t) (fun j hj => by simp [Nat.ne_of_lt hj]))
        replace FY := hid (FY.out.same (F' := fun t => if t = i then zy else Y t) (fun j hj => by simp [Nat.ne_of_lt hj]))
        clear mg mx my ev b EG
        have e0 := PG.out.c0
        have e1 := PG.out.c1
        have e2 := PG.out.fz 0
        have e3 := PG.out.fz 1
        replace MG := hid (MG.out.box PG.out (.bool n1) (.slice a1 x1.length c1))
        replace MX := hid (MX.out.box PG.out (.bool n1) (.slice a1 x1.length c1))
        replace MY := hid (MY.out.box PG.out (.bool n1) (.slice a1 x1.length c1))
        replace FX := hid (FX.out.box PG.out (by omega) (.bool n1) (.slice a1 x1.length c1))
        replace FY := hid (FY.out.box PG.out (by omega) (.bool n1) (.slice a1 x1.length c1))
        replace PR := hid (PR.out.box (b' := w.heap.size + 1) (by omega) (.bool n1) (.slice a1 x1.length c1))
        replace PG := hid (PG.out.set (.bool n1) (.slice a1 x1.length c1))
        obtain ⟨mA, aA, lA, cA, f0, f1, f2, f3⟩ := FX.out.cells (j := i) hlt
        replace MG := hid (MG.out.far FX.out i (.bool n2) (.slice a2 x2.length c2))
        replace MY := hid (MY.out.far FX.out i (.bool n2) (.slice a2 x2.length c2))
        replace FY := hid (FY.out.far FX.out (by omega) i (.bool n2) (.slice a2 x2.length c2))
        replace PR := hid (PR.out.far (g := g) (by omega) i (.bool n2) (.slice a2 x2.length c2))
        replace PG := hid (PG.out.far (g := g) (by omega) i (.bool n2) (.slice a2 x2.length c2))
        replace FX := hid (FX.out.put hlt (x := .bool n2) (y := .slice a2 x2.length c2) (by simpa using MX.out))
        obtain ⟨mB, aB, lB, cB, p0, p1, p2, p3⟩ := FY.out.cells (j := i) hlt
        replace MG := hid (MG.out.far FY.out i (.bool n3) (.slice a3 x3.length c3))
        replace FX := hid (FX.out.far FY.out (by omega) i (.bool n3) (.slice a3 x3.length c3))
        replace PR := hid (PR.out.far (g := h) (by omega) i (.bool n3) (.slice a3 x3.length c3))
        replace PG := hid (PG.out.far (g := h) (by omega) i (.bool n3) (.slice a3 x3.length c3))
        replace FY := hid (FY.out.put hlt (x := .bool n3) (y := .slice a3 x3.length c3) (by simpa using MY.out))
        have HN1 : Hid (EAH w L k n g h (n - (i + 1)) (.int .i64 ((i + 1 : Nat) : Int)) ((((((w1.setCell ⟨w.heap.size + 1, 0, none⟩ (.bool n1)).setCell ⟨w.heap.size + 1, 1, none⟩ (.slice a1 x1.length c1)).setCell ⟨g, i * 2, none⟩ (.bool n2)).setCell ⟨g, i * 2 + 1, none⟩ (.slice a2 x2.length c2)).setCell ⟨h, i * 2, none⟩ (.bool n3)).setCell ⟨h, i * 2 + 1, none⟩ (.slice a3 x3.length c3))) :=
          ⟨i + 1, _, _, rfl, by omega, rfl, EX.out, ⟨_, _, _, _, PG.out, MG.out⟩, PR.out, FX.out, FY.out, bset (bset (bset (bset (bset (bset G.out (by omega)) (by omega)) (by omega)) (by omega)) (by omega)) (by omega)⟩
        have HMM : Hid (n - (i + 1) < gk) := by unfold Hid; rw [HG.out]; omega
        clear HG EX MG MX MY PG PR FX FY G
        go_wp2_with fail
        go_roundg (n - (i + 1))
        case rel => exact HN1.out
        case measure => exact HMM.out
      · have hlt' : ¬ (i : Int) < (n : Int) := by omega
        obtain rfl : n = i := by omega
        rw [← GT.out] at ZG
        clear hlt HG
        go_wp2_with fail
        refine (of_z (by decide) (by decide) wr).mono ?_
        rintro e w1 ⟨r, rfl, m1, b⟩
        replace ZG := hid (ZG.out.now b)
        replace PG := hid (PG.out.step b)
        replace PR := hid (PR.out.step b)
        replace FX := hid (FX.out.step b)
        replace FY := hid (FY.out.step b)
        replace G := hid (below_step G.out b)
        obtain ⟨nb, xb, ab, cb, rfl⟩ := m1.parts
        have ZB := hid (m1.mono (Nat.zero_le _))
        clear m1 b
        obtain ⟨V2, hV⟩ : ∃ V2, w1.alloc (duo (.bool nb) (.slice ab xb.length cb)) = V2 := ⟨_, rfl⟩
        obtain ⟨b, sz1⟩ := alo1 w1 (duo (.bool nb) (.slice ab xb.length cb))
        rw [hV] at b sz1
        have PB : Hid (Duo V2 w1.heap.size (.bool nb) (.slice ab xb.length cb)) := by unfold Hid; rw [← hV]; exact Duo.new w1 _ _
        have lt0 := PR.out.blk
        have lt1 := PG.out.blk
        have hgr : g < w1.heap.size := by obtain ⟨C, q⟩ := FX.out.cel; exact q.blk
        have hhr : h < w1.heap.size := by obtain ⟨C, q⟩ := FY.out.cel; exact q.blk
        have HB : Hid (EBH w L k n g h w1.heap.size X Y n (.int .i64 ((n : Int) - 1)) V2) := ⟨0, by simp, Nat.zero_le _, by omega, ⟨_, _, _, _, PB.out, (ZB.out.now b).more (by omega)⟩, ⟨_, _, _, _, PG.out.step b, ZG.out.now b⟩, PR.out.step b, FX.out.step b, FY.out.step b, ((FY.out.step b).more (fun v z q => q.more (by omega))).same (fun j hj => by simp; omega), below_step G.out b⟩
        have EV := hid hV
        have hw := wrapS9 (i := n) (by omega)
        clear b sz1 hV PB PG PR FX FY G ZG ZB
        go_wp2_with fail
        rw [EV.out]
        clear EV
        generalize w1.heap.size = bb at *
        go_loopg [10] n (fun gk s10 wx => EBH w L k n g h bb X Y gk s10 wx)
        case atStart => exact HB.out
        case round =>
          clear HB hw
          obtain ⟨d, rfl, hdn, hgk, ⟨mb, ab, lb, cb, hb, hzb⟩, ⟨m, ag, lg, cg, hd, hz⟩, hr, hfx, hfy, hfz, hG⟩ := hrel
          have PB := hid hb
          have ZB := hid hzb
          have PG := hid hd
          have ZG := hid hz
          have PR := hid hr
          have FX := hid hfx
          have FY := hid hfy
          have FZ := hid hfz
          have G := hid hG
          have HG := hid hgk
          clear hb hzb hd hz hr hfx hfy hfz hG hgk
          by_cases hlt : d < n
          · obtain ⟨i, hi⟩ : ∃ i, n = i + d + 1 := ⟨n - (d + 1), by omega⟩
            have es : (n : Int) - ((d : Int) + 1) = (i : Int) := by omega
            rw [es]
            have hge : (0 : Int) ≤ (i : Int) := by omega
            have hin' : (i : Int) < (n : Int) := by omega
            have hw := wrapS9 (i := i) (by omega)
            have hdk : d * k + k ≤ n * k := by
              have q := Nat.mul_le_mul_right k (show d + 1 ≤ n by omega)
              rw [Nat.succ_mul] at q
              exact q
            have hnk : n * k ≤ 1048576 * 1048576 := Nat.mul_le_mul (by omega) HK.out
            have HDK := hid hdk
            have HNK := hid hnk
            have HI := hid hi
            have HLT := hid hlt
            obtain ⟨my, ay, ly, cy, k0, k1, hzy, -, -⟩ := FY.out.at (j := i) (by omega) (by omega)
            have ZY := hid hzy
            have HS : Hid (∀ w', Below wr.heap.size wr w' → Calls Try.prog 22 #[.agg #[.bool my, .slice ay ly cy], .agg #[.bool mb, .slice ab lb cb]] w' (GivesZ w' (Y i * behN X n d) (k + (d * k + 1)))) := fun w' b => mul_z (ZY.out.now b).zi (ZB.out.now b).zi (by have := HDK.out; have := HNK.out; omega)
            have j0 := PB.out.c0
            have j1 := PB.out.c1
            clear hzy hdk hnk hi hlt es ZY
            go_wp2_with fail
            have KB : Hid (∀ w', Below wr.heap.size wr w' → w'.cell? ⟨h, i * 2, none⟩ = some (.bool my) ∧ w'.cell? ⟨h, i * 2 + 1, none⟩ = some (.slice ay ly cy) ∧ w'.cell? ⟨bb, 0, none⟩ = some (.bool mb) ∧ w'.cell? ⟨bb, 1, none⟩ = some (.slice ab lb cb)) := fun w' h => ⟨cnow h k0, cnow h k1, cnow h j0, cnow h j1⟩
            refine wp_region_tail (fun w' => w'.cell? ⟨h, i * 2, none⟩ = some (.bool my) ∧ w'.cell? ⟨h, i * 2 + 1, none⟩ = some (.slice ay ly cy) ∧ w'.cell? ⟨bb, 0, none⟩ = some (.bool mb) ∧ w'.cell? ⟨bb, 1, none⟩ = some (.slice ab lb cb)) 9 (by kernel_rfl) ?_
            obtain ⟨D21, hD⟩ : ∃ D21, wr.drew = D21 := ⟨_, rfl⟩
            have GB : Hid (Below wr.heap.size wr D21) := by unfold Hid; rw [← hD]; exact (Below.refl _ _).drew
            rw [hD]
            clear hD
            have GBs := GB
            refine wpAnyT_take (i := 0) (oi := { dst := some 46, op := Op.move (Operand.tmp 6), type := 22, pos := "bezout.go:70", after := #[], guard := none }) (v := (.slice (some ⟨h, 0, none⟩) n n)) rfl (by kernel_rfl) (fun _ _ _ h => h) (Or.inl ⟨by rfl, ?_⟩) (KB.out _ GB.out) ?_
            · intro w hSw
              (try dsimp only at hSw)
              go_simp
            simp only [Act.put, List.setIfInBounds_toArray, List.set_cons_zero, List.set_cons_succ]
            refine wpAnyT_take (i := 1) (oi := { dst := some 47, op := Op.move (Operand.tmp 10), type := 3, pos := "bezout.go:70", after := #[], guard := none }) (v := (.int .i64 (i : Int))) rfl (by kernel_rfl) (fun _ _ _ h => h) (Or.inl ⟨by rfl, ?_⟩) (KB.out _ GB.out) ?_
            · intro w hSw
              (try dsimp only at hSw)
              go_simp
            simp only [Act.put, List.setIfInBounds_toArray, List.set_cons_zero, List.set_cons_succ]
            refine wpAnyT_take (i := 2) (oi := { dst := some 48, op := Op.move (Operand.tmp 6), type := 22, pos := "bezout.go:70", after := #[], guard := none }) (v := (.slice (some ⟨h, 0, none⟩) n n)) rfl (by kernel_rfl) (fun _ _ _ h => h) (Or.inl ⟨by rfl, ?_⟩) (KB.out _ GB.out) ?_
            · intro w hSw
              (try dsimp only at hSw)
              go_simp
            simp only [Act.put, List.setIfInBounds_toArray, List.set_cons_zero, List.set_cons_succ]
            refine wpAnyT_take (i := 3) (oi := { dst := some 49, op := Op.move (Operand.tmp 10), type := 3, pos := "bezout.go:70", after := #[], guard := none }) (v := (.int .i64 (i : Int))) rfl (by kernel_rfl) (fun _ _ _ h => h) (Or.inl ⟨by rfl, ?_⟩) (KB.out _ GB.out) ?_
            · intro w hSw
              (try dsimp only at hSw)
              go_simp
            simp only [Act.put, List.setIfInBounds_toArray, List.set_cons_zero, List.set_cons_succ]
            refine wpAnyT_take (i := 4) (oi := { dst := some 50, op := Op.indexAddr 22 (Operand.tmp 48) (Operand.tmp 49), type := 0, pos := "bezout.go:70", after := #[{ on := 2, ground := Ground.data }, { on := 3, ground := Ground.data }], guard := none }) (v := (.pointer (some ⟨h, i * 2, none⟩))) rfl (by kernel_rfl) (fun _ _ _ h => h) (Or.inl ⟨by rfl, ?_⟩) (KB.out _ GB.out) ?_
            · intro w hSw
              (try dsimp only at hSw)
              go_simp
            simp only [Act.put, List.setIfInBounds_toArray, List.set_cons_zero, List.set_cons_succ]
            refine wpAnyT_take (i := 5) (oi := { dst := some 51, op := Op.load 25 (Operand.tmp 50), type := 25, pos := "bezout.go:70", after := #[{ on := 4, ground := Ground.data }], guard := none }) (v := (.agg #[.bool my, .slice ay ly cy])) rfl (by kernel_rfl) (fun _ _ _ h => h) (Or.inl ⟨by rfl, ?_⟩) (KB.out _ GB.out) ?_
            · intro w hSw
              (try dsimp only at hSw)
              go_simp
            simp only [Act.put, List.setIfInBounds_toArray, List.set_cons_zero, List.set_cons_succ]
            refine wpAnyT_take (i := 6) (oi := { dst := some 52, op := Op.load 25 (Operand.tmp 9), type := 25, pos := "bezout.go:70", after := #[], guard := none }) (v := (.agg #[.bool mb, .slice ab lb cb])) rfl (by kernel_rfl) (fun _ _ _ h => h) (Or.inl ⟨by rfl, ?_⟩) (KB.out _ GB.out) ?_
            · intro w hSw
              (try dsimp only at hSw)
              go_simp
            simp only [Act.put, List.setIfInBounds_toArray, List.set_cons_zero, List.set_cons_succ]
            refine wpAnyT_one (i := 7) (o := { dst := some 53, op := Op.call { callee := Callee.value (Operand.func 22), args := #[Operand.tmp 51, Operand.tmp 52], argTypes := #[25, 25] }, type := 25, pos := "bezout.go:70", after := #[{ on := 5, ground := Ground.data }, { on := 6, ground := Ground.data }], guard := none }) (by kernel_rfl) rfl (fun K hK => ?_)
            go_simp
            go_at_call 22
            refine (HS.out _ GB.out).mono ?_
            rintro e w22 ⟨r, rfl, m1, b⟩
            have lz22 := (show Below _ _ _ from b).size
            replace GB := hid (below_step GB.out b)
            have BQ : Below wr.heap.size wr w22 := below_step GBs.out b
            replace FX := hid (FX.out.step BQ)
            replace FY := hid (FY.out.step BQ)
            replace FZ := hid (FZ.out.step BQ)
            replace PB := hid (PB.out.step BQ)
            replace PG := hid (PG.out.step BQ)
            replace PR := hid (PR.out.step BQ)
            replace ZB := hid (ZB.out.now BQ)
            replace ZG := hid (ZG.out.now BQ)
            replace G := hid (below_step G.out BQ)
            have MZ : Hid (Zm 0 w22 r (Y i * behN X n d) (n * k + k + 1)) := (m1.mono (Nat.zero_le _)).more (by have := HDK.out; omega)
            obtain ⟨nr, xr, ar, cr, rfl⟩ := m1.parts
            clear m1 BQ
            clear b
            refine hK.out _ _ (fun _ => KB.out _ GB.out) ?_
            clear hK
            refine wpAnyT_take (i := 8) (oi := { dst := some 54, op := Op.indexAddr 22 (Operand.tmp 46) (Operand.tmp 47), type := 0, pos := "bezout.go:70", after := #[{ on := 0, ground := Ground.data }, { on := 1, ground := Ground.data }, { on := 0, ground := Ground.phase }, { on := 1, ground := Ground.phase }, { on := 2, ground := Ground.phase }, { on := 3, ground := Ground.phase }, { on := 4, ground := Ground.phase }, { on := 5, ground := Ground.phase }, { on := 6, ground := Ground.phase }, { on := 7, ground := Ground.phase }], guard := none }) (v := (.pointer (some ⟨h, i * 2, none⟩))) rfl (by kernel_rfl) (fun _ _ _ h => h) (Or.inl ⟨by rfl, ?_⟩) (KB.out _ GB.out) ?_
            · intro w hSw
              (try dsimp only at hSw)
              go_simp
            simp only [Act.put, List.setIfInBounds_toArray, List.set_cons_zero, List.set_cons_succ]
            refine wpAnyT_one (i := 9) (o := { dst := none, op := Op.store 25 (Operand.tmp 54) (Operand.tmp 53), type := 0, pos := "bezout.go:70", after := #[{ on := 8, ground := Ground.data }, { on := 7, ground := Ground.data }, { on := 7, ground := Ground.chain }, { on := 0, ground := Ground.phase }, { on := 1, ground := Ground.phase }, { on := 2, ground := Ground.phase }, { on := 3, ground := Ground.phase }, { on := 4, ground := Ground.phase }, { on := 5, ground := Ground.phase }, { on := 6, ground := Ground.phase }, { on := 7, ground := Ground.phase }], guard := none }) (by kernel_rfl) rfl (fun K hK => ?_)
            obtain ⟨m0, am, lm, cm, e0, e1, e2, e3⟩ := FZ.out.cells (j := i) (by omega)
            go_simp
            clear e0 e1 e2 e3
            obtain ⟨V23, hW⟩ : ∃ V23, ((w22.setCell ⟨h, i * 2, none⟩ (.bool nr)).setCell ⟨h, i * 2 + 1, none⟩ (.slice ar xr.length cr)) = V23 := ⟨_, rfl⟩
            replace FX := hid (FX.out.far FZ.out (by omega) i (.bool nr) (.slice ar xr.length cr))
            replace PB := hid (PB.out.far (g := h) (by omega) i (.bool nr) (.slice ar xr.length cr))
            replace PG := hid (PG.out.far (g := h) (by omega) i (.bool nr) (.slice ar xr.length cr))
            replace PR := hid (PR.out.far (g := h) (by omega) i (.bool nr) (.slice ar xr.length cr))
            replace ZB := hid (ZB.out.far FZ.out i (.bool nr) (.slice ar xr.length cr))
            replace ZG := hid (ZG.out.far FZ.out i (.bool nr) (.slice ar xr.length cr))
            replace FY := hid (FY.out.past (i' := n - (d + 1)) (j := i) (by omega) (by have := HI.out; omega) (by omega) MZ.out)
            replace FZ := hid ((FZ.out.again (j := i) (by omega) MZ.out).same (F' := fun t => if n - (d + 1) ≤ t then mulN X Y n t else Y t) (fun j _ => mulN_step HI.out j))
            replace G := hid (bset (g := h) (j := i * 2 + 1) (u := .slice ar xr.length cr) (bset (g := h) (j := i * 2) (u := .bool nr) G.out (by omega)) (by omega))
            rw [hW] at FX PB PG PR ZB ZG FY FZ G
            clear MZ
            rw [hW]
            clear hW
            refine hK.out _ _ (fun h => absurd h (by decide)) ?_
            clear hK
            try simp only [Act.put]
            refine wpAnyT_done (by kernel_rfl) ?_ _
            clear HS GB GBs KB k0 k1 j0 j1
            obtain ⟨mx, ax, lx, cx, k2, k3, hzx, -, -⟩ := FX.out.at (j := i) (by omega) (Nat.le_refl _)
            have ZX := hid hzx
            have HS : Hid (∀ w', Below V23.heap.size V23 w' → Calls Try.prog 22 #[.agg #[.bool mb, .slice ab lb cb], .agg #[.bool mx, .slice ax lx cx]] w' (GivesZ w' (behN X n d * X i) (d * k + 1 + k))) := fun w' b => mul_z (ZB.out.now b).zi (ZX.out.now b).zi (by have := HDK.out; have := HNK.out; omega)
            have j0 := PB.out.c0
            have j1 := PB.out.c1
            clear hzx ZX
            go_wp2_with fail
            have KB : Hid (∀ w', Below V23.heap.size V23 w' → w'.cell? ⟨g, i * 2, none⟩ = some (.bool mx) ∧ w'.cell? ⟨g, i * 2 + 1, none⟩ = some (.slice ax lx cx) ∧ w'.cell? ⟨bb, 0, none⟩ = some (.bool mb) ∧ w'.cell? ⟨bb, 1, none⟩ = some (.slice ab lb cb)) := fun w' h => ⟨cnow h k2, cnow h k3, cnow h j0, cnow h j1⟩
            refine wp_region_tail (fun w' => w'.cell? ⟨g, i * 2, none⟩ = some (.bool mx) ∧ w'.cell? ⟨g, i * 2 + 1, none⟩ = some (.slice ax lx cx) ∧ w'.cell? ⟨bb, 0, none⟩ = some (.bool mb) ∧ w'.cell? ⟨bb, 1, none⟩ = some (.slice ab lb cb)) 6 (by kernel_rfl) ?_
            obtain ⟨D31, hD⟩ : ∃ D31, V23.drew = D31 := ⟨_, rfl⟩
            have GB : Hid (Below V23.heap.size V23 D31) := by unfold Hid; rw [← hD]; exact (Below.refl _ _).drew
            rw [hD]
            clear hD
            have GBs := GB
            refine wpAnyT_take (i := 0) (oi := { dst := some 55, op := Op.load 25 (Operand.tmp 9), type := 25, pos := "bezout.go:71", after := #[], guard := none }) (v := (.agg #[.bool mb, .slice ab lb cb])) rfl (by kernel_rfl) (fun _ _ _ h => h) (Or.inl ⟨by rfl, ?_⟩) (KB.out _ GB.out) ?_
            · intro w hSw
              (try dsimp only at hSw)
              go_simp
            simp only [Act.put, List.setIfInBounds_toArray, List.set_cons_zero, List.set_cons_succ]
            refine wpAnyT_take (i := 1) (oi := { dst := some 56, op := Op.move (Operand.tmp 5), type := 22, pos := "bezout.go:71", after := #[], guard := none }) (v := (.slice (some ⟨g, 0, none⟩) n n)) rfl (by kernel_rfl) (fun _ _ _ h => h) (Or.inl ⟨by rfl, ?_⟩) (KB.out _ GB.out) ?_
            · intro w hSw
              (try dsimp only at hSw)
              go_simp
            simp only [Act.put, List.setIfInBounds_toArray, List.set_cons_zero, List.set_cons_succ]
            refine wpAnyT_take (i := 2) (oi := { dst := some 57, op := Op.move (Operand.tmp 10), type := 3, pos := "bezout.go:71", after := #[], guard := none }) (v := (.int .i64 (i : Int))) rfl (by kernel_rfl) (fun _ _ _ h => h) (Or.inl ⟨by rfl, ?_⟩) (KB.out _ GB.out) ?_
            · intro w hSw
              (try dsimp only at hSw)
              go_simp
            simp only [Act.put, List.setIfInBounds_toArray, List.set_cons_zero, List.set_cons_succ]
            refine wpAnyT_take (i := 3) (oi := { dst := some 58, op := Op.indexAddr 22 (Operand.tmp 56) (Operand.tmp 57), type := 0, pos := "bezout.go:71", after := #[{ on := 1, ground := Ground.data }, { on := 2, ground := Ground.data }], guard := none }) (v := (.pointer (some ⟨g, i * 2, none⟩))) rfl (by kernel_rfl) (fun _ _ _ h => h) (Or.inl ⟨by rfl, ?_⟩) (KB.out _ GB.out) ?_
            · intro w hSw
              (try dsimp only at hSw)
              go_simp
            simp only [Act.put, List.setIfInBounds_toArray, List.set_cons_zero, List.set_cons_succ]
            refine wpAnyT_take (i := 4) (oi := { dst := some 59, op := Op.load 25 (Operand.tmp 58), type := 25, pos := "bezout.go:71", after := #[{ on := 3, ground := Ground.data }], guard := none }) (v := (.agg #[.bool mx, .slice ax lx cx])) rfl (by kernel_rfl) (fun _ _ _ h => h) (Or.inl ⟨by rfl, ?_⟩) (KB.out _ GB.out) ?_
            · intro w hSw
              (try dsimp only at hSw)
              go_simp
            simp only [Act.put, List.setIfInBounds_toArray, List.set_cons_zero, List.set_cons_succ]
            refine wpAnyT_one (i := 5) (o := { dst := some 60, op := Op.call { callee := Callee.value (Operand.func 22), args := #[Operand.tmp 55, Operand.tmp 59], argTypes := #[25, 25] }, type := 25, pos := "bezout.go:71", after := #[{ on := 0, ground := Ground.data }, { on := 4, ground := Ground.data }], guard := none }) (by kernel_rfl) rfl (fun K hK => ?_)
            go_simp
            go_at_call 22
            refine (HS.out _ GB.out).mono ?_
            rintro e w32 ⟨r, rfl, m1, b⟩
            have lz32 := (show Below _ _ _ from b).size
            replace GB := hid (below_step GB.out b)
            have BQ : Below V23.heap.size V23 w32 := below_step GBs.out b
            replace FX := hid (FX.out.step BQ)
            replace FY := hid (FY.out.step BQ)
            replace FZ := hid (FZ.out.step BQ)
            replace PB := hid (PB.out.step BQ)
            replace PG := hid (PG.out.step BQ)
            replace PR := hid (PR.out.step BQ)
            replace ZG := hid (ZG.out.now BQ)
            replace G := hid (below_step G.out BQ)
            have MZ : Hid (Zm 0 w32 r (behN X n (d + 1)) ((d + 1) * k + 1)) := by
              have q := (m1.mono (Nat.zero_le _)).more (l := (d + 1) * k + 1) (by rw [Nat.succ_mul]; omega)
              rw [behN_step HI.out] at q
              exact q
            obtain ⟨nr, xr, ar, cr, rfl⟩ := m1.parts
            clear m1 BQ
            clear b
            refine hK.out _ _ (fun _ => KB.out _ GB.out) ?_
            clear hK
            refine wpAnyT_one (i := 6) (o := { dst := none, op := Op.store 25 (Operand.tmp 9) (Operand.tmp 60), type := 0, pos := "bezout.go:71", after := #[{ on := 5, ground := Ground.data }, { on := 5, ground := Ground.chain }, { on := 0, ground := Ground.phase }, { on := 1, ground := Ground.phase }, { on := 2, ground := Ground.phase }, { on := 3, ground := Ground.phase }, { on := 4, ground := Ground.phase }, { on := 5, ground := Ground.phase }], guard := none }) (by kernel_rfl) rfl (fun K hK => ?_)
            have e0 := PB.out.c0
            have e1 := PB.out.c1
            have e2 := PB.out.fz 0
            have e3 := PB.out.fz 1
            go_simp
            clear e0 e1 e2 e3
            obtain ⟨V33, hW⟩ : ∃ V33, ((w32.setCell ⟨bb, 0, none⟩ (.bool nr)).setCell ⟨bb, 1, none⟩ (.slice ar xr.length cr)) = V33 := ⟨_, rfl⟩
            replace FX := hid (FX.out.box PB.out (by omega) (.bool nr) (.slice ar xr.length cr))
            replace FY := hid (FY.out.box PB.out (by omega) (.bool nr) (.slice ar xr.length cr))
            replace FZ := hid (FZ.out.box PB.out (by omega) (.bool nr) (.slice ar xr.length cr))
            replace PG := hid (PG.out.box (b' := bb) (by omega) (.bool nr) (.slice ar xr.length cr))
            replace PR := hid (PR.out.box (b' := bb) (by omega) (.bool nr) (.slice ar xr.length cr))
            replace ZG := hid (ZG.out.box PB.out (.bool nr) (.slice ar xr.length cr))
            replace MZ := hid (MZ.out.box PB.out (.bool nr) (.slice ar xr.length cr))
            replace PB := hid (PB.out.set (.bool nr) (.slice ar xr.length cr))
            replace G := hid (bset (g := bb) (j := 1) (u := .slice ar xr.length cr) (bset (g := bb) (j := 0) (u := .bool nr) G.out (by omega)) (by omega))
            rw [hW] at FX PB PG PR MZ ZG FY FZ G
            have HN1 : Hid (EBH w L k n g h bb X Y (n - (d + 1)) (.int .i64 ((i : Int) - 1)) V33) := ⟨d + 1, by rw [show (n : Int) - (((d + 1 : Nat) : Int) + 1) = (i : Int) - 1 by have := HI.out; omega], by have := HLT.out; omega, rfl, ⟨_, _, _, _, PB.out, MZ.out⟩, ⟨_, _, _, _, PG.out, ZG.out⟩, PR.out, FX.out, FY.out, FZ.out, G.out⟩
            clear FX PB PG PR MZ ZG FY FZ G ZB
            rw [hW]
            clear hW
            refine hK.out _ _ (fun h => absurd h (by decide)) ?_
            clear hK
            try simp only [Act.put]
            refine wpAnyT_done (by kernel_rfl) ?_ _
            clear HS GB GBs KB k2 k3 j0 j1
            have HMM : Hid (n - (d + 1) < gk) := by unfold Hid; rw [HG.out]; have := HI.out; omega
            clear HG
            go_wp2_with fail
            go_roundg (n - (d + 1))
            case rel => exact HN1.out
            case measure => exact HMM.out
          · obtain rfl : n = d := by omega
            have hneg : ¬ (0 : Int) ≤ (n : Int) - ((n : Int) + 1) := by omega
            have g0 := PG.out.c0
            have g1 := PG.out.c1
            have r0 := PR.out.c0
            have r1 := PR.out.c1
            have f0 := PR.out.fz 0
            have f1 := PR.out.fz 1
            have FIN : Hid (ExtAlled w L k n (.returned (.tuple #[.agg #[.bool m, .slice ag lg cg], .slice (some ⟨h, 0, none⟩) n n])) ((wr.setCell ⟨w.heap.size, 0, none⟩ (.bool m)).setCell ⟨w.heap.size, 1, none⟩ (.slice ag lg cg))) :=
              ⟨_, h, X, Y, rfl, ZG.out.box PR.out _ _, EX.out, ((FZ.out.same (fun j hj => by simp)).box PR.out (by omega) _ _), bset (bset G.out (Nat.le_refl _)) (Nat.le_refl _)⟩
            clear HG ZG G FX FY FZ ZB PB
            go_wp2
            exact bodyPost_ret (zback1 Try.results6 (PR.out.set _ _) _ (by rfl) (by rfl)) rfl FIN.out
end Go.Proofs.Ytkikiddoiigbjaa
