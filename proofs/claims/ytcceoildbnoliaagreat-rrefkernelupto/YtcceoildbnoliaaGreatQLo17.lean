/-
  Lo17: the law's lowest, at fractions in lowest terms.
-/
import Derived.Test.YtcceoildbnoliaaGreatQNb17ToLi17
import Derived.Test.YtcceoildbnoliaaGreatQG417ToLk17
import Derived.Test.YtcceoildbnoliaaGreatQDu12ToTailL
import Derived.Test.YtcceoildbnoliaaGreatQGcd6
import Derived.Test.YtcceoildbnoliaaGreatQTailToMWord
namespace Go.Proofs.YtcceoildbnoliaaGreat
open Go.RowKit
set_option linter.unusedVariables false
set_option linter.unusedSimpArgs false

set_option maxHeartbeats 3200000 in
set_option maxRecDepth 100000 in
theorem lowest17 {w : World} {v : Value} {n k : Nat} {R : Nat → Rat} (hv : Qc w v n R k) (hk : k ≤ 68719476736) : Calls Tryz.prog 35 #[v] w fun e w' => e = .returned (.bool true) ∧ Below w.heap.size w w' := by
  have HV := hid hv
  have HK := hid hk
  obtain ⟨av, cv, rfl, hn, hfv⟩ := hv.form
  have FV := hid hfv
  have H0 : Hid (LkH w n n (.int .i64 0) w) := ⟨0, rfl, Nat.zero_le _, rfl, Below.refl _ _⟩
  clear hv hfv hk
  go_enter Tryz.func35, Tryz.ntmps35
  go_wp2_with fail
  go_loopg [3] n (fun gk s3 wx => LkH w n gk s3 wx)
  case atStart => exact H0.out
  case round =>
    clear H0
    obtain ⟨i, rfl, hi, hg, hbw⟩ := hrel
    have G := hid hbw
    have HG := hid hg
    clear hbw hg
    by_cases hlt : i < n
    rotate_left
    · have hlt' : ¬ (i : Int) < (n : Int) := by omega
      clear HG
      go_wp2
      go_ret
      exact ⟨rfl, G.out⟩
    have hlt' : (i : Int) < (n : Int) := by omega
    have hwi := wrapI9 (i := i) (by omega)
    obtain ⟨ba, oa, rfl⟩ := FV.out (by omega)
    obtain ⟨n1, a1, l1, c1, n2, a2, l2, c2, e1, e2, e3, e4, zp, zq⟩ := (HV.out.now G.out).at hlt
    have ZP := hid zp
    have ZQ := hid zq
    have HGC : Hid (((Int.gcd (R i).num ((R i).den : Int) : Nat) : Int) = 1) := by
      unfold Hid
      have h := (R i).reduced
      have e : Int.gcd (R i).num ((R i).den : Int) = Nat.gcd (R i).num.natAbs (R i).den := rfl
      rw [e, h]; rfl
    have HDP : Hid (cmpI ((R i).den : Int) 0 = 1) := cmpI_gt (by have := (R i).den_pos; omega)
    have hc1 : cmpI 1 1 = 0 := by decide
    clear zp zq HV
    go_wp2_with fail
    go_cut [4] from 5 (fun s4 wx => MetB wr wx s4 1 k)
    case first =>
      have KB : Hid (∀ w', Below wr.heap.size wr w' → w'.cell? ⟨ba, oa + i * 4, none⟩ = some (.bool n1) ∧ w'.cell? ⟨ba, oa + i * 4 + 1, none⟩ = some (.slice a1 l1 c1) ∧ w'.cell? ⟨ba, oa + i * 4 + 2, none⟩ = some (.bool n2) ∧ w'.cell? ⟨ba, oa + i * 4 + 3, none⟩ = some (.slice a2 l2 c2)) := fun w' h => ⟨cnow h e1, cnow h e2, cnow h e3, cnow h e4⟩
      refine wp_region_tail (fun w' => w'.cell? ⟨ba, oa + i * 4, none⟩ = some (.bool n1) ∧ w'.cell? ⟨ba, oa + i * 4 + 1, none⟩ = some (.slice a1 l1 c1) ∧ w'.cell? ⟨ba, oa + i * 4 + 2, none⟩ = some (.bool n2) ∧ w'.cell? ⟨ba, oa + i * 4 + 3, none⟩ = some (.slice a2 l2 c2)) 12 (by kernel_rfl) ?_
      obtain ⟨D21, hD⟩ : ∃ D21, wr.drew = D21 := ⟨_, rfl⟩
      have GB : Hid (Below wr.heap.size wr D21) := by unfold Hid; rw [← hD]; exact (Below.refl _ _).drew
      rw [hD]
      clear hD
      have GZ : Hid (wr.heap.size ≤ D21.heap.size) := GB.out.size
      refine wpAnyT_list [(0, (.slice (some ⟨ba, oa, none⟩) n cv)), (1, (.int .i64 (i : Int))), (2, (.pointer (some ⟨ba, oa + i * 4, none⟩))), (3, (.pointer (some ⟨ba, oa + i * 4, none⟩))), (4, (.agg #[.bool n1, .slice a1 l1 c1])), (5, (.slice (some ⟨ba, oa, none⟩) n cv)), (6, (.int .i64 (i : Int))), (7, (.pointer (some ⟨ba, oa + i * 4, none⟩))), (8, (.pointer (some ⟨ba, oa + i * 4 + 2, none⟩))), (9, (.agg #[.bool n2, .slice a2 l2 c2]))] 10 ?_ (KB.out _ GB.out) ?_
      · simp only [TakesV, gA9, g09, g19, Act.put, sI9, s09, s19]
        (repeat' (first | exact trivial | refine And.intro (Or.inl ⟨by rfl, ?_⟩) ?_)) <;> (intro w hSw; (try dsimp only at hSw); go_simp)
      simp only [actV, gA9, g09, g19, Act.put, sI9, s09, s19]
      refine wpAnyT_two (i := 10) (j := 11) (oi := { dst := some 21, op := Op.call { callee := Callee.value (Operand.func 70), args := #[Operand.tmp 15, Operand.tmp 20], argTypes := #[45, 45] }, type := 45, pos := "outright.go:33", after := #[{ on := 4, ground := Ground.data }, { on := 9, ground := Ground.data }], guard := none }) (oj := { dst := some 4, op := Op.alloc 45, type := 0, pos := "outright.go:33", after := #[], guard := none }) (by kernel_rfl) rfl rfl (fun K hK => ?_) (fun K hK => ?_)
      · skip
        go_simp
        go_at_call 70
        refine (gcd_z (ZP.out.now GB.out).zi (ZQ.out.now GB.out).zi HK.out).mono ?_
        rintro e w22 ⟨rg, rfl, zz, b⟩
        have lz22 := (show Below _ _ _ from b).size
        replace GB := hid (below_step GB.out b)
        rw [HGC.out] at zz
        obtain ⟨mg, xg, ag, cg, rfl⟩ := zz.parts
        have MG := hid (zz.mono GZ.out)
        clear zz
        replace GZ : Hid (wr.heap.size ≤ w22.heap.size) := GB.out.size
        clear b
        refine hK.out _ _ (fun _ => KB.out _ GB.out) ?_
        clear hK
        refine wpAnyT_one (i := 11) (o := { dst := some 4, op := Op.alloc 45, type := 0, pos := "outright.go:33", after := #[], guard := none }) (by kernel_rfl) rfl (fun K hK => ?_)
        go_simp
        obtain ⟨V23, hW⟩ : ∃ V23, w22.alloc zbox = V23 := ⟨_, rfl⟩
        obtain ⟨b, sz23⟩ := alo1 w22 zbox
        rw [hW] at b sz23
        replace GB := hid (below_step GB.out b)
        have DX : Hid (Duo V23 w22.heap.size (.bool false) (.slice none 0 0)) := by unfold Hid; rw [← hW]; exact Duo.new w22 _ _
        have SX := hid (show wr.heap.size ≤ w22.heap.size from GZ.out)
        clear sz23
        replace GZ : Hid (wr.heap.size ≤ V23.heap.size) := GB.out.size
        replace MG := hid (MG.out.now b)
        rw [hW]
        clear hW b
        refine hK.out _ _ (fun _ => KB.out _ GB.out) ?_
        clear hK
        try simp only [Act.put]
        refine wpAnyT_one (i := 12) (o := { dst := none, op := Op.store 45 (Operand.tmp 4) (Operand.tmp 21), type := 0, pos := "outright.go:33", after := #[{ on := 11, ground := Ground.data }, { on := 10, ground := Ground.data }, { on := 10, ground := Ground.chain }, { on := 0, ground := Ground.phase }, { on := 1, ground := Ground.phase }, { on := 2, ground := Ground.phase }, { on := 3, ground := Ground.phase }, { on := 4, ground := Ground.phase }, { on := 5, ground := Ground.phase }, { on := 6, ground := Ground.phase }, { on := 7, ground := Ground.phase }, { on := 8, ground := Ground.phase }, { on := 9, ground := Ground.phase }, { on := 10, ground := Ground.phase }, { on := 11, ground := Ground.phase }], guard := none }) (by kernel_rfl) rfl (fun K hK => ?_)
        have h0 := DX.out.c0
        have h1 := DX.out.c1
        have j0 := DX.out.fz 0
        have j1 := DX.out.fz 1
        go_simp
        clear h0 h1 j0 j1
        obtain ⟨V24, hW⟩ : ∃ V24, ((V23.setCell ⟨w22.heap.size, 0, none⟩ (.bool mg)).setCell ⟨w22.heap.size, 1, none⟩ (.slice ag xg.length cg)) = V24 := ⟨_, rfl⟩
        have FN4 : Hid (MetB wr V24 (.pointer (some ⟨w22.heap.size, 0, none⟩)) 1 k) := by unfold Hid; rw [← hW]; exact metb_set DX.out MG.out GB.out SX.out (Nat.le_refl _)
        rw [hW]
        clear hW
        refine hK.out _ _ (fun h => absurd h (by decide)) ?_
        clear hK
        try simp only [Act.put]
        refine wpAnyT_done (by kernel_rfl) ?_ _
        clear GB GZ DX SX MG
        go_wp2_with fail
        go_meet
        exact FN4.out
      · skip
        go_simp
        obtain ⟨V25, hW⟩ : ∃ V25, D21.alloc zbox = V25 := ⟨_, rfl⟩
        obtain ⟨b, sz25⟩ := alo1 D21 zbox
        rw [hW] at b sz25
        replace GB := hid (below_step GB.out b)
        have DX : Hid (Duo V25 D21.heap.size (.bool false) (.slice none 0 0)) := by unfold Hid; rw [← hW]; exact Duo.new D21 _ _
        have SX := hid (show wr.heap.size ≤ D21.heap.size from GZ.out)
        clear sz25
        replace GZ : Hid (wr.heap.size ≤ V25.heap.size) := GB.out.size
        rw [hW]
        clear hW b
        refine hK.out _ _ (fun _ => KB.out _ GB.out) ?_
        clear hK
        try simp only [Act.put]
        refine wpAnyT_one (i := 10) (o := { dst := some 21, op := Op.call { callee := Callee.value (Operand.func 70), args := #[Operand.tmp 15, Operand.tmp 20], argTypes := #[45, 45] }, type := 45, pos := "outright.go:33", after := #[{ on := 4, ground := Ground.data }, { on := 9, ground := Ground.data }], guard := none }) (by kernel_rfl) rfl (fun K hK => ?_)
        go_simp
        go_at_call 70
        refine (gcd_z (ZP.out.now GB.out).zi (ZQ.out.now GB.out).zi HK.out).mono ?_
        rintro e w26 ⟨rg, rfl, zz, b⟩
        have lz26 := (show Below _ _ _ from b).size
        replace GB := hid (below_step GB.out b)
        replace DX := hid (DX.out.step b)
        rw [HGC.out] at zz
        obtain ⟨mg, xg, ag, cg, rfl⟩ := zz.parts
        have MG := hid (zz.mono GZ.out)
        clear zz
        replace GZ : Hid (wr.heap.size ≤ w26.heap.size) := GB.out.size
        clear b
        refine hK.out _ _ (fun _ => KB.out _ GB.out) ?_
        clear hK
        refine wpAnyT_one (i := 12) (o := { dst := none, op := Op.store 45 (Operand.tmp 4) (Operand.tmp 21), type := 0, pos := "outright.go:33", after := #[{ on := 11, ground := Ground.data }, { on := 10, ground := Ground.data }, { on := 10, ground := Ground.chain }, { on := 0, ground := Ground.phase }, { on := 1, ground := Ground.phase }, { on := 2, ground := Ground.phase }, { on := 3, ground := Ground.phase }, { on := 4, ground := Ground.phase }, { on := 5, ground := Ground.phase }, { on := 6, ground := Ground.phase }, { on := 7, ground := Ground.phase }, { on := 8, ground := Ground.phase }, { on := 9, ground := Ground.phase }, { on := 10, ground := Ground.phase }, { on := 11, ground := Ground.phase }], guard := none }) (by kernel_rfl) rfl (fun K hK => ?_)
        have h0 := DX.out.c0
        have h1 := DX.out.c1
        have j0 := DX.out.fz 0
        have j1 := DX.out.fz 1
        go_simp
        clear h0 h1 j0 j1
        obtain ⟨V27, hW⟩ : ∃ V27, ((w26.setCell ⟨D21.heap.size, 0, none⟩ (.bool mg)).setCell ⟨D21.heap.size, 1, none⟩ (.slice ag xg.length cg)) = V27 := ⟨_, rfl⟩
        have FN4 : Hid (MetB wr V27 (.pointer (some ⟨D21.heap.size, 0, none⟩)) 1 k) := by unfold Hid; rw [← hW]; exact metb_set DX.out MG.out GB.out SX.out (Nat.le_refl _)
        rw [hW]
        clear hW
        refine hK.out _ _ (fun h => absurd h (by decide)) ?_
        clear hK
        try simp only [Act.put]
        refine wpAnyT_done (by kernel_rfl) ?_ _
        clear GB GZ DX SX MG
        go_wp2_with fail
        go_meet
        exact FN4.out
    case rest =>
      rename World => wx
      obtain ⟨bk, ng, xg, ag, cg, rfl, bM, hb1, hb2, dM, zM⟩ := hcut
      have DM := hid dM
      have ZM := hid zM
      have G2 := hid (below_step G.out bM)
      have y0 := dM.c0
      have y1 := dM.c1
      replace ZP := hid (ZP.out.now bM)
      replace ZQ := hid (ZQ.out.now bM)
      replace e1 := cnow bM e1
      replace e2 := cnow bM e2
      replace e3 := cnow bM e3
      replace e4 := cnow bM e4
      clear bM dM zM G hb1 hb2
      go_wp2_with fail
      have KB : Hid (∀ w', Below wx.heap.size wx w' → w'.cell? ⟨ba, oa + i * 4, none⟩ = some (.bool n1) ∧ w'.cell? ⟨ba, oa + i * 4 + 1, none⟩ = some (.slice a1 l1 c1) ∧ w'.cell? ⟨ba, oa + i * 4 + 2, none⟩ = some (.bool n2) ∧ w'.cell? ⟨ba, oa + i * 4 + 3, none⟩ = some (.slice a2 l2 c2) ∧ w'.cell? ⟨bk, 0, none⟩ = some (.bool ng) ∧ w'.cell? ⟨bk, 1, none⟩ = some (.slice ag xg.length cg)) := fun w' h => ⟨cnow h e1, cnow h e2, cnow h e3, cnow h e4, cnow h y0, cnow h y1⟩
      refine wp_region_tail (fun w' => w'.cell? ⟨ba, oa + i * 4, none⟩ = some (.bool n1) ∧ w'.cell? ⟨ba, oa + i * 4 + 1, none⟩ = some (.slice a1 l1 c1) ∧ w'.cell? ⟨ba, oa + i * 4 + 2, none⟩ = some (.bool n2) ∧ w'.cell? ⟨ba, oa + i * 4 + 3, none⟩ = some (.slice a2 l2 c2) ∧ w'.cell? ⟨bk, 0, none⟩ = some (.bool ng) ∧ w'.cell? ⟨bk, 1, none⟩ = some (.slice ag xg.length cg)) 30 (by kernel_rfl) ?_
      obtain ⟨D61, hD⟩ : ∃ D61, wx.drew = D61 := ⟨_, rfl⟩
      have GB : Hid (Below wx.heap.size wx D61) := by unfold Hid; rw [← hD]; exact (Below.refl _ _).drew
      rw [hD]
      clear hD
      refine wpAnyT_list [(0, (.slice (some ⟨ba, oa, none⟩) n cv)), (1, (.int .i64 (i : Int))), (2, (.pointer (some ⟨ba, oa + i * 4, none⟩))), (3, (.pointer (some ⟨ba, oa + i * 4 + 2, none⟩))), (4, (.agg #[.bool n2, .slice a2 l2 c2]))] 5 ?_ (KB.out _ GB.out) ?_
      · simp only [TakesV, gA9, g09, g19, Act.put, sI9, s09, s19]
        (repeat' (first | exact trivial | refine And.intro (Or.inl ⟨by rfl, ?_⟩) ?_)) <;> (intro w hSw; (try dsimp only at hSw); go_simp)
      simp only [actV, gA9, g09, g19, Act.put, sI9, s09, s19]
      refine wpAnyT_one (i := 5) (o := { dst := some 27, op := Op.call { callee := Callee.value (Operand.func 22), args := #[Operand.tmp 26], argTypes := #[45] }, type := 3, pos := "outright.go:34", after := #[{ on := 4, ground := Ground.data }], guard := none }) (by kernel_rfl) rfl (fun K hK => ?_)
      go_simp
      go_at_call 22
      refine (sign_z (ZQ.out.now GB.out).zi).mono ?_
      rintro e w62 ⟨he, b⟩
      have lz62 := (show Below _ _ _ from b).size
      replace GB := hid (below_step GB.out b)
      rw [HDP.out] at he
      subst he
      clear b
      refine hK.out _ _ (fun _ => KB.out _ GB.out) ?_
      clear hK
      refine wpAnyT_list [(6, (.bool false)), (7, (.bool false)), (8, (.agg #[.bool ng, .slice ag xg.length cg]))] 3 ?_ (KB.out _ GB.out) ?_
      · simp only [TakesV, gA9, g09, g19, Act.put, sI9, s09, s19]
        (repeat' (first | exact trivial | refine And.intro (Or.inl ⟨by rfl, ?_⟩) ?_)) <;> (intro w hSw; (try dsimp only at hSw); go_simp)
      simp only [actV, gA9, g09, g19, Act.put, sI9, s09, s19]
      refine wpAnyT_one (i := 9) (o := { dst := some 31, op := Op.call { callee := Callee.value (Operand.func 60), args := #[Operand.const (Value.int IntKind.i64 1)], argTypes := #[2] }, type := 45, pos := "outright.go:34", after := #[{ on := 7, ground := Ground.chain }, { on := 7, ground := Ground.guard }], guard := some (7, false) }) (by kernel_rfl) rfl (fun K hK => ?_)
      go_simp
      go_at_call 60
      refine (of_z (n := 1) (by omega) (by omega) _).mono ?_
      rintro e w63 ⟨ro, rfl, zz, b⟩
      have lz63 := (show Below _ _ _ from b).size
      replace GB := hid (below_step GB.out b)
      obtain ⟨mo, xo, ao, co, rfl⟩ := zz.parts
      have MO := hid zz.zi
      clear zz
      clear b
      refine hK.out _ _ (fun _ => KB.out _ GB.out) ?_
      clear hK
      refine wpAnyT_one (i := 10) (o := { dst := some 32, op := Op.call { callee := Callee.value (Operand.func 71), args := #[Operand.tmp 30, Operand.tmp 31], argTypes := #[45, 45] }, type := 3, pos := "outright.go:34", after := #[{ on := 8, ground := Ground.data }, { on := 9, ground := Ground.data }, { on := 9, ground := Ground.chain }, { on := 7, ground := Ground.guard }], guard := some (7, false) }) (by kernel_rfl) rfl (fun K hK => ?_)
      go_simp
      go_at_call 71
      refine (cmp_z (ZM.out.now GB.out).zi MO.out).mono ?_
      rintro e w64 ⟨rfl, b⟩
      have lz64 := (show Below _ _ _ from b).size
      replace GB := hid (below_step GB.out b)
      clear MO
      clear b
      refine hK.out _ _ (fun _ => KB.out _ GB.out) ?_
      clear hK
      refine wpAnyT_list [(11, (.bool false)), (12, (.bool false)), (13, (.bool false)), (14, (.slice (some ⟨ba, oa, none⟩) n cv)), (15, (.int .i64 (i : Int))), (16, (.pointer (some ⟨ba, oa + i * 4, none⟩))), (17, (.pointer (some ⟨ba, oa + i * 4, none⟩))), (18, (.agg #[.bool n1, .slice a1 l1 c1]))] 8 ?_ (KB.out _ GB.out) ?_
      · simp only [TakesV, gA9, g09, g19, Act.put, sI9, s09, s19]
        (repeat' (first | exact trivial | refine And.intro (Or.inl ⟨by rfl, ?_⟩) ?_)) <;> (intro w hSw; (try dsimp only at hSw); go_simp)
      simp only [actV, gA9, g09, g19, Act.put, sI9, s09, s19]
      refine wpAnyT_one (i := 19) (o := { dst := some 41, op := Op.call { callee := Callee.value (Operand.func 72), args := #[Operand.tmp 40], argTypes := #[45] }, type := 4, pos := "outright.go:34", after := #[{ on := 18, ground := Ground.data }, { on := 13, ground := Ground.chain }, { on := 13, ground := Ground.guard }], guard := some (13, false) }) (by kernel_rfl) rfl (fun K hK => ?_)
      go_simp
      go_at_call 72
      refine (leastInt17 (ZP.out.now GB.out)).mono ?_
      rintro e w65 ⟨rfl, b⟩
      have lz65 := (show Below _ _ _ from b).size
      replace GB := hid (below_step GB.out b)
      clear b
      refine hK.out _ _ (fun _ => KB.out _ GB.out) ?_
      clear hK
      refine wpAnyT_list [(20, (.bool false)), (21, (.bool false)), (22, (.bool false)), (23, (.slice (some ⟨ba, oa, none⟩) n cv)), (24, (.int .i64 (i : Int))), (25, (.pointer (some ⟨ba, oa + i * 4, none⟩))), (26, (.pointer (some ⟨ba, oa + i * 4 + 2, none⟩))), (27, (.agg #[.bool n2, .slice a2 l2 c2]))] 8 ?_ (KB.out _ GB.out) ?_
      · simp only [TakesV, gA9, g09, g19, Act.put, sI9, s09, s19]
        (repeat' (first | exact trivial | refine And.intro (Or.inl ⟨by rfl, ?_⟩) ?_)) <;> (intro w hSw; (try dsimp only at hSw); go_simp)
      simp only [actV, gA9, g09, g19, Act.put, sI9, s09, s19]
      refine wpAnyT_one (i := 28) (o := { dst := some 50, op := Op.call { callee := Callee.value (Operand.func 72), args := #[Operand.tmp 49], argTypes := #[45] }, type := 4, pos := "outright.go:34", after := #[{ on := 27, ground := Ground.data }, { on := 22, ground := Ground.chain }, { on := 22, ground := Ground.guard }], guard := some (22, false) }) (by kernel_rfl) rfl (fun K hK => ?_)
      go_simp
      go_at_call 72
      refine (leastInt17 (ZQ.out.now GB.out)).mono ?_
      rintro e w66 ⟨rfl, b⟩
      have lz66 := (show Below _ _ _ from b).size
      replace GB := hid (below_step GB.out b)
      clear b
      refine hK.out _ _ (fun _ => KB.out _ GB.out) ?_
      clear hK
      refine wpAnyT_list [(29, (.bool false))] 1 ?_ (KB.out _ GB.out) ?_
      · simp only [TakesV, gA9, g09, g19, Act.put, sI9, s09, s19]
        (repeat' (first | exact trivial | refine And.intro (Or.inl ⟨by rfl, ?_⟩) ?_)) <;> (intro w hSw; (try dsimp only at hSw); go_simp)
      simp only [actV, gA9, g09, g19, Act.put, sI9, s09, s19]
      refine wpAnyT_one (i := 30) (o := { dst := some 52, op := Op.pick (Operand.tmp 44) (Operand.const (Value.bool true)) (Operand.tmp 51), type := 4, pos := "outright.go:34", after := #[{ on := 22, ground := Ground.data }, { on := 29, ground := Ground.data }], guard := none }) (by kernel_rfl) rfl (fun K hK => ?_)
      go_simp
      refine hK.out _ _ (fun h => absurd h (by decide)) ?_
      clear hK
      try simp only [Act.put]
      refine wpAnyT_done (by kernel_rfl) ?_ _
      have HN : Hid (LkH w n (n - (i + 1)) (.int .i64 ((i + 1 : Nat) : Int)) w66) := ⟨i + 1, rfl, by omega, rfl, below_step G2.out GB.out⟩
      have HMM : Hid (n - (i + 1) < gk) := by unfold Hid; rw [HG.out]; omega
      clear GB KB ZP ZQ ZM DM G2 HG y0 y1 e1 e2 e3 e4 HGC HDP
      go_wp2_with fail
      go_roundg (n - (i + 1))
      case rel => exact HN.out
      case measure => exact HMM.out
end Go.Proofs.YtcceoildbnoliaaGreat
