/-
  QNum11ToAwake11: Num11, Awake11, joined.
-/
import Derived.Test.YtbalcjjeakdjkaaQCols11
import Derived.Test.YtbalcjjeakdjkaaQLike11

/- Num11 -/
namespace Go.Proofs.Ytbalcjjeakdjkaa
open Go.RowKit
set_option linter.unusedVariables false

/-- A number that num has just made, or 0. -/
def Numed (w : World) (z : Int) (e : Ending) (w' : World) : Prop := ∃ a l c, e = .returned (.agg #[.bool false, .slice a l c]) ∧ Zc w' (.agg #[.bool false, .slice a l c]) z 1 ∧ Below w.heap.size w w'
set_option maxRecDepth 100000 in
theorem num_5 {w : World} : Calls Try.prog 14 #[.int .i64 5] w (Numed w 5) := by
  obtain ⟨W0, hW⟩ : ∃ W0, w.alloc (duo (.bool false) (.slice (some ⟨w.heap.size + 1, 0, none⟩) 1 1)) = W0 := ⟨_, rfl⟩
  obtain ⟨b0, sz0⟩ := alo1 w (duo (.bool false) (.slice (some ⟨w.heap.size + 1, 0, none⟩) 1 1))
  rw [hW] at b0 sz0
  obtain ⟨V, hV⟩ : ∃ V, W0.alloc (.cells #[.int .u64 5] 70) = V := ⟨_, rfl⟩
  obtain ⟨bv, szv⟩ := alo1 W0 (.cells #[.int .u64 5] 70)
  rw [hV] at bv szv
  have hsl : Sl V.heap.size V (.slice (some ⟨W0.heap.size, 0, none⟩) 1 1) [5] := by
    rw [← hV]
    have := Row.new_sl W0 [5] (wf_word (by omega) WF.nil) (by decide)
    simpa [ws] using this
  rw [sz0] at hsl
  have PF : Hid (Duo V w.heap.size (.bool false) (.slice (some ⟨w.heap.size + 1, 0, none⟩) 1 1)) := by unfold Hid; refine Duo.step ?_ bv; rw [← hW]; exact Duo.new w _ _
  have FIN : Hid (Numed w 5 (.returned (.agg #[.bool false, .slice (some ⟨w.heap.size + 1, 0, none⟩) 1 1])) V) := ⟨_, _, _, rfl, ⟨false, [5], _, _, rfl, hsl, ⟨hsl.1, by decide⟩, by simp, by decide, by simp⟩, below_step b0 bv⟩
  rw [← hV, ← hW] at FIN PF
  clear b0 sz0 hW bv szv hV hsl
  go_enter Try.func14, Try.ntmps14
  go_wp2
  exact bodyPost_ret (zback Try.results14 PF.out _ (by rfl)) rfl FIN.out
set_option maxRecDepth 100000 in
theorem num_1 {w : World} : Calls Try.prog 14 #[.int .i64 1] w (Numed w 1) := by
  obtain ⟨W0, hW⟩ : ∃ W0, w.alloc (duo (.bool false) (.slice (some ⟨w.heap.size + 1, 0, none⟩) 1 1)) = W0 := ⟨_, rfl⟩
  obtain ⟨b0, sz0⟩ := alo1 w (duo (.bool false) (.slice (some ⟨w.heap.size + 1, 0, none⟩) 1 1))
  rw [hW] at b0 sz0
  obtain ⟨V, hV⟩ : ∃ V, W0.alloc (.cells #[.int .u64 1] 70) = V := ⟨_, rfl⟩
  obtain ⟨bv, szv⟩ := alo1 W0 (.cells #[.int .u64 1] 70)
  rw [hV] at bv szv
  have hsl : Sl V.heap.size V (.slice (some ⟨W0.heap.size, 0, none⟩) 1 1) [1] := by
    rw [← hV]
    have := Row.new_sl W0 [1] (wf_word (by omega) WF.nil) (by decide)
    simpa [ws] using this
  rw [sz0] at hsl
  have PF : Hid (Duo V w.heap.size (.bool false) (.slice (some ⟨w.heap.size + 1, 0, none⟩) 1 1)) := by unfold Hid; refine Duo.step ?_ bv; rw [← hW]; exact Duo.new w _ _
  have FIN : Hid (Numed w 1 (.returned (.agg #[.bool false, .slice (some ⟨w.heap.size + 1, 0, none⟩) 1 1])) V) := ⟨_, _, _, rfl, ⟨false, [1], _, _, rfl, hsl, ⟨hsl.1, by decide⟩, by simp, by decide, by simp⟩, below_step b0 bv⟩
  rw [← hV, ← hW] at FIN PF
  clear b0 sz0 hW bv szv hV hsl
  go_enter Try.func14, Try.ntmps14
  go_wp2
  exact bodyPost_ret (zback Try.results14 PF.out _ (by rfl)) rfl FIN.out
set_option maxRecDepth 100000 in
theorem num_0 {w : World} : Calls Try.prog 14 #[.int .i64 0] w (Numed w 0) := by
  have b0 := (alo1 w zbox).1
  have PF : Hid (Duo (w.alloc zbox) w.heap.size (.bool false) (.slice none 0 0)) := Duo.new w _ _
  have FIN : Hid (Numed w 0 (.returned (.agg #[.bool false, .slice none 0 0])) (w.alloc zbox)) :=
    ⟨_, _, _, rfl, ⟨false, [], none, 0, rfl, Sl.nil _, ⟨WF.nil, rfl⟩, fun _ => rfl, by simp [iv, val], Nat.zero_le _⟩, b0⟩
  clear b0
  go_enter Try.func14, Try.ntmps14
  go_wp2
  exact bodyPost_ret (zback Try.results14 PF.out _ (by rfl)) rfl FIN.out
end Go.Proofs.Ytbalcjjeakdjkaa

/- Awake11 -/
namespace Go.Proofs.Ytbalcjjeakdjkaa
open Go.RowKit
set_option linter.unusedVariables false

abbrev rs11 : List Rs := [⟨1, 0, 1, 0⟩, ⟨3, 0, 1, 5⟩]
theorem wake_fit : ∀ s ∈ rs11, s.fit 2 := by decide
theorem wake_is : rowsT (sts rs11) 2 2 (unitL 2 2) = [5, 1, 1, 0] := by decide
theorem mc_four {V : World} {g : Nat} {n0 n1 n2 n3 : Bool} {a0 a1 a2 a3 : Option Addr} {l0 l1 l2 l3 c0 c1 c2 c3 : Nat} {z0 z1 z2 z3 : Int} {k : Nat} (d : Cel V g 28 [.bool n0, .slice a0 l0 c0, .bool n1, .slice a1 l1 c1, .bool n2, .slice a2 l2 c2, .bool n3, .slice a3 l3 c3])
    (h0 : Zc V (.agg #[.bool n0, .slice a0 l0 c0]) z0 k) (h1 : Zc V (.agg #[.bool n1, .slice a1 l1 c1]) z1 k) (h2 : Zc V (.agg #[.bool n2, .slice a2 l2 c2]) z2 k) (h3 : Zc V (.agg #[.bool n3, .slice a3 l3 c3]) z3 k) :
    Mc V (.agg #[.int .i64 2, .int .i64 2, .slice (some ⟨g, 0, none⟩) 4 4]) 2 2 [z0, z1, z2, z3] k := by
  have ar : Arr V g [(.bool n0, .slice a0 l0 c0), (.bool n1, .slice a1 l1 c1), (.bool n2, .slice a2 l2 c2), (.bool n3, .slice a3 l3 c3)] := ⟨d, fun p hp => by
    simp at hp
    rcases hp with rfl | rfl | rfl | rfl <;> exact ⟨_, _, _, _, rfl⟩⟩
  refine ⟨_, _, rfl, ar.prs (Nat.zero_le _) (by simp) (Nat.le_refl _), ⟨rfl, fun j p z hp hz => ?_⟩, rfl, by decide, by decide⟩
  match j, hp, hz with
  | 0, hp, hz => simp at hp hz; subst hp hz; exact h0
  | 1, hp, hz => simp at hp hz; subst hp hz; exact h1
  | 2, hp, hz => simp at hp hz; subst hp hz; exact h2
  | 3, hp, hz => simp at hp hz; subst hp hz; exact h3
  | j + 4, hp, hz => simp at hp
set_option maxHeartbeats 3200000 in
set_option maxRecDepth 100000 in
theorem awake11 (w : World) : Calls Try.prog 5 #[] w fun e w' => e = .returned (.bool true) ∧ Below w.heap.size w w' := by
  have H5 := hid (num_5 (w := w))
  go_enter Try.func5, Try.ntmps5
  go_wp2_with fail
  refine H5.out.mono ?_
  rintro e w1 ⟨a5, l5, c5, rfl, hz, b⟩
  obtain ⟨V, hV⟩ : ∃ V, w1.alloc (.cells #[.int .i64 1, .int .i64 0, .int .i64 1, .bool false, .slice none 0 0, .int .i64 3, .int .i64 0, .int .i64 1, .bool false, .slice a5 l5 c5] 30) = V := ⟨_, rfl⟩
  obtain ⟨bv, szv⟩ := alo1 w1 (.cells #[.int .i64 1, .int .i64 0, .int .i64 1, .bool false, .slice none 0 0, .int .i64 3, .int .i64 0, .int .i64 1, .bool false, .slice a5 l5 c5] 30)
  rw [hV] at bv szv
  have d : Cel V w1.heap.size 30 [.int .i64 1, .int .i64 0, .int .i64 1, .bool false, .slice none 0 0, .int .i64 3, .int .i64 0, .int .i64 1, .bool false, .slice a5 l5 c5] := by rw [← hV]; exact Cel.new _ _ _
  have hraw : Raws V (.slice (some ⟨w1.heap.size, 0, none⟩) 2 2) rs11 1 := by
    refine ⟨_, _, rfl, by decide, .inr ⟨w1.heap.size, 0, rfl, d.blk, fun j s hs => ?_⟩⟩
    match j, hs with
    | 0, hs => simp at hs; subst hs; exact ⟨false, none, 0, 0, d.at (i := 0) rfl, d.at (i := 1) rfl, d.at (i := 2) rfl, d.at (i := 3) rfl, d.at (i := 4) rfl, ⟨false, [], none, 0, rfl, Sl.nil _, by simp [iv, val], Nat.zero_le _⟩⟩
    | 1, hs => simp at hs; subst hs; exact ⟨false, a5, l5, c5, d.at (i := 5) rfl, d.at (i := 6) rfl, d.at (i := 7) rfl, d.at (i := 8) rfl, d.at (i := 9) rfl, hz.zi.now bv⟩
    | j + 2, hs => simp at hs
  have HM := hid (matrix_yes (n := 2) (by decide) hraw (by decide))
  have G := hid (below_step b bv)
  have EV := hid hV
  clear hz b bv szv d hraw hV H5
  go_wp2_with fail
  rw [EV.out]
  refine HM.out.mono ?_
  rintro e y2 (⟨-, v2, rfl, hm2, b⟩ | ⟨hf, -⟩)
  · rw [wake_is] at hm2
    obtain ⟨a2, q2, rfl, -, -⟩ := hm2.mx.form
    obtain ⟨W0, hW⟩ : ∃ W0, y2.alloc (.cells #[.int .i64 2, .int .i64 2, .slice a2 4 q2] 33) = W0 := ⟨_, rfl⟩
    obtain ⟨bv, szv⟩ := alo1 y2 (.cells #[.int .i64 2, .int .i64 2, .slice a2 4 q2] 33)
    rw [hW] at bv szv
    have d : Cel W0 y2.heap.size 33 [.int .i64 2, .int .i64 2, .slice a2 4 q2] := by rw [← hW]; exact Cel.new _ _ _
    have MM := hid (hm2.now bv)
    replace G := hid (below_step (below_step G.out b) bv)
    have k0 := d.at (i := 0) rfl
    have k1 := d.at (i := 1) rfl
    have k2 := d.at (i := 2) rfl
    have EW := hid hW
    clear hm2 b bv szv hW d HM EV
    go_wp2_with fail
    rw [EW.out]
    clear EW
    have KB : Hid (∀ w', Below W0.heap.size W0 w' → w'.cell? ⟨y2.heap.size, 0, none⟩ = some (.int .i64 2) ∧ w'.cell? ⟨y2.heap.size, 1, none⟩ = some (.int .i64 2) ∧ w'.cell? ⟨y2.heap.size, 2, none⟩ = some (.slice a2 4 q2)) := fun w' h => ⟨cnow h k0, cnow h k1, cnow h k2⟩
    refine wp_region_tail (fun w' => w'.cell? ⟨y2.heap.size, 0, none⟩ = some (.int .i64 2) ∧ w'.cell? ⟨y2.heap.size, 1, none⟩ = some (.int .i64 2) ∧ w'.cell? ⟨y2.heap.size, 2, none⟩ = some (.slice a2 4 q2)) 12 (by kernel_rfl) ?_
    obtain ⟨D1, hD⟩ : ∃ D1, W0.drew = D1 := ⟨_, rfl⟩
    have GB : Hid (Below W0.heap.size W0 D1) := by unfold Hid; rw [← hD]; exact (Below.refl _ _).drew
    rw [hD]
    clear hD
    refine wpAnyT_take (i := 0) (oi := { dst := some 11, op := Op.move (Operand.tmp 2), type := 24, pos := "law.go:25", after := #[], guard := none }) (v := (.int .i64 0)) rfl (by kernel_rfl) (fun _ _ _ h => h) (Or.inl ⟨by rfl, ?_⟩) (KB.out _ GB.out) ?_
    · intro w hSw
      (try dsimp only at hSw)
      go_simp
    simp only [Act.put, List.setIfInBounds_toArray, List.set_cons_zero, List.set_cons_succ]
    refine wpAnyT_take (i := 1) (oi := { dst := some 12, op := Op.binOp BinOp.eql 24 (Operand.tmp 11) (Operand.const (Value.int IntKind.i64 0)) 24, type := 4, pos := "law.go:25", after := #[{ on := 0, ground := Ground.data }], guard := none }) (v := (.bool true)) rfl (by kernel_rfl) (fun _ _ _ h => h) (Or.inl ⟨by rfl, ?_⟩) (KB.out _ GB.out) ?_
    · intro w hSw
      (try dsimp only at hSw)
      go_simp
    simp only [Act.put, List.setIfInBounds_toArray, List.set_cons_zero, List.set_cons_succ]
    refine wpAnyT_take (i := 2) (oi := { dst := some 13, op := Op.move (Operand.tmp 12), type := 4, pos := "law.go:25", after := #[{ on := 1, ground := Ground.data }], guard := none }) (v := (.bool true)) rfl (by kernel_rfl) (fun _ _ _ h => h) (Or.inl ⟨by rfl, ?_⟩) (KB.out _ GB.out) ?_
    · intro w hSw
      (try dsimp only at hSw)
      go_simp
    simp only [Act.put, List.setIfInBounds_toArray, List.set_cons_zero, List.set_cons_succ]
    refine wpAnyT_take (i := 3) (oi := { dst := some 14, op := Op.load 33 (Operand.tmp 1), type := 33, pos := "law.go:25", after := #[{ on := 2, ground := Ground.guard }], guard := some (2, true) }) (v := (.agg #[.int .i64 2, .int .i64 2, .slice a2 4 q2])) rfl (by kernel_rfl) (fun _ _ _ h => h) (Or.inl ⟨by rfl, ?_⟩) (KB.out _ GB.out) ?_
    · intro w hSw
      (try dsimp only at hSw)
      go_simp
    simp only [Act.put, List.setIfInBounds_toArray, List.set_cons_zero, List.set_cons_succ]
    refine wpAnyT_one (i := 4) (o := { dst := some 15, op := Op.call { callee := Callee.value (Operand.func 14), args := #[Operand.const (Value.int IntKind.i64 5)], argTypes := #[2] }, type := 28, pos := "law.go:25", after := #[{ on := 2, ground := Ground.chain }, { on := 2, ground := Ground.guard }], guard := some (2, true) }) (by kernel_rfl) rfl (fun K hK => ?_)
    go_simp
    go_at_call 14
    refine (num_5).mono ?_
    rintro e w2 ⟨ap, lp, cp, rfl, hz, b⟩
    have lz2 := (show Below _ _ _ from b).size
    replace GB := hid (below_step GB.out b)
    have Np := hid hz
    clear hz
    clear b
    refine hK.out _ _ (fun _ => KB.out _ GB.out) ?_
    clear hK
    refine wpAnyT_one (i := 5) (o := { dst := some 16, op := Op.call { callee := Callee.value (Operand.func 14), args := #[Operand.const (Value.int IntKind.i64 1)], argTypes := #[2] }, type := 28, pos := "law.go:25", after := #[{ on := 4, ground := Ground.chain }, { on := 2, ground := Ground.guard }], guard := some (2, true) }) (by kernel_rfl) rfl (fun K hK => ?_)
    go_simp
    go_at_call 14
    refine (num_1).mono ?_
    rintro e w3 ⟨aq, lq, cq, rfl, hz, b⟩
    have lz3 := (show Below _ _ _ from b).size
    replace GB := hid (below_step GB.out b)
    replace Np := hid (Np.out.now b)
    have Nq := hid hz
    clear hz
    clear b
    refine hK.out _ _ (fun _ => KB.out _ GB.out) ?_
    clear hK
    refine wpAnyT_one (i := 6) (o := { dst := some 17, op := Op.call { callee := Callee.value (Operand.func 14), args := #[Operand.const (Value.int IntKind.i64 1)], argTypes := #[2] }, type := 28, pos := "law.go:25", after := #[{ on := 5, ground := Ground.chain }, { on := 2, ground := Ground.guard }], guard := some (2, true) }) (by kernel_rfl) rfl (fun K hK => ?_)
    go_simp
    go_at_call 14
    refine (num_1).mono ?_
    rintro e w4 ⟨ar, lr, cr, rfl, hz, b⟩
    have lz4 := (show Below _ _ _ from b).size
    replace GB := hid (below_step GB.out b)
    replace Np := hid (Np.out.now b)
    replace Nq := hid (Nq.out.now b)
    have Nr := hid hz
    clear hz
    clear b
    refine hK.out _ _ (fun _ => KB.out _ GB.out) ?_
    clear hK
    refine wpAnyT_one (i := 7) (o := { dst := some 18, op := Op.call { callee := Callee.value (Operand.func 14), args := #[Operand.const (Value.int IntKind.i64 0)], argTypes := #[2] }, type := 28, pos := "law.go:25", after := #[{ on := 6, ground := Ground.chain }, { on := 2, ground := Ground.guard }], guard := some (2, true) }) (by kernel_rfl) rfl (fun K hK => ?_)
    go_simp
    go_at_call 14
    refine (num_0).mono ?_
    rintro e w5 ⟨au, lu, cu, rfl, hz, b⟩
    have lz5 := (show Below _ _ _ from b).size
    replace GB := hid (below_step GB.out b)
    replace Np := hid (Np.out.now b)
    replace Nq := hid (Nq.out.now b)
    replace Nr := hid (Nr.out.now b)
    have Nu := hid hz
    clear hz
    clear b
    refine hK.out _ _ (fun _ => KB.out _ GB.out) ?_
    clear hK
    refine wpAnyT_one (i := 8) (o := { dst := some 19, op := Op.buildSlice 31 4 #[(0, Operand.tmp 15), (1, Operand.tmp 16), (2, Operand.tmp 17), (3, Operand.tmp 18)], type := 31, pos := "law.go:25", after := #[{ on := 4, ground := Ground.data }, { on := 5, ground := Ground.data }, { on := 6, ground := Ground.data }, { on := 7, ground := Ground.data }, { on := 2, ground := Ground.guard }], guard := some (2, true) }) (by kernel_rfl) rfl (fun K hK => ?_)
    go_simp
    obtain ⟨V6, hW⟩ : ∃ V6, w5.alloc (.cells #[.bool false, .slice ap lp cp, .bool false, .slice aq lq cq, .bool false, .slice ar lr cr, .bool false, .slice au lu cu] 28) = V6 := ⟨_, rfl⟩
    obtain ⟨b, sz6⟩ := alo1 w5 (.cells #[.bool false, .slice ap lp cp, .bool false, .slice aq lq cq, .bool false, .slice ar lr cr, .bool false, .slice au lu cu] 28)
    rw [hW] at b sz6
    replace GB := hid (below_step GB.out b)
    have LM : Hid (Mc V6 (.agg #[.int .i64 2, .int .i64 2, .slice (some ⟨w5.heap.size, 0, none⟩) 4 4]) 2 2 [5, 1, 1, 0] 1) := by unfold Hid; refine mc_four ?_ (Np.out.now b) (Nq.out.now b) (Nr.out.now b) (Nu.out.now b); rw [← hW]; exact Cel.new _ _ _
    rw [hW]
    clear hW b
    refine hK.out _ _ (fun _ => KB.out _ GB.out) ?_
    clear hK
    try simp only [Act.put]
    refine wpAnyT_take (i := 9) (oi := { dst := some 20, op := Op.build 33 #[(0, Operand.const (Value.int IntKind.i64 2)), (1, Operand.const (Value.int IntKind.i64 2)), (2, Operand.tmp 19)], type := 33, pos := "law.go:25", after := #[{ on := 8, ground := Ground.data }, { on := 2, ground := Ground.guard }], guard := some (2, true) }) (v := (.agg #[.int .i64 2, .int .i64 2, .slice (some ⟨w5.heap.size, 0, none⟩) 4 4])) rfl (by kernel_rfl) (fun _ _ _ h => h) (Or.inl ⟨by rfl, ?_⟩) (KB.out _ GB.out) ?_
    · intro w hSw
      (try dsimp only at hSw)
      go_simp
    simp only [Act.put, List.setIfInBounds_toArray, List.set_cons_zero, List.set_cons_succ]
    refine wpAnyT_one (i := 10) (o := { dst := some 21, op := Op.call { callee := Callee.value (Operand.func 22), args := #[Operand.tmp 14, Operand.tmp 20], argTypes := #[33, 33] }, type := 4, pos := "law.go:25", after := #[{ on := 3, ground := Ground.data }, { on := 9, ground := Ground.data }, { on := 7, ground := Ground.chain }, { on := 2, ground := Ground.guard }], guard := some (2, true) }) (by kernel_rfl) rfl (fun K hK => ?_)
    go_simp
    go_at_call 22
    refine (likeMat_yes (MM.out.now GB.out) LM.out rfl).mono ?_
    rintro e w7 ⟨rfl, b⟩
    have lz7 := (show Below _ _ _ from b).size
    replace GB := hid (below_step GB.out b)
    clear b
    refine hK.out _ _ (fun _ => KB.out _ GB.out) ?_
    clear hK
    refine wpAnyT_take (i := 11) (oi := { dst := some 22, op := Op.pick (Operand.tmp 13) (Operand.tmp 21) (Operand.const (Value.bool false)), type := 4, pos := "law.go:25", after := #[{ on := 2, ground := Ground.data }, { on := 10, ground := Ground.data }], guard := none }) (v := (.bool true)) rfl (by kernel_rfl) (fun _ _ _ h => h) (Or.inl ⟨by rfl, ?_⟩) (KB.out _ GB.out) ?_
    · intro w hSw
      (try dsimp only at hSw)
      go_simp
    simp only [Act.put, List.setIfInBounds_toArray, List.set_cons_zero, List.set_cons_succ]
    refine wpAnyT_one (i := 12) (o := { dst := some 0, op := Op.assign (Operand.tmp 22), type := 4, pos := "law.go:25", after := #[{ on := 11, ground := Ground.data }, { on := 10, ground := Ground.chain }, { on := 0, ground := Ground.phase }, { on := 1, ground := Ground.phase }, { on := 2, ground := Ground.phase }, { on := 3, ground := Ground.phase }, { on := 4, ground := Ground.phase }, { on := 5, ground := Ground.phase }, { on := 6, ground := Ground.phase }, { on := 7, ground := Ground.phase }, { on := 8, ground := Ground.phase }, { on := 9, ground := Ground.phase }, { on := 10, ground := Ground.phase }, { on := 11, ground := Ground.phase }], guard := none }) (by kernel_rfl) rfl (fun K hK => ?_)
    go_simp
    refine hK.out _ _ (fun h => absurd h (by decide)) ?_
    clear hK
    try simp only [Act.put]
    refine wpAnyT_done (by kernel_rfl) ?_ _
    have FIN := hid (below_step G.out GB.out)
    clear MM LM GB KB G Np Nq Nr Nu k0 k1 k2
    go_wp2
    go_ret
    exact ⟨rfl, FIN.out⟩
  · exact absurd wake_fit hf
end Go.Proofs.Ytbalcjjeakdjkaa
