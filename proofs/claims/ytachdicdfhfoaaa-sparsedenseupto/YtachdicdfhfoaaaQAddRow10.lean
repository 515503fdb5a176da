/-
  AddRow10: maps.Clone, AddRow.
-/
import Derived.Test.YtachdicdfhfoaaaQOps10
import Derived.Test.YtachdicdfhfoaaaQByR10ToMulP10
import Derived.Test.YtachdicdfhfoaaaQDense10
import Derived.Laws.Externs
namespace Go.Proofs.Ytachdicdfhfoaaa
open Go.RowKit Go.ChangeMaps Go.MapKept
set_option linter.unusedVariables false

theorem assert_map10 {P : Program} (w : World) (t xT k e : TypeId) (v : Value) (h : P.underlying t = some (.map k e)) : (Instr.typeAssert (.iface t v) xT t false).run P w = .ok v w := by
  simp [Instr.typeAssert, run_underlying h, go_sem, Result.andThen]
theorem clone_run10 {P : Program} (w : World) {r : Nat} {es : Array MapEntry} {clock : Nat} (t : TypeId) (hb : w.heap[r]? = some (.map es clock)) :
    (Extern.MapsClone.clone #[.iface t (.map (some r))]).run P w = .ok (.iface t (.map (some w.heap.size))) (w.alloc (.map es clock)) := by
  have e : Extern.MapsClone.clone #[.iface t (.map (some r))] = (getObj r >>= fun o => match o with
      | .map entries clock => (newObj (.map entries clock) >>= fun n => pure (.iface t (.map (some n))))
      | _ => stuck "maps.clone: a map expected") := rfl
  rw [e]
  simp [MapKept.run_getObj_map hb, Result.andThen, go_sem]
set_option maxHeartbeats 2000000 in
set_option maxRecDepth 100000 in
theorem clone_any {w : World} {b n : Nat} {f : Nat × Nat → Option Value} (h : Mp spv spok w b f n) :
    Calls Try.prog 41 #[.map (some b)] w fun e w' => e = .returned (.map (some w.heap.size)) ∧ Mp spv spok w' w.heap.size f n ∧ Below w.heap.size w w' := by
  obtain ⟨es, clock, hb, E, hn⟩ := h
  have hq := eql_map10 w (some b)
  simp only [Option.isNone_some] at hq
  have FIN : Hid (Mp spv spok (w.alloc (.map es clock)) w.heap.size f n ∧ Below w.heap.size w (w.alloc (.map es clock))) := ⟨⟨es, clock, (MapKept.heap_alloc w _).1, E, hn⟩, (Below.refl _ _).alloc (Nat.le_refl _) _⟩
  have HB := hid hb
  clear hb E hn
  go_enter Try.func41, Try.ntmps41
  go_wp2
  rw [run_callFunc_extern Try.func71 (by kernel_rfl) (by kernel_rfl) (by kernel_rfl) (e := Extern.MapsClone.clone) (by kernel_rfl), clone_run10 w 66 HB.out]
  simp only [Result.andThen]
  rw [Oper.upon_value]
  go_wp2
  rw [assert_map10 _ 66 _ _ _ _ Try.map10]
  simp only [Result.andThen]
  rw [Oper.upon_value]
  go_wp2
  go_ret
  exact ⟨rfl, FIN.out.1, FIN.out.2⟩
theorem clear_run10 (w : World) {b n : Nat} {f : Nat × Nat → Option Value} (h : Mp spv spok w b f n) (ty : TypeId) : ∃ w', (Builtin.clear_ #[66] ty #[.map (some b)]).run Try.prog w = .ok (.tuple #[]) w' ∧ w.grownBy w' (some b) ∧ Cl w w' := by
  have hc := h
  obtain ⟨es, clock, hb, E, hn⟩ := h
  have hg : w.grownBy (setBlock w b (.map #[] clock)) (some b) := ⟨rfl, rfl, rfl, by simp [setBlock], fun i _ hi => heap_setBlock_other hb _ (fun e => hi (by rw [e]))⟩
  exact ⟨setBlock w b (.map #[] clock), by simp [Builtin.clear_, run_underlying Try.map10, MapKept.run_getObj_map hb, MapKept.run_setObj_map _ hb, Result.andThen, setBlock], hg, hc.cl hg⟩
/-- clear(m) at the operation. -/
theorem wpList_clear10 (w : World) {ops : Array Oper} {rest : List Oper} {o : Oper} {a : Act} {Q : Exit → Act → World → Prop} (hg : o.guard = none) (m : Operand) (hop : o.op = Op.call { callee := Callee.builtin Builtin.clear, args := #[m], argTypes := #[66] })
    (b n : Nat) (f : Nat × Nat → Option Value) (hm : a.eval m = .map (some b)) (h : Mp spv spok w b f n)
    (hK : ∀ w', Hid (w.grownBy w' (some b) ∧ Cl w w') → wpList Try.prog ops Q rest (a.put o.dst (.tuple #[])) w') : wpList Try.prog ops Q (o :: rest) a w := by
  refine wpList_plain hg fun K' hK' => ?_
  obtain ⟨w', hrun, r1, r2⟩ := clear_run10 w h o.type
  unfold Oper.wp
  simp [execOp, hop, resolve, invoke, builtin, hm, hrun, Result.andThen]
  exact hK' _ _ (hK w' ⟨r1, r2⟩)
theorem addRow_no1 {w : World} {g b r c : Nat} {i j : Int} {m : Bool} {a : Option Addr} {l c0 : Nat} (h : Gd w g b r c) (hi : i < 0 ∨ (r : Int) ≤ i) : Calls Try.prog 11 #[.pointer (some ⟨g, 0, none⟩), .int .i64 i, .int .i64 j, .agg #[.bool m, .slice a l c0]] w (Says w (.int .i64 3)) := by
  have HC := hid (hasRow_no (h.now ((Below.refl _ _).alloc (Nat.le_refl _) (duo (.bool m) (.slice a l c0)))) hi)
  have FIN : Hid (Says w (.int .i64 3) (.returned (.int .i64 3)) (w.alloc (duo (.bool m) (.slice a l c0)))) := ⟨rfl, (Below.refl _ _).alloc (Nat.le_refl _) _⟩
  clear h hi
  go_enter Try.func11, Try.ntmps11
  go_wp2_with fail
  refine HC.out.mono ?_
  rintro e w' ⟨rfl, rfl⟩
  go_wp2
  go_ret
  exact FIN.out
theorem addRow_no2 {w : World} {g b r c i : Nat} {j : Int} {m : Bool} {a : Option Addr} {l c0 : Nat} (h : Gd w g b r c) (hi : i < r) (hj : j < 0 ∨ (r : Int) ≤ j) : Calls Try.prog 11 #[.pointer (some ⟨g, 0, none⟩), .int .i64 (i : Int), .int .i64 j, .agg #[.bool m, .slice a l c0]] w (Says w (.int .i64 3)) := by
  have hb := (Below.refl w.heap.size w).alloc (Nat.le_refl _) (duo (.bool m) (.slice a l c0))
  have HC := hid (hasRow_yes (h.now hb) hi)
  have HD := hid (hasRow_no (h.now hb) hj)
  have FIN : Hid (Says w (.int .i64 3) (.returned (.int .i64 3)) (w.alloc (duo (.bool m) (.slice a l c0)))) := ⟨rfl, hb⟩
  clear h hi hj hb
  go_enter Try.func11, Try.ntmps11
  go_wp2_with fail
  refine HC.out.mono ?_
  rintro e w' ⟨rfl, rfl⟩
  go_wp2_with fail
  refine HD.out.mono ?_
  rintro e w' ⟨rfl, rfl⟩
  go_wp2
  go_ret
  exact FIN.out
theorem Nm.ext9 {w : World} {f : Nat × Nat → Option Value} {F F' : Nat → Nat → Int} {k : Nat} (h : Nm w f F k) (e : ∀ i j, F i j = F' i j) : Nm w f F' k := by
  rw [← (funext fun i => funext fun j => e i j : F = F')]; exact h
/-- Row i and x times row j. -/
def arF (F : Nat → Nat → Int) (i j : Nat) (x : Int) : Nat → Nat → Int := fun i' j' => if i' = i then F i j' + x * F j j' else F i' j'
set_option maxHeartbeats 3200000 in
set_option maxRecDepth 100000 in
theorem addRow_yes {w : World} {g b r c k kx i j : Nat} {F : Nat → Nat → Int} {v : Value} {x : Int} (h : Gq w g b r c F k) (hz : Zi w v x kx) (hi : i < r) (hj : j < r) (hr : r ≤ 64) (hc : c ≤ 64) (hk : k + kx + 1 < 35184372088832) :
    Calls Try.prog 11 #[.pointer (some ⟨g, 0, none⟩), .int .i64 (i : Int), .int .i64 (j : Int), v] w (Doneg w g b r c (arF F i j x) (k + kx + 1)) := by
  obtain ⟨m, xs, a, c0, rfl, -⟩ := id hz
  obtain ⟨W0, hW⟩ : ∃ W0, w.alloc (duo (.bool m) (.slice a xs.length c0)) = W0 := ⟨_, rfl⟩
  obtain ⟨b0, sz0⟩ := alo1 w (duo (.bool m) (.slice a xs.length c0))
  rw [hW] at b0 sz0
  have PB : Duo W0 w.heap.size (.bool m) (.slice a xs.length c0) := by rw [← hW]; exact heap_alloc_new w _
  have hbg : g < w.heap.size ∧ b < w.heap.size := by
    obtain ⟨f, n, hg, hm, -⟩ := h
    exact ⟨hg.1.blk, hm.lt⟩
  obtain ⟨f, n, hg, hm, hf, hw⟩ := h.now b0
  have HC := hid (hasRow_yes hg hi)
  have HD := hid (hasRow_yes hg hj)
  have x2 := hg.1.at (i := 2) rfl
  have HG := hid hg
  have HM := hid hm
  have HF := hid hf
  have HW := hid hw
  have HZ := hid (hz.now b0)
  have PK := hid PB
  have HIJ := hid (And.intro hi hj)
  have HBG := hid hbg
  have G0 := hid b0
  have EW := hid hW
  have HP : Hid (∀ i j, ((F i j).natAbs : Int) < pw k) := fun i j => (hf.getD i j).zi.lt
  have HX : Hid ((x.natAbs : Int) < pw kx) := hz.lt
  clear h hg hm hf hw hz hi hj b0 sz0 hW PB hbg
  go_enter Try.func11, Try.ntmps11
  go_wp2_with fail
  rw [EW.out]
  refine HC.out.mono ?_
  rintro e w1 ⟨rfl, hw1⟩
  have hw2 := hw1.symm
  subst hw2
  clear hw1 HC EW
  go_wp2_with fail
  refine HD.out.mono ?_
  rintro e w1 ⟨rfl, hw1⟩
  have hw2 := hw1.symm
  subst hw2
  clear hw1 HD
  go_wp2_with fail
  refine (clone_any HM.out).mono ?_
  rintro e w1 ⟨rfl, hmc, b1⟩
  have HA := hid hmc
  have HG1 := hid (HG.out.now b1)
  have HM1 := hid (HM.out.now b1)
  have HF1 := hid (HF.out.now b1)
  have HZ1 := hid (HZ.out.now b1)
  have PK1 := hid (PK.out.step b1)
  have G1 := hid (below_step G0.out b1)
  have HAB : Hid (w.heap.size ≤ W0.heap.size ∧ W0.heap.size < w1.heap.size) := ⟨G0.out.size, hmc.lt⟩
  obtain ⟨A, hA⟩ : ∃ A, W0.heap.size = A := ⟨_, rfl⟩
  rw [hA] at HA HAB ⊢
  clear hmc b1 hA x2 HG HM HF HZ PK G0
  have x2 := HG1.out.1.at (i := 2) rfl
  have k0 := PK1.out.c0
  have k1 := PK1.out.c1
  go_wp2_with fail
  have KB : Hid (∀ w', Below w1.heap.size w1 w' → w'.cell? ⟨g, 2, none⟩ = some (.map (some b)) ∧ w'.cell? ⟨w.heap.size, 0, none⟩ = some (.bool m) ∧ w'.cell? ⟨w.heap.size, 1, none⟩ = some (.slice a xs.length c0)) := fun w' h => ⟨cnow h x2, cnow h k0, cnow h k1⟩
  refine wp_region_tail (fun w' => w'.cell? ⟨g, 2, none⟩ = some (.map (some b)) ∧ w'.cell? ⟨w.heap.size, 0, none⟩ = some (.bool m) ∧ w'.cell? ⟨w.heap.size, 1, none⟩ = some (.slice a xs.length c0)) 9 (by kernel_rfl) ?_
  obtain ⟨D11, hD⟩ : ∃ D11, w1.drew = D11 := ⟨_, rfl⟩
  have GB : Hid (Below w1.heap.size w1 D11) := by unfold Hid; rw [← hD]; exact (Below.refl _ _).drew
  rw [hD]
  clear hD
  refine wpAnyT_take (i := 0) (oi := { dst := some 25, op := Op.move (Operand.tmp 9), type := 66, pos := "rows.go:23", after := #[], guard := none }) (v := (.map (some A))) rfl (by kernel_rfl) (fun _ _ _ h => h) (Or.inl ⟨by rfl, ?_⟩) (KB.out _ GB.out) ?_
  · intro w hSw
    (try dsimp only at hSw)
    go_simp
  simp only [Act.put, List.setIfInBounds_toArray, List.set_cons_zero, List.set_cons_succ]
  refine wpAnyT_take (i := 1) (oi := { dst := some 26, op := Op.move (Operand.tmp 1), type := 3, pos := "rows.go:23", after := #[], guard := none }) (v := (.int .i64 (i : Int))) rfl (by kernel_rfl) (fun _ _ _ h => h) (Or.inl ⟨by rfl, ?_⟩) (KB.out _ GB.out) ?_
  · intro w hSw
    (try dsimp only at hSw)
    go_simp
  simp only [Act.put, List.setIfInBounds_toArray, List.set_cons_zero, List.set_cons_succ]
  refine wpAnyT_take (i := 2) (oi := { dst := some 27, op := Op.load 35 (Operand.tmp 7), type := 35, pos := "rows.go:23", after := #[], guard := none }) (v := (.agg #[.bool m, .slice a xs.length c0])) rfl (by kernel_rfl) (fun _ _ _ h => h) (Or.inl ⟨by rfl, ?_⟩) (KB.out _ GB.out) ?_
  · intro w hSw
    (try dsimp only at hSw)
    go_simp
  simp only [Act.put, List.setIfInBounds_toArray, List.set_cons_zero, List.set_cons_succ]
  refine wpAnyT_take (i := 3) (oi := { dst := some 28, op := Op.move (Operand.tmp 0), type := 27, pos := "rows.go:23", after := #[], guard := none }) (v := (.pointer (some ⟨g, 0, none⟩))) rfl (by kernel_rfl) (fun _ _ _ h => h) (Or.inl ⟨by rfl, ?_⟩) (KB.out _ GB.out) ?_
  · intro w hSw
    (try dsimp only at hSw)
    go_simp
  simp only [Act.put, List.setIfInBounds_toArray, List.set_cons_zero, List.set_cons_succ]
  refine wpAnyT_take (i := 4) (oi := { dst := some 29, op := Op.nilCheck (Operand.tmp 28), type := 0, pos := "rows.go:23", after := #[{ on := 3, ground := Ground.data }], guard := none }) (v := (.pointer (some ⟨g, 0, none⟩))) rfl (by kernel_rfl) (fun _ _ _ h => h) (Or.inl ⟨by rfl, ?_⟩) (KB.out _ GB.out) ?_
  · intro w hSw
    (try dsimp only at hSw)
    go_simp
  simp only [Act.put, List.setIfInBounds_toArray, List.set_cons_zero, List.set_cons_succ]
  refine wpAnyT_take (i := 5) (oi := { dst := some 30, op := Op.fieldAddr 68 (Operand.tmp 29) 2, type := 0, pos := "rows.go:23", after := #[{ on := 4, ground := Ground.data }], guard := none }) (v := (.pointer (some ⟨g, 2, none⟩))) rfl (by kernel_rfl) (fun _ _ _ h => h) (Or.inl ⟨by rfl, ?_⟩) (KB.out _ GB.out) ?_
  · intro w hSw
    (try dsimp only at hSw)
    go_simp
  simp only [Act.put, List.setIfInBounds_toArray, List.set_cons_zero, List.set_cons_succ]
  refine wpAnyT_take (i := 6) (oi := { dst := some 31, op := Op.load 66 (Operand.tmp 30), type := 66, pos := "rows.go:23", after := #[{ on := 5, ground := Ground.data }], guard := none }) (v := (.map (some b))) rfl (by kernel_rfl) (fun _ _ _ h => h) (Or.inl ⟨by rfl, ?_⟩) (KB.out _ GB.out) ?_
  · intro w hSw
    (try dsimp only at hSw)
    go_simp
  simp only [Act.put, List.setIfInBounds_toArray, List.set_cons_zero, List.set_cons_succ]
  refine wpAnyT_take (i := 7) (oi := { dst := some 32, op := Op.move (Operand.tmp 2), type := 3, pos := "rows.go:23", after := #[], guard := none }) (v := (.int .i64 (j : Int))) rfl (by kernel_rfl) (fun _ _ _ h => h) (Or.inl ⟨by rfl, ?_⟩) (KB.out _ GB.out) ?_
  · intro w hSw
    (try dsimp only at hSw)
    go_simp
  simp only [Act.put, List.setIfInBounds_toArray, List.set_cons_zero, List.set_cons_succ]
  refine wpAnyT_one (i := 8) (o := { dst := some 33, op := Op.call { callee := Callee.value (Operand.func 43), args := #[Operand.tmp 31, Operand.tmp 32], argTypes := #[66, 3] }, type := 66, pos := "rows.go:23", after := #[{ on := 6, ground := Ground.data }, { on := 7, ground := Ground.data }], guard := none }) (by kernel_rfl) rfl (fun K hK => ?_)
  go_simp
  go_at_call 43
  refine (row_any (i := j) (HM1.out.now GB.out) HF1.out.allZ HW.out HG1.out.2.1 HG1.out.2.2).mono ?_
  rintro e w2 ⟨m2, rfl, hr2, b⟩
  have R2 := hid hr2
  have HB2 : Hid (w1.heap.size ≤ D11.heap.size) := (show Below _ _ _ from GB.out).size
  obtain ⟨o2, ho2⟩ : ∃ o, D11.heap.size = o := ⟨_, rfl⟩
  rw [ho2] at R2 HB2 ⊢
  replace GB := hid (below_step GB.out b)
  clear hr2 b ho2
  refine hK.out _ _ (fun _ => KB.out _ GB.out) ?_
  clear hK
  refine wpAnyT_one (i := 9) (o := { dst := some 34, op := Op.call { callee := Callee.value (Operand.func 42), args := #[Operand.tmp 25, Operand.tmp 26, Operand.tmp 27, Operand.tmp 33], argTypes := #[66, 3, 35, 66] }, type := 0, pos := "rows.go:23", after := #[{ on := 0, ground := Ground.data }, { on := 1, ground := Ground.data }, { on := 2, ground := Ground.data }, { on := 8, ground := Ground.data }, { on := 8, ground := Ground.chain }], guard := none }) (by kernel_rfl) rfl (fun K hK => ?_)
  go_simp
  go_at_call 42
  have hf3 := HF1.out.now GB.out
  have MQA : Mq w2 A r c F (k + kx + 1) := ⟨f, n, HA.out.now GB.out, hf3.more (by omega), HW.out⟩
  refine (addTimes_some (i := i) (p := j) (B := rwF F j) (kk := kx) (kr := k) MQA (HZ1.out.now GB.out) R2.out (hf3.row j) (fun s v hs => ⟨rowf_row s v hs, (rowf_wi HW.out s v hs).2⟩) (by have := HAB.out; have := HB2.out; omega) HIJ.out.1 HG1.out.2.1 HG1.out.2.2 (fun j' => ?_) (by omega) hk).mono ?_
  · have e1 := HP.out j j'
    have e2 := HP.out i j'
    have e3 : ((x * F j j').natAbs : Int) < pw (kx + k) := by
      rw [Int.natAbs_mul, Int.natCast_mul, pw_plus]
      exact Int.lt_of_le_of_lt (Int.mul_le_mul_of_nonneg_left (Int.le_of_lt e1) (by omega)) (Int.mul_lt_mul_of_pos_right HX.out (pw_pos k))
    have e4 := abs_add e3 e2
    have e5 : pw (max (kx + k) k + 1) ≤ pw (k + kx + 1) := pw_up (by omega)
    have e6 : rwF F j j j' = F j j' := by simp [rwF]
    rw [e6]
    omega
  rintro e wz ⟨rfl, q1, q2⟩
  have Q1 := hid q1
  have hcl := (HA.out.now GB.out).cl q2
  have HGz := hid ((HG1.out.now GB.out).cl hcl)
  have HMz := hid ((HM1.out.now GB.out).kept q2 (fun e => by have := HAB.out; have := HBG.out; simp at e; omega))
  have Gz := hid (below_grown (below_step G1.out GB.out) q2 HAB.out.1)
  clear q1 q2 hcl hf3 MQA
  refine hK.out _ _ (fun h => absurd h (by decide)) ?_
  clear hK
  refine wpAnyT_done (by kernel_rfl) ?_ _
  clear x2 k0 k1 GB KB HA HM1 HF1 HZ1 PK1 G1 R2
  obtain ⟨f9, n9, m9, f9m, w9⟩ := Q1.out
  have hn9 : n9 ≤ 4096 := Nat.le_trans (m9.count2 w9) (Nat.mul_le_mul hr hc)
  have hle := fun ty => m9.len Try.map10 ty
  have hc9 : decide ((4096 : Int) < (n9 : Int)) = false := decide_eq_false (by omega)
  have x2 := HGz.out.1.at (i := 2) rfl
  have M9 := hid m9
  have F9 := hid f9m
  have W9 := hid w9
  clear m9 f9m w9 Q1 hn9
  go_wp2_with (first | (refine wpList_clear10 _ rfl _ rfl b n f rfl HMz.out ?_) | go_in)
  intro wy hst
  obtain ⟨p1, p2⟩ := hst.out
  have HGy := hid (HGz.out.cl p2)
  have M9y := hid (M9.out.kept p1 (fun e => by have := HAB.out; have := HBG.out; simp at e; omega))
  have F9y := hid (F9.out.cl p2)
  have Gy : Hid (Gf g b w wy) := ⟨p1.os.trans Gz.out.os, p1.tape.trans Gz.out.tape, p1.output.trans Gz.out.output, Nat.le_trans Gz.out.size p1.size, fun y hy _ hyb => (p1.block y (Nat.lt_of_lt_of_le hy Gz.out.size) (fun e => hyb (by simpa using e))).trans (Gz.out.block y hy)⟩
  clear x2 hle hst p1 p2 M9 F9 HGz HMz Gz hc9
  have x2 := HGy.out.1.at (i := 2) rfl
  have x3 := HGy.out.1.fz 2
  have FIN : Hid (Doneg w g b r c (arF F i j x) (k + kx + 1) (.returned (.int .i64 0)) (wy.setCell ⟨g, 2, none⟩ (.map (some A)))) := by
    have hgn : ∀ y, y ≠ g → (wy.setCell ⟨g, 2, none⟩ (.map (some A))).heap[y]? = wy.heap[y]? := fun y hy => Below.heap_setCell _ _ _ y (fun e => hy (by simpa using e))
    have hAg : A ≠ g := by have := HAB.out; have := HBG.out; omega
    refine ⟨A, rfl, ⟨f9, n9, ⟨HGy.out.1.set 2 _, HGy.out.2⟩, M9y.out.keep (hgn A hAg), (F9y.out.ty (Ty.set HGy.out.1) (by decide)).ext9 (fun i' j' => by simp [arF, rwF]), W9.out⟩, .inr HAB.out.1, ⟨Gy.out.os, Gy.out.tape, Gy.out.output, by have := Gy.out.size; simpa using this, fun y hy h1 h2 => (hgn y h1).trans (Gy.out.block y hy h1 h2)⟩⟩
  clear HGy M9y F9y Gy
  go_wp2
  go_ret
  exact FIN.out
end Go.Proofs.Ytachdicdfhfoaaa
