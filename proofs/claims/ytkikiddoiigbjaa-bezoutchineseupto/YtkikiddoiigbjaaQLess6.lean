/-
  Less6: row.less.
-/
import Derived.Test.YtkikiddoiigbjaaQZStoreToZFloor
import Derived.Test.YtkikiddoiigbjaaQZModToZDivs
namespace Go.Proofs.Ytkikiddoiigbjaa
open Go.RowKit
set_option linter.unusedVariables false

theorem pair_eq {x0 x1 y0 y1 : Value} (h : #[x0, x1] = #[y0, y1]) : x0 = y0 ∧ x1 = y1 := by simpa using h
theorem int_as6 {F : FuncId} {args : Array Value} {w : World} {X Y : Int} (h : Calls Try.prog F args w fun e w' => e = .returned (.int .i64 X) ∧ Below w.heap.size w w') (e : X = Y) : Calls Try.prog F args w fun e w' => e = .returned (.int .i64 Y) ∧ Below w.heap.size w w' := by subst e; exact h
theorem Zi.comp {w : World} {v0 v1 : Value} {z : Int} {k : Nat} (h : Zi w (.agg #[v0, v1]) z k) : ∃ n, ∃ xs : List Int, ∃ a c, v0 = .bool n ∧ v1 = .slice a xs.length c := by
  obtain ⟨n, xs, a, c, e, _⟩ := h
  obtain ⟨e1, e2⟩ := pair_eq (show #[v0, v1] = _ by simpa using e)
  exact ⟨n, xs, a, c, e1, e2⟩
theorem cel_at {w : World} {b : Nat} {T : TypeId} {L : List Value} (hb : w.heap.size = b) : Cel (w.alloc (.cells L.toArray T)) b T L := by subst hb; exact Cel.new w T L
theorem cel_late {w : World} {b : Nat} {T : TypeId} {L : List Value} (h : Cel w b T L) (o : Obj) : Cel (w.alloc o) b T L := h.step ((Below.refl _ _).alloc (Nat.le_refl _) o)
/-- A row is no list of words. -/
theorem Row.cel {w : World} {g b i : Nat} {L : List Value} {T : TypeId} {M : List Value} {u : Value} (h : Row w g L) (d : Cel w b T M) (hT : T ≠ 37) : Row (w.setCell ⟨b, i, none⟩ u) g L := by
  have hne : g ≠ b := fun e => by
    subst e
    have := (show w.heap[g]? = _ from h).symm.trans (show w.heap[g]? = _ from d)
    simp at this
    exact hT this.2.symm
  exact (Below.heap_setCell w _ u g (fun e => hne (by simpa using e))).trans h
theorem Mine.cel {B : Nat} {w : World} {v : Value} {zs : List Int} (h : Mine B w v zs) {b i : Nat} {T : TypeId} {M : List Value} {u : Value} (d : Cel w b T M) (hT : T ≠ 37) : Mine B (w.setCell ⟨b, i, none⟩ u) v zs := by
  obtain ⟨hw, h | ⟨g, r, cap, h1, h2, h3, h4, h5, h6⟩⟩ := h
  · exact ⟨hw, .inl h⟩
  · exact ⟨hw, .inr ⟨g, r, cap, h1, h2, h3, h4, h5, h6.cel d hT⟩⟩
theorem Zm.cel {B : Nat} {w : World} {v : Value} {z : Int} {k : Nat} (h : Zm B w v z k) {b i : Nat} {T : TypeId} {M : List Value} {u : Value} (d : Cel w b T M) (hT : T ≠ 37) : Zm B (w.setCell ⟨b, i, none⟩ u) v z k := by
  obtain ⟨n, xs, a, c, h1, h2, h3⟩ := h
  exact ⟨n, xs, a, c, h1, h2.cel d hT, h3⟩
theorem Zm.put4z {B : Nat} {w : World} {v : Value} {z : Int} {k : Nat} (h : Zm B w v z k) {b : Nat} {x0 x1 x2 x3 : Value} (d : Cel w b 53 [x0, x1, x2, x3]) (y0 y1 y2 y3 : Value) : Zm B (put4 w b y0 y1 y2 y3) v z k := by
  have d1 := d.set 0 y0
  have d2 := d1.set 1 y1
  have d3 := d2.set 2 y2
  exact (((h.cel d (by decide)).cel d1 (by decide)).cel d2 (by decide)).cel d3 (by decide)
/-- The result that lies in a block of four cells. -/
theorem rowback {f : Func} {s : Nat} (hr : f.results = #[ResultVar.cell s 53]) {W : World} {b : Nat} {x0 x1 x2 x3 : Value} (h : Cel W b 53 [x0, x1, x2, x3]) (tmps : Array Value) (ht : tmps[s]? = some (.pointer (some ⟨b, 0, none⟩))) :
    (results f tmps).run Try.prog W = .ok (.agg #[x0, x1, x2, x3]) W := by
  simp [results, hr, go_sem, ht, h.at (i := 0) rfl, h.at (i := 1) rfl, h.at (i := 2) rfl, h.at (i := 3) rfl]

set_option maxHeartbeats 6400000 in
set_option maxRecDepth 100000 in
theorem less_z {w : World} {a0 a1 b0 b1 c0 c1 d0 d1 vt : Value} {A B T C D : Int} {k : Nat} (ha : Zi w (.agg #[a0, a1]) A k) (hb : Zi w (.agg #[b0, b1]) B k) (ht : Zi w vt T k) (hc : Zi w (.agg #[c0, c1]) C k) (hd : Zi w (.agg #[d0, d1]) D k) (hk : k ≤ 68719476736) :
    Calls Try.prog 36 #[.agg #[a0, a1, b0, b1], vt, .agg #[c0, c1, d0, d1]] w fun e w' => ∃ r0 r1 r2 r3, e = .returned (.agg #[r0, r1, r2, r3]) ∧ Zm w.heap.size w' (.agg #[r0, r1]) (A - T * C) (k + k + 1) ∧ Zm w.heap.size w' (.agg #[r2, r3]) (B - T * D) (k + k + 1) ∧ Below w.heap.size w w' := by
  have za0 := ha
  obtain ⟨na, xa, ada, ca, ev, -, -, -⟩ := ha
  simp only [Value.agg.injEq] at ev
  obtain ⟨rfl, rfl⟩ := pair_eq ev
  have zb0 := hb
  obtain ⟨nb, xb, adb, cb, ev, -, -, -⟩ := hb
  simp only [Value.agg.injEq] at ev
  obtain ⟨rfl, rfl⟩ := pair_eq ev
  have zt0 := ht
  obtain ⟨nt, xt, adt, ct, rfl, -, -, -⟩ := ht
  have zc0 := hc
  obtain ⟨nc, xc, adc, cc, ev, -, -, -⟩ := hc
  simp only [Value.agg.injEq] at ev
  obtain ⟨rfl, rfl⟩ := pair_eq ev
  have zd0 := hd
  obtain ⟨nd, xd, add, cd, ev, -, -, -⟩ := hd
  simp only [Value.agg.injEq] at ev
  obtain ⟨rfl, rfl⟩ := pair_eq ev
  obtain ⟨W0, hW⟩ : ∃ W0, (((w.alloc (.cells #[(.bool na), (.slice ada xa.length ca), (.bool nb), (.slice adb xb.length cb)] 53)).alloc (duo (.bool nt) (.slice adt xt.length ct))).alloc (.cells #[(.bool nc), (.slice adc xc.length cc), (.bool nd), (.slice add xd.length cd)] 53)).alloc (.cells #[(.bool false), (.slice none 0 0), (.bool false), (.slice none 0 0)] 53) = W0 := ⟨_, rfl⟩
  obtain ⟨b0, sz0⟩ := alloc4 w (.cells #[(.bool na), (.slice ada xa.length ca), (.bool nb), (.slice adb xb.length cb)] 53) (duo (.bool nt) (.slice adt xt.length ct)) (.cells #[(.bool nc), (.slice adc xc.length cc), (.bool nd), (.slice add xd.length cd)] 53) (.cells #[(.bool false), (.slice none 0 0), (.bool false), (.slice none 0 0)] 53)
  rw [hW] at b0 sz0
  have e1 : (w.alloc (.cells #[(.bool na), (.slice ada xa.length ca), (.bool nb), (.slice adb xb.length cb)] 53)).heap.size = w.heap.size + 1 := by simp
  have e2 : ((w.alloc (.cells #[(.bool na), (.slice ada xa.length ca), (.bool nb), (.slice adb xb.length cb)] 53)).alloc (duo (.bool nt) (.slice adt xt.length ct))).heap.size = w.heap.size + 1 + 1 := by simp
  have e3 : (((w.alloc (.cells #[(.bool na), (.slice ada xa.length ca), (.bool nb), (.slice adb xb.length cb)] 53)).alloc (duo (.bool nt) (.slice adt xt.length ct))).alloc (.cells #[(.bool nc), (.slice adc xc.length cc), (.bool nd), (.slice add xd.length cd)] 53)).heap.size = w.heap.size + 1 + 1 + 1 := by simp
  have PR : Hid (Cel W0 (w.heap.size) 53 [(.bool na), (.slice ada xa.length ca), (.bool nb), (.slice adb xb.length cb)]) := by unfold Hid; rw [← hW]; exact cel_late (cel_late (cel_late (Cel.new w _ _) _) _) _
  have PT : Hid (Duo W0 (w.heap.size + 1) (.bool nt) (.slice adt xt.length ct)) := by unfold Hid; rw [← hW]; exact duo_late (duo_late (duo_at e1) _) _
  have PS : Hid (Cel W0 (w.heap.size + 1 + 1) 53 [(.bool nc), (.slice adc xc.length cc), (.bool nd), (.slice add xd.length cd)]) := by unfold Hid; rw [← hW]; exact cel_late (cel_at e2) _
  have PQ : Hid (Cel W0 (w.heap.size + 1 + 1 + 1) 53 [(.bool false), (.slice none 0 0), (.bool false), (.slice none 0 0)]) := by unfold Hid; rw [← hW]; exact cel_at e3
  have Za := hid (za0.now b0)
  clear za0
  have Zb := hid (zb0.now b0)
  clear zb0
  have Zt := hid (zt0.now b0)
  clear zt0
  have Zc := hid (zc0.now b0)
  clear zc0
  have Zd := hid (zd0.now b0)
  clear zd0
  clear e1 e2 e3
  have G := hid b0
  clear b0
  have EW := hid hW
  clear hW
  go_enter Try.func36, Try.ntmps36
  skip
  go_wp2_with fail
  rw [EW.out]
  clear EW
  refine wp_region_tail (fun w' => w'.cell? ⟨w.heap.size, 0, none⟩ = some (.bool na) ∧ w'.cell? ⟨w.heap.size, 1, none⟩ = some (.slice ada xa.length ca) ∧ w'.cell? ⟨w.heap.size, 2, none⟩ = some (.bool nb) ∧ w'.cell? ⟨w.heap.size, 3, none⟩ = some (.slice adb xb.length cb) ∧ w'.cell? ⟨w.heap.size + 1, 0, none⟩ = some (.bool nt) ∧ w'.cell? ⟨w.heap.size + 1, 1, none⟩ = some (.slice adt xt.length ct) ∧ w'.cell? ⟨w.heap.size + 1 + 1, 0, none⟩ = some (.bool nc) ∧ w'.cell? ⟨w.heap.size + 1 + 1, 1, none⟩ = some (.slice adc xc.length cc) ∧ w'.cell? ⟨w.heap.size + 1 + 1, 2, none⟩ = some (.bool nd) ∧ w'.cell? ⟨w.heap.size + 1 + 1, 3, none⟩ = some (.slice add xd.length cd)) 15 (by kernel_rfl) ?_
  obtain ⟨D1, hD⟩ : ∃ D1, W0.drew = D1 := ⟨_, rfl⟩
  have b : Below W0.heap.size W0 D1 := by rw [← hD]; exact (Below.refl _ _).drew
  rw [hD]
  clear hD
  replace Za := hid (Za.out.now b)
  replace Zb := hid (Zb.out.now b)
  replace Zt := hid (Zt.out.now b)
  replace Zc := hid (Zc.out.now b)
  replace Zd := hid (Zd.out.now b)
  replace PR := hid (PR.out.step b)
  replace PT := hid (PT.out.step b)
  replace PS := hid (PS.out.step b)
  replace PQ := hid (PQ.out.step b)
  replace G := hid (below_step G.out b)
  have lz2 := (show Below _ _ _ from b).size
  clear b
  refine wpAnyT_take (i := 0) (oi := { dst := some 7, op := Op.indexAddr 53 (Operand.tmp 3) (Operand.const (Value.int IntKind.i64 0)), type := 0, pos := "bezout.go:57", after := #[], guard := none }) (v := (.pointer (some ⟨w.heap.size, 0, none⟩))) rfl (by kernel_rfl) (fun _ _ _ h => h) (Or.inl ⟨by rfl, ?_⟩) ⟨(PR.out.at (i := 0) rfl), (PR.out.at (i := 1) rfl), (PR.out.at (i := 2) rfl), (PR.out.at (i := 3) rfl), PT.out.c0, PT.out.c1, (PS.out.at (i := 0) rfl), (PS.out.at (i := 1) rfl), (PS.out.at (i := 2) rfl), (PS.out.at (i := 3) rfl)⟩ ?_
  · intro w hSw
    (try dsimp only at hSw)
    go_simp
  simp only [Act.put, List.setIfInBounds_toArray, List.set_cons_zero, List.set_cons_succ]
  refine wpAnyT_take (i := 1) (oi := { dst := some 8, op := Op.load 25 (Operand.tmp 7), type := 25, pos := "bezout.go:57", after := #[{ on := 0, ground := Ground.data }], guard := none }) (v := (.agg #[(.bool na), (.slice ada xa.length ca)])) rfl (by kernel_rfl) (fun _ _ _ h => h) (Or.inl ⟨by rfl, ?_⟩) ⟨(PR.out.at (i := 0) rfl), (PR.out.at (i := 1) rfl), (PR.out.at (i := 2) rfl), (PR.out.at (i := 3) rfl), PT.out.c0, PT.out.c1, (PS.out.at (i := 0) rfl), (PS.out.at (i := 1) rfl), (PS.out.at (i := 2) rfl), (PS.out.at (i := 3) rfl)⟩ ?_
  · intro w hSw
    (try dsimp only at hSw)
    go_simp
  simp only [Act.put, List.setIfInBounds_toArray, List.set_cons_zero, List.set_cons_succ]
  refine wpAnyT_take (i := 2) (oi := { dst := some 9, op := Op.load 25 (Operand.tmp 4), type := 25, pos := "bezout.go:57", after := #[], guard := none }) (v := (.agg #[(.bool nt), (.slice adt xt.length ct)])) rfl (by kernel_rfl) (fun _ _ _ h => h) (Or.inl ⟨by rfl, ?_⟩) ⟨(PR.out.at (i := 0) rfl), (PR.out.at (i := 1) rfl), (PR.out.at (i := 2) rfl), (PR.out.at (i := 3) rfl), PT.out.c0, PT.out.c1, (PS.out.at (i := 0) rfl), (PS.out.at (i := 1) rfl), (PS.out.at (i := 2) rfl), (PS.out.at (i := 3) rfl)⟩ ?_
  · intro w hSw
    (try dsimp only at hSw)
    go_simp
  simp only [Act.put, List.setIfInBounds_toArray, List.set_cons_zero, List.set_cons_succ]
  refine wpAnyT_take (i := 3) (oi := { dst := some 10, op := Op.indexAddr 53 (Operand.tmp 5) (Operand.const (Value.int IntKind.i64 0)), type := 0, pos := "bezout.go:57", after := #[], guard := none }) (v := (.pointer (some ⟨w.heap.size + 1 + 1, 0, none⟩))) rfl (by kernel_rfl) (fun _ _ _ h => h) (Or.inl ⟨by rfl, ?_⟩) ⟨(PR.out.at (i := 0) rfl), (PR.out.at (i := 1) rfl), (PR.out.at (i := 2) rfl), (PR.out.at (i := 3) rfl), PT.out.c0, PT.out.c1, (PS.out.at (i := 0) rfl), (PS.out.at (i := 1) rfl), (PS.out.at (i := 2) rfl), (PS.out.at (i := 3) rfl)⟩ ?_
  · intro w hSw
    (try dsimp only at hSw)
    go_simp
  simp only [Act.put, List.setIfInBounds_toArray, List.set_cons_zero, List.set_cons_succ]
  refine wpAnyT_take (i := 4) (oi := { dst := some 11, op := Op.load 25 (Operand.tmp 10), type := 25, pos := "bezout.go:57", after := #[{ on := 3, ground := Ground.data }], guard := none }) (v := (.agg #[(.bool nc), (.slice adc xc.length cc)])) rfl (by kernel_rfl) (fun _ _ _ h => h) (Or.inl ⟨by rfl, ?_⟩) ⟨(PR.out.at (i := 0) rfl), (PR.out.at (i := 1) rfl), (PR.out.at (i := 2) rfl), (PR.out.at (i := 3) rfl), PT.out.c0, PT.out.c1, (PS.out.at (i := 0) rfl), (PS.out.at (i := 1) rfl), (PS.out.at (i := 2) rfl), (PS.out.at (i := 3) rfl)⟩ ?_
  · intro w hSw
    (try dsimp only at hSw)
    go_simp
  simp only [Act.put, List.setIfInBounds_toArray, List.set_cons_zero, List.set_cons_succ]
  refine wpAnyT_take (i := 7) (oi := { dst := some 14, op := Op.indexAddr 53 (Operand.tmp 3) (Operand.const (Value.int IntKind.i64 1)), type := 0, pos := "bezout.go:57", after := #[], guard := none }) (v := (.pointer (some ⟨w.heap.size, 2, none⟩))) rfl (by kernel_rfl) (fun _ _ _ h => h) (Or.inl ⟨by rfl, ?_⟩) ⟨(PR.out.at (i := 0) rfl), (PR.out.at (i := 1) rfl), (PR.out.at (i := 2) rfl), (PR.out.at (i := 3) rfl), PT.out.c0, PT.out.c1, (PS.out.at (i := 0) rfl), (PS.out.at (i := 1) rfl), (PS.out.at (i := 2) rfl), (PS.out.at (i := 3) rfl)⟩ ?_
  · intro w hSw
    (try dsimp only at hSw)
    go_simp
  simp only [Act.put, List.setIfInBounds_toArray, List.set_cons_zero, List.set_cons_succ]
  refine wpAnyT_take (i := 8) (oi := { dst := some 15, op := Op.load 25 (Operand.tmp 14), type := 25, pos := "bezout.go:57", after := #[{ on := 7, ground := Ground.data }], guard := none }) (v := (.agg #[(.bool nb), (.slice adb xb.length cb)])) rfl (by kernel_rfl) (fun _ _ _ h => h) (Or.inl ⟨by rfl, ?_⟩) ⟨(PR.out.at (i := 0) rfl), (PR.out.at (i := 1) rfl), (PR.out.at (i := 2) rfl), (PR.out.at (i := 3) rfl), PT.out.c0, PT.out.c1, (PS.out.at (i := 0) rfl), (PS.out.at (i := 1) rfl), (PS.out.at (i := 2) rfl), (PS.out.at (i := 3) rfl)⟩ ?_
  · intro w hSw
    (try dsimp only at hSw)
    go_simp
  simp only [Act.put, List.setIfInBounds_toArray, List.set_cons_zero, List.set_cons_succ]
  refine wpAnyT_take (i := 9) (oi := { dst := some 16, op := Op.load 25 (Operand.tmp 4), type := 25, pos := "bezout.go:57", after := #[], guard := none }) (v := (.agg #[(.bool nt), (.slice adt xt.length ct)])) rfl (by kernel_rfl) (fun _ _ _ h => h) (Or.inl ⟨by rfl, ?_⟩) ⟨(PR.out.at (i := 0) rfl), (PR.out.at (i := 1) rfl), (PR.out.at (i := 2) rfl), (PR.out.at (i := 3) rfl), PT.out.c0, PT.out.c1, (PS.out.at (i := 0) rfl), (PS.out.at (i := 1) rfl), (PS.out.at (i := 2) rfl), (PS.out.at (i := 3) rfl)⟩ ?_
  · intro w hSw
    (try dsimp only at hSw)
    go_simp
  simp only [Act.put, List.setIfInBounds_toArray, List.set_cons_zero, List.set_cons_succ]
  refine wpAnyT_take (i := 10) (oi := { dst := some 17, op := Op.indexAddr 53 (Operand.tmp 5) (Operand.const (Value.int IntKind.i64 1)), type := 0, pos := "bezout.go:57", after := #[], guard := none }) (v := (.pointer (some ⟨w.heap.size + 1 + 1, 2, none⟩))) rfl (by kernel_rfl) (fun _ _ _ h => h) (Or.inl ⟨by rfl, ?_⟩) ⟨(PR.out.at (i := 0) rfl), (PR.out.at (i := 1) rfl), (PR.out.at (i := 2) rfl), (PR.out.at (i := 3) rfl), PT.out.c0, PT.out.c1, (PS.out.at (i := 0) rfl), (PS.out.at (i := 1) rfl), (PS.out.at (i := 2) rfl), (PS.out.at (i := 3) rfl)⟩ ?_
  · intro w hSw
    (try dsimp only at hSw)
    go_simp
  simp only [Act.put, List.setIfInBounds_toArray, List.set_cons_zero, List.set_cons_succ]
  refine wpAnyT_take (i := 11) (oi := { dst := some 18, op := Op.load 25 (Operand.tmp 17), type := 25, pos := "bezout.go:57", after := #[{ on := 10, ground := Ground.data }], guard := none }) (v := (.agg #[(.bool nd), (.slice add xd.length cd)])) rfl (by kernel_rfl) (fun _ _ _ h => h) (Or.inl ⟨by rfl, ?_⟩) ⟨(PR.out.at (i := 0) rfl), (PR.out.at (i := 1) rfl), (PR.out.at (i := 2) rfl), (PR.out.at (i := 3) rfl), PT.out.c0, PT.out.c1, (PS.out.at (i := 0) rfl), (PS.out.at (i := 1) rfl), (PS.out.at (i := 2) rfl), (PS.out.at (i := 3) rfl)⟩ ?_
  · intro w hSw
    (try dsimp only at hSw)
    go_simp
  simp only [Act.put, List.setIfInBounds_toArray, List.set_cons_zero, List.set_cons_succ]
  refine wpAnyT_one (i := 5) (o := { dst := some 12, op := Op.call { callee := Callee.value (Operand.func 22), args := #[Operand.tmp 9, Operand.tmp 11], argTypes := #[25, 25] }, type := 25, pos := "bezout.go:57", after := #[{ on := 2, ground := Ground.data }, { on := 4, ground := Ground.data }], guard := none }) (by kernel_rfl) rfl (fun K hK => ?_)
  go_simp
  go_at_call 22
  refine (mul_z Zt.out Zc.out (by omega)).mono ?_
  rintro e w3 ⟨r0, rfl, m0, b⟩
  obtain ⟨nu, xu, adu, qu, rfl, -, -, -, -, -⟩ := id m0
  replace Za := hid (Za.out.now b)
  replace Zb := hid (Zb.out.now b)
  replace Zt := hid (Zt.out.now b)
  replace Zc := hid (Zc.out.now b)
  replace Zd := hid (Zd.out.now b)
  replace PR := hid (PR.out.step b)
  replace PT := hid (PT.out.step b)
  replace PS := hid (PS.out.step b)
  replace PQ := hid (PQ.out.step b)
  replace G := hid (below_step G.out b)
  have lz4 := (show Below _ _ _ from b).size
  have Zu := hid m0
  clear b m0
  refine hK.out _ _ (fun _ => ⟨(PR.out.at (i := 0) rfl), (PR.out.at (i := 1) rfl), (PR.out.at (i := 2) rfl), (PR.out.at (i := 3) rfl), PT.out.c0, PT.out.c1, (PS.out.at (i := 0) rfl), (PS.out.at (i := 1) rfl), (PS.out.at (i := 2) rfl), (PS.out.at (i := 3) rfl)⟩) ?_
  clear hK
  refine wpAnyT_one (i := 6) (o := { dst := some 13, op := Op.call { callee := Callee.value (Operand.func 38), args := #[Operand.tmp 8, Operand.tmp 12], argTypes := #[25, 25] }, type := 25, pos := "bezout.go:57", after := #[{ on := 1, ground := Ground.data }, { on := 5, ground := Ground.data }, { on := 5, ground := Ground.chain }], guard := none }) (by kernel_rfl) rfl (fun K hK => ?_)
  go_simp
  go_at_call 38
  refine (sub_z Za.out Zu.out.zi (by omega) (by omega)).mono ?_
  rintro e w5 ⟨r0, rfl, m0, b⟩
  obtain ⟨ng, xg, adg, qg, rfl, -, -, -, -, -⟩ := id m0
  replace Za := hid (Za.out.now b)
  replace Zb := hid (Zb.out.now b)
  replace Zt := hid (Zt.out.now b)
  replace Zc := hid (Zc.out.now b)
  replace Zd := hid (Zd.out.now b)
  replace Zu := hid (Zu.out.now b)
  replace PR := hid (PR.out.step b)
  replace PT := hid (PT.out.step b)
  replace PS := hid (PS.out.step b)
  replace PQ := hid (PQ.out.step b)
  replace G := hid (below_step G.out b)
  have lz6 := (show Below _ _ _ from b).size
  have Zg := hid m0
  clear b m0
  refine hK.out _ _ (fun _ => ⟨(PR.out.at (i := 0) rfl), (PR.out.at (i := 1) rfl), (PR.out.at (i := 2) rfl), (PR.out.at (i := 3) rfl), PT.out.c0, PT.out.c1, (PS.out.at (i := 0) rfl), (PS.out.at (i := 1) rfl), (PS.out.at (i := 2) rfl), (PS.out.at (i := 3) rfl)⟩) ?_
  clear hK
  refine wpAnyT_one (i := 12) (o := { dst := some 19, op := Op.call { callee := Callee.value (Operand.func 22), args := #[Operand.tmp 16, Operand.tmp 18], argTypes := #[25, 25] }, type := 25, pos := "bezout.go:57", after := #[{ on := 9, ground := Ground.data }, { on := 11, ground := Ground.data }, { on := 6, ground := Ground.chain }], guard := none }) (by kernel_rfl) rfl (fun K hK => ?_)
  go_simp
  go_at_call 22
  refine (mul_z Zt.out Zd.out (by omega)).mono ?_
  rintro e w7 ⟨r0, rfl, m0, b⟩
  obtain ⟨nv, xv, adv, qv, rfl, -, -, -, -, -⟩ := id m0
  replace Za := hid (Za.out.now b)
  replace Zb := hid (Zb.out.now b)
  replace Zt := hid (Zt.out.now b)
  replace Zc := hid (Zc.out.now b)
  replace Zd := hid (Zd.out.now b)
  replace Zu := hid (Zu.out.now b)
  replace Zg := hid (Zg.out.now b)
  replace PR := hid (PR.out.step b)
  replace PT := hid (PT.out.step b)
  replace PS := hid (PS.out.step b)
  replace PQ := hid (PQ.out.step b)
  replace G := hid (below_step G.out b)
  have lz8 := (show Below _ _ _ from b).size
  have Zv := hid m0
  clear b m0
  refine hK.out _ _ (fun _ => ⟨(PR.out.at (i := 0) rfl), (PR.out.at (i := 1) rfl), (PR.out.at (i := 2) rfl), (PR.out.at (i := 3) rfl), PT.out.c0, PT.out.c1, (PS.out.at (i := 0) rfl), (PS.out.at (i := 1) rfl), (PS.out.at (i := 2) rfl), (PS.out.at (i := 3) rfl)⟩) ?_
  clear hK
  refine wpAnyT_one (i := 13) (o := { dst := some 20, op := Op.call { callee := Callee.value (Operand.func 38), args := #[Operand.tmp 15, Operand.tmp 19], argTypes := #[25, 25] }, type := 25, pos := "bezout.go:57", after := #[{ on := 8, ground := Ground.data }, { on := 12, ground := Ground.data }, { on := 12, ground := Ground.chain }], guard := none }) (by kernel_rfl) rfl (fun K hK => ?_)
  go_simp
  go_at_call 38
  refine (sub_z Zb.out Zv.out.zi (by omega) (by omega)).mono ?_
  rintro e w9 ⟨r0, rfl, m0, b⟩
  obtain ⟨nh, xh, adh, qh, rfl, -, -, -, -, -⟩ := id m0
  replace Za := hid (Za.out.now b)
  replace Zb := hid (Zb.out.now b)
  replace Zt := hid (Zt.out.now b)
  replace Zc := hid (Zc.out.now b)
  replace Zd := hid (Zd.out.now b)
  replace Zu := hid (Zu.out.now b)
  replace Zg := hid (Zg.out.now b)
  replace Zv := hid (Zv.out.now b)
  replace PR := hid (PR.out.step b)
  replace PT := hid (PT.out.step b)
  replace PS := hid (PS.out.step b)
  replace PQ := hid (PQ.out.step b)
  replace G := hid (below_step G.out b)
  have lz10 := (show Below _ _ _ from b).size
  have Zh := hid m0
  clear b m0
  refine hK.out _ _ (fun _ => ⟨(PR.out.at (i := 0) rfl), (PR.out.at (i := 1) rfl), (PR.out.at (i := 2) rfl), (PR.out.at (i := 3) rfl), PT.out.c0, PT.out.c1, (PS.out.at (i := 0) rfl), (PS.out.at (i := 1) rfl), (PS.out.at (i := 2) rfl), (PS.out.at (i := 3) rfl)⟩) ?_
  clear hK
  refine wpAnyT_take (i := 14) (oi := { dst := some 21, op := Op.build 53 #[(0, Operand.tmp 13), (1, Operand.tmp 20)], type := 53, pos := "bezout.go:57", after := #[{ on := 6, ground := Ground.data }, { on := 13, ground := Ground.data }], guard := none }) (v := (.agg #[.bool ng, .slice adg xg.length qg, .bool nh, .slice adh xh.length qh])) rfl (by kernel_rfl) (fun _ _ _ h => h) (Or.inl ⟨by rfl, ?_⟩) ⟨(PR.out.at (i := 0) rfl), (PR.out.at (i := 1) rfl), (PR.out.at (i := 2) rfl), (PR.out.at (i := 3) rfl), PT.out.c0, PT.out.c1, (PS.out.at (i := 0) rfl), (PS.out.at (i := 1) rfl), (PS.out.at (i := 2) rfl), (PS.out.at (i := 3) rfl)⟩ ?_
  · intro w hSw
    (try dsimp only at hSw)
    go_simp
  simp only [Act.put, List.setIfInBounds_toArray, List.set_cons_zero, List.set_cons_succ]
  refine wpAnyT_one (i := 15) (o := { dst := none, op := Op.store 53 (Operand.tmp 6) (Operand.tmp 21), type := 0, pos := "bezout.go:57", after := #[{ on := 14, ground := Ground.data }, { on := 13, ground := Ground.chain }, { on := 0, ground := Ground.phase }, { on := 1, ground := Ground.phase }, { on := 2, ground := Ground.phase }, { on := 3, ground := Ground.phase }, { on := 4, ground := Ground.phase }, { on := 5, ground := Ground.phase }, { on := 6, ground := Ground.phase }, { on := 7, ground := Ground.phase }, { on := 8, ground := Ground.phase }, { on := 9, ground := Ground.phase }, { on := 10, ground := Ground.phase }, { on := 11, ground := Ground.phase }, { on := 12, ground := Ground.phase }, { on := 13, ground := Ground.phase }, { on := 14, ground := Ground.phase }], guard := none }) (by kernel_rfl) rfl (fun K hK => ?_)
  have cQ0 := (PQ.out.at (i := 0) rfl)
  have cQ1 := (PQ.out.at (i := 1) rfl)
  have cQ2 := (PQ.out.at (i := 2) rfl)
  have cQ3 := (PQ.out.at (i := 3) rfl)
  have fQ0 := PQ.out.fz 0
  have fQ1 := PQ.out.fz 1
  have fQ2 := PQ.out.fz 2
  have fQ3 := PQ.out.fz 3
  go_simp
  clear cQ0 cQ1 cQ2 cQ3 fQ0 fQ1 fQ2 fQ3
  obtain ⟨V11, hW⟩ : ∃ V11, (((w9.setCell ⟨w.heap.size + 1 + 1 + 1, 0, none⟩ (.bool ng)).setCell ⟨w.heap.size + 1 + 1 + 1, 1, none⟩ (.slice adg xg.length qg)).setCell ⟨w.heap.size + 1 + 1 + 1, 2, none⟩ (.bool nh)).setCell ⟨w.heap.size + 1 + 1 + 1, 3, none⟩ (.slice adh xh.length qh) = V11 := ⟨_, rfl⟩
  replace Za := hid ((Za.out).wk ((PQ.out).wk4 (.bool ng) (.slice adg xg.length qg) (.bool nh) (.slice adh xh.length qh)))
  replace Zb := hid ((Zb.out).wk ((PQ.out).wk4 (.bool ng) (.slice adg xg.length qg) (.bool nh) (.slice adh xh.length qh)))
  replace Zt := hid ((Zt.out).wk ((PQ.out).wk4 (.bool ng) (.slice adg xg.length qg) (.bool nh) (.slice adh xh.length qh)))
  replace Zc := hid ((Zc.out).wk ((PQ.out).wk4 (.bool ng) (.slice adg xg.length qg) (.bool nh) (.slice adh xh.length qh)))
  replace Zd := hid ((Zd.out).wk ((PQ.out).wk4 (.bool ng) (.slice adg xg.length qg) (.bool nh) (.slice adh xh.length qh)))
  replace Zu := hid ((Zu.out).put4z (PQ.out) (.bool ng) (.slice adg xg.length qg) (.bool nh) (.slice adh xh.length qh))
  replace Zg := hid ((Zg.out).put4z (PQ.out) (.bool ng) (.slice adg xg.length qg) (.bool nh) (.slice adh xh.length qh))
  replace Zv := hid ((Zv.out).put4z (PQ.out) (.bool ng) (.slice adg xg.length qg) (.bool nh) (.slice adh xh.length qh))
  replace Zh := hid ((Zh.out).put4z (PQ.out) (.bool ng) (.slice adg xg.length qg) (.bool nh) (.slice adh xh.length qh))
  replace PR := hid ((PR.out).away4 (b' := w.heap.size + 1 + 1 + 1) (by omega) (.bool ng) (.slice adg xg.length qg) (.bool nh) (.slice adh xh.length qh))
  replace PT := hid ((PT.out).away4 (b' := w.heap.size + 1 + 1 + 1) (by omega) (.bool ng) (.slice adg xg.length qg) (.bool nh) (.slice adh xh.length qh))
  replace PS := hid ((PS.out).away4 (b' := w.heap.size + 1 + 1 + 1) (by omega) (.bool ng) (.slice adg xg.length qg) (.bool nh) (.slice adh xh.length qh))
  replace PQ := hid ((PQ.out).put4 (.bool ng) (.slice adg xg.length qg) (.bool nh) (.slice adh xh.length qh))
  replace G : Hid (Below w.heap.size w (((((w9.setCell ⟨w.heap.size + 1 + 1 + 1, 0, none⟩ (.bool ng)).setCell ⟨w.heap.size + 1 + 1 + 1, 1, none⟩ (.slice adg xg.length qg)).setCell ⟨w.heap.size + 1 + 1 + 1, 2, none⟩ (.bool nh)).setCell ⟨w.heap.size + 1 + 1 + 1, 3, none⟩ (.slice adh xh.length qh)))) := bset (bset (bset (bset (G.out) (by omega)) (by omega)) (by omega)) (by omega)
  have sz11 : V11.heap.size = w9.heap.size := by rw [← hW]; simp
  dsimp only [put4] at Za Zb Zt Zc Zd Zu Zg Zv Zh PR PT PS PQ
  rw [hW] at Za Zb Zt Zc Zd Zu Zg Zv Zh PR PT PS PQ G
  rw [hW]
  clear hW
  refine hK.out _ _ (fun h => absurd h (by decide)) ?_
  clear hK
  try simp only [Act.put]
  refine wpAnyT_done (by kernel_rfl) ?_ _
  have YG := hid ((Zg.out.mono (B' := w.heap.size) (by omega)).more (l := k + k + 1) (by omega))
  have YH := hid ((Zh.out.mono (B' := w.heap.size) (by omega)).more (l := k + k + 1) (by omega))
  go_wp2
  exact bodyPost_ret (rowback Try.results36 PQ.out _ (by rfl)) rfl ⟨_, _, _, _, rfl, YG.out, YH.out, G.out⟩
end Go.Proofs.Ytkikiddoiigbjaa
