/-
  QKey10ToGrid10: Key10, Grid10, joined.
-/
import Derived.Test.YtachdicdfhfoaaaQMap10
import Derived.Test.YtachdicdfhfoaaaQCells6ToLst9

/- Key10 -/
namespace Go.Proofs.Ytachdicdfhfoaaa
open Go.RowKit Go.ChangeMaps Go.MapKept Go.WideShapes
open Go.Maps (Keyed)
set_option linter.unusedVariables false

/-- A place as a key. -/
def spv (s : Nat × Nat) : Value := .agg #[.int .i64 (s.1 : Int), .int .i64 (s.2 : Int)]
def spok (s : Nat × Nat) : Prop := s.1 < 1048576 ∧ s.2 < 1048576
theorem Try.laidOut10 : laidOutB Try.prog = true := by kernel_rfl
theorem Try.row10 : (71 : TypeId) < Try.prog.types.size := of_decide_eq_true (by kernel_rfl)
theorem Try.map10 : Try.prog.underlying 66 = some (.map 71 35) := by kernel_rfl
theorem Try.kt10 : Try.prog.keyTypeAt 2 71 = true := by kernel_rfl
theorem m10 : 2 + 1 ≤ 10000 := Nat.le_of_ble_eq_true rfl
theorem Try.deep10 : WideMaps.KeyLaw Try.prog 71 := deep_law_laid Try.laidOut10 (m := 2) m10 Try.row10 Try.kt10 (by rw [Try.underlying71])
theorem Try.ktype10 : Try.prog.keyType 71 = true := by kernel_rfl
theorem Try.cellsI10 : Try.prog.cellsOf 3 = 1 := by kernel_rfl
theorem Try.cellsS10 : Try.prog.cellsOf 71 = 2 := by kernel_rfl
theorem nat_wf {n : Nat} (h : n < 1048576) : (Lit.int .i64 (n : Int)).wf = true := by
  simp only [Lit.wf, Bool.and_eq_true, decide_eq_true_eq]
  exact ⟨by have : IntKind.i64.min = -9223372036854775808 := by rfl
            omega, by have : IntKind.i64.max = 9223372036854775807 := by rfl
                      omega⟩
theorem keyOf_spot {s : Nat × Nat} (h : spok s) : ∃ l, keyOf Try.prog 71 (spv s) = some l := by
  have hz : 1 ≤ Try.prog.types.size := Nat.lt_of_le_of_lt (Nat.zero_le _) Try.row10
  obtain ⟨n, hn⟩ : ∃ n : Nat, Try.prog.types.size + 1 = n + 2 := ⟨Try.prog.types.size - 1, by omega⟩
  have h1 := nat_wf h.1
  have h2 := nat_wf h.2
  unfold keyOf
  rw [Try.underlying71, hn]
  simp [Try.ktype10, spv, Value.formed, Try.underlying71, Program.keyLits, Value.cells, Try.underlying3, Try.cellsI10, Try.cellsS10, h1, h2]
theorem spv_inj {a b : Nat × Nat} (h : spv a = spv b) : a = b := by
  simp only [spv, Value.agg.injEq, Array.mk.injEq, List.cons.injEq, Value.int.injEq, and_true, true_and] at h
  exact Prod.ext (by have := h.1; omega) (by have := h.2; omega)
theorem ks10 : Ks Try.prog 71 spv spok := ⟨Keyed.of_law Try.deep10, spv_inj, keyOf_spot⟩
/-- A row's number as a key. -/
def inv (i : Nat) : Value := .int .i64 (i : Int)
def inok (i : Nat) : Prop := i < 1048576
theorem ki10 : Ks Try.prog 3 inv inok := ⟨Maps.int_keyed Try.underlying3, fun h => by simp only [inv, Value.int.injEq, true_and] at h; omega, fun h => ⟨_, Maps.keyOf_int_mk Try.underlying3 (nat_wf h)⟩⟩
theorem Try.mapR10 : Try.prog.underlying 88 = some (.map 3 66) := by kernel_rfl
theorem zero10 (w : World) : (zeroValue 35).run Try.prog w = .ok (.agg #[.bool false, .slice none 0 0]) w := by go_simp
theorem zeroR10 (w : World) : (zeroValue 66).run Try.prog w = .ok (.map none) w := by go_simp
end Go.Proofs.Ytachdicdfhfoaaa

/- Grid10 -/
namespace Go.Proofs.Ytachdicdfhfoaaa
open Go.RowKit Go.ChangeMaps Go.MapKept
set_option linter.unusedVariables false

/-- A block of cells. -/
def isC : Obj → Bool
  | .cells _ _ _ => true
  | _ => false
theorem cells_of10 {W : World} {a : Addr} {v : Value} (h : W.cell? a = some v) : ∃ o : Obj, W.heap[a.block]? = some o ∧ isC o = true := by
  unfold World.cell? at h
  cases ho : W.heap[a.block]? with
  | none => simp [ho] at h
  | some o => exact ⟨o, rfl, by cases o <;> simp_all [isC]⟩
/-- All cells are as they were. -/
def Cl (w w' : World) : Prop := w.heap.size ≤ w'.heap.size ∧ ∀ (g : Nat) (o : Obj), w.heap[g]? = some o → isC o = true → w'.heap[g]? = some o
theorem Cl.refl (w : World) : Cl w w := ⟨Nat.le_refl _, fun _ _ h _ => h⟩
theorem Cl.trans {a b c : World} (h : Cl a b) (h' : Cl b c) : Cl a c := ⟨Nat.le_trans h.1 h'.1, fun g o e k => h'.2 g o (h.2 g o e k) k⟩
theorem Cl.of {w w' : World} (h : Below w.heap.size w w') : Cl w w' := ⟨h.size, fun g o e _ => (h.block g (Array.getElem?_eq_some_iff.1 e).1).trans e⟩
theorem Cl.grown {w w' : World} {row : Option Nat} (h : w.grownBy w' row) (hr : ∀ r, row = some r → ∃ o : Obj, w.heap[r]? = some o ∧ isC o = false) : Cl w w' := by
  refine ⟨h.size, fun g o e k => (h.block g (Array.getElem?_eq_some_iff.1 e).1 (fun q => ?_)).trans e⟩
  obtain ⟨o', e', k'⟩ := hr g q.symm
  rw [e] at e'
  cases e'
  rw [k] at k'
  cases k'
theorem Cl.cell {w w' : World} (h : Cl w w') {p : Addr} {v : Value} (e : w.cell? p = some v) : w'.cell? p = some v := by
  obtain ⟨o, h1, h2⟩ := cells_of10 e
  rw [World.cell?_of_block (h := (h.2 _ _ h1 h2).trans h1.symm)]
  exact e
theorem Cl.wk {w w' : World} (h : Cl w w') : Wk w w' := ⟨h.1, fun g off x e => h.cell e⟩
section
variable {κ : Type} {kv : κ → Value} {ok : κ → Prop} {w w' : World} {b r n : Nat} {f : κ → Option Value} {left : κ → Bool} {cnt : Nat}
theorem Mp.cl (h : Mp kv ok w b f n) (hg : w.grownBy w' (some b)) : Cl w w' := Cl.grown hg (fun r e => by
  cases e
  obtain ⟨es, c, h1, _⟩ := h
  exact ⟨_, h1, rfl⟩)
theorem Rg.cl (h : Rg kv ok w b r f n left cnt) (hg : w.grownBy w' (some r)) : Cl w w' := Cl.grown hg (fun r e => by
  cases e
  obtain ⟨es, clock, since, seen, c0, hb, _, _, hr, _⟩ := h
  exact ⟨_, hr, rfl⟩)
end
theorem Zi.cl {w w' : World} {v : Value} {z : Int} {k : Nat} (h : Zi w v z k) (c : Cl w w') : Zi w' v z k := by
  obtain ⟨n, xs, a, c', h1, h2, h3, h4⟩ := h
  exact ⟨n, xs, a, c', h1, h2.wk c.wk, h3, h4⟩
theorem Zm.cl {B : Nat} {w w' : World} {v : Value} {z : Int} {k : Nat} (h : Zm B w v z k) (c : Cl w w') : Zm B w' v z k := by
  obtain ⟨n1, zs, a, c1, e, hm, rest⟩ := h
  refine ⟨n1, zs, a, c1, e, ?_, rest⟩
  obtain ⟨hw, h | ⟨g, r, cap, h1, h2, h3, h4, h5, h6⟩⟩ := hm
  · exact ⟨hw, .inl h⟩
  · exact ⟨hw, .inr ⟨g, r, cap, h1, h2, h3, h4, h5, c.2 g _ h6 rfl⟩⟩
theorem Cel.cl {w w' : World} {b : Nat} {T : TypeId} {L : List Value} (h : Cel w b T L) (c : Cl w w') : Cel w' b T L := c.2 b _ h rfl
theorem Duo.cl {w w' : World} {b : Nat} {x y : Value} (h : Duo w b x y) (c : Cl w w') : Duo w' b x y := c.2 b _ h rfl

/-- The integers of a map: F. -/
def Nm (w : World) (f : Nat × Nat → Option Value) (F : Nat → Nat → Int) (k : Nat) : Prop := ∀ i j, (f (i, j) = none ∧ F i j = 0) ∨ ∃ v, f (i, j) = some v ∧ F i j ≠ 0 ∧ Zm 0 w v (F i j) k
theorem Nm.cl {w w' : World} {f : Nat × Nat → Option Value} {F : Nat → Nat → Int} {k : Nat} (h : Nm w f F k) (c : Cl w w') : Nm w' f F k := fun i j => (h i j).imp id (fun ⟨v, h1, h2, h3⟩ => ⟨v, h1, h2, h3.cl c⟩)
theorem Nm.now {w w' : World} {f : Nat × Nat → Option Value} {F : Nat → Nat → Int} {k : Nat} (h : Nm w f F k) (c : Below w.heap.size w w') : Nm w' f F k := h.cl (.of c)
theorem Nm.more {w : World} {f : Nat × Nat → Option Value} {F : Nat → Nat → Int} {k l : Nat} (h : Nm w f F k) (hl : k ≤ l) : Nm w f F l := fun i j => (h i j).imp id (fun ⟨v, h1, h2, h3⟩ => ⟨v, h1, h2, h3.more hl⟩)
/-- All places lie within r rows and c columns. -/
def Wi (f : Nat × Nat → Option Value) (r c : Nat) : Prop := ∀ s v, f s = some v → s.1 < r ∧ s.2 < c
/-- A grid: its block g, its map's block b. -/
def Gd (w : World) (g b r c : Nat) : Prop := Cel w g 68 [.int .i64 (r : Int), .int .i64 (c : Int), .map (some b)] ∧ r ≤ 1048576 ∧ c ≤ 1048576
def Grd (w : World) (v : Value) (r c : Nat) (F : Nat → Nat → Int) (k : Nat) : Prop :=
  ∃ g b f n, v = .pointer (some ⟨g, 0, none⟩) ∧ Gd w g b r c ∧ Mp spv spok w b f n ∧ Nm w f F k ∧ Wi f r c
theorem Gd.cl {w w' : World} {g b r c : Nat} (h : Gd w g b r c) (k : Cl w w') : Gd w' g b r c := ⟨h.1.cl k, h.2⟩
theorem Gd.now {w w' : World} {g b r c : Nat} (h : Gd w g b r c) (k : Below w.heap.size w w') : Gd w' g b r c := h.cl (.of k)
theorem Grd.now {w w' : World} {v : Value} {r c : Nat} {F : Nat → Nat → Int} {k : Nat} (h : Grd w v r c F k) (hb : Below w.heap.size w w') : Grd w' v r c F k := by
  obtain ⟨g, b, f, n, h1, h2, h3, h4, h5⟩ := h
  exact ⟨g, b, f, n, h1, h2.now hb, h3.now hb, h4.now hb, h5⟩

/-- Nothing is left. -/
def Dry {κ : Type} (left : κ → Bool) : Prop := ∀ s, left s = false
/-- An entry has come. -/
def Came {κ : Type} [DecidableEq κ] (kv : κ → Value) (okk : κ → Prop) (w : World) (b r : Nat) (f : κ → Option Value) (n : Nat) (left : κ → Bool) (cnt : Nat) (s : κ) (v : Value) (w' : World) (cnt' : Nat) : Prop :=
  okk s ∧ f s = some v ∧ left s = true ∧ Rg kv okk w' b r f n (fun x => left x && !decide (x = s)) cnt' ∧ cnt' < cnt ∧ w.grownBy w' (some r) ∧ w'.heap.size = w.heap.size
section
variable {κ : Type} {kv : κ → Value} {okk : κ → Prop} {P : Program} (w : World) {ops : Array Oper} {rest : List Oper} {o : Oper} {a : Act} {Q : Exit → Act → World → Prop}
/-- 'm[k] = v' at the operation. -/
theorem wpList_store10 [DecidableEq κ] (hg : o.guard = none) (m x v : Operand) (t : TypeId) (hop : o.op = Op.mapUpdate t m x v) (k e : TypeId) (K : Ks P k kv okk) (ht : P.underlying t = some (.map k e))
    (b n : Nat) (f : κ → Option Value) (hm : a.eval m = .map (some b)) (h : Mp kv okk w b f n) (hn : n < maxLen) (s : κ) (val : Value) (hx : a.eval x = kv s) (hv : a.eval v = val) (hs : okk s)
    (hK : ∀ w', Mp kv okk w' b (upd f s (some val)) (if (f s).isSome then n else n + 1) → w.grownBy w' (some b) → w'.heap.size = w.heap.size → wpList P ops Q rest (a.put o.dst undef) w') :
    wpList P ops Q (o :: rest) a w := by
  refine wpList_plain hg fun K' hK' => ?_
  obtain ⟨w', hrun, r1, r2, r3⟩ := h.store K ht hn hs val
  unfold Oper.wp
  simp [execOp, hop, hm, hx, hv, hrun, Result.andThen]
  exact hK' _ _ (hK w' r1 r2 r3)
/-- 'delete(m, k)' at the operation. -/
theorem wpList_drop10 [DecidableEq κ] (hg : o.guard = none) (m x : Operand) (t k : TypeId) (hop : o.op = Op.call { callee := Callee.builtin Builtin.delete, args := #[m, x], argTypes := #[t, k] }) (e : TypeId) (K : Ks P k kv okk) (ht : P.underlying t = some (.map k e))
    (b n : Nat) (f : κ → Option Value) (hm : a.eval m = .map (some b)) (h : Mp kv okk w b f n) (s : κ) (hx : a.eval x = kv s) (hs : okk s)
    (hK : ∀ w', Mp kv okk w' b (upd f s none) (if (f s).isSome then n - 1 else n) → w.grownBy w' (some b) → w'.heap.size = w.heap.size → wpList P ops Q rest (a.put o.dst (.tuple #[])) w') :
    wpList P ops Q (o :: rest) a w := by
  refine wpList_plain hg fun K' hK' => ?_
  obtain ⟨w', hrun, r1, r2, r3⟩ := h.drop K ht hs o.type
  unfold Oper.wp
  simp [execOp, hop, resolve, invoke, builtin, hm, hx, hrun, Result.andThen]
  exact hK' _ _ (hK w' r1 r2 r3)
/-- 'range m' at the operation. -/
theorem wpList_range10 (hg : o.guard = none) (m : Operand) (t : TypeId) (hop : o.op = Op.range t m) (k e : TypeId) (K : Ks P k kv okk) (ht : P.underlying t = some (.map k e))
    (b n : Nat) (f : κ → Option Value) (hm : a.eval m = .map (some b)) (h : Mp kv okk w b f n)
    (hK : ∀ w', Rg kv okk w' b w.heap.size f n (fun s => (f s).isSome) n → Below w.heap.size w w' → w'.heap.size = w.heap.size + 1 → wpList P ops Q rest (a.put o.dst (.pointer (some ⟨w.heap.size, 0, none⟩))) w') :
    wpList P ops Q (o :: rest) a w := by
  refine wpList_plain hg fun K' hK' => ?_
  obtain ⟨w', hrun, r1, r2, r3⟩ := h.range K ht
  unfold Oper.wp
  simp [execOp, hop, hm, hrun, Result.andThen]
  exact hK' _ _ (hK w' r1 r2 r3)
/-- The step of a loop over a map, at the operation. -/
theorem wpList_next10 [DecidableEq κ] (hg : o.guard = none) (it : Operand) (hop : o.op = Op.next it false) (k : TypeId) (K : Ks P k kv okk) (b r n : Nat) (f : κ → Option Value) (left : κ → Bool) (cnt : Nat)
    (hit : a.eval it = .pointer (some ⟨r, 0, none⟩)) (h : Rg kv okk w b r f n left cnt)
    (hDone : Hid (Dry left) → wpList P ops Q rest (a.put o.dst (.tuple #[.bool false])) w)
    (hMore : ∀ (s : κ) (v : Value) (w' : World) (cnt' : Nat), Hid (Came kv okk w b r f n left cnt s v w' cnt') →
      (Instr.entry (.pointer (some ⟨r, 0, none⟩))).run P w' = .ok (.tuple #[kv s, v]) w' → wpList P ops Q rest (a.put o.dst (.tuple #[.bool true, kv s, v])) w') :
    wpList P ops Q (o :: rest) a w := by
  refine wpList_plain hg fun K' hK' => ?_
  unfold Oper.wp
  rcases h.next K o.type with ⟨h0, hl, hrun⟩ | ⟨s, v, w', cnt', h1, h2, h3, hrun, h5, h6, h7, h8, h9⟩
  · simp [execOp, hop, hit, hrun, Result.andThen]
    exact hK' _ _ (hDone hl)
  · simp [execOp, hop, hit, hrun, Result.andThen]
    exact hK' _ _ (hMore s v w' cnt' ⟨h1, h2, h3, h5, h6, h7, h8⟩ h9)
end
end Go.Proofs.Ytachdicdfhfoaaa
