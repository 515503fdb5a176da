/-
  Neigh8: the walk of FracNeighbours.
-/
import Derived.Test.YtaoammmnpfbdfaaQRd8ToCn8
import Derived.Test.YtaoammmnpfbdfaaQAwake8
import Derived.Test.YtaoammmnpfbdfaaQZMetToMWord
import Derived.Deep.LoopGhost
namespace Go.Proofs.Ytaoammmnpfbdfaa
open Go.RowKit
set_option linter.unusedVariables false

def RQ (zs : List Int) (m : Nat) : Rat := Rat.divInt (cfr (zs.take m)).1 (cfr (zs.take m)).2
theorem fit_take {zs : List Int} (h : Fit zs) {m : Nat} (hm : 1 ≤ m) : Fit (zs.take m) := by
  refine ⟨by rw [List.length_take]; have := h.1; omega, fun j hj h1 => ?_⟩
  rw [List.length_take] at hj
  rw [List.getElem_take]
  exact h.2 j (by omega) h1
theorem ksum_take : ∀ (ks : List Nat) (m : Nat), ksum (ks.take m) ≤ ksum ks
  | [], m => by simp
  | k :: r, 0 => by simp [ksum]
  | k :: r, m + 1 => by
    have := ksum_take r m
    rw [List.take_succ_cons, ksum_cons, ksum_cons]
    omega
theorem rq_parts {zs : List Int} (h : Fit zs) {m : Nat} (hm : 1 ≤ m) : (RQ zs m).num = (cfr (zs.take m)).1 ∧ ((RQ zs m).den : Int) = (cfr (zs.take m)).2 := rat_low (cfr_den (fit_take h hm)) (cfr_gcd _)
theorem rq_cross {zs : List Int} (h : Fit zs) {i : Nat} (h1 : 1 ≤ i) (hi : i < zs.length) : (RQ zs (i + 1)).num * ((RQ zs i).den : Int) - (RQ zs i).num * ((RQ zs (i + 1)).den : Int) = if i % 2 = 0 then -1 else 1 := by
  obtain ⟨a1, a2⟩ := rq_parts h (m := i) h1
  obtain ⟨b1, b2⟩ := rq_parts h (m := i + 1) (by omega)
  rw [a1, a2, b1, b2, List.take_succ_eq_append_getElem hi]
  have := cfr_cross (zs.take i) zs[i]
  rw [List.length_take, Nat.min_eq_left (by omega)] at this
  exact this
theorem rq_first {zs : List Int} (h : Fit zs) : (RQ zs 1).num * 1 = zs.getD 0 0 * ((RQ zs 1).den : Int) := by
  obtain ⟨a1, a2⟩ := rq_parts h (m := 1) (by omega)
  rw [a1, a2]
  match zs, h with
  | [], h => exact absurd h.1 (by simp)
  | z :: r, h => simp [cfr]
theorem unch {w : World} {a : Option Addr} {n c m : Nat} {zs : List Int} {ks : List Nat} (hz : ∀ (j : Nat) (z : Int) (k : Nat), zs[j]? = some z → ks[j]? = some k → (z.natAbs : Int) < pw k) (hl : ks.length = zs.length) (hs : ksum ks ≤ 1048576) (hF : Fit zs) (hv : Zl w (.slice a n c) zs 1048576) (h1 : 1 ≤ m) (hm : m ≤ zs.length) :
    Calls Try.prog 29 #[.slice a m c] w fun e w' => ∃ r0 r1 r2 r3, e = .returned (.tuple #[.agg #[r0, r1, r2, r3], .int .i64 0]) ∧ Zc w' (.agg #[r0, r1]) (RQ zs m).num 1048577 ∧ Zc w' (.agg #[r2, r3]) ((RQ zs m).den : Int) 1048577 ∧ Below w.heap.size w w' :=
  unchain_f (ks := ks.take m) (hv.taken hm) (Nat.le_refl _) (fit_take hF h1) (by rw [List.length_take, List.length_take, hl]) (fun j z k q1 q2 => by
    rw [List.getElem?_take] at q1 q2
    split at q1
    · rename_i hj
      rw [if_pos hj] at q2
      exact hz j z k q1 q2
    · cases q1) (Nat.le_trans (ksum_take _ _) hs)
structure El (w : World) (b o : Nat) (x y : Value) : Prop where
  c0 : w.cell? ⟨b, o, none⟩ = some x
  c1 : w.cell? ⟨b, o + 1, none⟩ = some y
  lt : b < w.heap.size
theorem El.step {w w' : World} {b o : Nat} {x y : Value} (h : El w b o x y) (hb : Below w.heap.size w w') : El w' b o x y :=
  ⟨(hb.cell (p := ⟨b, o, none⟩) h.lt).trans h.c0, (hb.cell (p := ⟨b, o + 1, none⟩) h.lt).trans h.c1, Nat.lt_of_lt_of_le h.lt hb.size⟩
def NbH (w : World) (zs : List Int) (n b5 : Nat) (v : Value) (g : Nat) (s : Value) (wx : World) : Prop :=
  ∃ i : Nat, ∃ c0 c1 c2 c3 : Value, s = .int .i64 (i : Int) ∧ 1 ≤ i ∧ i ≤ n ∧ g = n - i ∧ Cel wx b5 26 [c0, c1, c2, c3] ∧ Zc wx (.agg #[c0, c1]) (RQ zs i).num 1048577 ∧ Zc wx (.agg #[c2, c3]) ((RQ zs i).den : Int) 1048577 ∧ Zl wx v zs 1048576 ∧ Below w.heap.size w wx
set_option maxHeartbeats 6400000 in
set_option maxRecDepth 100000 in
theorem neigh_no {w : World} {v : Value} {zs : List Int} (hv : Zl w v zs 1048576) (hF : ¬ Fit zs) :
    Calls Try.prog 6 #[v] w fun e w' => e = .returned (.bool true) ∧ Below w.heap.size w w' := by
  have ZV := hid hv
  obtain ⟨a, c, rfl, -, -, -⟩ := hv
  have HF := hid hF
  clear hF
  have G : Hid (Below w.heap.size w w) := Below.refl _ _
  have q3 : ((3 : Int) == 3) = true := rfl
  go_enter Try.func6, Try.ntmps6
  go_wp2_with fail
  refine (awake8 _).mono ?_
  rintro e w1 ⟨rfl, b⟩
  replace ZV := hid (ZV.out.now b)
  replace G := hid (below_step G.out b)
  have lz2 := (show Below _ _ _ from b).size
  clear b 
  go_wp2_with fail
  refine (fit8 ZV.out).mono ?_
  rintro e w3 ⟨bb, rfl, hbb, b⟩
  obtain rfl : bb = false := by
    cases bb
    · rfl
    · exact absurd (hbb.1 rfl) HF.out
  clear hbb
  replace ZV := hid (ZV.out.now b)
  replace G := hid (below_step G.out b)
  have lz4 := (show Below _ _ _ from b).size
  clear b 
  go_wp2_with fail
  refine (unchain_no ZV.out HF.out).mono ?_
  rintro e w5 ⟨rfl, b⟩
  replace ZV := hid (ZV.out.now b)
  replace G := hid (below_step G.out b)
  have lz6 := (show Below _ _ _ from b).size
  clear b 
  obtain ⟨V7, hW⟩ : ∃ V7, w5.alloc (.cells #[(.bool false), (.slice none 0 0), (.bool false), (.slice none 0 0)] 26) = V7 := ⟨_, rfl⟩
  obtain ⟨kW, sz7⟩ := alloc1 w5 (.cells #[(.bool false), (.slice none 0 0), (.bool false), (.slice none 0 0)] 26)
  rw [hW] at kW sz7
  replace ZV := hid (ZV.out.now kW)
  replace G := hid (below_step G.out kW)
  have lz8 := (show Below _ _ _ from kW).size
  have Pz : Hid (Cel V7 (w5.heap.size) 26 [(.bool false), (.slice none 0 0), (.bool false), (.slice none 0 0)]) := by unfold Hid; rw [← hW]; exact cel_at (by simp)
  clear kW
  have EW := hid hW
  clear hW
  go_wp2
  rw [EW.out]
  go_ret
  exact ⟨rfl, G.out⟩

set_option maxHeartbeats 25600000 in
set_option maxRecDepth 100000 in
theorem neigh_yes {w : World} {v : Value} {zs : List Int} {ks : List Nat} (hv : Zl w v zs 1048576) (hz : ∀ (j : Nat) (z : Int) (k : Nat), zs[j]? = some z → ks[j]? = some k → (z.natAbs : Int) < pw k) (hl : ks.length = zs.length) (hs : ksum ks ≤ 1048576) (hF : Fit zs) :
    Calls Try.prog 6 #[v] w fun e w' => e = .returned (.bool true) ∧ Below w.heap.size w w' := by
  have ZV0 := hid hv
  obtain ⟨a, c, rfl, hc, hn0, hf0⟩ := hv
  obtain ⟨n, hn⟩ : ∃ n, zs.length = n := ⟨_, rfl⟩
  have hnp : 0 < n := by rw [← hn]; exact hF.1
  rcases hf0 with e | ⟨b1, off, rfl, hb, hel⟩
  · rw [e] at hn; simp at hn; omega
  obtain ⟨ne, xe, ade, qe, e0, e1, ze⟩ := (ZV0.out.zlb).at (i := 0) (by omega)
  have EE : Hid (El w b1 off (.bool ne) (.slice ade xe.length qe)) := ⟨by simpa using e0, by simpa using e1, hb⟩
  have Ze0 : Hid (Zi w (.agg #[.bool ne, .slice ade xe.length qe]) (zs.getD 0 0) 1048576) := by
    unfold Hid
    rw [show zs.getD 0 0 = zs[0]'(by omega) from by simp [List.getD, show 0 < zs.length by omega]]
    exact ze
  rw [hn] at ZV0 hc hn0 ⊢
  have HN := hid hn
  have HF := hid hF
  have UF : Hid (∀ (w' : World) (m : Nat), 1 ≤ m → m ≤ n → Zl w' (.slice (some ⟨b1, off, none⟩) n c) zs 1048576 → _) := fun w' m h1 h2 hv' => unch hz hl hs hF hv' h1 (by rw [hn]; exact h2)
  have RF := hid (rq_first hF)
  clear hel hn hz hl hs hF ze e0 e1 hb
  have G : Hid (Below w.heap.size w w) := Below.refl _ _
  have q0 : ((0 : Int) != 0) = false := rfl
  have q1 : ((0 : Int) == 0) = true := rfl
  have q2 : ((1 : Int) == 0) = false := rfl
  have PE := hid EE.out
  clear EE
  go_enter Try.func6, Try.ntmps6
  go_wp2_with fail
  refine (awake8 _).mono ?_
  rintro e w1 ⟨rfl, b⟩
  replace Ze0 := hid (Ze0.out.now b)
  replace PE := hid (PE.out.step b)
  replace G := hid (below_step G.out b)
  have lz2 := (show Below _ _ _ from b).size
  clear b 
  go_wp2_with fail
  refine (fit8 (ZV0.out.now G.out)).mono ?_
  rintro e w3 ⟨bb, rfl, hbb, b⟩
  obtain rfl : bb = true := hbb.2 HF.out
  clear hbb
  replace Ze0 := hid (Ze0.out.now b)
  replace PE := hid (PE.out.step b)
  replace G := hid (below_step G.out b)
  have lz4 := (show Below _ _ _ from b).size
  clear b 
  have hs1 := slice_lo w3 b1 off n c 1 (by omega)
  go_wp2_with fail
  clear hs1
  refine (UF.out _ 1 (by omega) (by omega) (ZV0.out.now G.out)).mono ?_
  rintro e w5 ⟨r0, r1, r2, r3, rfl, m0, m1, b⟩
  obtain ⟨nwn, xwn, adwn, qwn, rfl, rfl⟩ := m0.zi.comp
  obtain ⟨nwd, xwd, adwd, qwd, rfl, rfl⟩ := m1.zi.comp
  replace Ze0 := hid (Ze0.out.now b)
  replace PE := hid (PE.out.step b)
  replace G := hid (below_step G.out b)
  have lz6 := (show Below _ _ _ from b).size
  have Zwn := hid m0
  have Zwd := hid m1
  clear b m0 m1
  obtain ⟨V7, hW⟩ : ∃ V7, w5.alloc (.cells #[(.bool nwn), (.slice adwn xwn.length qwn), (.bool nwd), (.slice adwd xwd.length qwd)] 26) = V7 := ⟨_, rfl⟩
  obtain ⟨kW, sz7⟩ := alloc1 w5 (.cells #[(.bool nwn), (.slice adwn xwn.length qwn), (.bool nwd), (.slice adwd xwd.length qwd)] 26)
  rw [hW] at kW sz7
  replace Ze0 := hid (Ze0.out.now kW)
  replace Zwn := hid (Zwn.out.now kW)
  replace Zwd := hid (Zwd.out.now kW)
  replace PE := hid (PE.out.step kW)
  replace G := hid (below_step G.out kW)
  have lz8 := (show Below _ _ _ from kW).size
  have PWas : Hid (Cel V7 (w5.heap.size) 26 [(.bool nwn), (.slice adwn xwn.length qwn), (.bool nwd), (.slice adwd xwd.length qwd)]) := by unfold Hid; rw [← hW]; exact cel_at (by simp)
  clear kW
  have hnI : (0 : Int) < (n : Int) := by omega
  have EW := hid hW
  clear hW
  go_wp2_with fail
  rw [EW.out]
  clear EW
  refine wp_region_tail (fun w' => w'.cell? ⟨w5.heap.size, 0, none⟩ = some (.bool nwn) ∧ w'.cell? ⟨w5.heap.size, 1, none⟩ = some (.slice adwn xwn.length qwn) ∧ w'.cell? ⟨w5.heap.size, 2, none⟩ = some (.bool nwd) ∧ w'.cell? ⟨w5.heap.size, 3, none⟩ = some (.slice adwd xwd.length qwd) ∧ w'.cell? ⟨b1, off, none⟩ = some (.bool ne) ∧ w'.cell? ⟨b1, off + 1, none⟩ = some (.slice ade xe.length qe)) 10 (by kernel_rfl) ?_
  obtain ⟨D9, hD⟩ : ∃ D9, V7.drew = D9 := ⟨_, rfl⟩
  have b : Below V7.heap.size V7 D9 := by rw [← hD]; exact (Below.refl _ _).drew
  rw [hD]
  clear hD
  replace Ze0 := hid (Ze0.out.now b)
  replace Zwn := hid (Zwn.out.now b)
  replace Zwd := hid (Zwd.out.now b)
  replace PE := hid (PE.out.step b)
  replace PWas := hid (PWas.out.step b)
  replace G := hid (below_step G.out b)
  have lz10 := (show Below _ _ _ from b).size
  clear b
  refine wpAnyT_take (i := 0) (oi := { dst := some 30, op := Op.move (Operand.tmp 6), type := 28, pos := "outright.go:187", after := #[], guard := none }) (v := (.int .i64 0)) rfl (by kernel_rfl) (fun _ _ _ h => h) (Or.inl ⟨by rfl, ?_⟩) ⟨(PWas.out.at (i := 0) rfl), (PWas.out.at (i := 1) rfl), (PWas.out.at (i := 2) rfl), (PWas.out.at (i := 3) rfl), PE.out.c0, PE.out.c1⟩ ?_
  · intro w hSw
    (try dsimp only at hSw)
    go_simp
  simp only [Act.put, List.setIfInBounds_toArray, List.set_cons_zero, List.set_cons_succ]
  refine wpAnyT_take (i := 1) (oi := { dst := some 31, op := Op.binOp BinOp.neq 28 (Operand.tmp 30) (Operand.const (Value.int IntKind.i64 0)) 28, type := 4, pos := "outright.go:187", after := #[{ on := 0, ground := Ground.data }], guard := none }) (v := (.bool false)) rfl (by kernel_rfl) (fun _ _ _ h => h) (Or.inl ⟨by rfl, ?_⟩) ⟨(PWas.out.at (i := 0) rfl), (PWas.out.at (i := 1) rfl), (PWas.out.at (i := 2) rfl), (PWas.out.at (i := 3) rfl), PE.out.c0, PE.out.c1⟩ ?_
  · intro w hSw
    (try dsimp only at hSw)
    go_simp
  simp only [Act.put, List.setIfInBounds_toArray, List.set_cons_zero, List.set_cons_succ]
  refine wpAnyT_take (i := 2) (oi := { dst := some 32, op := Op.move (Operand.tmp 31), type := 4, pos := "outright.go:187", after := #[{ on := 1, ground := Ground.data }], guard := none }) (v := (.bool false)) rfl (by kernel_rfl) (fun _ _ _ h => h) (Or.inl ⟨by rfl, ?_⟩) ⟨(PWas.out.at (i := 0) rfl), (PWas.out.at (i := 1) rfl), (PWas.out.at (i := 2) rfl), (PWas.out.at (i := 3) rfl), PE.out.c0, PE.out.c1⟩ ?_
  · intro w hSw
    (try dsimp only at hSw)
    go_simp
  simp only [Act.put, List.setIfInBounds_toArray, List.set_cons_zero, List.set_cons_succ]
  refine wpAnyT_take (i := 3) (oi := { dst := some 33, op := Op.load 26 (Operand.tmp 5), type := 26, pos := "outright.go:187", after := #[{ on := 2, ground := Ground.guard }], guard := some (2, false) }) (v := (.agg #[(.bool nwn), (.slice adwn xwn.length qwn), (.bool nwd), (.slice adwd xwd.length qwd)])) rfl (by kernel_rfl) (fun _ _ _ h => h) (Or.inl ⟨by rfl, ?_⟩) ⟨(PWas.out.at (i := 0) rfl), (PWas.out.at (i := 1) rfl), (PWas.out.at (i := 2) rfl), (PWas.out.at (i := 3) rfl), PE.out.c0, PE.out.c1⟩ ?_
  · intro w hSw
    (try dsimp only at hSw)
    go_simp
  simp only [Act.put, List.setIfInBounds_toArray, List.set_cons_zero, List.set_cons_succ]
  refine wpAnyT_take (i := 4) (oi := { dst := some 34, op := Op.move (Operand.tmp 0), type := 47, pos := "outright.go:187", after := #[{ on := 2, ground := Ground.guard }], guard := some (2, false) }) (v := (.slice (some ⟨b1, off, none⟩) n c)) rfl (by kernel_rfl) (fun _ _ _ h => h) (Or.inl ⟨by rfl, ?_⟩) ⟨(PWas.out.at (i := 0) rfl), (PWas.out.at (i := 1) rfl), (PWas.out.at (i := 2) rfl), (PWas.out.at (i := 3) rfl), PE.out.c0, PE.out.c1⟩ ?_
  · intro w hSw
    (try dsimp only at hSw)
    go_simp
  simp only [Act.put, List.setIfInBounds_toArray, List.set_cons_zero, List.set_cons_succ]
  refine wpAnyT_take (i := 5) (oi := { dst := some 35, op := Op.indexAddr 47 (Operand.tmp 34) (Operand.const (Value.int IntKind.i64 0)), type := 0, pos := "outright.go:187", after := #[{ on := 4, ground := Ground.data }, { on := 2, ground := Ground.guard }], guard := some (2, false) }) (v := (.pointer (some ⟨b1, off, none⟩))) rfl (by kernel_rfl) (fun _ _ _ h => h) (Or.inl ⟨by rfl, ?_⟩) ⟨(PWas.out.at (i := 0) rfl), (PWas.out.at (i := 1) rfl), (PWas.out.at (i := 2) rfl), (PWas.out.at (i := 3) rfl), PE.out.c0, PE.out.c1⟩ ?_
  · intro w hSw
    (try dsimp only at hSw)
    go_simp
  simp only [Act.put, List.setIfInBounds_toArray, List.set_cons_zero, List.set_cons_succ]
  refine wpAnyT_take (i := 6) (oi := { dst := some 36, op := Op.load 24 (Operand.tmp 35), type := 24, pos := "outright.go:187", after := #[{ on := 5, ground := Ground.data }, { on := 2, ground := Ground.guard }], guard := some (2, false) }) (v := (.agg #[(.bool ne), (.slice ade xe.length qe)])) rfl (by kernel_rfl) (fun _ _ _ h => h) (Or.inl ⟨by rfl, ?_⟩) ⟨(PWas.out.at (i := 0) rfl), (PWas.out.at (i := 1) rfl), (PWas.out.at (i := 2) rfl), (PWas.out.at (i := 3) rfl), PE.out.c0, PE.out.c1⟩ ?_
  · intro w hSw
    (try dsimp only at hSw)
    go_simp
  simp only [Act.put, List.setIfInBounds_toArray, List.set_cons_zero, List.set_cons_succ]
  refine wpAnyT_one (i := 7) (o := { dst := some 37, op := Op.call { callee := Callee.value (Operand.func 20), args := #[Operand.const (Value.int IntKind.i64 1)], argTypes := #[2] }, type := 24, pos := "outright.go:187", after := #[{ on := 2, ground := Ground.chain }, { on := 2, ground := Ground.guard }], guard := some (2, false) }) (by kernel_rfl) rfl (fun K hK => ?_)
  go_simp
  go_at_call 20
  refine (of_z (n := 1) (by decide) (by decide) _).mono ?_
  rintro e w11 ⟨r0, rfl, m0, b⟩
  obtain ⟨no, xo, ado, qo, rfl, -, -, -, -, -⟩ := id m0
  replace Ze0 := hid (Ze0.out.now b)
  replace Zwn := hid (Zwn.out.now b)
  replace Zwd := hid (Zwd.out.now b)
  replace PE := hid (PE.out.step b)
  replace PWas := hid (PWas.out.step b)
  replace G := hid (below_step G.out b)
  have lz12 := (show Below _ _ _ from b).size
  have Zo := hid m0
  clear b m0
  refine hK.out _ _ (fun _ => ⟨(PWas.out.at (i := 0) rfl), (PWas.out.at (i := 1) rfl), (PWas.out.at (i := 2) rfl), (PWas.out.at (i := 3) rfl), PE.out.c0, PE.out.c1⟩) ?_
  clear hK
  refine wpAnyT_one (i := 8) (o := { dst := some 38, op := Op.call { callee := Callee.value (Operand.func 15), args := #[Operand.tmp 33, Operand.tmp 36, Operand.tmp 37], argTypes := #[26, 24, 24] }, type := 4, pos := "outright.go:187", after := #[{ on := 3, ground := Ground.data }, { on := 6, ground := Ground.data }, { on := 7, ground := Ground.data }, { on := 7, ground := Ground.chain }, { on := 2, ground := Ground.guard }], guard := some (2, false) }) (by kernel_rfl) rfl (fun K hK => ?_)
  go_simp
  go_at_call 15
  refine (names8 (k := 1048577) Zwn.out Zwd.out (Ze0.out.more (by decide)) (Zo.out.zi.more (by decide)) (by decide) RF.out).mono ?_
  rintro e w13 ⟨rfl, b⟩
  replace Ze0 := hid (Ze0.out.now b)
  replace Zwn := hid (Zwn.out.now b)
  replace Zwd := hid (Zwd.out.now b)
  replace Zo := hid (Zo.out.now b)
  replace PE := hid (PE.out.step b)
  replace PWas := hid (PWas.out.step b)
  replace G := hid (below_step G.out b)
  have lz14 := (show Below _ _ _ from b).size
  clear b 
  refine hK.out _ _ (fun _ => ⟨(PWas.out.at (i := 0) rfl), (PWas.out.at (i := 1) rfl), (PWas.out.at (i := 2) rfl), (PWas.out.at (i := 3) rfl), PE.out.c0, PE.out.c1⟩) ?_
  clear hK
  refine wpAnyT_take (i := 9) (oi := { dst := some 39, op := Op.unOp UnOp.not 4 (Operand.tmp 38), type := 4, pos := "outright.go:187", after := #[{ on := 8, ground := Ground.data }, { on := 2, ground := Ground.guard }], guard := some (2, false) }) (v := (.bool false)) rfl (by kernel_rfl) (fun _ _ _ h => h) (Or.inl ⟨by rfl, ?_⟩) ⟨(PWas.out.at (i := 0) rfl), (PWas.out.at (i := 1) rfl), (PWas.out.at (i := 2) rfl), (PWas.out.at (i := 3) rfl), PE.out.c0, PE.out.c1⟩ ?_
  · intro w hSw
    (try dsimp only at hSw)
    go_simp
  simp only [Act.put, List.setIfInBounds_toArray, List.set_cons_zero, List.set_cons_succ]
  refine wpAnyT_one (i := 10) (o := { dst := some 40, op := Op.pick (Operand.tmp 32) (Operand.const (Value.bool true)) (Operand.tmp 39), type := 4, pos := "outright.go:187", after := #[{ on := 2, ground := Ground.data }, { on := 9, ground := Ground.data }], guard := none }) (by kernel_rfl) rfl (fun K hK => ?_)
  go_simp
  refine hK.out _ _ (fun h => absurd h (by decide)) ?_
  clear hK
  try simp only [Act.put]
  refine wpAnyT_done (by kernel_rfl) ?_ _
  clear Zo
  clear Ze0
  clear PE
  have H0 : Hid (NbH w zs n (w5.heap.size) (.slice (some ⟨b1, off, none⟩) n c) (n - 1) (.int .i64 1) w13) := ⟨1, _, _, _, _, rfl, Nat.le_refl _, by omega, rfl, PWas.out, Zwn.out, Zwd.out, ZV0.out.now G.out, G.out⟩
  have hbk : w.heap.size ≤ w5.heap.size := by omega
  clear PWas Zwn Zwd G
  go_wp2_with fail
  go_loopg [7] (n - 1) (fun g s7 wx => NbH w zs n (w5.heap.size) (.slice (some ⟨b1, off, none⟩) n c) g s7 wx)
  case atStart => exact H0.out
  case round =>
    clear H0
    obtain ⟨i, d0, d1, d2, d3, rfl, hi1, hin, hg, pw5, zn, zd, lz, hG⟩ := hrel
    have HG := hid hg
    clear hg
    obtain ⟨nwn, xwn, adwn, qwn, rfl, rfl⟩ := zn.zi.comp
    have Zwn := hid zn
    clear zn
    obtain ⟨nwd, xwd, adwd, qwd, rfl, rfl⟩ := zd.zi.comp
    have Zwd := hid zd
    clear zd
    have PWas := hid pw5
    have G := hid hG
    have lw5 := PWas.out.blk
    clear pw5 lz hG
    by_cases hlt : i < n
    · skip
      have hlt' : (i : Int) < (n : Int) := by omega
      have hw := wrapI8 (i := i) (by omega)
      have hs1 := slice_lo wr b1 off n c (i + 1) (by omega)
      have CR := hid (rq_cross HF.out hi1 (by rw [HN.out]; exact hlt))
      go_wp2_with fail
      clear hs1
      refine (UF.out _ (i + 1) (by omega) (by omega) (ZV0.out.now G.out)).mono ?_
      rintro e w15 ⟨r0, r1, r2, r3, rfl, m0, m1, b⟩
      obtain ⟨nvn, xvn, advn, qvn, rfl, rfl⟩ := m0.zi.comp
      obtain ⟨nvd, xvd, advd, qvd, rfl, rfl⟩ := m1.zi.comp
      replace Zwn := hid (Zwn.out.now b)
      replace Zwd := hid (Zwd.out.now b)
      replace PWas := hid (PWas.out.step b)
      replace G := hid (below_step G.out b)
      have lz16 := (show Below _ _ _ from b).size
      have Zvn := hid m0
      have Zvd := hid m1
      clear b m0 m1
      obtain ⟨V17, hW⟩ : ∃ V17, w15.alloc (.cells #[(.bool nvn), (.slice advn xvn.length qvn), (.bool nvd), (.slice advd xvd.length qvd)] 26) = V17 := ⟨_, rfl⟩
      obtain ⟨kW, sz17⟩ := alloc1 w15 (.cells #[(.bool nvn), (.slice advn xvn.length qvn), (.bool nvd), (.slice advd xvd.length qvd)] 26)
      rw [hW] at kW sz17
      replace Zwn := hid (Zwn.out.now kW)
      replace Zwd := hid (Zwd.out.now kW)
      replace Zvn := hid (Zvn.out.now kW)
      replace Zvd := hid (Zvd.out.now kW)
      replace PWas := hid (PWas.out.step kW)
      replace G := hid (below_step G.out kW)
      have lz18 := (show Below _ _ _ from kW).size
      have PNow : Hid (Cel V17 (w15.heap.size) 26 [(.bool nvn), (.slice advn xvn.length qvn), (.bool nvd), (.slice advd xvd.length qvd)]) := by unfold Hid; rw [← hW]; exact cel_at (by simp)
      clear kW
      have EW := hid hW
      clear hW
      go_wp2_with fail
      rw [EW.out]
      clear EW
      go_cut [10] from 41 (fun s1 wx => MetB V17 wx s1 ((RQ zs (i + 1)).num * ((RQ zs i).den : Int) - (RQ zs i).num * ((RQ zs (i + 1)).den : Int)) (max (1048577 + 1048577) (1048577 + 1048577) + 1))
      case first =>
        have GR : Hid (Below V17.heap.size V17 V17) := Below.refl _ _
        refine wp_region_tail (fun w' => w'.cell? ⟨w15.heap.size, 0, none⟩ = some (.bool nvn) ∧ w'.cell? ⟨w15.heap.size, 1, none⟩ = some (.slice advn xvn.length qvn) ∧ w'.cell? ⟨w15.heap.size, 2, none⟩ = some (.bool nvd) ∧ w'.cell? ⟨w15.heap.size, 3, none⟩ = some (.slice advd xvd.length qvd) ∧ w'.cell? ⟨w5.heap.size, 0, none⟩ = some (.bool nwn) ∧ w'.cell? ⟨w5.heap.size, 1, none⟩ = some (.slice adwn xwn.length qwn) ∧ w'.cell? ⟨w5.heap.size, 2, none⟩ = some (.bool nwd) ∧ w'.cell? ⟨w5.heap.size, 3, none⟩ = some (.slice adwd xwd.length qwd)) 12 (by kernel_rfl) ?_
        obtain ⟨D19, hD⟩ : ∃ D19, V17.drew = D19 := ⟨_, rfl⟩
        have b : Below V17.heap.size V17 D19 := by rw [← hD]; exact (Below.refl _ _).drew
        rw [hD]
        clear hD
        replace Zwn := hid (Zwn.out.now b)
        replace Zwd := hid (Zwd.out.now b)
        replace Zvn := hid (Zvn.out.now b)
        replace Zvd := hid (Zvd.out.now b)
        replace PWas := hid (PWas.out.step b)
        replace PNow := hid (PNow.out.step b)
        replace G := hid (below_step G.out b)
        replace GR := hid (below_step GR.out b)
        have lz20 := (show Below _ _ _ from b).size
        clear b
        refine wpAnyT_take (i := 0) (oi := { dst := some 55, op := Op.fieldAddr 26 (Operand.tmp 8) 0, type := 0, pos := "outright.go:192", after := #[], guard := none }) (v := (.pointer (some ⟨w15.heap.size, 0, none⟩))) rfl (by kernel_rfl) (fun _ _ _ h => h) (Or.inl ⟨by rfl, ?_⟩) ⟨(PNow.out.at (i := 0) rfl), (PNow.out.at (i := 1) rfl), (PNow.out.at (i := 2) rfl), (PNow.out.at (i := 3) rfl), (PWas.out.at (i := 0) rfl), (PWas.out.at (i := 1) rfl), (PWas.out.at (i := 2) rfl), (PWas.out.at (i := 3) rfl)⟩ ?_
        · intro w hSw
          (try dsimp only at hSw)
          go_simp
        simp only [Act.put, List.setIfInBounds_toArray, List.set_cons_zero, List.set_cons_succ]
        refine wpAnyT_take (i := 1) (oi := { dst := some 56, op := Op.load 24 (Operand.tmp 55), type := 24, pos := "outright.go:192", after := #[{ on := 0, ground := Ground.data }], guard := none }) (v := (.agg #[(.bool nvn), (.slice advn xvn.length qvn)])) rfl (by kernel_rfl) (fun _ _ _ h => h) (Or.inl ⟨by rfl, ?_⟩) ⟨(PNow.out.at (i := 0) rfl), (PNow.out.at (i := 1) rfl), (PNow.out.at (i := 2) rfl), (PNow.out.at (i := 3) rfl), (PWas.out.at (i := 0) rfl), (PWas.out.at (i := 1) rfl), (PWas.out.at (i := 2) rfl), (PWas.out.at (i := 3) rfl)⟩ ?_
        · intro w hSw
          (try dsimp only at hSw)
          go_simp
        simp only [Act.put, List.setIfInBounds_toArray, List.set_cons_zero, List.set_cons_succ]
        refine wpAnyT_take (i := 2) (oi := { dst := some 57, op := Op.fieldAddr 26 (Operand.tmp 5) 1, type := 0, pos := "outright.go:192", after := #[], guard := none }) (v := (.pointer (some ⟨w5.heap.size, 2, none⟩))) rfl (by kernel_rfl) (fun _ _ _ h => h) (Or.inl ⟨by rfl, ?_⟩) ⟨(PNow.out.at (i := 0) rfl), (PNow.out.at (i := 1) rfl), (PNow.out.at (i := 2) rfl), (PNow.out.at (i := 3) rfl), (PWas.out.at (i := 0) rfl), (PWas.out.at (i := 1) rfl), (PWas.out.at (i := 2) rfl), (PWas.out.at (i := 3) rfl)⟩ ?_
        · intro w hSw
          (try dsimp only at hSw)
          go_simp
        simp only [Act.put, List.setIfInBounds_toArray, List.set_cons_zero, List.set_cons_succ]
        refine wpAnyT_take (i := 3) (oi := { dst := some 58, op := Op.load 24 (Operand.tmp 57), type := 24, pos := "outright.go:192", after := #[{ on := 2, ground := Ground.data }], guard := none }) (v := (.agg #[(.bool nwd), (.slice adwd xwd.length qwd)])) rfl (by kernel_rfl) (fun _ _ _ h => h) (Or.inl ⟨by rfl, ?_⟩) ⟨(PNow.out.at (i := 0) rfl), (PNow.out.at (i := 1) rfl), (PNow.out.at (i := 2) rfl), (PNow.out.at (i := 3) rfl), (PWas.out.at (i := 0) rfl), (PWas.out.at (i := 1) rfl), (PWas.out.at (i := 2) rfl), (PWas.out.at (i := 3) rfl)⟩ ?_
        · intro w hSw
          (try dsimp only at hSw)
          go_simp
        simp only [Act.put, List.setIfInBounds_toArray, List.set_cons_zero, List.set_cons_succ]
        refine wpAnyT_take (i := 5) (oi := { dst := some 60, op := Op.fieldAddr 26 (Operand.tmp 5) 0, type := 0, pos := "outright.go:192", after := #[], guard := none }) (v := (.pointer (some ⟨w5.heap.size, 0, none⟩))) rfl (by kernel_rfl) (fun _ _ _ h => h) (Or.inl ⟨by rfl, ?_⟩) ⟨(PNow.out.at (i := 0) rfl), (PNow.out.at (i := 1) rfl), (PNow.out.at (i := 2) rfl), (PNow.out.at (i := 3) rfl), (PWas.out.at (i := 0) rfl), (PWas.out.at (i := 1) rfl), (PWas.out.at (i := 2) rfl), (PWas.out.at (i := 3) rfl)⟩ ?_
        · intro w hSw
          (try dsimp only at hSw)
          go_simp
        simp only [Act.put, List.setIfInBounds_toArray, List.set_cons_zero, List.set_cons_succ]
        refine wpAnyT_take (i := 6) (oi := { dst := some 61, op := Op.load 24 (Operand.tmp 60), type := 24, pos := "outright.go:192", after := #[{ on := 5, ground := Ground.data }], guard := none }) (v := (.agg #[(.bool nwn), (.slice adwn xwn.length qwn)])) rfl (by kernel_rfl) (fun _ _ _ h => h) (Or.inl ⟨by rfl, ?_⟩) ⟨(PNow.out.at (i := 0) rfl), (PNow.out.at (i := 1) rfl), (PNow.out.at (i := 2) rfl), (PNow.out.at (i := 3) rfl), (PWas.out.at (i := 0) rfl), (PWas.out.at (i := 1) rfl), (PWas.out.at (i := 2) rfl), (PWas.out.at (i := 3) rfl)⟩ ?_
        · intro w hSw
          (try dsimp only at hSw)
          go_simp
        simp only [Act.put, List.setIfInBounds_toArray, List.set_cons_zero, List.set_cons_succ]
        refine wpAnyT_take (i := 7) (oi := { dst := some 62, op := Op.fieldAddr 26 (Operand.tmp 8) 1, type := 0, pos := "outright.go:192", after := #[], guard := none }) (v := (.pointer (some ⟨w15.heap.size, 2, none⟩))) rfl (by kernel_rfl) (fun _ _ _ h => h) (Or.inl ⟨by rfl, ?_⟩) ⟨(PNow.out.at (i := 0) rfl), (PNow.out.at (i := 1) rfl), (PNow.out.at (i := 2) rfl), (PNow.out.at (i := 3) rfl), (PWas.out.at (i := 0) rfl), (PWas.out.at (i := 1) rfl), (PWas.out.at (i := 2) rfl), (PWas.out.at (i := 3) rfl)⟩ ?_
        · intro w hSw
          (try dsimp only at hSw)
          go_simp
        simp only [Act.put, List.setIfInBounds_toArray, List.set_cons_zero, List.set_cons_succ]
        refine wpAnyT_take (i := 8) (oi := { dst := some 63, op := Op.load 24 (Operand.tmp 62), type := 24, pos := "outright.go:192", after := #[{ on := 7, ground := Ground.data }], guard := none }) (v := (.agg #[(.bool nvd), (.slice advd xvd.length qvd)])) rfl (by kernel_rfl) (fun _ _ _ h => h) (Or.inl ⟨by rfl, ?_⟩) ⟨(PNow.out.at (i := 0) rfl), (PNow.out.at (i := 1) rfl), (PNow.out.at (i := 2) rfl), (PNow.out.at (i := 3) rfl), (PWas.out.at (i := 0) rfl), (PWas.out.at (i := 1) rfl), (PWas.out.at (i := 2) rfl), (PWas.out.at (i := 3) rfl)⟩ ?_
        · intro w hSw
          (try dsimp only at hSw)
          go_simp
        simp only [Act.put, List.setIfInBounds_toArray, List.set_cons_zero, List.set_cons_succ]
        refine wpAnyT_two (i := 4) (j := 11) (oi := { dst := some 59, op := Op.call { callee := Callee.value (Operand.func 16), args := #[Operand.tmp 56, Operand.tmp 58], argTypes := #[24, 24] }, type := 24, pos := "outright.go:192", after := #[{ on := 1, ground := Ground.data }, { on := 3, ground := Ground.data }], guard := none }) (oj := { dst := some 10, op := Op.alloc 24, type := 0, pos := "outright.go:192", after := #[], guard := none }) (by kernel_rfl) rfl rfl (fun K hK => ?_) (fun K hK => ?_)
        · skip
          go_simp
          go_at_call 16
          refine (mul_z Zvn.out.zi Zwd.out.zi (by decide)).mono ?_
          rintro e w21 ⟨r0, rfl, m0, b⟩
          obtain ⟨nm1x, xm1x, adm1x, qm1x, rfl, -, -, -, -, -⟩ := id m0
          replace Zwn := hid (Zwn.out.now b)
          replace Zwd := hid (Zwd.out.now b)
          replace Zvn := hid (Zvn.out.now b)
          replace Zvd := hid (Zvd.out.now b)
          replace PWas := hid (PWas.out.step b)
          replace PNow := hid (PNow.out.step b)
          replace G := hid (below_step G.out b)
          replace GR := hid (below_step GR.out b)
          have lz22 := (show Below _ _ _ from b).size
          have Zm1x := hid m0
          clear b m0
          refine hK.out _ _ (fun _ => ⟨(PNow.out.at (i := 0) rfl), (PNow.out.at (i := 1) rfl), (PNow.out.at (i := 2) rfl), (PNow.out.at (i := 3) rfl), (PWas.out.at (i := 0) rfl), (PWas.out.at (i := 1) rfl), (PWas.out.at (i := 2) rfl), (PWas.out.at (i := 3) rfl)⟩) ?_
          clear hK
          refine wpAnyT_two (i := 9) (j := 11) (oi := { dst := some 64, op := Op.call { callee := Callee.value (Operand.func 16), args := #[Operand.tmp 61, Operand.tmp 63], argTypes := #[24, 24] }, type := 24, pos := "outright.go:192", after := #[{ on := 6, ground := Ground.data }, { on := 8, ground := Ground.data }, { on := 4, ground := Ground.chain }], guard := none }) (oj := { dst := some 10, op := Op.alloc 24, type := 0, pos := "outright.go:192", after := #[], guard := none }) (by kernel_rfl) rfl rfl (fun K hK => ?_) (fun K hK => ?_)
          · skip
            go_simp
            go_at_call 16
            refine (mul_z Zwn.out.zi Zvd.out.zi (by decide)).mono ?_
            rintro e w23 ⟨r0, rfl, m0, b⟩
            obtain ⟨nm2x, xm2x, adm2x, qm2x, rfl, -, -, -, -, -⟩ := id m0
            replace Zwn := hid (Zwn.out.now b)
            replace Zwd := hid (Zwd.out.now b)
            replace Zvn := hid (Zvn.out.now b)
            replace Zvd := hid (Zvd.out.now b)
            replace Zm1x := hid (Zm1x.out.now b)
            replace PWas := hid (PWas.out.step b)
            replace PNow := hid (PNow.out.step b)
            replace G := hid (below_step G.out b)
            replace GR := hid (below_step GR.out b)
            have lz24 := (show Below _ _ _ from b).size
            have Zm2x := hid m0
            clear b m0
            refine hK.out _ _ (fun _ => ⟨(PNow.out.at (i := 0) rfl), (PNow.out.at (i := 1) rfl), (PNow.out.at (i := 2) rfl), (PNow.out.at (i := 3) rfl), (PWas.out.at (i := 0) rfl), (PWas.out.at (i := 1) rfl), (PWas.out.at (i := 2) rfl), (PWas.out.at (i := 3) rfl)⟩) ?_
            clear hK
            refine wpAnyT_two (i := 10) (j := 11) (oi := { dst := some 65, op := Op.call { callee := Callee.value (Operand.func 18), args := #[Operand.tmp 59, Operand.tmp 64], argTypes := #[24, 24] }, type := 24, pos := "outright.go:192", after := #[{ on := 4, ground := Ground.data }, { on := 9, ground := Ground.data }, { on := 9, ground := Ground.chain }], guard := none }) (oj := { dst := some 10, op := Op.alloc 24, type := 0, pos := "outright.go:192", after := #[], guard := none }) (by kernel_rfl) rfl rfl (fun K hK => ?_) (fun K hK => ?_)
            · skip
              go_simp
              go_at_call 18
              refine (sub_z Zm1x.out.zi Zm2x.out.zi (by decide) (by decide)).mono ?_
              rintro e w25 ⟨r0, rfl, m0, b⟩
              obtain ⟨nd, xd, add, qd, rfl, -, -, -, -, -⟩ := id m0
              replace Zwn := hid (Zwn.out.now b)
              replace Zwd := hid (Zwd.out.now b)
              replace Zvn := hid (Zvn.out.now b)
              replace Zvd := hid (Zvd.out.now b)
              replace Zm1x := hid (Zm1x.out.now b)
              replace Zm2x := hid (Zm2x.out.now b)
              replace PWas := hid (PWas.out.step b)
              replace PNow := hid (PNow.out.step b)
              replace G := hid (below_step G.out b)
              replace GR := hid (below_step GR.out b)
              have lz26 := (show Below _ _ _ from b).size
              have Zd := hid m0
              clear b m0
              refine hK.out _ _ (fun _ => ⟨(PNow.out.at (i := 0) rfl), (PNow.out.at (i := 1) rfl), (PNow.out.at (i := 2) rfl), (PNow.out.at (i := 3) rfl), (PWas.out.at (i := 0) rfl), (PWas.out.at (i := 1) rfl), (PWas.out.at (i := 2) rfl), (PWas.out.at (i := 3) rfl)⟩) ?_
              clear hK
              refine wpAnyT_one (i := 11) (o := { dst := some 10, op := Op.alloc 24, type := 0, pos := "outright.go:192", after := #[], guard := none }) (by kernel_rfl) rfl (fun K hK => ?_)
              go_simp
              obtain ⟨V27, hW⟩ : ∃ V27, w25.alloc zbox = V27 := ⟨_, rfl⟩
              obtain ⟨kW, sz27⟩ := alloc1 w25 zbox
              rw [hW] at kW sz27
              replace sz27 : w25.heap.size < V27.heap.size := by omega
              replace Zwn := hid (Zwn.out.now kW)
              replace Zwd := hid (Zwd.out.now kW)
              replace Zvn := hid (Zvn.out.now kW)
              replace Zvd := hid (Zvd.out.now kW)
              replace Zm1x := hid (Zm1x.out.now kW)
              replace Zm2x := hid (Zm2x.out.now kW)
              replace Zd := hid (Zd.out.now kW)
              replace PWas := hid (PWas.out.step kW)
              replace PNow := hid (PNow.out.step kW)
              replace G := hid (below_step G.out kW)
              replace GR := hid (below_step GR.out kW)
              have lz28 := (show Below _ _ _ from kW).size
              have PN10 : Hid (Duo V27 (w25.heap.size) (.bool false) (.slice none 0 0)) := by unfold Hid; rw [← hW]; exact duo_at rfl
              rw [hW]
              clear hW kW
              refine hK.out _ _ (fun _ => ⟨(PNow.out.at (i := 0) rfl), (PNow.out.at (i := 1) rfl), (PNow.out.at (i := 2) rfl), (PNow.out.at (i := 3) rfl), (PWas.out.at (i := 0) rfl), (PWas.out.at (i := 1) rfl), (PWas.out.at (i := 2) rfl), (PWas.out.at (i := 3) rfl)⟩) ?_
              clear hK
              try simp only [Act.put]
              refine wpAnyT_one (i := 12) (o := { dst := none, op := Op.store 24 (Operand.tmp 10) (Operand.tmp 65), type := 0, pos := "outright.go:192", after := #[{ on := 11, ground := Ground.data }, { on := 10, ground := Ground.data }, { on := 10, ground := Ground.chain }, { on := 0, ground := Ground.phase }, { on := 1, ground := Ground.phase }, { on := 2, ground := Ground.phase }, { on := 3, ground := Ground.phase }, { on := 4, ground := Ground.phase }, { on := 5, ground := Ground.phase }, { on := 6, ground := Ground.phase }, { on := 7, ground := Ground.phase }, { on := 8, ground := Ground.phase }, { on := 9, ground := Ground.phase }, { on := 10, ground := Ground.phase }, { on := 11, ground := Ground.phase }], guard := none }) (by kernel_rfl) rfl (fun K hK => ?_)
              have cN100 := PN10.out.c0
              have cN101 := PN10.out.c1
              have fN100 := PN10.out.fz 0
              have fN101 := PN10.out.fz 1
              go_simp
              clear cN100 cN101 fN100 fN101
              obtain ⟨V29, hW⟩ : ∃ V29, (V27.setCell ⟨w25.heap.size, 0, none⟩ (.bool nd)).setCell ⟨w25.heap.size, 1, none⟩ (.slice add xd.length qd) = V29 := ⟨_, rfl⟩
              replace Zwn := hid ((Zwn.out).wk ((PN10.out).wk (.bool nd) (.slice add xd.length qd)))
              replace Zwd := hid ((Zwd.out).wk ((PN10.out).wk (.bool nd) (.slice add xd.length qd)))
              replace Zvn := hid ((Zvn.out).wk ((PN10.out).wk (.bool nd) (.slice add xd.length qd)))
              replace Zvd := hid ((Zvd.out).wk ((PN10.out).wk (.bool nd) (.slice add xd.length qd)))
              replace Zm1x := hid ((Zm1x.out).box (PN10.out) (.bool nd) (.slice add xd.length qd))
              replace Zm2x := hid ((Zm2x.out).box (PN10.out) (.bool nd) (.slice add xd.length qd))
              replace Zd := hid ((Zd.out).box (PN10.out) (.bool nd) (.slice add xd.length qd))
              replace PWas := hid ((PWas.out).away2 (b' := w25.heap.size) (by omega) (.bool nd) (.slice add xd.length qd))
              replace PNow := hid ((PNow.out).away2 (b' := w25.heap.size) (by omega) (.bool nd) (.slice add xd.length qd))
              replace PN10 := hid ((PN10.out).set (.bool nd) (.slice add xd.length qd))
              replace G : Hid (Below w.heap.size w (((V27.setCell ⟨w25.heap.size, 0, none⟩ (.bool nd)).setCell ⟨w25.heap.size, 1, none⟩ (.slice add xd.length qd)))) := bset (bset (G.out) (by omega)) (by omega)
              replace GR : Hid (Below V17.heap.size V17 (((V27.setCell ⟨w25.heap.size, 0, none⟩ (.bool nd)).setCell ⟨w25.heap.size, 1, none⟩ (.slice add xd.length qd)))) := bset (bset (GR.out) (by omega)) (by omega)
              have sz29 : V29.heap.size = V27.heap.size := by rw [← hW]; simp
              rw [hW] at Zwn Zwd Zvn Zvd Zm1x Zm2x Zd PWas PNow PN10 G GR
              rw [hW]
              clear hW
              refine hK.out _ _ (fun h => absurd h (by decide)) ?_
              clear hK
              try simp only [Act.put]
              refine wpAnyT_done (by kernel_rfl) ?_ _
              go_wp2_with fail
              go_meet
              exact ⟨_, _, _, _, _, rfl, GR.out, by omega, PN10.out.blk, PN10.out, Zd.out.mono (by omega)⟩
            · skip
              go_simp
              obtain ⟨V30, hW⟩ : ∃ V30, w23.alloc zbox = V30 := ⟨_, rfl⟩
              obtain ⟨kW, sz30⟩ := alloc1 w23 zbox
              rw [hW] at kW sz30
              replace sz30 : w23.heap.size < V30.heap.size := by omega
              replace Zwn := hid (Zwn.out.now kW)
              replace Zwd := hid (Zwd.out.now kW)
              replace Zvn := hid (Zvn.out.now kW)
              replace Zvd := hid (Zvd.out.now kW)
              replace Zm1x := hid (Zm1x.out.now kW)
              replace Zm2x := hid (Zm2x.out.now kW)
              replace PWas := hid (PWas.out.step kW)
              replace PNow := hid (PNow.out.step kW)
              replace G := hid (below_step G.out kW)
              replace GR := hid (below_step GR.out kW)
              have lz31 := (show Below _ _ _ from kW).size
              have PN10 : Hid (Duo V30 (w23.heap.size) (.bool false) (.slice none 0 0)) := by unfold Hid; rw [← hW]; exact duo_at rfl
              rw [hW]
              clear hW kW
              refine hK.out _ _ (fun _ => ⟨(PNow.out.at (i := 0) rfl), (PNow.out.at (i := 1) rfl), (PNow.out.at (i := 2) rfl), (PNow.out.at (i := 3) rfl), (PWas.out.at (i := 0) rfl), (PWas.out.at (i := 1) rfl), (PWas.out.at (i := 2) rfl), (PWas.out.at (i := 3) rfl)⟩) ?_
              clear hK
              try simp only [Act.put]
              refine wpAnyT_one (i := 10) (o := { dst := some 65, op := Op.call { callee := Callee.value (Operand.func 18), args := #[Operand.tmp 59, Operand.tmp 64], argTypes := #[24, 24] }, type := 24, pos := "outright.go:192", after := #[{ on := 4, ground := Ground.data }, { on := 9, ground := Ground.data }, { on := 9, ground := Ground.chain }], guard := none }) (by kernel_rfl) rfl (fun K hK => ?_)
              go_simp
              go_at_call 18
              refine (sub_z Zm1x.out.zi Zm2x.out.zi (by decide) (by decide)).mono ?_
              rintro e w32 ⟨r0, rfl, m0, b⟩
              obtain ⟨nd, xd, add, qd, rfl, -, -, -, -, -⟩ := id m0
              replace Zwn := hid (Zwn.out.now b)
              replace Zwd := hid (Zwd.out.now b)
              replace Zvn := hid (Zvn.out.now b)
              replace Zvd := hid (Zvd.out.now b)
              replace Zm1x := hid (Zm1x.out.now b)
              replace Zm2x := hid (Zm2x.out.now b)
              replace PWas := hid (PWas.out.step b)
              replace PNow := hid (PNow.out.step b)
              replace PN10 := hid (PN10.out.step b)
              replace G := hid (below_step G.out b)
              replace GR := hid (below_step GR.out b)
              have lz33 := (show Below _ _ _ from b).size
              have Zd := hid m0
              clear b m0
              refine hK.out _ _ (fun _ => ⟨(PNow.out.at (i := 0) rfl), (PNow.out.at (i := 1) rfl), (PNow.out.at (i := 2) rfl), (PNow.out.at (i := 3) rfl), (PWas.out.at (i := 0) rfl), (PWas.out.at (i := 1) rfl), (PWas.out.at (i := 2) rfl), (PWas.out.at (i := 3) rfl)⟩) ?_
              clear hK
              refine wpAnyT_one (i := 12) (o := { dst := none, op := Op.store 24 (Operand.tmp 10) (Operand.tmp 65), type := 0, pos := "outright.go:192", after := #[{ on := 11, ground := Ground.data }, { on := 10, ground := Ground.data }, { on := 10, ground := Ground.chain }, { on := 0, ground := Ground.phase }, { on := 1, ground := Ground.phase }, { on := 2, ground := Ground.phase }, { on := 3, ground := Ground.phase }, { on := 4, ground := Ground.phase }, { on := 5, ground := Ground.phase }, { on := 6, ground := Ground.phase }, { on := 7, ground := Ground.phase }, { on := 8, ground := Ground.phase }, { on := 9, ground := Ground.phase }, { on := 10, ground := Ground.phase }, { on := 11, ground := Ground.phase }], guard := none }) (by kernel_rfl) rfl (fun K hK => ?_)
              have cN100 := PN10.out.c0
              have cN101 := PN10.out.c1
              have fN100 := PN10.out.fz 0
              have fN101 := PN10.out.fz 1
              go_simp
              clear cN100 cN101 fN100 fN101
              obtain ⟨V34, hW⟩ : ∃ V34, (w32.setCell ⟨w23.heap.size, 0, none⟩ (.bool nd)).setCell ⟨w23.heap.size, 1, none⟩ (.slice add xd.length qd) = V34 := ⟨_, rfl⟩
              replace Zwn := hid ((Zwn.out).wk ((PN10.out).wk (.bool nd) (.slice add xd.length qd)))
              replace Zwd := hid ((Zwd.out).wk ((PN10.out).wk (.bool nd) (.slice add xd.length qd)))
              replace Zvn := hid ((Zvn.out).wk ((PN10.out).wk (.bool nd) (.slice add xd.length qd)))
              replace Zvd := hid ((Zvd.out).wk ((PN10.out).wk (.bool nd) (.slice add xd.length qd)))
              replace Zm1x := hid ((Zm1x.out).box (PN10.out) (.bool nd) (.slice add xd.length qd))
              replace Zm2x := hid ((Zm2x.out).box (PN10.out) (.bool nd) (.slice add xd.length qd))
              replace Zd := hid ((Zd.out).box (PN10.out) (.bool nd) (.slice add xd.length qd))
              replace PWas := hid ((PWas.out).away2 (b' := w23.heap.size) (by omega) (.bool nd) (.slice add xd.length qd))
              replace PNow := hid ((PNow.out).away2 (b' := w23.heap.size) (by omega) (.bool nd) (.slice add xd.length qd))
              replace PN10 := hid ((PN10.out).set (.bool nd) (.slice add xd.length qd))
              replace G : Hid (Below w.heap.size w (((w32.setCell ⟨w23.heap.size, 0, none⟩ (.bool nd)).setCell ⟨w23.heap.size, 1, none⟩ (.slice add xd.length qd)))) := bset (bset (G.out) (by omega)) (by omega)
              replace GR : Hid (Below V17.heap.size V17 (((w32.setCell ⟨w23.heap.size, 0, none⟩ (.bool nd)).setCell ⟨w23.heap.size, 1, none⟩ (.slice add xd.length qd)))) := bset (bset (GR.out) (by omega)) (by omega)
              have sz34 : V34.heap.size = w32.heap.size := by rw [← hW]; simp
              rw [hW] at Zwn Zwd Zvn Zvd Zm1x Zm2x Zd PWas PNow PN10 G GR
              rw [hW]
              clear hW
              refine hK.out _ _ (fun h => absurd h (by decide)) ?_
              clear hK
              try simp only [Act.put]
              refine wpAnyT_done (by kernel_rfl) ?_ _
              go_wp2_with fail
              go_meet
              exact ⟨_, _, _, _, _, rfl, GR.out, by omega, PN10.out.blk, PN10.out, Zd.out.mono (by omega)⟩
          · skip
            go_simp
            obtain ⟨V35, hW⟩ : ∃ V35, w21.alloc zbox = V35 := ⟨_, rfl⟩
            obtain ⟨kW, sz35⟩ := alloc1 w21 zbox
            rw [hW] at kW sz35
            replace sz35 : w21.heap.size < V35.heap.size := by omega
            replace Zwn := hid (Zwn.out.now kW)
            replace Zwd := hid (Zwd.out.now kW)
            replace Zvn := hid (Zvn.out.now kW)
            replace Zvd := hid (Zvd.out.now kW)
            replace Zm1x := hid (Zm1x.out.now kW)
            replace PWas := hid (PWas.out.step kW)
            replace PNow := hid (PNow.out.step kW)
            replace G := hid (below_step G.out kW)
            replace GR := hid (below_step GR.out kW)
            have lz36 := (show Below _ _ _ from kW).size
            have PN10 : Hid (Duo V35 (w21.heap.size) (.bool false) (.slice none 0 0)) := by unfold Hid; rw [← hW]; exact duo_at rfl
            rw [hW]
            clear hW kW
            refine hK.out _ _ (fun _ => ⟨(PNow.out.at (i := 0) rfl), (PNow.out.at (i := 1) rfl), (PNow.out.at (i := 2) rfl), (PNow.out.at (i := 3) rfl), (PWas.out.at (i := 0) rfl), (PWas.out.at (i := 1) rfl), (PWas.out.at (i := 2) rfl), (PWas.out.at (i := 3) rfl)⟩) ?_
            clear hK
            try simp only [Act.put]
            refine wpAnyT_one (i := 9) (o := { dst := some 64, op := Op.call { callee := Callee.value (Operand.func 16), args := #[Operand.tmp 61, Operand.tmp 63], argTypes := #[24, 24] }, type := 24, pos := "outright.go:192", after := #[{ on := 6, ground := Ground.data }, { on := 8, ground := Ground.data }, { on := 4, ground := Ground.chain }], guard := none }) (by kernel_rfl) rfl (fun K hK => ?_)
            go_simp
            go_at_call 16
            refine (mul_z Zwn.out.zi Zvd.out.zi (by decide)).mono ?_
            rintro e w37 ⟨r0, rfl, m0, b⟩
            obtain ⟨nm2x, xm2x, adm2x, qm2x, rfl, -, -, -, -, -⟩ := id m0
            replace Zwn := hid (Zwn.out.now b)
            replace Zwd := hid (Zwd.out.now b)
            replace Zvn := hid (Zvn.out.now b)
            replace Zvd := hid (Zvd.out.now b)
            replace Zm1x := hid (Zm1x.out.now b)
            replace PWas := hid (PWas.out.step b)
            replace PNow := hid (PNow.out.step b)
            replace PN10 := hid (PN10.out.step b)
            replace G := hid (below_step G.out b)
            replace GR := hid (below_step GR.out b)
            have lz38 := (show Below _ _ _ from b).size
            have Zm2x := hid m0
            clear b m0
            refine hK.out _ _ (fun _ => ⟨(PNow.out.at (i := 0) rfl), (PNow.out.at (i := 1) rfl), (PNow.out.at (i := 2) rfl), (PNow.out.at (i := 3) rfl), (PWas.out.at (i := 0) rfl), (PWas.out.at (i := 1) rfl), (PWas.out.at (i := 2) rfl), (PWas.out.at (i := 3) rfl)⟩) ?_
            clear hK
            refine wpAnyT_one (i := 10) (o := { dst := some 65, op := Op.call { callee := Callee.value (Operand.func 18), args := #[Operand.tmp 59, Operand.tmp 64], argTypes := #[24, 24] }, type := 24, pos := "outright.go:192", after := #[{ on := 4, ground := Ground.data }, { on := 9, ground := Ground.data }, { on := 9, ground := Ground.chain }], guard := none }) (by kernel_rfl) rfl (fun K hK => ?_)
            go_simp
            go_at_call 18
            refine (sub_z Zm1x.out.zi Zm2x.out.zi (by decide) (by decide)).mono ?_
            rintro e w39 ⟨r0, rfl, m0, b⟩
            obtain ⟨nd, xd, add, qd, rfl, -, -, -, -, -⟩ := id m0
            replace Zwn := hid (Zwn.out.now b)
            replace Zwd := hid (Zwd.out.now b)
            replace Zvn := hid (Zvn.out.now b)
            replace Zvd := hid (Zvd.out.now b)
            replace Zm1x := hid (Zm1x.out.now b)
            replace Zm2x := hid (Zm2x.out.now b)
            replace PWas := hid (PWas.out.step b)
            replace PNow := hid (PNow.out.step b)
            replace PN10 := hid (PN10.out.step b)
            replace G := hid (below_step G.out b)
            replace GR := hid (below_step GR.out b)
            have lz40 := (show Below _ _ _ from b).size
            have Zd := hid m0
            clear b m0
            refine hK.out _ _ (fun _ => ⟨(PNow.out.at (i := 0) rfl), (PNow.out.at (i := 1) rfl), (PNow.out.at (i := 2) rfl), (PNow.out.at (i := 3) rfl), (PWas.out.at (i := 0) rfl), (PWas.out.at (i := 1) rfl), (PWas.out.at (i := 2) rfl), (PWas.out.at (i := 3) rfl)⟩) ?_
            clear hK
            refine wpAnyT_one (i := 12) (o := { dst := none, op := Op.store 24 (Operand.tmp 10) (Operand.tmp 65), type := 0, pos := "outright.go:192", after := #[{ on := 11, ground := Ground.data }, { on := 10, ground := Ground.data }, { on := 10, ground := Ground.chain }, { on := 0, ground := Ground.phase }, { on := 1, ground := Ground.phase }, { on := 2, ground := Ground.phase }, { on := 3, ground := Ground.phase }, { on := 4, ground := Ground.phase }, { on := 5, ground := Ground.phase }, { on := 6, ground := Ground.phase }, { on := 7, ground := Ground.phase }, { on := 8, ground := Ground.phase }, { on := 9, ground := Ground.phase }, { on := 10, ground := Ground.phase }, { on := 11, ground := Ground.phase }], guard := none }) (by kernel_rfl) rfl (fun K hK => ?_)
            have cN100 := PN10.out.c0
            have cN101 := PN10.out.c1
            have fN100 := PN10.out.fz 0
            have fN101 := PN10.out.fz 1
            go_simp
            clear cN100 cN101 fN100 fN101
            obtain ⟨V41, hW⟩ : ∃ V41, (w39.setCell ⟨w21.heap.size, 0, none⟩ (.bool nd)).setCell ⟨w21.heap.size, 1, none⟩ (.slice add xd.length qd) = V41 := ⟨_, rfl⟩
            replace Zwn := hid ((Zwn.out).wk ((PN10.out).wk (.bool nd) (.slice add xd.length qd)))
            replace Zwd := hid ((Zwd.out).wk ((PN10.out).wk (.bool nd) (.slice add xd.length qd)))
            replace Zvn := hid ((Zvn.out).wk ((PN10.out).wk (.bool nd) (.slice add xd.length qd)))
            replace Zvd := hid ((Zvd.out).wk ((PN10.out).wk (.bool nd) (.slice add xd.length qd)))
            replace Zm1x := hid ((Zm1x.out).box (PN10.out) (.bool nd) (.slice add xd.length qd))
            replace Zm2x := hid ((Zm2x.out).box (PN10.out) (.bool nd) (.slice add xd.length qd))
            replace Zd := hid ((Zd.out).box (PN10.out) (.bool nd) (.slice add xd.length qd))
            replace PWas := hid ((PWas.out).away2 (b' := w21.heap.size) (by omega) (.bool nd) (.slice add xd.length qd))
            replace PNow := hid ((PNow.out).away2 (b' := w21.heap.size) (by omega) (.bool nd) (.slice add xd.length qd))
            replace PN10 := hid ((PN10.out).set (.bool nd) (.slice add xd.length qd))
            replace G : Hid (Below w.heap.size w (((w39.setCell ⟨w21.heap.size, 0, none⟩ (.bool nd)).setCell ⟨w21.heap.size, 1, none⟩ (.slice add xd.length qd)))) := bset (bset (G.out) (by omega)) (by omega)
            replace GR : Hid (Below V17.heap.size V17 (((w39.setCell ⟨w21.heap.size, 0, none⟩ (.bool nd)).setCell ⟨w21.heap.size, 1, none⟩ (.slice add xd.length qd)))) := bset (bset (GR.out) (by omega)) (by omega)
            have sz41 : V41.heap.size = w39.heap.size := by rw [← hW]; simp
            rw [hW] at Zwn Zwd Zvn Zvd Zm1x Zm2x Zd PWas PNow PN10 G GR
            rw [hW]
            clear hW
            refine hK.out _ _ (fun h => absurd h (by decide)) ?_
            clear hK
            try simp only [Act.put]
            refine wpAnyT_done (by kernel_rfl) ?_ _
            go_wp2_with fail
            go_meet
            exact ⟨_, _, _, _, _, rfl, GR.out, by omega, PN10.out.blk, PN10.out, Zd.out.mono (by omega)⟩
        · skip
          go_simp
          obtain ⟨V42, hW⟩ : ∃ V42, D19.alloc zbox = V42 := ⟨_, rfl⟩
          obtain ⟨kW, sz42⟩ := alloc1 D19 zbox
          rw [hW] at kW sz42
          replace sz42 : D19.heap.size < V42.heap.size := by omega
          replace Zwn := hid (Zwn.out.now kW)
          replace Zwd := hid (Zwd.out.now kW)
          replace Zvn := hid (Zvn.out.now kW)
          replace Zvd := hid (Zvd.out.now kW)
          replace PWas := hid (PWas.out.step kW)
          replace PNow := hid (PNow.out.step kW)
          replace G := hid (below_step G.out kW)
          replace GR := hid (below_step GR.out kW)
          have lz43 := (show Below _ _ _ from kW).size
          have PN10 : Hid (Duo V42 (D19.heap.size) (.bool false) (.slice none 0 0)) := by unfold Hid; rw [← hW]; exact duo_at rfl
          rw [hW]
          clear hW kW
          refine hK.out _ _ (fun _ => ⟨(PNow.out.at (i := 0) rfl), (PNow.out.at (i := 1) rfl), (PNow.out.at (i := 2) rfl), (PNow.out.at (i := 3) rfl), (PWas.out.at (i := 0) rfl), (PWas.out.at (i := 1) rfl), (PWas.out.at (i := 2) rfl), (PWas.out.at (i := 3) rfl)⟩) ?_
          clear hK
          try simp only [Act.put]
          refine wpAnyT_one (i := 4) (o := { dst := some 59, op := Op.call { callee := Callee.value (Operand.func 16), args := #[Operand.tmp 56, Operand.tmp 58], argTypes := #[24, 24] }, type := 24, pos := "outright.go:192", after := #[{ on := 1, ground := Ground.data }, { on := 3, ground := Ground.data }], guard := none }) (by kernel_rfl) rfl (fun K hK => ?_)
          go_simp
          go_at_call 16
          refine (mul_z Zvn.out.zi Zwd.out.zi (by decide)).mono ?_
          rintro e w44 ⟨r0, rfl, m0, b⟩
          obtain ⟨nm1x, xm1x, adm1x, qm1x, rfl, -, -, -, -, -⟩ := id m0
          replace Zwn := hid (Zwn.out.now b)
          replace Zwd := hid (Zwd.out.now b)
          replace Zvn := hid (Zvn.out.now b)
          replace Zvd := hid (Zvd.out.now b)
          replace PWas := hid (PWas.out.step b)
          replace PNow := hid (PNow.out.step b)
          replace PN10 := hid (PN10.out.step b)
          replace G := hid (below_step G.out b)
          replace GR := hid (below_step GR.out b)
          have lz45 := (show Below _ _ _ from b).size
          have Zm1x := hid m0
          clear b m0
          refine hK.out _ _ (fun _ => ⟨(PNow.out.at (i := 0) rfl), (PNow.out.at (i := 1) rfl), (PNow.out.at (i := 2) rfl), (PNow.out.at (i := 3) rfl), (PWas.out.at (i := 0) rfl), (PWas.out.at (i := 1) rfl), (PWas.out.at (i := 2) rfl), (PWas.out.at (i := 3) rfl)⟩) ?_
          clear hK
          refine wpAnyT_one (i := 9) (o := { dst := some 64, op := Op.call { callee := Callee.value (Operand.func 16), args := #[Operand.tmp 61, Operand.tmp 63], argTypes := #[24, 24] }, type := 24, pos := "outright.go:192", after := #[{ on := 6, ground := Ground.data }, { on := 8, ground := Ground.data }, { on := 4, ground := Ground.chain }], guard := none }) (by kernel_rfl) rfl (fun K hK => ?_)
          go_simp
          go_at_call 16
          refine (mul_z Zwn.out.zi Zvd.out.zi (by decide)).mono ?_
          rintro e w46 ⟨r0, rfl, m0, b⟩
          obtain ⟨nm2x, xm2x, adm2x, qm2x, rfl, -, -, -, -, -⟩ := id m0
          replace Zwn := hid (Zwn.out.now b)
          replace Zwd := hid (Zwd.out.now b)
          replace Zvn := hid (Zvn.out.now b)
          replace Zvd := hid (Zvd.out.now b)
          replace Zm1x := hid (Zm1x.out.now b)
          replace PWas := hid (PWas.out.step b)
          replace PNow := hid (PNow.out.step b)
          replace PN10 := hid (PN10.out.step b)
          replace G := hid (below_step G.out b)
          replace GR := hid (below_step GR.out b)
          have lz47 := (show Below _ _ _ from b).size
          have Zm2x := hid m0
          clear b m0
          refine hK.out _ _ (fun _ => ⟨(PNow.out.at (i := 0) rfl), (PNow.out.at (i := 1) rfl), (PNow.out.at (i := 2) rfl), (PNow.out.at (i := 3) rfl), (PWas.out.at (i := 0) rfl), (PWas.out.at (i := 1) rfl), (PWas.out.at (i := 2) rfl), (PWas.out.at (i := 3) rfl)⟩) ?_
          clear hK
          refine wpAnyT_one (i := 10) (o := { dst := some 65, op := Op.call { callee := Callee.value (Operand.func 18), args := #[Operand.tmp 59, Operand.tmp 64], argTypes := #[24, 24] }, type := 24, pos := "outright.go:192", after := #[{ on := 4, ground := Ground.data }, { on := 9, ground := Ground.data }, { on := 9, ground := Ground.chain }], guard := none }) (by kernel_rfl) rfl (fun K hK => ?_)
          go_simp
          go_at_call 18
          refine (sub_z Zm1x.out.zi Zm2x.out.zi (by decide) (by decide)).mono ?_
          rintro e w48 ⟨r0, rfl, m0, b⟩
          obtain ⟨nd, xd, add, qd, rfl, -, -, -, -, -⟩ := id m0
          replace Zwn := hid (Zwn.out.now b)
          replace Zwd := hid (Zwd.out.now b)
          replace Zvn := hid (Zvn.out.now b)
          replace Zvd := hid (Zvd.out.now b)
          replace Zm1x := hid (Zm1x.out.now b)
          replace Zm2x := hid (Zm2x.out.now b)
          replace PWas := hid (PWas.out.step b)
          replace PNow := hid (PNow.out.step b)
          replace PN10 := hid (PN10.out.step b)
          replace G := hid (below_step G.out b)
          replace GR := hid (below_step GR.out b)
          have lz49 := (show Below _ _ _ from b).size
          have Zd := hid m0
          clear b m0
          refine hK.out _ _ (fun _ => ⟨(PNow.out.at (i := 0) rfl), (PNow.out.at (i := 1) rfl), (PNow.out.at (i := 2) rfl), (PNow.out.at (i := 3) rfl), (PWas.out.at (i := 0) rfl), (PWas.out.at (i := 1) rfl), (PWas.out.at (i := 2) rfl), (PWas.out.at (i := 3) rfl)⟩) ?_
          clear hK
          refine wpAnyT_one (i := 12) (o := { dst := none, op := Op.store 24 (Operand.tmp 10) (Operand.tmp 65), type := 0, pos := "outright.go:192", after := #[{ on := 11, ground := Ground.data }, { on := 10, ground := Ground.data }, { on := 10, ground := Ground.chain }, { on := 0, ground := Ground.phase }, { on := 1, ground := Ground.phase }, { on := 2, ground := Ground.phase }, { on := 3, ground := Ground.phase }, { on := 4, ground := Ground.phase }, { on := 5, ground := Ground.phase }, { on := 6, ground := Ground.phase }, { on := 7, ground := Ground.phase }, { on := 8, ground := Ground.phase }, { on := 9, ground := Ground.phase }, { on := 10, ground := Ground.phase }, { on := 11, ground := Ground.phase }], guard := none }) (by kernel_rfl) rfl (fun K hK => ?_)
          have cN100 := PN10.out.c0
          have cN101 := PN10.out.c1
          have fN100 := PN10.out.fz 0
          have fN101 := PN10.out.fz 1
          go_simp
          clear cN100 cN101 fN100 fN101
          obtain ⟨V50, hW⟩ : ∃ V50, (w48.setCell ⟨D19.heap.size, 0, none⟩ (.bool nd)).setCell ⟨D19.heap.size, 1, none⟩ (.slice add xd.length qd) = V50 := ⟨_, rfl⟩
          replace Zwn := hid ((Zwn.out).wk ((PN10.out).wk (.bool nd) (.slice add xd.length qd)))
          replace Zwd := hid ((Zwd.out).wk ((PN10.out).wk (.bool nd) (.slice add xd.length qd)))
          replace Zvn := hid ((Zvn.out).wk ((PN10.out).wk (.bool nd) (.slice add xd.length qd)))
          replace Zvd := hid ((Zvd.out).wk ((PN10.out).wk (.bool nd) (.slice add xd.length qd)))
          replace Zm1x := hid ((Zm1x.out).box (PN10.out) (.bool nd) (.slice add xd.length qd))
          replace Zm2x := hid ((Zm2x.out).box (PN10.out) (.bool nd) (.slice add xd.length qd))
          replace Zd := hid ((Zd.out).box (PN10.out) (.bool nd) (.slice add xd.length qd))
          replace PWas := hid ((PWas.out).away2 (b' := D19.heap.size) (by omega) (.bool nd) (.slice add xd.length qd))
          replace PNow := hid ((PNow.out).away2 (b' := D19.heap.size) (by omega) (.bool nd) (.slice add xd.length qd))
          replace PN10 := hid ((PN10.out).set (.bool nd) (.slice add xd.length qd))
          replace G : Hid (Below w.heap.size w (((w48.setCell ⟨D19.heap.size, 0, none⟩ (.bool nd)).setCell ⟨D19.heap.size, 1, none⟩ (.slice add xd.length qd)))) := bset (bset (G.out) (by omega)) (by omega)
          replace GR : Hid (Below V17.heap.size V17 (((w48.setCell ⟨D19.heap.size, 0, none⟩ (.bool nd)).setCell ⟨D19.heap.size, 1, none⟩ (.slice add xd.length qd)))) := bset (bset (GR.out) (by omega)) (by omega)
          have sz50 : V50.heap.size = w48.heap.size := by rw [← hW]; simp
          rw [hW] at Zwn Zwd Zvn Zvd Zm1x Zm2x Zd PWas PNow PN10 G GR
          rw [hW]
          clear hW
          refine hK.out _ _ (fun h => absurd h (by decide)) ?_
          clear hK
          try simp only [Act.put]
          refine wpAnyT_done (by kernel_rfl) ?_ _
          go_wp2_with fail
          go_meet
          exact ⟨_, _, _, _, _, rfl, GR.out, by omega, PN10.out.blk, PN10.out, Zd.out.mono (by omega)⟩
      case rest =>
      obtain ⟨bkd, nd, xd, add, qd, rfl, b, ged, ltd, p, m⟩ := hcut
      replace Zwn := hid (Zwn.out.now b)
      replace Zwd := hid (Zwd.out.now b)
      replace Zvn := hid (Zvn.out.now b)
      replace Zvd := hid (Zvd.out.now b)
      replace PWas := hid (PWas.out.step b)
      replace PNow := hid (PNow.out.step b)
      replace G := hid (below_step G.out b)
      have lz52 := (show Below _ _ _ from b).size
      have Zd := hid m
      have Pd := hid p
      clear b p m
      generalize wc = C52 at *
      go_wp2_with fail
      refine (of_z (n := 1) (by decide) (by decide) _).mono ?_
      rintro e w53 ⟨r0, rfl, m0, b⟩
      obtain ⟨nt, xt, adt, qt, rfl, -, -, -, -, -⟩ := id m0
      replace Zwn := hid (Zwn.out.now b)
      replace Zwd := hid (Zwd.out.now b)
      replace Zvn := hid (Zvn.out.now b)
      replace Zvd := hid (Zvd.out.now b)
      replace Zd := hid (Zd.out.now b)
      replace PWas := hid (PWas.out.step b)
      replace PNow := hid (PNow.out.step b)
      replace Pd := hid (Pd.out.step b)
      replace G := hid (below_step G.out b)
      have lz54 := (show Below _ _ _ from b).size
      have Zt := hid m0
      clear b m0
      obtain ⟨V55, hW⟩ : ∃ V55, w53.alloc (duo (.bool nt) (.slice adt xt.length qt)) = V55 := ⟨_, rfl⟩
      obtain ⟨kW, sz55⟩ := alloc1 w53 (duo (.bool nt) (.slice adt xt.length qt))
      rw [hW] at kW sz55
      replace Zwn := hid (Zwn.out.now kW)
      replace Zwd := hid (Zwd.out.now kW)
      replace Zvn := hid (Zvn.out.now kW)
      replace Zvd := hid (Zvd.out.now kW)
      replace Zd := hid (Zd.out.now kW)
      replace Zt := hid (Zt.out.now kW)
      replace PWas := hid (PWas.out.step kW)
      replace PNow := hid (PNow.out.step kW)
      replace Pd := hid (Pd.out.step kW)
      replace G := hid (below_step G.out kW)
      have lz56 := (show Below _ _ _ from kW).size
      have PTt : Hid (Duo V55 (w53.heap.size) (.bool nt) (.slice adt xt.length qt)) := by unfold Hid; rw [← hW]; exact duo_at (by simp)
      clear kW
      by_cases hev : i % 2 = 0
      · skip
        have CV := hid CR.out
        rw [if_pos hev] at CV
        have tm : ((i : Int)).tmod 2 = 0 := by rw [Int.tmod_eq_emod_of_nonneg (by omega)]; omega
        have tw : IntKind.i64.wrap (((i : Int)).tmod 2) = 0 := by rw [tm]; rfl
        clear hev
        have EW := hid hW
        clear hW
        go_wp2_with fail
        rw [EW.out]
        clear EW
        refine (of_z (n := -1) (by decide) (by decide) _).mono ?_
        rintro e w57 ⟨r0, rfl, m0, b⟩
        obtain ⟨nu, xu, adu, qu, rfl, -, -, -, -, -⟩ := id m0
        replace Zwn := hid (Zwn.out.now b)
        replace Zwd := hid (Zwd.out.now b)
        replace Zvn := hid (Zvn.out.now b)
        replace Zvd := hid (Zvd.out.now b)
        replace Zd := hid (Zd.out.now b)
        replace Zt := hid (Zt.out.now b)
        replace PWas := hid (PWas.out.step b)
        replace PNow := hid (PNow.out.step b)
        replace Pd := hid (Pd.out.step b)
        replace PTt := hid (PTt.out.step b)
        replace G := hid (below_step G.out b)
        have lz58 := (show Below _ _ _ from b).size
        have Zu := hid m0
        clear b m0
        have cTt0 := PTt.out.c0
        have cTt1 := PTt.out.c1
        have fTt0 := PTt.out.fz 0
        have fTt1 := PTt.out.fz 1
        obtain ⟨V59, hW⟩ : ∃ V59, (w57.setCell ⟨w53.heap.size, 0, none⟩ (.bool nu)).setCell ⟨w53.heap.size, 1, none⟩ (.slice adu xu.length qu) = V59 := ⟨_, rfl⟩
        replace Zwn := hid ((Zwn.out).wk ((PTt.out).wk (.bool nu) (.slice adu xu.length qu)))
        replace Zwd := hid ((Zwd.out).wk ((PTt.out).wk (.bool nu) (.slice adu xu.length qu)))
        replace Zvn := hid ((Zvn.out).wk ((PTt.out).wk (.bool nu) (.slice adu xu.length qu)))
        replace Zvd := hid ((Zvd.out).wk ((PTt.out).wk (.bool nu) (.slice adu xu.length qu)))
        replace Zd := hid ((Zd.out).box (PTt.out) (.bool nu) (.slice adu xu.length qu))
        replace Zt := hid ((Zt.out).box (PTt.out) (.bool nu) (.slice adu xu.length qu))
        replace Zu := hid ((Zu.out).box (PTt.out) (.bool nu) (.slice adu xu.length qu))
        replace PWas := hid ((PWas.out).away2 (b' := w53.heap.size) (by omega) (.bool nu) (.slice adu xu.length qu))
        replace PNow := hid ((PNow.out).away2 (b' := w53.heap.size) (by omega) (.bool nu) (.slice adu xu.length qu))
        replace Pd := hid ((Pd.out).box (b' := w53.heap.size) (by omega) (.bool nu) (.slice adu xu.length qu))
        replace PTt := hid ((PTt.out).set (.bool nu) (.slice adu xu.length qu))
        replace G : Hid (Below w.heap.size w (((w57.setCell ⟨w53.heap.size, 0, none⟩ (.bool nu)).setCell ⟨w53.heap.size, 1, none⟩ (.slice adu xu.length qu)))) := bset (bset (G.out) (by omega)) (by omega)
        have sz59 : V59.heap.size = w57.heap.size := by rw [← hW]; simp
        rw [hW] at Zwn Zwd Zvn Zvd Zd Zt Zu PWas PNow Pd PTt G
        have cd0 := Pd.out.c0
        have cd1 := Pd.out.c1
        have cTt0 := PTt.out.c0
        have cTt1 := PTt.out.c1
        rw [← hW] at cd0 cd1 cTt0 cTt1
        have EW := hid hW
        clear hW
        go_wp2_with fail
        rw [EW.out]
        clear EW
        clear cd0 cd1 cTt0 cTt1
        try clear cTt0 cTt1 fTt0 fTt1
        refine (alike8_yes Zd.out.zc Zu.out.zc CV.out).mono ?_
        rintro e w60 ⟨rfl, b⟩
        replace Zwn := hid (Zwn.out.now b)
        replace Zwd := hid (Zwd.out.now b)
        replace Zvn := hid (Zvn.out.now b)
        replace Zvd := hid (Zvd.out.now b)
        replace Zd := hid (Zd.out.now b)
        replace Zt := hid (Zt.out.now b)
        replace Zu := hid (Zu.out.now b)
        replace PWas := hid (PWas.out.step b)
        replace PNow := hid (PNow.out.step b)
        replace Pd := hid (Pd.out.step b)
        replace PTt := hid (PTt.out.step b)
        replace G := hid (below_step G.out b)
        have lz61 := (show Below _ _ _ from b).size
        clear b 
        have cNow0 := (PNow.out.at (i := 0) rfl)
        have cNow1 := (PNow.out.at (i := 1) rfl)
        have cNow2 := (PNow.out.at (i := 2) rfl)
        have cNow3 := (PNow.out.at (i := 3) rfl)
        go_wp2_with fail
        clear cNow0 cNow1 cNow2 cNow3
        refine (lowest8 Zvn.out Zvd.out (by decide)).mono ?_
        rintro e w62 ⟨rfl, b⟩
        replace Zwn := hid (Zwn.out.now b)
        replace Zwd := hid (Zwd.out.now b)
        replace Zvn := hid (Zvn.out.now b)
        replace Zvd := hid (Zvd.out.now b)
        replace Zd := hid (Zd.out.now b)
        replace Zt := hid (Zt.out.now b)
        replace Zu := hid (Zu.out.now b)
        replace PWas := hid (PWas.out.step b)
        replace PNow := hid (PNow.out.step b)
        replace Pd := hid (Pd.out.step b)
        replace PTt := hid (PTt.out.step b)
        replace G := hid (below_step G.out b)
        have lz63 := (show Below _ _ _ from b).size
        clear b 
        have cNow0 := (PNow.out.at (i := 0) rfl)
        have cNow1 := (PNow.out.at (i := 1) rfl)
        have cNow2 := (PNow.out.at (i := 2) rfl)
        have cNow3 := (PNow.out.at (i := 3) rfl)
        have cWas0 := (PWas.out.at (i := 0) rfl)
        have cWas1 := (PWas.out.at (i := 1) rfl)
        have cWas2 := (PWas.out.at (i := 2) rfl)
        have cWas3 := (PWas.out.at (i := 3) rfl)
        have fWas0 := PWas.out.fz 0
        have fWas1 := PWas.out.fz 1
        have fWas2 := PWas.out.fz 2
        have fWas3 := PWas.out.fz 3
        obtain ⟨V64, hW⟩ : ∃ V64, (((w62.setCell ⟨w5.heap.size, 0, none⟩ (.bool nvn)).setCell ⟨w5.heap.size, 1, none⟩ (.slice advn xvn.length qvn)).setCell ⟨w5.heap.size, 2, none⟩ (.bool nvd)).setCell ⟨w5.heap.size, 3, none⟩ (.slice advd xvd.length qvd) = V64 := ⟨_, rfl⟩
        replace Zwn := hid ((Zwn.out).wk ((PWas.out).wk4 (.bool nvn) (.slice advn xvn.length qvn) (.bool nvd) (.slice advd xvd.length qvd)))
        replace Zwd := hid ((Zwd.out).wk ((PWas.out).wk4 (.bool nvn) (.slice advn xvn.length qvn) (.bool nvd) (.slice advd xvd.length qvd)))
        replace Zvn := hid ((Zvn.out).wk ((PWas.out).wk4 (.bool nvn) (.slice advn xvn.length qvn) (.bool nvd) (.slice advd xvd.length qvd)))
        replace Zvd := hid ((Zvd.out).wk ((PWas.out).wk4 (.bool nvn) (.slice advn xvn.length qvn) (.bool nvd) (.slice advd xvd.length qvd)))
        replace Zd := hid ((Zd.out).put4f (PWas.out) (.bool nvn) (.slice advn xvn.length qvn) (.bool nvd) (.slice advd xvd.length qvd))
        replace Zt := hid ((Zt.out).put4f (PWas.out) (.bool nvn) (.slice advn xvn.length qvn) (.bool nvd) (.slice advd xvd.length qvd))
        replace Zu := hid ((Zu.out).put4f (PWas.out) (.bool nvn) (.slice advn xvn.length qvn) (.bool nvd) (.slice advd xvd.length qvd))
        replace PWas := hid ((PWas.out).put4 (.bool nvn) (.slice advn xvn.length qvn) (.bool nvd) (.slice advd xvd.length qvd))
        replace PNow := hid ((PNow.out).away4 (b' := w5.heap.size) (by omega) (.bool nvn) (.slice advn xvn.length qvn) (.bool nvd) (.slice advd xvd.length qvd))
        replace Pd := hid ((Pd.out).away4 (b' := w5.heap.size) (by omega) (.bool nvn) (.slice advn xvn.length qvn) (.bool nvd) (.slice advd xvd.length qvd))
        replace PTt := hid ((PTt.out).away4 (b' := w5.heap.size) (by omega) (.bool nvn) (.slice advn xvn.length qvn) (.bool nvd) (.slice advd xvd.length qvd))
        replace G : Hid (Below w.heap.size w (((((w62.setCell ⟨w5.heap.size, 0, none⟩ (.bool nvn)).setCell ⟨w5.heap.size, 1, none⟩ (.slice advn xvn.length qvn)).setCell ⟨w5.heap.size, 2, none⟩ (.bool nvd)).setCell ⟨w5.heap.size, 3, none⟩ (.slice advd xvd.length qvd)))) := bset (bset (bset (bset (G.out) (by omega)) (by omega)) (by omega)) (by omega)
        have sz64 : V64.heap.size = w62.heap.size := by rw [← hW]; simp
        dsimp only [put4] at Zwn Zwd Zvn Zvd Zd Zt Zu PWas PNow Pd PTt
        rw [hW] at Zwn Zwd Zvn Zvd Zd Zt Zu PWas PNow Pd PTt G
        have HN1 : Hid (NbH w zs n (w5.heap.size) (.slice (some ⟨b1, off, none⟩) n c) (n - (i + 1)) (.int .i64 ((i + 1 : Nat) : Int)) V64) := ⟨i + 1, _, _, _, _, rfl, by omega, by omega, rfl, PWas.out, Zvn.out, Zvd.out, ZV0.out.now G.out, G.out⟩
        have HMM : Hid (n - (i + 1) < gk) := by unfold Hid; rw [HG.out]; omega
        have EW := hid hW
        clear hW
        go_wp2_with fail
        go_roundg (n - (i + 1))
        case rel => rw [EW.out]; exact HN1.out
        case measure => exact HMM.out
      · skip
        have CV := hid CR.out
        rw [if_neg hev] at CV
        have tm : ((i : Int)).tmod 2 = 1 := by rw [Int.tmod_eq_emod_of_nonneg (by omega)]; omega
        have tw : IntKind.i64.wrap (((i : Int)).tmod 2) = 1 := by rw [tm]; rfl
        clear hev
        have cd0 := Pd.out.c0
        have cd1 := Pd.out.c1
        have cTt0 := PTt.out.c0
        have cTt1 := PTt.out.c1
        rw [← hW] at cd0 cd1 cTt0 cTt1
        have EW := hid hW
        clear hW
        go_wp2_with fail
        rw [EW.out]
        clear EW
        clear cd0 cd1 cTt0 cTt1
        refine (alike8_yes Zd.out.zc Zt.out.zc CV.out).mono ?_
        rintro e w57 ⟨rfl, b⟩
        replace Zwn := hid (Zwn.out.now b)
        replace Zwd := hid (Zwd.out.now b)
        replace Zvn := hid (Zvn.out.now b)
        replace Zvd := hid (Zvd.out.now b)
        replace Zd := hid (Zd.out.now b)
        replace Zt := hid (Zt.out.now b)
        replace PWas := hid (PWas.out.step b)
        replace PNow := hid (PNow.out.step b)
        replace Pd := hid (Pd.out.step b)
        replace PTt := hid (PTt.out.step b)
        replace G := hid (below_step G.out b)
        have lz58 := (show Below _ _ _ from b).size
        clear b 
        have cNow0 := (PNow.out.at (i := 0) rfl)
        have cNow1 := (PNow.out.at (i := 1) rfl)
        have cNow2 := (PNow.out.at (i := 2) rfl)
        have cNow3 := (PNow.out.at (i := 3) rfl)
        go_wp2_with fail
        clear cNow0 cNow1 cNow2 cNow3
        refine (lowest8 Zvn.out Zvd.out (by decide)).mono ?_
        rintro e w59 ⟨rfl, b⟩
        replace Zwn := hid (Zwn.out.now b)
        replace Zwd := hid (Zwd.out.now b)
        replace Zvn := hid (Zvn.out.now b)
        replace Zvd := hid (Zvd.out.now b)
        replace Zd := hid (Zd.out.now b)
        replace Zt := hid (Zt.out.now b)
        replace PWas := hid (PWas.out.step b)
        replace PNow := hid (PNow.out.step b)
        replace Pd := hid (Pd.out.step b)
        replace PTt := hid (PTt.out.step b)
        replace G := hid (below_step G.out b)
        have lz60 := (show Below _ _ _ from b).size
        clear b 
        have cNow0 := (PNow.out.at (i := 0) rfl)
        have cNow1 := (PNow.out.at (i := 1) rfl)
        have cNow2 := (PNow.out.at (i := 2) rfl)
        have cNow3 := (PNow.out.at (i := 3) rfl)
        have cWas0 := (PWas.out.at (i := 0) rfl)
        have cWas1 := (PWas.out.at (i := 1) rfl)
        have cWas2 := (PWas.out.at (i := 2) rfl)
        have cWas3 := (PWas.out.at (i := 3) rfl)
        have fWas0 := PWas.out.fz 0
        have fWas1 := PWas.out.fz 1
        have fWas2 := PWas.out.fz 2
        have fWas3 := PWas.out.fz 3
        obtain ⟨V61, hW⟩ : ∃ V61, (((w59.setCell ⟨w5.heap.size, 0, none⟩ (.bool nvn)).setCell ⟨w5.heap.size, 1, none⟩ (.slice advn xvn.length qvn)).setCell ⟨w5.heap.size, 2, none⟩ (.bool nvd)).setCell ⟨w5.heap.size, 3, none⟩ (.slice advd xvd.length qvd) = V61 := ⟨_, rfl⟩
        replace Zwn := hid ((Zwn.out).wk ((PWas.out).wk4 (.bool nvn) (.slice advn xvn.length qvn) (.bool nvd) (.slice advd xvd.length qvd)))
        replace Zwd := hid ((Zwd.out).wk ((PWas.out).wk4 (.bool nvn) (.slice advn xvn.length qvn) (.bool nvd) (.slice advd xvd.length qvd)))
        replace Zvn := hid ((Zvn.out).wk ((PWas.out).wk4 (.bool nvn) (.slice advn xvn.length qvn) (.bool nvd) (.slice advd xvd.length qvd)))
        replace Zvd := hid ((Zvd.out).wk ((PWas.out).wk4 (.bool nvn) (.slice advn xvn.length qvn) (.bool nvd) (.slice advd xvd.length qvd)))
        replace Zd := hid ((Zd.out).put4f (PWas.out) (.bool nvn) (.slice advn xvn.length qvn) (.bool nvd) (.slice advd xvd.length qvd))
        replace Zt := hid ((Zt.out).put4f (PWas.out) (.bool nvn) (.slice advn xvn.length qvn) (.bool nvd) (.slice advd xvd.length qvd))
        replace PWas := hid ((PWas.out).put4 (.bool nvn) (.slice advn xvn.length qvn) (.bool nvd) (.slice advd xvd.length qvd))
        replace PNow := hid ((PNow.out).away4 (b' := w5.heap.size) (by omega) (.bool nvn) (.slice advn xvn.length qvn) (.bool nvd) (.slice advd xvd.length qvd))
        replace Pd := hid ((Pd.out).away4 (b' := w5.heap.size) (by omega) (.bool nvn) (.slice advn xvn.length qvn) (.bool nvd) (.slice advd xvd.length qvd))
        replace PTt := hid ((PTt.out).away4 (b' := w5.heap.size) (by omega) (.bool nvn) (.slice advn xvn.length qvn) (.bool nvd) (.slice advd xvd.length qvd))
        replace G : Hid (Below w.heap.size w (((((w59.setCell ⟨w5.heap.size, 0, none⟩ (.bool nvn)).setCell ⟨w5.heap.size, 1, none⟩ (.slice advn xvn.length qvn)).setCell ⟨w5.heap.size, 2, none⟩ (.bool nvd)).setCell ⟨w5.heap.size, 3, none⟩ (.slice advd xvd.length qvd)))) := bset (bset (bset (bset (G.out) (by omega)) (by omega)) (by omega)) (by omega)
        have sz61 : V61.heap.size = w59.heap.size := by rw [← hW]; simp
        dsimp only [put4] at Zwn Zwd Zvn Zvd Zd Zt PWas PNow Pd PTt
        rw [hW] at Zwn Zwd Zvn Zvd Zd Zt PWas PNow Pd PTt G
        have HN1 : Hid (NbH w zs n (w5.heap.size) (.slice (some ⟨b1, off, none⟩) n c) (n - (i + 1)) (.int .i64 ((i + 1 : Nat) : Int)) V61) := ⟨i + 1, _, _, _, _, rfl, by omega, by omega, rfl, PWas.out, Zvn.out, Zvd.out, ZV0.out.now G.out, G.out⟩
        have HMM : Hid (n - (i + 1) < gk) := by unfold Hid; rw [HG.out]; omega
        have EW := hid hW
        clear hW
        go_wp2_with fail
        go_roundg (n - (i + 1))
        case rel => rw [EW.out]; exact HN1.out
        case measure => exact HMM.out
    · skip
      have hlt' : ¬ (i : Int) < (n : Int) := by omega
      go_wp2
      go_ret
      exact ⟨rfl, G.out⟩

theorem fracNeighbours_any {w : World} {v : Value} {zs : List Int} {ks : List Nat} (hv : Zw w v zs ks) (hs : zs.length + ksum ks ≤ 1048576) :
    Calls Try.prog 6 #[v] w fun e w' => e = .returned (.bool true) ∧ Below w.heap.size w w' := by
  have hzl := hv.zl (K := 1048576) (by omega)
  by_cases hF : Fit zs
  · refine neigh_yes (ks := ks) hzl ?_ hv.1 (by omega) hF
    intro j z k hz hk
    obtain ⟨h0, a, c, h1, h2, h3, h4⟩ := hv
    rcases h4 with rfl | ⟨b, off, h5, h6, h7⟩
    · simp at hz
    · obtain ⟨x, y, q1, q2, q3⟩ := h7 j z k hz hk
      exact q3.lt
  · exact neigh_no hzl hF
end Go.Proofs.Ytaoammmnpfbdfaa
