/-
  ZWritten: the law's written.
-/
import Derived.Test.YtpnekeapbpkioaaDoorQZRead
import Derived.Test.YtpnekeapbpkioaaDoorQZFloorToZMet
import Derived.Test.YtpnekeapbpkioaaDoorQTailX
import Derived.Deep.LoopGhost
namespace Go.Proofs.YtpnekeapbpkioaaDoor
open Go.RowKit
set_option linter.unusedVariables false

theorem Zi.parts {w : World} {v0 v1 : Value} {z : Int} {k : Nat} (h : Zi w (.agg #[v0, v1]) z k) : ∃ n, ∃ xs : List Int, ∃ a c, v0 = .bool n ∧ v1 = .slice a xs.length c := by
  obtain ⟨n, xs, a, c, e, _⟩ := h
  simp only [Value.agg.injEq, Array.mk.injEq, List.cons.injEq, and_true] at e
  exact ⟨n, xs, a, c, e.1, e.2⟩
theorem ten_pw : ∀ j : Nat, ((10 ^ j : Nat) : Int) ≤ pw j
  | 0 => by simp [pw]
  | j + 1 => by
    have h := ten_pw j
    have h0 : (0 : Int) ≤ ((10 ^ j : Nat) : Int) := Int.natCast_nonneg _
    have e : ((10 ^ (j + 1) : Nat) : Int) = ((10 ^ j : Nat) : Int) * 10 := by rw [Nat.pow_succ, Int.natCast_mul]; rfl
    rw [e]
    show _ ≤ wB * pw j
    unfold wB
    generalize ((10 ^ j : Nat) : Int) = x at *
    generalize pw j = y at *
    omega
theorem dgt_good {c : UInt8} (h : dv c.toNat < 10) : dgt c = (dv c.toNat : Int) := by
  unfold dgt
  unfold dv at h ⊢
  (repeat' split) <;> (repeat' split at h) <;> omega
theorem dgt_bad {c : UInt8} (h : ¬ dv c.toNat < 10) : dgt c = -1 := by
  unfold dgt
  unfold dv at h
  (repeat' split) <;> (repeat' split at h) <;> omega
/-- The number of the first j digits. -/
def hv (d : List UInt8) (j : Nat) : Int := ((ofD 10 (dsL (d.take j)) : Nat) : Int)
theorem hv_step {d : List UInt8} {j : Nat} (h : j < d.length) (hg : Good 10 (d.take j)) (hc : dv d[j].toNat < 10) : Good 10 (d.take (j + 1)) ∧ hv d j * 10 + dgt d[j] = hv d (j + 1) := by
  have e : d.take (j + 1) = d.take j ++ [d[j]] := by rw [List.take_add_one, List.getElem?_eq_getElem h]; rfl
  unfold hv
  rw [e]
  refine ⟨fun b hb => ?_, ?_⟩
  · rcases List.mem_append.1 hb with q | q
    · exact hg b q
    · rw [List.mem_singleton.1 q]; exact hc
  · have e2 : dsL (d.take j ++ [d[j]]) = dsL (d.take j) ++ [dv d[j].toNat] := by unfold dsL; rw [List.map_append]; rfl
    rw [e2, ofD_snoc, dgt_good hc]
    omega
theorem hv_fit {d : List UInt8} {j : Nat} (h : j ≤ d.length) (hg : Good 10 (d.take j)) : ((hv d j).natAbs : Int) < pw (j + 1) := by
  have h1 := ofD_lt (B := 10) (by omega) (dsL (d.take j)) (fun x hx => by obtain ⟨b, hb, rfl⟩ := List.mem_map.1 hx; exact hg b hb)
  have h2 : (dsL (d.take j)).length = j := by simp [dsL]; omega
  rw [h2] at h1
  have h3 := ten_pw j
  have h4 := pw_up (show j ≤ j + 1 by omega)
  unfold hv
  generalize 10 ^ j = x at *
  generalize ofD 10 (dsL (d.take j)) = y at *
  generalize pw j = u at *
  generalize pw (j + 1) = v at *
  omega
theorem hv_bad {d : List UInt8} {j : Nat} (h : j < d.length) (hc : ¬ dv d[j].toNat < 10) : ¬ Good 10 d := fun q => hc (q _ (List.getElem_mem h))
/-- What written answers. -/
def WrPost (w : World) (l : List UInt8) (t : Nat) (e : Ending) (w' : World) : Prop :=
  (Good 10 (l.drop t) ∧ ∃ r, e = .returned (.tuple #[r, .bool (decide (t < l.length))]) ∧ Zm w.heap.size w' r ((ofD 10 (dsL (l.drop t)) : Nat) : Int) (l.length + 1) ∧ Below w.heap.size w w') ∨
  (¬ Good 10 (l.drop t) ∧ ∃ r z k, e = .returned (.tuple #[r, .bool false]) ∧ Zm w.heap.size w' r z k ∧ Below w.heap.size w w')
def WrH (w : World) (d : List UInt8) (n t br bv bt : Nat) (t0 t1 : Value) (g : Nat) (s : Value) (wx : World) : Prop :=
  ∃ i j : Nat, ∃ p0 p1 : Value, s = .int .i64 (i : Int) ∧ i = t + j ∧ j ≤ n ∧ g = n - j ∧ Good 10 (d.take j) ∧ Zm w.heap.size wx (.agg #[p0, p1]) (hv d j) (j + 1) ∧ Duo wx bv p0 p1 ∧ Duo wx bt t0 t1 ∧ Zi wx (.agg #[t0, t1]) 10 1 ∧ Duo wx br (.bool false) (.slice none 0 0) ∧ Below w.heap.size w wx

set_option maxHeartbeats 6400000 in
set_option maxRecDepth 100000 in
theorem written_z {w : World} {l : List UInt8} {t : Nat} (ht : t ≤ l.length) (hl : l.length ≤ 1000000000) :
    Calls Tryd.prog 14 #[.string ⟨l.toArray⟩, .int .i64 (t : Int)] w (WrPost w l t) := by
  have hsz : (⟨l.toArray⟩ : ByteArray).size = l.length := mk_size l
  have HBT : Hid (∀ i j (h : j < (l.drop t).length) (h' : i < (⟨l.toArray⟩ : ByteArray).size), i = t + j → (⟨l.toArray⟩ : ByteArray)[i]'h' = (l.drop t)[j]) := fun i j h h' e => by
    subst e
    rw [List.getElem_drop]
    rfl
  have hdl : (l.drop t).length = l.length - t := by simp
  unfold WrPost
  generalize (⟨l.toArray⟩ : ByteArray) = s at *
  generalize l.drop t = d at *
  generalize l.length = n at *
  obtain ⟨W0, hW⟩ : ∃ W0, w.alloc zbox = W0 := ⟨_, rfl⟩
  obtain ⟨b0, sz0⟩ := alloc1 w zbox
  rw [hW] at b0 sz0
  have PRP : Hid (Duo W0 (w.heap.size) (.bool false) (.slice none 0 0)) := by unfold Hid; rw [← hW]; exact duo_at (by simp)
  have G := hid b0
  clear b0
  have EW := hid hW
  clear hW
  go_enter Tryd.func14, Tryd.ntmps14
  skip
  go_wp2_with fail
  rw [EW.out]
  clear EW
  refine (of_z (n := 0) (by decide) (by decide) _).mono ?_
  rintro e w1 ⟨r0, rfl, m0, b⟩
  obtain ⟨nv, xv, adv, qv, rfl, -, -, -, -, -⟩ := id m0
  replace PRP := hid (PRP.out.step b)
  replace G := hid (below_step G.out b)
  have lz2 := (show Below _ _ _ from b).size
  have Zv := hid m0
  clear b m0
  obtain ⟨V3, hW⟩ : ∃ V3, w1.alloc (duo (.bool nv) (.slice adv xv.length qv)) = V3 := ⟨_, rfl⟩
  obtain ⟨kW, sz3⟩ := alloc1 w1 (duo (.bool nv) (.slice adv xv.length qv))
  rw [hW] at kW sz3
  replace Zv := hid (Zv.out.now kW)
  replace PRP := hid (PRP.out.step kW)
  replace G := hid (below_step G.out kW)
  have lz4 := (show Below _ _ _ from kW).size
  have Pv : Hid (Duo V3 (w1.heap.size) (.bool nv) (.slice adv xv.length qv)) := by unfold Hid; rw [← hW]; exact duo_at (by simp)
  clear kW
  have EW := hid hW
  clear hW
  go_wp2_with fail
  rw [EW.out]
  clear EW
  refine (of_z (n := 10) (by decide) (by decide) _).mono ?_
  rintro e w5 ⟨r0, rfl, m0, b⟩
  obtain ⟨ne, xe, ade, qe, rfl, -, -, -, -, -⟩ := id m0
  replace Zv := hid (Zv.out.now b)
  replace PRP := hid (PRP.out.step b)
  replace Pv := hid (Pv.out.step b)
  replace G := hid (below_step G.out b)
  have lz6 := (show Below _ _ _ from b).size
  have Ze := hid m0
  clear b m0
  obtain ⟨V7, hW⟩ : ∃ V7, w5.alloc (duo (.bool ne) (.slice ade xe.length qe)) = V7 := ⟨_, rfl⟩
  obtain ⟨kW, sz7⟩ := alloc1 w5 (duo (.bool ne) (.slice ade xe.length qe))
  rw [hW] at kW sz7
  replace Zv := hid (Zv.out.now kW)
  replace Ze := hid (Ze.out.now kW)
  replace PRP := hid (PRP.out.step kW)
  replace Pv := hid (Pv.out.step kW)
  replace G := hid (below_step G.out kW)
  have lz8 := (show Below _ _ _ from kW).size
  have Pe : Hid (Duo V7 (w5.heap.size) (.bool ne) (.slice ade xe.length qe)) := by unfold Hid; rw [← hW]; exact duo_at (by simp)
  clear kW
  have H0 : Hid (WrH w d (n - t) t (w.heap.size) (w1.heap.size) (w5.heap.size) (.bool ne) (.slice ade xe.length qe) (n - t) (.int .i64 (t : Int)) V7) := ⟨t, 0, _, _, rfl, rfl, Nat.zero_le _, rfl, (fun b hb => by simp at hb), Zv.out.mono (by omega), Pv.out, Pe.out, Ze.out.zi, PRP.out, G.out⟩
  clear Zv Ze G Pv Pe PRP
  have EW := hid hW
  clear hW
  go_wp2_with fail
  rw [EW.out]
  clear EW
  go_loopg [8] (n - t) (fun g s8 wx => WrH w d (n - t) t (w.heap.size) (w1.heap.size) (w5.heap.size) (.bool ne) (.slice ade xe.length qe) g s8 wx)
  case atStart => exact H0.out
  case round =>
    clear H0
    obtain ⟨i, j, p0, p1, rfl, hi, hj, hg, hgd, z1, d1, d2, z2, d3, hG⟩ := hrel
    obtain ⟨nv, xv, adv, cv, rfl, rfl⟩ := z1.zi.parts
    have Zv := hid z1
    have Pv := hid d1
    have Pe := hid d2
    have Ze := hid z2
    have PRP := hid d3
    have G := hid hG
    have GD := hid hgd
    have HG := hid hg
    have lv := Pv.out.blk
    have le := Pe.out.blk
    clear z1 d1 d2 z2 d3 hG hgd hg
    by_cases hlt : j < n - t
    · skip
      have hjd : j < d.length := by omega
      have his : i < s.size := by omega
      have hbt := HBT.out i j hjd his hi
      have hlt' : (i : Int) < (s.size : Int) := by omega
      have HST : Hid (dv d[j].toNat < 10 → Good 10 (d.take (j + 1)) ∧ hv d j * 10 + dgt d[j] = hv d (j + 1)) := fun h => hv_step hjd GD.out h
      have HBD : Hid (¬ dv d[j].toNat < 10 → ¬ Good 10 d) := fun h => hv_bad hjd h
      have HFT : Hid (Good 10 (d.take (j + 1)) → ((hv d (j + 1)).natAbs : Int) < pw (j + 1 + 1)) := fun h => hv_fit (by omega) h
      obtain ⟨c, hc⟩ : ∃ c, d[j] = c := ⟨_, rfl⟩
      rw [hc] at hbt HST HBD
      have hix : ((s[i]'his).toNat : Int) = (c.toNat : Int) := by rw [hbt]
      have HDG := hid (digit_any wr c)
      have HI := hid hi
      have hin : i < n := by omega
      clear hbt hc hi
      go_wp2_with fail
      refine HDG.out.mono ?_
      rintro e w1 ⟨rfl, hw1⟩
      rw [hw1]
      clear HDG hw1 w1
      by_cases hdv : dv c.toNat < 10
      · skip
        obtain ⟨g1, e1⟩ := HST.out hdv
        have ft := HFT.out g1
        have hd0 := dgt_good hdv
        rw [← e1] at ft
        obtain ⟨D, hD⟩ : ∃ D, dgt c = D := ⟨_, rfl⟩
        rw [hD] at e1 hd0 ft ⊢
        have hD0 : ¬ D < 0 := by omega
        have hD1 : -9223372036854775808 ≤ D ∧ D ≤ 9223372036854775807 := by omega
        have FT := hid ft
        have E1 := hid e1
        have G1 := hid g1
        have ew : IntKind.i64.wrap ((i : Int) + 1) = ((i + 1 : Nat) : Int) := by rw [wrap_is] <;> omega
        clear g1 e1 ft hd0 hdv hD HST HBD HFT
        go_wp2_with fail
        refine wp_region_X (fun w' => w'.cell? ⟨w1.heap.size, 0, none⟩ = some (.bool nv) ∧ w'.cell? ⟨w1.heap.size, 1, none⟩ = some (.slice adv xv.length cv) ∧ w'.cell? ⟨w5.heap.size, 0, none⟩ = some (.bool ne) ∧ w'.cell? ⟨w5.heap.size, 1, none⟩ = some (.slice ade xe.length qe)) [5] (by kernel_rfl) ?_
        obtain ⟨D9, hD⟩ : ∃ D9, wr.drew = D9 := ⟨_, rfl⟩
        have b : Below wr.heap.size wr D9 := by rw [← hD]; exact (Below.refl _ _).drew
        rw [hD]
        clear hD
        replace Zv := hid (Zv.out.now b)
        replace Ze := hid (Ze.out.now b)
        replace Pv := hid (Pv.out.step b)
        replace Pe := hid (Pe.out.step b)
        replace PRP := hid (PRP.out.step b)
        replace G := hid (below_step G.out b)
        have lz10 := (show Below _ _ _ from b).size
        clear b
        refine wpAnyX_take (i := 0) (oi := { dst := some 26, op := Op.load 24 (Operand.tmp 6), type := 24, pos := "outright.go:137", after := #[], guard := none }) (v := (.agg #[(.bool nv), (.slice adv xv.length cv)])) rfl (by kernel_rfl) (fun _ _ _ h => h) (Or.inl ⟨by rfl, ?_⟩) ⟨Pv.out.c0, Pv.out.c1, Pe.out.c0, Pe.out.c1⟩ ?_
        · intro w hSw
          (try dsimp only at hSw)
          go_simp
        simp only [Act.put, List.setIfInBounds_toArray, List.set_cons_zero, List.set_cons_succ]
        refine wpAnyX_take (i := 1) (oi := { dst := some 27, op := Op.load 24 (Operand.tmp 7), type := 24, pos := "outright.go:137", after := #[], guard := none }) (v := (.agg #[(.bool ne), (.slice ade xe.length qe)])) rfl (by kernel_rfl) (fun _ _ _ h => h) (Or.inl ⟨by rfl, ?_⟩) ⟨Pv.out.c0, Pv.out.c1, Pe.out.c0, Pe.out.c1⟩ ?_
        · intro w hSw
          (try dsimp only at hSw)
          go_simp
        simp only [Act.put, List.setIfInBounds_toArray, List.set_cons_zero, List.set_cons_succ]
        refine wpAnyX_pure (i := 2) (oi := { dst := some 28, op := Op.move (Operand.tmp 9), type := 2, pos := "outright.go:137", after := #[], guard := none }) (v := (.int .i64 D)) rfl (by kernel_rfl) (fun _ _ _ h => h) (Or.inl ⟨by rfl, ?_⟩)  ?_
        · intro w hSw
          (try dsimp only at hSw)
          go_simp
        simp only [Act.put, List.setIfInBounds_toArray, List.set_cons_zero, List.set_cons_succ]
        refine wpAnyX_one (i := 3) (o := { dst := some 29, op := Op.call { callee := Callee.value (Operand.func 23), args := #[Operand.tmp 28], argTypes := #[2] }, type := 24, pos := "outright.go:137", after := #[{ on := 2, ground := Ground.data }], guard := none }) (by kernel_rfl) rfl (fun K hK => ?_)
        go_simp
        go_at_call 23
        refine (of_z (n := D) hD1.1 hD1.2 _).mono ?_
        rintro e w11 ⟨r0, rfl, m0, b⟩
        obtain ⟨no, xo, ado, qo, rfl, -, -, -, -, -⟩ := id m0
        replace Zv := hid (Zv.out.now b)
        replace Ze := hid (Ze.out.now b)
        replace Pv := hid (Pv.out.step b)
        replace Pe := hid (Pe.out.step b)
        replace PRP := hid (PRP.out.step b)
        replace G := hid (below_step G.out b)
        have lz12 := (show Below _ _ _ from b).size
        have Zo := hid m0
        clear b m0
        refine hK.out _ _ (fun _ _ => ⟨Pv.out.c0, Pv.out.c1, Pe.out.c0, Pe.out.c1⟩) ?_
        clear hK
        refine wpAnyX_one (i := 4) (o := { dst := some 30, op := Op.call { callee := Callee.value (Operand.func 25), args := #[Operand.tmp 26, Operand.tmp 27, Operand.tmp 29], argTypes := #[24, 24, 24] }, type := 24, pos := "outright.go:137", after := #[{ on := 0, ground := Ground.data }, { on := 1, ground := Ground.data }, { on := 3, ground := Ground.data }, { on := 3, ground := Ground.chain }], guard := none }) (by kernel_rfl) rfl (fun K hK => ?_)
        go_simp
        go_at_call 25
        refine (mulAdd_z Zv.out.zi Ze.out Zo.out.zi (by omega) (by omega)).mono ?_
        rintro e w13 ⟨r0, rfl, m0, b⟩
        obtain ⟨nu, xu, adu, qu, rfl, -, -, -, -, -⟩ := id m0
        replace m0 := m0.fit FT.out
        replace Zv := hid (Zv.out.now b)
        replace Ze := hid (Ze.out.now b)
        replace Zo := hid (Zo.out.now b)
        replace Pv := hid (Pv.out.step b)
        replace Pe := hid (Pe.out.step b)
        replace PRP := hid (PRP.out.step b)
        replace G := hid (below_step G.out b)
        have lz14 := (show Below _ _ _ from b).size
        have Zu := hid m0
        clear b m0
        refine hK.out _ _ (fun _ _ => ⟨Pv.out.c0, Pv.out.c1, Pe.out.c0, Pe.out.c1⟩) ?_
        clear hK
        refine wpAnyX_one (i := 5) (o := { dst := none, op := Op.store 24 (Operand.tmp 6) (Operand.tmp 30), type := 0, pos := "outright.go:137", after := #[{ on := 4, ground := Ground.data }, { on := 4, ground := Ground.chain }, { on := 0, ground := Ground.phase }, { on := 1, ground := Ground.phase }, { on := 2, ground := Ground.phase }, { on := 3, ground := Ground.phase }, { on := 4, ground := Ground.phase }], guard := none }) (by kernel_rfl) rfl (fun K hK => ?_)
        have cv0 := Pv.out.c0
        have cv1 := Pv.out.c1
        have fv0 := Pv.out.fz 0
        have fv1 := Pv.out.fz 1
        go_simp
        clear cv0 cv1 fv0 fv1
        obtain ⟨V15, hW⟩ : ∃ V15, (w13.setCell ⟨w1.heap.size, 0, none⟩ (.bool nu)).setCell ⟨w1.heap.size, 1, none⟩ (.slice adu xu.length qu) = V15 := ⟨_, rfl⟩
        replace Zv := hid ((Zv.out).box (Pv.out) (.bool nu) (.slice adu xu.length qu))
        replace Ze := hid ((Ze.out).wk ((Pv.out).wk (.bool nu) (.slice adu xu.length qu)))
        replace Zo := hid ((Zo.out).box (Pv.out) (.bool nu) (.slice adu xu.length qu))
        replace Zu := hid ((Zu.out).box (Pv.out) (.bool nu) (.slice adu xu.length qu))
        replace Pv := hid ((Pv.out).set (.bool nu) (.slice adu xu.length qu))
        replace Pe := hid ((Pe.out).box (b' := w1.heap.size) (by omega) (.bool nu) (.slice adu xu.length qu))
        replace PRP := hid ((PRP.out).box (b' := w1.heap.size) (by omega) (.bool nu) (.slice adu xu.length qu))
        replace G : Hid (Below w.heap.size w (((w13.setCell ⟨w1.heap.size, 0, none⟩ (.bool nu)).setCell ⟨w1.heap.size, 1, none⟩ (.slice adu xu.length qu)))) := bset (bset (G.out) (by omega)) (by omega)
        have sz15 : V15.heap.size = w13.heap.size := by rw [← hW]; simp
        rw [hW] at Zv Ze Zo Zu Pv Pe PRP G
        rw [hW]
        clear hW
        refine hK.out _ _ (fun h => absurd h (by decide)) ?_
        clear hK
        try simp only [Act.put]
        refine wpAnyX_done (by kernel_rfl) ?_ _
        rw [E1.out] at Zu
        have HN : Hid (WrH w d (n - t) t (w.heap.size) (w1.heap.size) (w5.heap.size) (.bool ne) (.slice ade xe.length qe) (n - t - (j + 1)) (.int .i64 ((i + 1 : Nat) : Int)) V15) := ⟨i + 1, j + 1, _, _, rfl, (by have := HI.out; omega), by omega, rfl, G1.out, Zu.out.mono (by omega), Pv.out, Pe.out, Ze.out, PRP.out, G.out⟩
        have HM : Hid (n - t - (j + 1) < gk) := by unfold Hid; rw [HG.out]; omega
        clear Zu Pv Pe Ze PRP G
        go_wp2_with fail
        go_roundg (n - t - (j + 1))
        case rel => exact HN.out
        case measure => exact HM.out
      · skip
        have NG := hid (HBD.out hdv)
        have hD : dgt c = -1 := dgt_bad hdv
        rw [hD]
        have hD0 : (-1 : Int) < 0 := by decide
        clear hD hdv HST HBD HFT
        have cv0 := Pv.out.c0
        have cv1 := Pv.out.c1
        have cRP0 := PRP.out.c0
        have cRP1 := PRP.out.c1
        have fRP0 := PRP.out.fz 0
        have fRP1 := PRP.out.fz 1
        go_wp2
        exact bodyPost_ret (zback1 Tryd.results14 (PRP.out.set _ _) _ (by rfl) (by rfl)) rfl (.inr ⟨NG.out, _, _, _, rfl, Zv.out.box PRP.out _ _, bset (bset G.out (by omega)) (by omega)⟩)
    · skip
      have hjn : j = d.length := by omega
      have hlt' : ¬ (i : Int) < (s.size : Int) := by omega
      have et : d.take j = d := by rw [hjn]; exact List.take_length
      rw [et] at GD
      have EV : Hid (hv d j = ((ofD 10 (dsL d) : Nat) : Int)) := by unfold Hid hv; rw [et]
      rw [EV.out] at Zv
      replace Zv := hid (Zv.out.more (l := n + 1) (by omega))
      clear EV et hjn hi
      have cv0 := Pv.out.c0
      have cv1 := Pv.out.c1
      have cRP0 := PRP.out.c0
      have cRP1 := PRP.out.c1
      have fRP0 := PRP.out.fz 0
      have fRP1 := PRP.out.fz 1
      by_cases hB : t < n
      · skip
        have hB' : (t : Int) < (s.size : Int) := by omega
        have hBd : decide (t < n) = true := decide_eq_true hB
        have HBd := hid hBd
        clear hBd
        go_wp2
        exact bodyPost_ret (zback1 Tryd.results14 (PRP.out.set _ _) _ (by rfl) (by rfl)) rfl (.inl ⟨GD.out, _, (by first | rfl | (rw [HBd.out]; rfl)), Zv.out.box PRP.out _ _, bset (bset G.out (by omega)) (by omega)⟩)
      · skip
        have hB' : ¬ (t : Int) < (s.size : Int) := by omega
        have hBd : decide (t < n) = false := decide_eq_false hB
        have HBd := hid hBd
        clear hBd
        go_wp2
        exact bodyPost_ret (zback1 Tryd.results14 (PRP.out.set _ _) _ (by rfl) (by rfl)) rfl (.inl ⟨GD.out, _, (by first | rfl | (rw [HBd.out]; rfl)), Zv.out.box PRP.out _ _, bset (bset G.out (by omega)) (by omega)⟩)
end Go.Proofs.YtpnekeapbpkioaaDoor
