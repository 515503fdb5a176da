/-
  QTurn10ToRingP10: Turn10, Trace9, TurnP9, RingP10, joined.
-/
import Derived.Test.YtachdicdfhfoaaaQCopy10
import Derived.Test.YtachdicdfhfoaaaQTurn9
import Derived.Test.YtachdicdfhfoaaaQOf10ToTy9
import Derived.Test.YtachdicdfhfoaaaQDense10
import Derived.Test.YtachdicdfhfoaaaQMul10
import Derived.Test.YtachdicdfhfoaaaQChkN9ToLeastA9

/- Turn10 -/
namespace Go.Proofs.Ytachdicdfhfoaaa
open Go.RowKit Go.ChangeMaps Go.MapKept
set_option linter.unusedVariables false

/-- What holds within the loop. -/
def Hypturn_any (w : World) (g' b' it bm n r c k : Nat) (f : Nat × Nat → Option Value) (F : Nat → Nat → Int) (gk : Nat) (wx : World) : Prop :=
  ∃ left, Rg spv spok wx bm it f n left gk ∧ Gq wx g' b' c r (fun i j => lft left F j i) k ∧ Nm wx f F k ∧ Below w.heap.size w wx
set_option maxHeartbeats 3200000 in
set_option maxRecDepth 100000 in
theorem turn_any {w : World} {g bm r c k : Nat} {F : Nat → Nat → Int} (h : Gq w g bm r c F k) : Calls Try.prog 21 #[.pointer (some ⟨g, 0, none⟩)] w (MadeG w c r (fun i j => F j i) k) := by
  obtain ⟨f, n, hg, hm, hf, hw⟩ := h
  have x0 := hg.1.at (i := 0) rfl
  have x1 := hg.1.at (i := 1) rfl
  have HG := hid hg
  have HM := hid hm
  have HF := hid hf
  have HWI := hid hw
  have HRC := hid hg.2
  clear hg hm hf hw
  go_enter Try.func21, Try.ntmps21
  go_wp2_with fail
  have KB : Hid (∀ w', Below w.heap.size w w' → w'.cell? ⟨g, 1, none⟩ = some (.int .i64 (c : Int)) ∧ w'.cell? ⟨g, 0, none⟩ = some (.int .i64 (r : Int))) := fun w' h => ⟨cnow h x1, cnow h x0⟩
  refine wp_region_tail (fun w' => w'.cell? ⟨g, 1, none⟩ = some (.int .i64 (c : Int)) ∧ w'.cell? ⟨g, 0, none⟩ = some (.int .i64 (r : Int))) 9 (by kernel_rfl) ?_
  obtain ⟨D1, hD⟩ : ∃ D1, w.drew = D1 := ⟨_, rfl⟩
  have GB : Hid (Below w.heap.size w D1) := by unfold Hid; rw [← hD]; exact (Below.refl _ _).drew
  rw [hD]
  clear hD
  have hD0 := (show Below _ _ _ from GB.out).size
  refine wpAnyT_take (i := 0) (oi := { dst := some 8, op := Op.move (Operand.tmp 0), type := 27, pos := "whole.go:49", after := #[], guard := none }) (v := (.pointer (some ⟨g, 0, none⟩))) rfl (by kernel_rfl) (fun _ _ _ h => h) (Or.inl ⟨by rfl, ?_⟩) (KB.out _ GB.out) ?_
  · intro w hSw
    (try dsimp only at hSw)
    go_simp
  simp only [Act.put, List.setIfInBounds_toArray, List.set_cons_zero, List.set_cons_succ]
  refine wpAnyT_take (i := 1) (oi := { dst := some 9, op := Op.nilCheck (Operand.tmp 8), type := 0, pos := "whole.go:49", after := #[{ on := 0, ground := Ground.data }], guard := none }) (v := (.pointer (some ⟨g, 0, none⟩))) rfl (by kernel_rfl) (fun _ _ _ h => h) (Or.inl ⟨by rfl, ?_⟩) (KB.out _ GB.out) ?_
  · intro w hSw
    (try dsimp only at hSw)
    go_simp
  simp only [Act.put, List.setIfInBounds_toArray, List.set_cons_zero, List.set_cons_succ]
  refine wpAnyT_take (i := 2) (oi := { dst := some 10, op := Op.fieldAddr 68 (Operand.tmp 9) 1, type := 0, pos := "whole.go:49", after := #[{ on := 1, ground := Ground.data }], guard := none }) (v := (.pointer (some ⟨g, 1, none⟩))) rfl (by kernel_rfl) (fun _ _ _ h => h) (Or.inl ⟨by rfl, ?_⟩) (KB.out _ GB.out) ?_
  · intro w hSw
    (try dsimp only at hSw)
    go_simp
  simp only [Act.put, List.setIfInBounds_toArray, List.set_cons_zero, List.set_cons_succ]
  refine wpAnyT_take (i := 3) (oi := { dst := some 11, op := Op.load 3 (Operand.tmp 10), type := 3, pos := "whole.go:49", after := #[{ on := 2, ground := Ground.data }], guard := none }) (v := (.int .i64 (c : Int))) rfl (by kernel_rfl) (fun _ _ _ h => h) (Or.inl ⟨by rfl, ?_⟩) (KB.out _ GB.out) ?_
  · intro w hSw
    (try dsimp only at hSw)
    go_simp
  simp only [Act.put, List.setIfInBounds_toArray, List.set_cons_zero, List.set_cons_succ]
  refine wpAnyT_take (i := 4) (oi := { dst := some 12, op := Op.move (Operand.tmp 0), type := 27, pos := "whole.go:49", after := #[], guard := none }) (v := (.pointer (some ⟨g, 0, none⟩))) rfl (by kernel_rfl) (fun _ _ _ h => h) (Or.inl ⟨by rfl, ?_⟩) (KB.out _ GB.out) ?_
  · intro w hSw
    (try dsimp only at hSw)
    go_simp
  simp only [Act.put, List.setIfInBounds_toArray, List.set_cons_zero, List.set_cons_succ]
  refine wpAnyT_take (i := 5) (oi := { dst := some 13, op := Op.nilCheck (Operand.tmp 12), type := 0, pos := "whole.go:49", after := #[{ on := 4, ground := Ground.data }], guard := none }) (v := (.pointer (some ⟨g, 0, none⟩))) rfl (by kernel_rfl) (fun _ _ _ h => h) (Or.inl ⟨by rfl, ?_⟩) (KB.out _ GB.out) ?_
  · intro w hSw
    (try dsimp only at hSw)
    go_simp
  simp only [Act.put, List.setIfInBounds_toArray, List.set_cons_zero, List.set_cons_succ]
  refine wpAnyT_take (i := 6) (oi := { dst := some 14, op := Op.fieldAddr 68 (Operand.tmp 13) 0, type := 0, pos := "whole.go:49", after := #[{ on := 5, ground := Ground.data }], guard := none }) (v := (.pointer (some ⟨g, 0, none⟩))) rfl (by kernel_rfl) (fun _ _ _ h => h) (Or.inl ⟨by rfl, ?_⟩) (KB.out _ GB.out) ?_
  · intro w hSw
    (try dsimp only at hSw)
    go_simp
  simp only [Act.put, List.setIfInBounds_toArray, List.set_cons_zero, List.set_cons_succ]
  refine wpAnyT_take (i := 7) (oi := { dst := some 15, op := Op.load 3 (Operand.tmp 14), type := 3, pos := "whole.go:49", after := #[{ on := 6, ground := Ground.data }], guard := none }) (v := (.int .i64 (r : Int))) rfl (by kernel_rfl) (fun _ _ _ h => h) (Or.inl ⟨by rfl, ?_⟩) (KB.out _ GB.out) ?_
  · intro w hSw
    (try dsimp only at hSw)
    go_simp
  simp only [Act.put, List.setIfInBounds_toArray, List.set_cons_zero, List.set_cons_succ]
  refine wpAnyT_one (i := 8) (o := { dst := some 16, op := Op.call { callee := Callee.value (Operand.func 32), args := #[Operand.tmp 11, Operand.tmp 15], argTypes := #[3, 3] }, type := 27, pos := "whole.go:49", after := #[{ on := 3, ground := Ground.data }, { on := 7, ground := Ground.data }], guard := none }) (by kernel_rfl) rfl (fun K hK => ?_)
  go_simp
  go_at_call 32
  refine (empty_any (w := D1) (r := c) (c := r) HRC.out.2 HRC.out.1).mono ?_
  rintro e w2 ⟨g', b', rfl, hg, hm, hgg, hbb, b⟩
  have lz2 := (show Below _ _ _ from b).size
  replace GB := hid (below_step GB.out b)
  have EG := hid hg
  have EM := hid hm
  have EB : Hid (w.heap.size ≤ g' ∧ w.heap.size ≤ b') := ⟨by omega, by omega⟩
  clear hg hm hgg hbb hD0
  clear b
  refine hK.out _ _ (fun _ => KB.out _ GB.out) ?_
  clear hK
  refine wpAnyT_one (i := 9) (o := { dst := some 3, op := Op.assign (Operand.tmp 16), type := 27, pos := "whole.go:49", after := #[{ on := 8, ground := Ground.data }, { on := 8, ground := Ground.chain }, { on := 0, ground := Ground.phase }, { on := 1, ground := Ground.phase }, { on := 2, ground := Ground.phase }, { on := 3, ground := Ground.phase }, { on := 4, ground := Ground.phase }, { on := 5, ground := Ground.phase }, { on := 6, ground := Ground.phase }, { on := 7, ground := Ground.phase }, { on := 8, ground := Ground.phase }], guard := none }) (by kernel_rfl) rfl (fun K hK => ?_)
  go_simp
  refine hK.out _ _ (fun h => absurd h (by decide)) ?_
  clear hK
  try simp only [Act.put]
  refine wpAnyT_done (by kernel_rfl) ?_ _
  have G := hid GB.out
  have x2 := (HG.out.now GB.out).1.at (i := 2) rfl
  have HM1 := hid (HM.out.now GB.out)
  have HF1 := hid (HF.out.now GB.out)
  have hbl : bm < w.heap.size := HM.out.lt
  have HBL := hid hbl
  clear GB KB HG HM HF x0 x1 hbl
  go_wp2_with (first | (at_range; refine wpList_range10 _ rfl _ _ rfl _ _ ks10 Try.map10 bm n f rfl HM1.out ?_; intro w4 hrg hbw hsz) | go_in)
  go_frame
  have H0 : Hid (Hypturn_any w g' b' w2.heap.size bm n r c k f F n w4) :=
    ⟨_, hrg, (Gq.empty (EG.out.now hbw) (EM.out.now hbw)).ext (fun i j => lft_start HF1.out j i), HF1.out.now hbw, below_step G.out hbw⟩
  have HIT : Hid (w.heap.size ≤ w2.heap.size) := G.out.size
  obtain ⟨it, hit⟩ : ∃ it, w2.heap.size = it := ⟨_, rfl⟩
  rw [hit] at H0 HIT ⊢
  have HBT : Hid (b' ≠ it) := fun e => by have := EM.out.lt; omega
  clear hrg hbw hsz hit HM1 HF1 G EG EM x2
  go_loopg [4] n (fun gk s4 wx => Hypturn_any w g' b' it bm n r c k f F gk wx)
  case atStart => exact H0.out
  case round =>
    clear H0
    obtain ⟨left, hrg, hgq, hnf, hG⟩ := hrel
    have RG := hid hrg
    have GQ := hid hgq
    have NF := hid hnf
    have G := hid hG
    clear hrg hgq hnf hG
    go_wp2_with (first | (at_next; refine wpList_next10 _ rfl _ rfl _ ks10 bm it n f left gk rfl RG.out ?_ ?_) | go_in)
    · intro hl
      have FIN : Hid (MadeG w c r (fun i j => F j i) k (.returned (.pointer (some ⟨g', 0, none⟩))) wr) := ⟨_, _, rfl, GQ.out.ext (fun i j => lft_end hl.out j i), EB.out.1, EB.out.2, G.out⟩
      clear RG GQ NF G hl
      go_wp2
      go_ret
      exact FIN.out
    · intro i j v w5 cnt hca hen
      obtain ⟨hok, hfs, hls, hrg, hlt, hgr, hsz⟩ := hca.out
      clear hca
      have hcl := RG.out.cl hgr
      obtain ⟨hne0, zm⟩ := (NF.out.cl hcl).at hfs
      obtain ⟨m, xs, a, c0, rfl, -⟩ := id zm
      have RG1 := hid hrg
      have GQ1 := hid (GQ.out.kept hgr hcl HBT.out)
      have NF1 := hid (NF.out.cl hcl)
      have G1 := hid (below_grown G.out hgr HIT.out)
      have ZM := hid zm
      have HN0 := hid hne0
      have HLS := hid hls
      have HOK := hid hok
      have HWS := hid (HWI.out (i, j) _ hfs)
      have HLT := hid hlt
      clear zm hne0 hls hok hfs hrg hgr hsz hcl RG GQ NF G hlt
      -- the round's boxes
      obtain ⟨V6, hV⟩ : ∃ V6, (w5.alloc (.cells #[.int .i64 (i : Int), .int .i64 (j : Int)] 71)).alloc (duo (.bool m) (.slice a xs.length c0)) = V6 := ⟨_, rfl⟩
      obtain ⟨b6, sz6⟩ := alloc2 w5 (.cells #[.int .i64 (i : Int), .int .i64 (j : Int)] 71) (duo (.bool m) (.slice a xs.length c0))
      rw [hV] at b6 sz6
      have PS : Cel V6 w5.heap.size 71 [.int .i64 (i : Int), .int .i64 (j : Int)] := by
        rw [← hV]
        exact (Cel.new w5 71 [.int .i64 (i : Int), .int .i64 (j : Int)]).step ((Below.refl _ _).alloc (Nat.le_refl _) _)
      have PV : Duo V6 (w5.heap.size + 1) (.bool m) (.slice a xs.length c0) := by
        rw [← hV]
        have := heap_alloc_new (w5.alloc (.cells #[.int .i64 (i : Int), .int .i64 (j : Int)] 71)) (duo (.bool m) (.slice a xs.length c0))
        simpa [Duo] using this
      have RG2 := hid (RG1.out.now b6)
      have GQ2 := hid (GQ1.out.now b6)
      have NF2 := hid (NF1.out.now b6)
      have G2 := hid (below_step G1.out b6)
      have ZM2 := hid (ZM.out.now b6)
      have EV := hid hV
      have s0 := PS.at (i := 0) rfl
      have s1 := PS.at (i := 1) rfl
      have v0 := PV.c0
      have v1 := PV.c1
      have y2 := GQ2.out.gd.1.at (i := 2) rfl
      simp only [spv] at hen ⊢
      clear hV b6 sz6 RG1 GQ1 NF1 G1 ZM PS PV
      go_wp2_with fail
      rw [EV.out]
      clear hen EV
      have KB : Hid (∀ w', Below V6.heap.size V6 w' → w'.cell? ⟨g', 2, none⟩ = some (.map (some b')) ∧ w'.cell? ⟨w5.heap.size, 0, none⟩ = some (.int .i64 (i : Int)) ∧ w'.cell? ⟨w5.heap.size, 1, none⟩ = some (.int .i64 (j : Int)) ∧ w'.cell? ⟨w5.heap.size + 1, 0, none⟩ = some (.bool m) ∧ w'.cell? ⟨w5.heap.size + 1, 1, none⟩ = some (.slice a xs.length c0)) := fun w' h => ⟨cnow h y2, cnow h s0, cnow h s1, cnow h v0, cnow h v1⟩
      refine wp_region_tail (fun w' => w'.cell? ⟨g', 2, none⟩ = some (.map (some b')) ∧ w'.cell? ⟨w5.heap.size, 0, none⟩ = some (.int .i64 (i : Int)) ∧ w'.cell? ⟨w5.heap.size, 1, none⟩ = some (.int .i64 (j : Int)) ∧ w'.cell? ⟨w5.heap.size + 1, 0, none⟩ = some (.bool m) ∧ w'.cell? ⟨w5.heap.size + 1, 1, none⟩ = some (.slice a xs.length c0)) 11 (by kernel_rfl) ?_
      obtain ⟨D1, hD⟩ : ∃ D1, V6.drew = D1 := ⟨_, rfl⟩
      have GB : Hid (Below V6.heap.size V6 D1) := by unfold Hid; rw [← hD]; exact (Below.refl _ _).drew
      rw [hD]
      clear hD
      refine wpAnyT_take (i := 0) (oi := { dst := some 27, op := Op.move (Operand.tmp 3), type := 27, pos := "whole.go:51", after := #[], guard := none }) (v := (.pointer (some ⟨g', 0, none⟩))) rfl (by kernel_rfl) (fun _ _ _ h => h) (Or.inl ⟨by rfl, ?_⟩) (KB.out _ GB.out) ?_
      · intro w hSw
        (try dsimp only at hSw)
        go_simp
      simp only [Act.put, List.setIfInBounds_toArray, List.set_cons_zero, List.set_cons_succ]
      refine wpAnyT_take (i := 1) (oi := { dst := some 28, op := Op.nilCheck (Operand.tmp 27), type := 0, pos := "whole.go:51", after := #[{ on := 0, ground := Ground.data }], guard := none }) (v := (.pointer (some ⟨g', 0, none⟩))) rfl (by kernel_rfl) (fun _ _ _ h => h) (Or.inl ⟨by rfl, ?_⟩) (KB.out _ GB.out) ?_
      · intro w hSw
        (try dsimp only at hSw)
        go_simp
      simp only [Act.put, List.setIfInBounds_toArray, List.set_cons_zero, List.set_cons_succ]
      refine wpAnyT_take (i := 2) (oi := { dst := some 29, op := Op.fieldAddr 68 (Operand.tmp 28) 2, type := 0, pos := "whole.go:51", after := #[{ on := 1, ground := Ground.data }], guard := none }) (v := (.pointer (some ⟨g', 2, none⟩))) rfl (by kernel_rfl) (fun _ _ _ h => h) (Or.inl ⟨by rfl, ?_⟩) (KB.out _ GB.out) ?_
      · intro w hSw
        (try dsimp only at hSw)
        go_simp
      simp only [Act.put, List.setIfInBounds_toArray, List.set_cons_zero, List.set_cons_succ]
      refine wpAnyT_take (i := 3) (oi := { dst := some 30, op := Op.load 66 (Operand.tmp 29), type := 66, pos := "whole.go:51", after := #[{ on := 2, ground := Ground.data }], guard := none }) (v := (.map (some b'))) rfl (by kernel_rfl) (fun _ _ _ h => h) (Or.inl ⟨by rfl, ?_⟩) (KB.out _ GB.out) ?_
      · intro w hSw
        (try dsimp only at hSw)
        go_simp
      simp only [Act.put, List.setIfInBounds_toArray, List.set_cons_zero, List.set_cons_succ]
      refine wpAnyT_take (i := 4) (oi := { dst := some 31, op := Op.fieldAddr 71 (Operand.tmp 4) 1, type := 0, pos := "whole.go:51", after := #[], guard := none }) (v := (.pointer (some ⟨w5.heap.size, 1, none⟩))) rfl (by kernel_rfl) (fun _ _ _ h => h) (Or.inl ⟨by rfl, ?_⟩) (KB.out _ GB.out) ?_
      · intro w hSw
        (try dsimp only at hSw)
        go_simp
      simp only [Act.put, List.setIfInBounds_toArray, List.set_cons_zero, List.set_cons_succ]
      refine wpAnyT_take (i := 5) (oi := { dst := some 32, op := Op.load 3 (Operand.tmp 31), type := 3, pos := "whole.go:51", after := #[{ on := 4, ground := Ground.data }], guard := none }) (v := (.int .i64 (j : Int))) rfl (by kernel_rfl) (fun _ _ _ h => h) (Or.inl ⟨by rfl, ?_⟩) (KB.out _ GB.out) ?_
      · intro w hSw
        (try dsimp only at hSw)
        go_simp
      simp only [Act.put, List.setIfInBounds_toArray, List.set_cons_zero, List.set_cons_succ]
      refine wpAnyT_take (i := 6) (oi := { dst := some 33, op := Op.fieldAddr 71 (Operand.tmp 4) 0, type := 0, pos := "whole.go:51", after := #[], guard := none }) (v := (.pointer (some ⟨w5.heap.size, 0, none⟩))) rfl (by kernel_rfl) (fun _ _ _ h => h) (Or.inl ⟨by rfl, ?_⟩) (KB.out _ GB.out) ?_
      · intro w hSw
        (try dsimp only at hSw)
        go_simp
      simp only [Act.put, List.setIfInBounds_toArray, List.set_cons_zero, List.set_cons_succ]
      refine wpAnyT_take (i := 7) (oi := { dst := some 34, op := Op.load 3 (Operand.tmp 33), type := 3, pos := "whole.go:51", after := #[{ on := 6, ground := Ground.data }], guard := none }) (v := (.int .i64 (i : Int))) rfl (by kernel_rfl) (fun _ _ _ h => h) (Or.inl ⟨by rfl, ?_⟩) (KB.out _ GB.out) ?_
      · intro w hSw
        (try dsimp only at hSw)
        go_simp
      simp only [Act.put, List.setIfInBounds_toArray, List.set_cons_zero, List.set_cons_succ]
      refine wpAnyT_take (i := 8) (oi := { dst := some 35, op := Op.build 71 #[(0, Operand.tmp 32), (1, Operand.tmp 34)], type := 71, pos := "whole.go:51", after := #[{ on := 5, ground := Ground.data }, { on := 7, ground := Ground.data }], guard := none }) (v := (.agg #[.int .i64 (j : Int), .int .i64 (i : Int)])) rfl (by kernel_rfl) (fun _ _ _ h => h) (Or.inl ⟨by rfl, ?_⟩) (KB.out _ GB.out) ?_
      · intro w hSw
        (try dsimp only at hSw)
        go_simp
      simp only [Act.put, List.setIfInBounds_toArray, List.set_cons_zero, List.set_cons_succ]
      refine wpAnyT_take (i := 9) (oi := { dst := some 36, op := Op.load 35 (Operand.tmp 5), type := 35, pos := "whole.go:51", after := #[], guard := none }) (v := (.agg #[.bool m, .slice a xs.length c0])) rfl (by kernel_rfl) (fun _ _ _ h => h) (Or.inl ⟨by rfl, ?_⟩) (KB.out _ GB.out) ?_
      · intro w hSw
        (try dsimp only at hSw)
        go_simp
      simp only [Act.put, List.setIfInBounds_toArray, List.set_cons_zero, List.set_cons_succ]
      refine wpAnyT_one (i := 10) (o := { dst := some 37, op := Op.call { callee := Callee.value (Operand.func 34), args := #[Operand.tmp 36], argTypes := #[35] }, type := 35, pos := "whole.go:51", after := #[{ on := 9, ground := Ground.data }], guard := none }) (by kernel_rfl) rfl (fun K hK => ?_)
      go_simp
      go_at_call 34
      refine (least_z (ZM2.out.zi.now GB.out)).mono ?_
      rintro e w2 ⟨v, rfl, m1, b⟩
      have lz2 := (show Below _ _ _ from b).size
      replace GB := hid (below_step GB.out b)
      have M1 := hid m1
      clear m1
      clear b
      refine hK.out _ _ (fun _ => KB.out _ GB.out) ?_
      clear hK
      refine wpAnyT_one (i := 11) (o := { dst := none, op := Op.mapUpdate 66 (Operand.tmp 30) (Operand.tmp 35) (Operand.tmp 37), type := 0, pos := "whole.go:51", after := #[{ on := 3, ground := Ground.data }, { on := 8, ground := Ground.data }, { on := 10, ground := Ground.data }, { on := 10, ground := Ground.chain }, { on := 0, ground := Ground.phase }, { on := 1, ground := Ground.phase }, { on := 2, ground := Ground.phase }, { on := 3, ground := Ground.phase }, { on := 4, ground := Ground.phase }, { on := 5, ground := Ground.phase }, { on := 6, ground := Ground.phase }, { on := 7, ground := Ground.phase }, { on := 8, ground := Ground.phase }, { on := 9, ground := Ground.phase }, { on := 10, ground := Ground.phase }], guard := none }) (by kernel_rfl) rfl (fun K hK => ?_)
      obtain ⟨f', n', hg3, hm3, hf3, hw3⟩ := GQ2.out.now GB.out
      obtain ⟨wz, hrun, q1, q2, q3⟩ := hm3.store (s := (j, i)) ks10 Try.map10 (wide_room hg3.2.1 hg3.2.2 (hm3.count2 hw3)) ⟨HOK.out.2, HOK.out.1⟩ v
      simp only [spv] at hrun
      have RG3 := hid ((RG2.out.now GB.out).kept q2 (fun e => by have := EB.out.2; have := HBL.out; simp at e; omega) (fun e => HBT.out (by simpa using e.symm)))
      have GQ3 : Hid (Gq wz g' b' c r _ k) := Gq.put hg3 hm3 hf3 hw3 (M1.out.mono (Nat.zero_le _)) (s := (j, i)) HWS.out.2 HWS.out.1 (by rw [if_neg HN0.out]; exact q1) q2
      have NF3 := hid ((NF2.out.now GB.out).cl (hm3.cl q2))
      have G3 := hid (below_grown (below_step G2.out GB.out) q2 EB.out.2)
      clear q1 q2 q3 hg3 hm3 hf3 hw3
      go_simp
      clear hrun
      refine hK.out _ _ (fun h => absurd h (by decide)) ?_
      clear hK
      try simp only [Act.put]
      refine wpAnyT_done (by kernel_rfl) ?_ _
      have HN1 : Hid (Hypturn_any w g' b' it bm n r c k f F cnt wz) := ⟨_, RG3.out, GQ3.out.ext (fun i' j' => by
        have := lft_step HLS.out j' i' (F := F)
        rw [← this]
        unfold setF
        by_cases e : (i', j') = (j, i)
        · simp only [Prod.mk.injEq] at e; obtain ⟨rfl, rfl⟩ := e; simp
        · have e' : ¬ (j', i') = (i, j) := fun q => e (by simp only [Prod.mk.injEq] at q ⊢; exact ⟨q.2, q.1⟩)
          simp [e, e']), NF3.out, G3.out⟩
      clear RG2 GQ2 NF2 G2 ZM2 M1 GB KB s0 s1 v0 v1 y2 RG3 GQ3 NF3 G3
      go_wp2_with fail
      go_roundg cnt
      case rel => exact HN1.out
      case measure => exact HLT.out
end Go.Proofs.Ytachdicdfhfoaaa

/- Trace9 -/
namespace Go.Proofs.Ytachdicdfhfoaaa
open Go.RowKit
set_option linter.unusedVariables false

theorem mat_int_boxes {w W0 : World} {o1 : List Value} (hW : (w.alloc (.cells o1.toArray 24)).alloc zbox = W0) :
    Cel W0 w.heap.size 24 o1 ∧ Duo W0 (w.heap.size + 1) (.bool false) (.slice none 0 0) := by
  refine ⟨?_, ?_⟩
  · rw [← hW]
    exact (Cel.new w 24 o1).step ((Below.refl _ _).alloc (Nat.le_refl _) _)
  · rw [← hW]
    have := Duo.new (w.alloc (.cells o1.toArray 24)) (.bool false) (.slice none 0 0)
    simpa using this
def diagL {α : Type} (n : Nat) (ps : List α) (z : α) (i : Nat) : List α := (List.range i).map fun t => ps.getD (t * n + t) z
theorem diagL_succ {α : Type} {n i : Nat} {ps : List α} {z : α} : diagL n ps z (i + 1) = diagL n ps z i ++ [ps.getD (i * n + i) z] := by simp [diagL, List.range_succ]
theorem diagL_length {α : Type} {n i : Nat} {ps : List α} {z : α} : (diagL n ps z i).length = i := by simp [diagL]
def traceL (n : Nat) (zs : List Int) : Int := zsum (diagL n zs 0 n)
theorem zis_diag {w : World} {ps : List (Value × Value)} {zs : List Int} {k n : Nat} (h : Zis w ps zs k) (hl : zs.length = n * n) : Zis w (diagL n ps zpair n) (diagL n zs 0 n) k := by
  refine ⟨by simp [diagL_length], fun t p z hp hz => ?_⟩
  have ht : t < n := by simpa [diagL] using (List.getElem?_eq_some_iff.1 hp).1
  have h7 : t * n + t < zs.length := by rw [hl]; exact place_lt ht ht
  have h8 : t * n + t < ps.length := by rw [h.1]; exact h7
  have e3 : p = ps[t * n + t] := by simp [diagL, ht, h8] at hp; exact hp.symm
  have e4 : z = zs[t * n + t] := by simp [diagL, ht, h7] at hz; exact hz.symm
  rw [e3, e4]
  exact h.2 _ _ _ (List.getElem?_eq_getElem h8) (List.getElem?_eq_getElem h7)
def TraceH (w2 : World) (n : Nat) (ps : List (Value × Value)) (gk : Nat) (s5 s17 : Value) (wx : World) : Prop := ∃ i : Nat, s17 = .int .i64 (i : Int) ∧ i ≤ n ∧ gk = n - i ∧ OwnP w2.heap.size wx s5 (diagL n ps zpair i) ∧ Below w2.heap.size w2 wx
end Go.Proofs.Ytachdicdfhfoaaa

/- TurnP9 -/
namespace Go.Proofs.Ytachdicdfhfoaaa
set_option linter.unusedVariables false

theorem turn_at {r c i j : Nat} {zs : List Int} (hi : i < r) (hj : j < c) : (turnL9 r c zs).getD (j * r + i) 0 = zs.getD (i * c + j) 0 := by
  unfold turnL9
  rw [flat_getD hi cols_len (by simp [colsL]; exact hj)]
  have e1 : (colsL r c zs 0).getD j [] = colL c zs 0 r j := by simp [colsL, hj]
  rw [e1]
  simp [colL, hi]
theorem turn_turn {r c : Nat} {zs : List Int} (hl : zs.length = r * c) : turnL9 c r (turnL9 r c zs) = zs := by
  refine mat_ext (r := r) (c := c) turnL9_length hl (fun i j hi hj => ?_)
  rw [turn_at hj hi, turn_at hi hj]
theorem turn_prod {r m c : Nat} {xs ys : List Int} (hx : xs.length = r * m) : turnL9 r c (prodL r m c xs ys) = prodL c m r (turnL9 m c ys) (turnL9 r m xs) := by
  refine mat_ext (r := c) (c := r) turnL9_length prodL_length (fun j i hj hi => ?_)
  rw [turn_at hi hj, prod_at hx hi hj, prod_at turnL9_length hj hi]
  refine sumN_congr (fun t ht => ?_)
  rw [turn_at ht hj, turn_at hi ht, Int.mul_comm]
theorem trace_sum {n : Nat} {zs : List Int} : traceL n zs = sumN n (fun t => zs.getD (t * n + t) 0) := rfl
theorem trace_prod {r m : Nat} {xs ys : List Int} (hx : xs.length = r * m) (hy : ys.length = m * r) : traceL r (prodL r m r xs ys) = traceL m (prodL m r m ys xs) := by
  rw [trace_sum, trace_sum, sumN_congr (fun i hi => prod_at hx hi hi), sumN_congr (fun t ht => prod_at hy ht ht), sumN_swap]
  exact sumN_congr (fun t _ => sumN_congr (fun i _ => Int.mul_comm _ _))
end Go.Proofs.Ytachdicdfhfoaaa

/- RingP10 -/
namespace Go.Proofs.Ytachdicdfhfoaaa
open Go.RowKit Go.ChangeMaps Go.MapKept
set_option linter.unusedVariables false

theorem dn_at {r c i j : Nat} {F : Nat → Nat → Int} (hi : i < r) (hj : j < c) : (dnL r c F).getD (i * c + j) 0 = F i j := by
  have hc : 0 < c := by omega
  have e1 : (i * c + j) / c = i := by rw [Nat.mul_comm, Nat.mul_add_div hc, Nat.div_eq_of_lt hj]; rfl
  have e3 : (i * c + j) % c = j := by rw [Nat.mul_comm, Nat.mul_add_mod, Nat.mod_eq_of_lt hj]
  have hl : i * c + j < (dnL r c F).length := by rw [dnL_length]; exact place_lt hi hj
  rw [List.getD_eq_getElem?_getD, List.getElem?_eq_getElem hl]
  simp [dnL, e1, e3]
theorem of_at {r c i j : Nat} {zs : List Int} (hi : i < r) (hj : j < c) : ofF c zs (r * c) i j = zs.getD (i * c + j) 0 := by
  unfold ofF
  rw [if_pos ⟨hj, place_lt hi hj⟩]
theorem dn_mul {r m c : Nat} {xs ys : List Int} (hx : xs.length = r * m) : dnL r c (piS m (fun _ => false) (ofF m xs (r * m)) (ofF c ys (m * c))) = prodL r m c xs ys := by
  refine mat_ext (dnL_length _ _ _) prodL_length (fun i j hi hj => ?_)
  rw [dn_at hi hj, prod_at hx hi hj]
  unfold piS
  refine sumN_congr (fun t ht => ?_)
  rw [if_neg (by simp), of_at hi ht, of_at ht hj]
theorem dn_add {r c : Nat} {xs ys : List Int} : dnL r c (fun i j => ofF c xs (r * c) i j + ofF c ys (r * c) i j) = addL (r * c) xs ys := by
  refine mat_ext (dnL_length _ _ _) addL_length (fun i j hi hj => ?_)
  rw [dn_at hi hj, add_at (place_lt hi hj), of_at hi hj, of_at hi hj]
theorem dn_turn {r c : Nat} {xs : List Int} : dnL c r (fun i j => ofF c xs (r * c) j i) = turnL9 r c xs := by
  refine mat_ext (dnL_length _ _ _) turnL9_length (fun i j hi hj => ?_)
  rw [dn_at hi hj, turn_at hj hi, of_at hj hi]
theorem Gq.off3 {w : World} {g b r c k x : Nat} {F : Nat → Nat → Int} {L : List Value} (h : Gq w g b r c F k) (d : Cel w x 24 L) (y0 y1 y2 : Value) : Gq (put3 w x y0 y1 y2) g b r c F k := by
  obtain ⟨f, n, h1, h2, h3, h4⟩ := h
  have hg : x ≠ g := fun e => by
    subst e
    have := (show w.heap[x]? = _ from d).symm.trans h1.1
    simp at this
  have hb : b ≠ x := fun e => by
    subst e
    obtain ⟨es, cl, q, -⟩ := h2
    have := (show w.heap[b]? = _ from d).symm.trans q
    simp at this
  have d1 := d.set 0 y0
  have d2 := d1.set 1 y1
  have ty := ((Ty.set (i := 0) (u := y0) d).trans (Ty.set (i := 1) (u := y1) d1)).trans (Ty.set (i := 2) (u := y2) d2)
  refine ⟨f, n, ⟨((h1.1.ne hg).ne hg).ne hg, h1.2⟩, h2.keep ?_, h3.ty ty (by decide), h4⟩
  rw [Below.heap_setCell _ _ _ b (fun e => hb (by simpa using e)), Below.heap_setCell _ _ _ b (fun e => hb (by simpa using e)), Below.heap_setCell _ _ _ b (fun e => hb (by simpa using e))]
theorem mc_zero (w : World) (k : Nat) : Mc w mzero 0 0 [] k := ⟨.slice none 0 0, [], rfl, Prs.nil _ _, ⟨rfl, fun j p z h => by simp at h⟩, rfl, by omega, by omega⟩
set_option maxHeartbeats 1600000 in
set_option maxRecDepth 100000 in
theorem of_no {w : World} {r c : Int} {a : Option Addr} {l cap : Nat} (h : ¬ Snd r c l) : Calls Try.prog 7 #[.agg #[.int .i64 r, .int .i64 c, .slice a l cap]] w (Says w (.tuple #[.pointer none, .int .i64 1])) := by
  obtain ⟨W0, hW⟩ : ∃ W0, w.alloc (.cells #[.int .i64 r, .int .i64 c, .slice a l cap] 24) = W0 := ⟨_, rfl⟩
  obtain ⟨b0, sz0⟩ := alo1 w (.cells #[.int .i64 r, .int .i64 c, .slice a l cap] 24)
  rw [hW] at b0 sz0
  have HC := hid (check_no (w := W0) (a := a) (cap := cap) h)
  have G0 := hid b0
  have EW := hid hW
  clear h b0 sz0 hW
  go_enter Try.func7, Try.ntmps7
  go_wp2_with fail
  rw [EW.out]
  refine HC.out.mono ?_
  rintro e w1 ⟨rfl, b1⟩
  have FIN : Hid (Says w (.tuple #[.pointer none, .int .i64 1]) (.returned (.tuple #[.pointer none, .int .i64 1])) w1) := ⟨rfl, below_step G0.out b1⟩
  clear HC b1 EW G0
  go_wp2
  go_ret2
  exact FIN.out
end Go.Proofs.Ytachdicdfhfoaaa
