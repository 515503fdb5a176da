/-
  Copy10: Copy.
-/
import Derived.Test.YtachdicdfhfoaaaQAwake10ToCnt10
import Derived.Test.YtachdicdfhfoaaaQFil9ToDot9
import Derived.Test.YtachdicdfhfoaaaQPut10ToTailA
namespace Go.Proofs.Ytachdicdfhfoaaa
open Go.RowKit Go.ChangeMaps Go.MapKept
set_option linter.unusedVariables false

/-- A new grid. -/
def MadeG (w : World) (r c : Nat) (F : Nat → Nat → Int) (k : Nat) (e : Ending) (w' : World) : Prop := ∃ g b, e = .returned (.pointer (some ⟨g, 0, none⟩)) ∧ Gq w' g b r c F k ∧ w.heap.size ≤ g ∧ w.heap.size ≤ b ∧ Below w.heap.size w w'
/-- What is still to come is 0. -/
def lft (left : Nat × Nat → Bool) (F : Nat → Nat → Int) : Nat → Nat → Int := fun i j => if left (i, j) then 0 else F i j
theorem lft_start {w : World} {f : Nat × Nat → Option Value} {F : Nat → Nat → Int} {k : Nat} (h : Nm w f F k) : ∀ i j, (fun _ _ => (0 : Int)) i j = lft (fun s => (f s).isSome) F i j := fun i j => by
  unfold lft
  rcases h i j with ⟨h1, h2⟩ | ⟨v, h1, _⟩
  · simp [h1, h2]
  · simp [h1]
theorem lft_end {left : Nat × Nat → Bool} {F : Nat → Nat → Int} (h : ∀ s, left s = false) : ∀ i j, lft left F i j = F i j := fun i j => by simp [lft, h]
theorem lft_step {left : Nat × Nat → Bool} {F : Nat → Nat → Int} {s : Nat × Nat} (hs : left s = true) : ∀ i j, setF (lft left F) s (F s.1 s.2) i j = lft (fun x => left x && !decide (x = s)) F i j := fun i j => by
  unfold setF lft
  by_cases e : (i, j) = s
  · subst e; simp
  · simp [e]
theorem Nm.at {w : World} {f : Nat × Nat → Option Value} {F : Nat → Nat → Int} {k : Nat} (h : Nm w f F k) {s : Nat × Nat} {v : Value} (hs : f s = some v) : F s.1 s.2 ≠ 0 ∧ Zm 0 w v (F s.1 s.2) k := by
  rcases h s.1 s.2 with ⟨h1, _⟩ | ⟨u, h1, h2, h3⟩
  · rw [show (s.1, s.2) = s from rfl, hs] at h1
    cases h1
  · rw [show (s.1, s.2) = s from rfl, hs] at h1
    cases h1
    exact ⟨h2, h3⟩
/-- What holds within the loop. -/
def Hypcopy_any (w : World) (g' b' it bm n r c k : Nat) (f : Nat × Nat → Option Value) (F : Nat → Nat → Int) (gk : Nat) (wx : World) : Prop :=
  ∃ left, Rg spv spok wx bm it f n left gk ∧ Gq wx g' b' r c (lft left F) k ∧ Nm wx f F k ∧ Below w.heap.size w wx
set_option maxHeartbeats 3200000 in
set_option maxRecDepth 100000 in
theorem copy_any {w : World} {g bm r c k : Nat} {F : Nat → Nat → Int} (h : Gq w g bm r c F k) : Calls Try.prog 28 #[.pointer (some ⟨g, 0, none⟩)] w (MadeG w r c F k) := by
  obtain ⟨f, n, hg, hm, hf, hw⟩ := h
  have x0 := hg.1.at (i := 0) rfl
  have x1 := hg.1.at (i := 1) rfl
  have HG := hid hg
  have HM := hid hm
  have HF := hid hf
  have HWI := hid hw
  have HRC := hid hg.2
  clear hg hm hf hw
  go_enter Try.func28, Try.ntmps28
  go_wp2_with fail
  have KB : Hid (∀ w', Below w.heap.size w w' → w'.cell? ⟨g, 0, none⟩ = some (.int .i64 (r : Int)) ∧ w'.cell? ⟨g, 1, none⟩ = some (.int .i64 (c : Int))) := fun w' h => ⟨cnow h x0, cnow h x1⟩
  refine wp_region_tail (fun w' => w'.cell? ⟨g, 0, none⟩ = some (.int .i64 (r : Int)) ∧ w'.cell? ⟨g, 1, none⟩ = some (.int .i64 (c : Int))) 9 (by kernel_rfl) ?_
  obtain ⟨D1, hD⟩ : ∃ D1, w.drew = D1 := ⟨_, rfl⟩
  have GB : Hid (Below w.heap.size w D1) := by unfold Hid; rw [← hD]; exact (Below.refl _ _).drew
  rw [hD]
  clear hD
  have hD0 := (show Below _ _ _ from GB.out).size
  refine wpAnyT_take (i := 0) (oi := { dst := some 8, op := Op.move (Operand.tmp 0), type := 27, pos := "whole.go:61", after := #[], guard := none }) (v := (.pointer (some ⟨g, 0, none⟩))) rfl (by kernel_rfl) (fun _ _ _ h => h) (Or.inl ⟨by rfl, ?_⟩) (KB.out _ GB.out) ?_
  · intro w hSw
    (try dsimp only at hSw)
    go_simp
  simp only [Act.put, List.setIfInBounds_toArray, List.set_cons_zero, List.set_cons_succ]
  refine wpAnyT_take (i := 1) (oi := { dst := some 9, op := Op.nilCheck (Operand.tmp 8), type := 0, pos := "whole.go:61", after := #[{ on := 0, ground := Ground.data }], guard := none }) (v := (.pointer (some ⟨g, 0, none⟩))) rfl (by kernel_rfl) (fun _ _ _ h => h) (Or.inl ⟨by rfl, ?_⟩) (KB.out _ GB.out) ?_
  · intro w hSw
    (try dsimp only at hSw)
    go_simp
  simp only [Act.put, List.setIfInBounds_toArray, List.set_cons_zero, List.set_cons_succ]
  refine wpAnyT_take (i := 2) (oi := { dst := some 10, op := Op.fieldAddr 68 (Operand.tmp 9) 0, type := 0, pos := "whole.go:61", after := #[{ on := 1, ground := Ground.data }], guard := none }) (v := (.pointer (some ⟨g, 0, none⟩))) rfl (by kernel_rfl) (fun _ _ _ h => h) (Or.inl ⟨by rfl, ?_⟩) (KB.out _ GB.out) ?_
  · intro w hSw
    (try dsimp only at hSw)
    go_simp
  simp only [Act.put, List.setIfInBounds_toArray, List.set_cons_zero, List.set_cons_succ]
  refine wpAnyT_take (i := 3) (oi := { dst := some 11, op := Op.load 3 (Operand.tmp 10), type := 3, pos := "whole.go:61", after := #[{ on := 2, ground := Ground.data }], guard := none }) (v := (.int .i64 (r : Int))) rfl (by kernel_rfl) (fun _ _ _ h => h) (Or.inl ⟨by rfl, ?_⟩) (KB.out _ GB.out) ?_
  · intro w hSw
    (try dsimp only at hSw)
    go_simp
  simp only [Act.put, List.setIfInBounds_toArray, List.set_cons_zero, List.set_cons_succ]
  refine wpAnyT_take (i := 4) (oi := { dst := some 12, op := Op.move (Operand.tmp 0), type := 27, pos := "whole.go:61", after := #[], guard := none }) (v := (.pointer (some ⟨g, 0, none⟩))) rfl (by kernel_rfl) (fun _ _ _ h => h) (Or.inl ⟨by rfl, ?_⟩) (KB.out _ GB.out) ?_
  · intro w hSw
    (try dsimp only at hSw)
    go_simp
  simp only [Act.put, List.setIfInBounds_toArray, List.set_cons_zero, List.set_cons_succ]
  refine wpAnyT_take (i := 5) (oi := { dst := some 13, op := Op.nilCheck (Operand.tmp 12), type := 0, pos := "whole.go:61", after := #[{ on := 4, ground := Ground.data }], guard := none }) (v := (.pointer (some ⟨g, 0, none⟩))) rfl (by kernel_rfl) (fun _ _ _ h => h) (Or.inl ⟨by rfl, ?_⟩) (KB.out _ GB.out) ?_
  · intro w hSw
    (try dsimp only at hSw)
    go_simp
  simp only [Act.put, List.setIfInBounds_toArray, List.set_cons_zero, List.set_cons_succ]
  refine wpAnyT_take (i := 6) (oi := { dst := some 14, op := Op.fieldAddr 68 (Operand.tmp 13) 1, type := 0, pos := "whole.go:61", after := #[{ on := 5, ground := Ground.data }], guard := none }) (v := (.pointer (some ⟨g, 1, none⟩))) rfl (by kernel_rfl) (fun _ _ _ h => h) (Or.inl ⟨by rfl, ?_⟩) (KB.out _ GB.out) ?_
  · intro w hSw
    (try dsimp only at hSw)
    go_simp
  simp only [Act.put, List.setIfInBounds_toArray, List.set_cons_zero, List.set_cons_succ]
  refine wpAnyT_take (i := 7) (oi := { dst := some 15, op := Op.load 3 (Operand.tmp 14), type := 3, pos := "whole.go:61", after := #[{ on := 6, ground := Ground.data }], guard := none }) (v := (.int .i64 (c : Int))) rfl (by kernel_rfl) (fun _ _ _ h => h) (Or.inl ⟨by rfl, ?_⟩) (KB.out _ GB.out) ?_
  · intro w hSw
    (try dsimp only at hSw)
    go_simp
  simp only [Act.put, List.setIfInBounds_toArray, List.set_cons_zero, List.set_cons_succ]
  refine wpAnyT_one (i := 8) (o := { dst := some 16, op := Op.call { callee := Callee.value (Operand.func 32), args := #[Operand.tmp 11, Operand.tmp 15], argTypes := #[3, 3] }, type := 27, pos := "whole.go:61", after := #[{ on := 3, ground := Ground.data }, { on := 7, ground := Ground.data }], guard := none }) (by kernel_rfl) rfl (fun K hK => ?_)
  go_simp
  go_at_call 32
  refine (empty_any (w := D1) (r := r) (c := c) HRC.out.1 HRC.out.2).mono ?_
  rintro e w2 ⟨g', b', rfl, hg, hm, hgg, hbb, b⟩
  have lz2 := (show Below _ _ _ from b).size
  replace GB := hid (below_step GB.out b)
  have EG := hid hg
  have EM := hid hm
  have EB : Hid (w.heap.size ≤ g' ∧ w.heap.size ≤ b') := ⟨by omega, by omega⟩
  clear hg hm hgg hbb hD0
  clear b
  refine hK.out _ _ (fun _ => KB.out _ GB.out) ?_
  clear hK
  refine wpAnyT_one (i := 9) (o := { dst := some 3, op := Op.assign (Operand.tmp 16), type := 27, pos := "whole.go:61", after := #[{ on := 8, ground := Ground.data }, { on := 8, ground := Ground.chain }, { on := 0, ground := Ground.phase }, { on := 1, ground := Ground.phase }, { on := 2, ground := Ground.phase }, { on := 3, ground := Ground.phase }, { on := 4, ground := Ground.phase }, { on := 5, ground := Ground.phase }, { on := 6, ground := Ground.phase }, { on := 7, ground := Ground.phase }, { on := 8, ground := Ground.phase }], guard := none }) (by kernel_rfl) rfl (fun K hK => ?_)
  go_simp
  refine hK.out _ _ (fun h => absurd h (by decide)) ?_
  clear hK
  try simp only [Act.put]
  refine wpAnyT_done (by kernel_rfl) ?_ _
  have G := hid GB.out
  have x2 := (HG.out.now GB.out).1.at (i := 2) rfl
  have HM1 := hid (HM.out.now GB.out)
  have HF1 := hid (HF.out.now GB.out)
  have hbl : bm < w.heap.size := HM.out.lt
  have HBL := hid hbl
  clear GB KB HG HM HF x0 x1 hbl
  go_wp2_with (first | (at_range; refine wpList_range10 _ rfl _ _ rfl _ _ ks10 Try.map10 bm n f rfl HM1.out ?_; intro w4 hrg hbw hsz) | go_in)
  go_frame
  have H0 : Hid (Hypcopy_any w g' b' w2.heap.size bm n r c k f F n w4) :=
    ⟨_, hrg, (Gq.empty (EG.out.now hbw) (EM.out.now hbw)).ext (lft_start HF1.out), HF1.out.now hbw, below_step G.out hbw⟩
  have HIT : Hid (w.heap.size ≤ w2.heap.size) := G.out.size
  obtain ⟨it, hit⟩ : ∃ it, w2.heap.size = it := ⟨_, rfl⟩
  rw [hit] at H0 HIT ⊢
  have HBT : Hid (b' ≠ it) := fun e => by have := EM.out.lt; omega
  clear hrg hbw hsz hit HM1 HF1 G EG EM x2
  go_loopg [4] n (fun gk s4 wx => Hypcopy_any w g' b' it bm n r c k f F gk wx)
  case atStart => exact H0.out
  case round =>
    clear H0
    obtain ⟨left, hrg, hgq, hnf, hG⟩ := hrel
    have RG := hid hrg
    have GQ := hid hgq
    have NF := hid hnf
    have G := hid hG
    clear hrg hgq hnf hG
    go_wp2_with (first | (at_next; refine wpList_next10 _ rfl _ rfl _ ks10 bm it n f left gk rfl RG.out ?_ ?_) | go_in)
    · intro hl
      have FIN : Hid (MadeG w r c F k (.returned (.pointer (some ⟨g', 0, none⟩))) wr) := ⟨_, _, rfl, GQ.out.ext (lft_end hl.out), EB.out.1, EB.out.2, G.out⟩
      clear RG GQ NF G hl
      go_wp2
      go_ret
      exact FIN.out
    · intro i j v w5 cnt hca hen
      obtain ⟨hok, hfs, hls, hrg, hlt, hgr, hsz⟩ := hca.out
      clear hca
      have hcl := RG.out.cl hgr
      obtain ⟨hne0, zm⟩ := (NF.out.cl hcl).at hfs
      obtain ⟨m, xs, a, c0, rfl, -⟩ := id zm
      have RG1 := hid hrg
      have GQ1 := hid (GQ.out.kept hgr hcl HBT.out)
      have NF1 := hid (NF.out.cl hcl)
      have G1 := hid (below_grown G.out hgr HIT.out)
      have ZM := hid zm
      have HN0 := hid hne0
      have HLS := hid hls
      have HOK := hid hok
      have HWS := hid (HWI.out (i, j) _ hfs)
      have HLT := hid hlt
      clear zm hne0 hls hok hfs hrg hgr hsz hcl RG GQ NF G hlt
      -- the round's boxes
      obtain ⟨V6, hV⟩ : ∃ V6, (w5.alloc (.cells #[.int .i64 (i : Int), .int .i64 (j : Int)] 71)).alloc (duo (.bool m) (.slice a xs.length c0)) = V6 := ⟨_, rfl⟩
      obtain ⟨b6, sz6⟩ := alloc2 w5 (.cells #[.int .i64 (i : Int), .int .i64 (j : Int)] 71) (duo (.bool m) (.slice a xs.length c0))
      rw [hV] at b6 sz6
      have PS : Cel V6 w5.heap.size 71 [.int .i64 (i : Int), .int .i64 (j : Int)] := by
        rw [← hV]
        exact (Cel.new w5 71 [.int .i64 (i : Int), .int .i64 (j : Int)]).step ((Below.refl _ _).alloc (Nat.le_refl _) _)
      have PV : Duo V6 (w5.heap.size + 1) (.bool m) (.slice a xs.length c0) := by
        rw [← hV]
        have := heap_alloc_new (w5.alloc (.cells #[.int .i64 (i : Int), .int .i64 (j : Int)] 71)) (duo (.bool m) (.slice a xs.length c0))
        simpa [Duo] using this
      have RG2 := hid (RG1.out.now b6)
      have GQ2 := hid (GQ1.out.now b6)
      have NF2 := hid (NF1.out.now b6)
      have G2 := hid (below_step G1.out b6)
      have ZM2 := hid (ZM.out.now b6)
      have EV := hid hV
      have s0 := PS.at (i := 0) rfl
      have s1 := PS.at (i := 1) rfl
      have v0 := PV.c0
      have v1 := PV.c1
      have y2 := GQ2.out.gd.1.at (i := 2) rfl
      simp only [spv] at hen ⊢
      clear hV b6 sz6 RG1 GQ1 NF1 G1 ZM PS PV
      go_wp2_with fail
      rw [EV.out]
      clear hen EV
      have KB : Hid (∀ w', Below V6.heap.size V6 w' → w'.cell? ⟨g', 2, none⟩ = some (.map (some b')) ∧ w'.cell? ⟨w5.heap.size, 0, none⟩ = some (.int .i64 (i : Int)) ∧ w'.cell? ⟨w5.heap.size, 1, none⟩ = some (.int .i64 (j : Int)) ∧ w'.cell? ⟨w5.heap.size + 1, 0, none⟩ = some (.bool m) ∧ w'.cell? ⟨w5.heap.size + 1, 1, none⟩ = some (.slice a xs.length c0)) := fun w' h => ⟨cnow h y2, cnow h s0, cnow h s1, cnow h v0, cnow h v1⟩
      refine wp_region_tail (fun w' => w'.cell? ⟨g', 2, none⟩ = some (.map (some b')) ∧ w'.cell? ⟨w5.heap.size, 0, none⟩ = some (.int .i64 (i : Int)) ∧ w'.cell? ⟨w5.heap.size, 1, none⟩ = some (.int .i64 (j : Int)) ∧ w'.cell? ⟨w5.heap.size + 1, 0, none⟩ = some (.bool m) ∧ w'.cell? ⟨w5.heap.size + 1, 1, none⟩ = some (.slice a xs.length c0)) 7 (by kernel_rfl) ?_
      obtain ⟨D1, hD⟩ : ∃ D1, V6.drew = D1 := ⟨_, rfl⟩
      have GB : Hid (Below V6.heap.size V6 D1) := by unfold Hid; rw [← hD]; exact (Below.refl _ _).drew
      rw [hD]
      clear hD
      refine wpAnyT_take (i := 0) (oi := { dst := some 27, op := Op.move (Operand.tmp 3), type := 27, pos := "whole.go:63", after := #[], guard := none }) (v := (.pointer (some ⟨g', 0, none⟩))) rfl (by kernel_rfl) (fun _ _ _ h => h) (Or.inl ⟨by rfl, ?_⟩) (KB.out _ GB.out) ?_
      · intro w hSw
        (try dsimp only at hSw)
        go_simp
      simp only [Act.put, List.setIfInBounds_toArray, List.set_cons_zero, List.set_cons_succ]
      refine wpAnyT_take (i := 1) (oi := { dst := some 28, op := Op.nilCheck (Operand.tmp 27), type := 0, pos := "whole.go:63", after := #[{ on := 0, ground := Ground.data }], guard := none }) (v := (.pointer (some ⟨g', 0, none⟩))) rfl (by kernel_rfl) (fun _ _ _ h => h) (Or.inl ⟨by rfl, ?_⟩) (KB.out _ GB.out) ?_
      · intro w hSw
        (try dsimp only at hSw)
        go_simp
      simp only [Act.put, List.setIfInBounds_toArray, List.set_cons_zero, List.set_cons_succ]
      refine wpAnyT_take (i := 2) (oi := { dst := some 29, op := Op.fieldAddr 68 (Operand.tmp 28) 2, type := 0, pos := "whole.go:63", after := #[{ on := 1, ground := Ground.data }], guard := none }) (v := (.pointer (some ⟨g', 2, none⟩))) rfl (by kernel_rfl) (fun _ _ _ h => h) (Or.inl ⟨by rfl, ?_⟩) (KB.out _ GB.out) ?_
      · intro w hSw
        (try dsimp only at hSw)
        go_simp
      simp only [Act.put, List.setIfInBounds_toArray, List.set_cons_zero, List.set_cons_succ]
      refine wpAnyT_take (i := 3) (oi := { dst := some 30, op := Op.load 66 (Operand.tmp 29), type := 66, pos := "whole.go:63", after := #[{ on := 2, ground := Ground.data }], guard := none }) (v := (.map (some b'))) rfl (by kernel_rfl) (fun _ _ _ h => h) (Or.inl ⟨by rfl, ?_⟩) (KB.out _ GB.out) ?_
      · intro w hSw
        (try dsimp only at hSw)
        go_simp
      simp only [Act.put, List.setIfInBounds_toArray, List.set_cons_zero, List.set_cons_succ]
      refine wpAnyT_take (i := 4) (oi := { dst := some 31, op := Op.load 71 (Operand.tmp 4), type := 71, pos := "whole.go:63", after := #[], guard := none }) (v := (.agg #[.int .i64 (i : Int), .int .i64 (j : Int)])) rfl (by kernel_rfl) (fun _ _ _ h => h) (Or.inl ⟨by rfl, ?_⟩) (KB.out _ GB.out) ?_
      · intro w hSw
        (try dsimp only at hSw)
        go_simp
      simp only [Act.put, List.setIfInBounds_toArray, List.set_cons_zero, List.set_cons_succ]
      refine wpAnyT_take (i := 5) (oi := { dst := some 32, op := Op.load 35 (Operand.tmp 5), type := 35, pos := "whole.go:63", after := #[], guard := none }) (v := (.agg #[.bool m, .slice a xs.length c0])) rfl (by kernel_rfl) (fun _ _ _ h => h) (Or.inl ⟨by rfl, ?_⟩) (KB.out _ GB.out) ?_
      · intro w hSw
        (try dsimp only at hSw)
        go_simp
      simp only [Act.put, List.setIfInBounds_toArray, List.set_cons_zero, List.set_cons_succ]
      refine wpAnyT_one (i := 6) (o := { dst := some 33, op := Op.call { callee := Callee.value (Operand.func 34), args := #[Operand.tmp 32], argTypes := #[35] }, type := 35, pos := "whole.go:63", after := #[{ on := 5, ground := Ground.data }], guard := none }) (by kernel_rfl) rfl (fun K hK => ?_)
      go_simp
      go_at_call 34
      refine (least_z (ZM2.out.zi.now GB.out)).mono ?_
      rintro e w2 ⟨v, rfl, m1, b⟩
      have lz2 := (show Below _ _ _ from b).size
      replace GB := hid (below_step GB.out b)
      have M1 := hid m1
      clear m1
      clear b
      refine hK.out _ _ (fun _ => KB.out _ GB.out) ?_
      clear hK
      refine wpAnyT_one (i := 7) (o := { dst := none, op := Op.mapUpdate 66 (Operand.tmp 30) (Operand.tmp 31) (Operand.tmp 33), type := 0, pos := "whole.go:63", after := #[{ on := 3, ground := Ground.data }, { on := 4, ground := Ground.data }, { on := 6, ground := Ground.data }, { on := 6, ground := Ground.chain }, { on := 0, ground := Ground.phase }, { on := 1, ground := Ground.phase }, { on := 2, ground := Ground.phase }, { on := 3, ground := Ground.phase }, { on := 4, ground := Ground.phase }, { on := 5, ground := Ground.phase }, { on := 6, ground := Ground.phase }], guard := none }) (by kernel_rfl) rfl (fun K hK => ?_)
      obtain ⟨f', n', hg3, hm3, hf3, hw3⟩ := GQ2.out.now GB.out
      obtain ⟨wz, hrun, q1, q2, q3⟩ := hm3.store (s := (i, j)) ks10 Try.map10 (wide_room hg3.2.1 hg3.2.2 (hm3.count2 hw3)) ⟨HOK.out.1, HOK.out.2⟩ v
      simp only [spv] at hrun
      have RG3 := hid ((RG2.out.now GB.out).kept q2 (fun e => by have := EB.out.2; have := HBL.out; simp at e; omega) (fun e => HBT.out (by simpa using e.symm)))
      have GQ3 : Hid (Gq wz g' b' r c _ k) := Gq.put hg3 hm3 hf3 hw3 (M1.out.mono (Nat.zero_le _)) (s := (i, j)) HWS.out.1 HWS.out.2 (by rw [if_neg HN0.out]; exact q1) q2
      have NF3 := hid ((NF2.out.now GB.out).cl (hm3.cl q2))
      have G3 := hid (below_grown (below_step G2.out GB.out) q2 EB.out.2)
      clear q1 q2 q3 hg3 hm3 hf3 hw3
      go_simp
      clear hrun
      refine hK.out _ _ (fun h => absurd h (by decide)) ?_
      clear hK
      try simp only [Act.put]
      refine wpAnyT_done (by kernel_rfl) ?_ _
      have HN1 : Hid (Hypcopy_any w g' b' it bm n r c k f F cnt wz) := ⟨_, RG3.out, GQ3.out.ext (lft_step HLS.out), NF3.out, G3.out⟩
      clear RG2 GQ2 NF2 G2 ZM2 M1 GB KB s0 s1 v0 v1 y2 RG3 GQ3 NF3 G3
      go_wp2_with fail
      go_roundg cnt
      case rel => exact HN1.out
      case measure => exact HLT.out
end Go.Proofs.Ytachdicdfhfoaaa
