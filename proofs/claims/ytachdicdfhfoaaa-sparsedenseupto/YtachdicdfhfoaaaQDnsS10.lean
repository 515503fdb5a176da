/-
  DnsS10: dense: Set.
-/
import Derived.Test.YtachdicdfhfoaaaQDnsM10
import Derived.Test.YtachdicdfhfoaaaQChkN9ToLeastA9
namespace Go.Proofs.Ytachdicdfhfoaaa
open Go.RowKit
set_option linter.unusedVariables false

set_option maxHeartbeats 3200000 in
set_option maxRecDepth 100000 in
theorem dense_set {w : World} {va : Value} {r c k : Nat} {zs : List Int} (ha : Mc w va r c zs k)  {nv : Bool} {av : Option Addr} {lv cv i j kv : Nat} {z : Int} (hi : i < r) (hj : j < c) (hz : Zi w (.agg #[.bool nv, .slice av lv cv]) z kv) :
    Calls Try.prog 9 #[va, .agg #[.int .i64 5, .int .i64 (i : Int), .int .i64 (j : Int), .bool nv, .slice av lv cv]] w (DnsYes w r c (zs.set (i * c + j) z) (max k kv)) := by
  have M0 := hid ha
  obtain ⟨aa, ca, rfl, hr, hc⟩ := ha.mx.form
  generalize hla : r * c = la at *
  have HLA := hid hla
  clear hla ha
  obtain ⟨W0, hW⟩ : ∃ W0, ((w.alloc (matO r c (.slice aa la ca))).alloc (.cells #[.int .i64 5, .int .i64 (i : Int), .int .i64 (j : Int), .bool nv, .slice av lv cv] 37)).alloc mbox = W0 := ⟨_, rfl⟩
  obtain ⟨b0, sz0⟩ := alloc3 w (matO r c (.slice aa la ca)) (.cells #[.int .i64 5, .int .i64 (i : Int), .int .i64 (j : Int), .bool nv, .slice av lv cv] 37) mbox
  rw [hW] at b0 sz0
  obtain ⟨pd, pa, pr⟩ := boxesD (o1 := matc r c (.slice aa la ca)) (o2 := [.int .i64 5, .int .i64 (i : Int), .int .i64 (j : Int), .bool nv, .slice av lv cv]) hW
  have PD := hid pd
  have PA := hid pa
  have PR := hid pr
  have x0 := pd.at (i := 0) rfl
  have x1 := pd.at (i := 1) rfl
  have x2 := pd.at (i := 2) rfl
  have y0 := pa.at (i := 0) rfl
  have y1 := pa.at (i := 1) rfl
  have y2 := pa.at (i := 2) rfl
  have y3 := pa.at (i := 3) rfl
  have y4 := pa.at (i := 4) rfl
  have r0 := pr.at (i := 0) rfl
  have r1 := pr.at (i := 1) rfl
  have r2 := pr.at (i := 2) rfl
  have f0 := pr.fz 0
  have f1 := pr.fz 1
  have f2 := pr.fz 2
  have MD := hid (M0.out.now b0)
  have ZV0 := hid (hz.now b0)
  clear hz
  have G0 := hid b0
  have SZ := hid sz0
  rw [← hW] at x0 x1 x2 y0 y1 y2 y3 y4
  have h0 : ¬ (i : Int) < 0 := by omega
  have h1 : ¬ (r : Int) ≤ (i : Int) := by omega
  have h2 : ¬ (j : Int) < 0 := by omega
  have h3 : ¬ (c : Int) ≤ (j : Int) := by omega
  have EW := hid hW
  have HS := hid (leastA_yes MD.out.mx)
  have HZL : Hid (zs.length = r * c) := by obtain ⟨_, _, _, _, _, q, _⟩ := M0.out; exact q
  have PD0 := PD
  have PA0 := PA
  have PR0 := PR
  clear hW b0 sz0 pd pa pr PD PA PR r0 r1 r2 f0 f1 f2 MD M0
  go_enter Try.func9, Try.ntmps9
  go_wp2_with fail
  rw [EW.out]
  refine HS.out.mono ?_
  rintro e w1 ⟨g, N, ps, rfl, hge, hpl, harr, hzc, b⟩
  have hNN : r * c = N := by rw [← hpl, hzc.1, HZL.out]
  obtain ⟨V1, hV⟩ : ∃ V1, w1.alloc (matO r c (.slice (some ⟨g, 0, none⟩) N N)) = V1 := ⟨_, rfl⟩
  obtain ⟨b1, sz1⟩ := alo1 w1 (matO r c (.slice (some ⟨g, 0, none⟩) N N))
  rw [hV] at b1 sz1
  have PU : Hid (Cel V1 w1.heap.size 24 (matc r c (.slice (some ⟨g, 0, none⟩) N N))) := by unfold Hid; rw [← hV]; exact Cel.new w1 _ _
  have HGW : Hid (w.heap.size + 1 + 1 < g ∧ g < w1.heap.size) := by unfold Hid; have h1 := SZ.out; have h2 := harr.1.blk; omega
  have bb := below_step b b1
  have AR := hid (harr.step b1)
  have PL := hid hpl
  have ZC := hid (hzc.now b1)
  have PR := hid (PR0.out.step bb)
  have ZV := hid (ZV0.out.now bb)
  have G := hid (below_step G0.out bb)
  clear x0 x1 x2 y0 y1 y2 y3 y4
  have x0 := (PD0.out.step bb).at (i := 0) rfl
  have x1 := (PD0.out.step bb).at (i := 1) rfl
  have x2 := (PD0.out.step bb).at (i := 2) rfl
  have y0 := (PA0.out.step bb).at (i := 0) rfl
  have y1 := (PA0.out.step bb).at (i := 1) rfl
  have y2 := (PA0.out.step bb).at (i := 2) rfl
  have y3 := (PA0.out.step bb).at (i := 3) rfl
  have y4 := (PA0.out.step bb).at (i := 4) rfl
  have hm0 := wrapM9 (i := i) (c := c) (by omega) hc
  have hix : i * c + j < N := by
    rw [← hNN]
    have h1 : (i + 1) * c ≤ r * c := Nat.mul_le_mul_right c hi
    have h2 : (i + 1) * c = i * c + c := by rw [Nat.add_mul, Nat.one_mul]
    omega
  have hNB : N ≤ 4096 := by rw [← hNN]; exact Nat.mul_le_mul hr hc
  obtain ⟨lo, hlo⟩ : ∃ lo, i * c = lo := ⟨_, rfl⟩
  rw [hlo] at hm0 hix
  obtain ⟨ix, hix2⟩ : ∃ ix, lo + j = ix := ⟨_, rfl⟩
  rw [hix2] at hix
  have UV : Hid (zs.set ix z = zs.set (i * c + j) z) := by unfold Hid; rw [hlo, hix2]
  have ha0 : IntKind.i64.wrap ((lo : Int) + (j : Int)) = (ix : Int) := by rw [wrap_is] <;> omega
  have ha1 := ha0
  have hm1 := hm0
  rw [IntKind.wrap_i64] at ha1 hm1
  have hixN : (ix : Int) < (N : Int) := by omega
  have PL2 : Hid (ix < ps.length) := by unfold Hid; rw [PL.out]; exact hix
  have u0 := PU.out.at (i := 0) rfl
  have u1 := PU.out.at (i := 1) rfl
  have u2 := PU.out.at (i := 2) rfl
  rw [← hV] at u2 x0 x1 x2 y0 y1 y2 y3 y4
  have EV := hid hV
  have HGB : Hid (g < w1.heap.size) := HGW.out.2
  clear HS G0 EW harr hzc b b1 sz1 hV hge hlo hix2 bb hpl hNN PD0 PA0 PR0 ZV0
  go_wp2_with fail
  rw [EV.out] at u2 x0 x1 x2 y0 y1 y2 y3 y4 ⊢
  clear EV
  generalize w1.heap.size = bu at *
  have KB : Hid (∀ w', Below V1.heap.size V1 w' → w'.cell? ⟨bu, 2, none⟩ = some (.slice (some ⟨g, 0, none⟩) N N) ∧ w'.cell? ⟨w.heap.size + 1, 1, none⟩ = some (.int .i64 (i : Int)) ∧ w'.cell? ⟨w.heap.size, 1, none⟩ = some (.int .i64 (c : Int)) ∧ w'.cell? ⟨w.heap.size + 1, 2, none⟩ = some (.int .i64 (j : Int)) ∧ w'.cell? ⟨w.heap.size + 1, 3, none⟩ = some (.bool nv) ∧ w'.cell? ⟨w.heap.size + 1, 4, none⟩ = some (.slice av lv cv)) := fun w' h => ⟨cnow h u2, cnow h y1, cnow h x1, cnow h y2, cnow h y3, cnow h y4⟩
  refine wp_region_tail (fun w' => w'.cell? ⟨bu, 2, none⟩ = some (.slice (some ⟨g, 0, none⟩) N N) ∧ w'.cell? ⟨w.heap.size + 1, 1, none⟩ = some (.int .i64 (i : Int)) ∧ w'.cell? ⟨w.heap.size, 1, none⟩ = some (.int .i64 (c : Int)) ∧ w'.cell? ⟨w.heap.size + 1, 2, none⟩ = some (.int .i64 (j : Int)) ∧ w'.cell? ⟨w.heap.size + 1, 3, none⟩ = some (.bool nv) ∧ w'.cell? ⟨w.heap.size + 1, 4, none⟩ = some (.slice av lv cv)) 14 (by kernel_rfl) ?_
  obtain ⟨D1, hD⟩ : ∃ D1, V1.drew = D1 := ⟨_, rfl⟩
  have GB : Hid (Below V1.heap.size V1 D1) := by unfold Hid; rw [← hD]; exact (Below.refl _ _).drew
  rw [hD]
  clear hD
  refine wpAnyT_take (i := 0) (oi := { dst := some 61, op := Op.fieldAddr 24 (Operand.tmp 6) 2, type := 0, pos := "outright.go:41", after := #[], guard := none }) (v := (.pointer (some ⟨bu, 2, none⟩))) rfl (by kernel_rfl) (fun _ _ _ h => h) (Or.inl ⟨by rfl, ?_⟩) (KB.out _ GB.out) ?_
  · intro w hSw
    (try dsimp only at hSw)
    go_simp
  simp only [Act.put, List.setIfInBounds_toArray, List.set_cons_zero, List.set_cons_succ]
  refine wpAnyT_take (i := 1) (oi := { dst := some 62, op := Op.load 22 (Operand.tmp 61), type := 22, pos := "outright.go:41", after := #[{ on := 0, ground := Ground.data }], guard := none }) (v := (.slice (some ⟨g, 0, none⟩) N N)) rfl (by kernel_rfl) (fun _ _ _ h => h) (Or.inl ⟨by rfl, ?_⟩) (KB.out _ GB.out) ?_
  · intro w hSw
    (try dsimp only at hSw)
    go_simp
  simp only [Act.put, List.setIfInBounds_toArray, List.set_cons_zero, List.set_cons_succ]
  refine wpAnyT_take (i := 2) (oi := { dst := some 63, op := Op.fieldAddr 37 (Operand.tmp 3) 1, type := 0, pos := "outright.go:41", after := #[], guard := none }) (v := (.pointer (some ⟨w.heap.size + 1, 1, none⟩))) rfl (by kernel_rfl) (fun _ _ _ h => h) (Or.inl ⟨by rfl, ?_⟩) (KB.out _ GB.out) ?_
  · intro w hSw
    (try dsimp only at hSw)
    go_simp
  simp only [Act.put, List.setIfInBounds_toArray, List.set_cons_zero, List.set_cons_succ]
  refine wpAnyT_take (i := 3) (oi := { dst := some 64, op := Op.load 3 (Operand.tmp 63), type := 3, pos := "outright.go:41", after := #[{ on := 2, ground := Ground.data }], guard := none }) (v := (.int .i64 (i : Int))) rfl (by kernel_rfl) (fun _ _ _ h => h) (Or.inl ⟨by rfl, ?_⟩) (KB.out _ GB.out) ?_
  · intro w hSw
    (try dsimp only at hSw)
    go_simp
  simp only [Act.put, List.setIfInBounds_toArray, List.set_cons_zero, List.set_cons_succ]
  refine wpAnyT_take (i := 4) (oi := { dst := some 65, op := Op.fieldAddr 24 (Operand.tmp 2) 1, type := 0, pos := "outright.go:41", after := #[], guard := none }) (v := (.pointer (some ⟨w.heap.size, 1, none⟩))) rfl (by kernel_rfl) (fun _ _ _ h => h) (Or.inl ⟨by rfl, ?_⟩) (KB.out _ GB.out) ?_
  · intro w hSw
    (try dsimp only at hSw)
    go_simp
  simp only [Act.put, List.setIfInBounds_toArray, List.set_cons_zero, List.set_cons_succ]
  refine wpAnyT_take (i := 5) (oi := { dst := some 66, op := Op.load 3 (Operand.tmp 65), type := 3, pos := "outright.go:41", after := #[{ on := 4, ground := Ground.data }], guard := none }) (v := (.int .i64 (c : Int))) rfl (by kernel_rfl) (fun _ _ _ h => h) (Or.inl ⟨by rfl, ?_⟩) (KB.out _ GB.out) ?_
  · intro w hSw
    (try dsimp only at hSw)
    go_simp
  simp only [Act.put, List.setIfInBounds_toArray, List.set_cons_zero, List.set_cons_succ]
  refine wpAnyT_take (i := 6) (oi := { dst := some 67, op := Op.binOp BinOp.mul 3 (Operand.tmp 64) (Operand.tmp 66) 3, type := 3, pos := "outright.go:41", after := #[{ on := 3, ground := Ground.data }, { on := 5, ground := Ground.data }], guard := none }) (v := (.int .i64 (lo : Int))) rfl (by kernel_rfl) (fun _ _ _ h => h) (Or.inl ⟨by rfl, ?_⟩) (KB.out _ GB.out) ?_
  · intro w hSw
    (try dsimp only at hSw)
    go_simp
  simp only [Act.put, List.setIfInBounds_toArray, List.set_cons_zero, List.set_cons_succ]
  refine wpAnyT_take (i := 7) (oi := { dst := some 68, op := Op.fieldAddr 37 (Operand.tmp 3) 2, type := 0, pos := "outright.go:41", after := #[], guard := none }) (v := (.pointer (some ⟨w.heap.size + 1, 2, none⟩))) rfl (by kernel_rfl) (fun _ _ _ h => h) (Or.inl ⟨by rfl, ?_⟩) (KB.out _ GB.out) ?_
  · intro w hSw
    (try dsimp only at hSw)
    go_simp
  simp only [Act.put, List.setIfInBounds_toArray, List.set_cons_zero, List.set_cons_succ]
  refine wpAnyT_take (i := 8) (oi := { dst := some 69, op := Op.load 3 (Operand.tmp 68), type := 3, pos := "outright.go:41", after := #[{ on := 7, ground := Ground.data }], guard := none }) (v := (.int .i64 (j : Int))) rfl (by kernel_rfl) (fun _ _ _ h => h) (Or.inl ⟨by rfl, ?_⟩) (KB.out _ GB.out) ?_
  · intro w hSw
    (try dsimp only at hSw)
    go_simp
  simp only [Act.put, List.setIfInBounds_toArray, List.set_cons_zero, List.set_cons_succ]
  refine wpAnyT_take (i := 9) (oi := { dst := some 70, op := Op.binOp BinOp.add 3 (Operand.tmp 67) (Operand.tmp 69) 3, type := 3, pos := "outright.go:41", after := #[{ on := 6, ground := Ground.data }, { on := 8, ground := Ground.data }], guard := none }) (v := (.int .i64 (ix : Int))) rfl (by kernel_rfl) (fun _ _ _ h => h) (Or.inl ⟨by rfl, ?_⟩) (KB.out _ GB.out) ?_
  · intro w hSw
    (try dsimp only at hSw)
    go_simp
  simp only [Act.put, List.setIfInBounds_toArray, List.set_cons_zero, List.set_cons_succ]
  refine wpAnyT_take (i := 10) (oi := { dst := some 71, op := Op.fieldAddr 37 (Operand.tmp 3) 3, type := 0, pos := "outright.go:41", after := #[], guard := none }) (v := (.pointer (some ⟨w.heap.size + 1, 3, none⟩))) rfl (by kernel_rfl) (fun _ _ _ h => h) (Or.inl ⟨by rfl, ?_⟩) (KB.out _ GB.out) ?_
  · intro w hSw
    (try dsimp only at hSw)
    go_simp
  simp only [Act.put, List.setIfInBounds_toArray, List.set_cons_zero, List.set_cons_succ]
  refine wpAnyT_take (i := 11) (oi := { dst := some 72, op := Op.load 35 (Operand.tmp 71), type := 35, pos := "outright.go:41", after := #[{ on := 10, ground := Ground.data }], guard := none }) (v := (.agg #[.bool nv, .slice av lv cv])) rfl (by kernel_rfl) (fun _ _ _ h => h) (Or.inl ⟨by rfl, ?_⟩) (KB.out _ GB.out) ?_
  · intro w hSw
    (try dsimp only at hSw)
    go_simp
  simp only [Act.put, List.setIfInBounds_toArray, List.set_cons_zero, List.set_cons_succ]
  refine wpAnyT_one (i := 12) (o := { dst := some 73, op := Op.call { callee := Callee.value (Operand.func 34), args := #[Operand.tmp 72], argTypes := #[35] }, type := 35, pos := "outright.go:41", after := #[{ on := 11, ground := Ground.data }], guard := none }) (by kernel_rfl) rfl (fun K hK => ?_)
  go_simp
  go_at_call 34
  refine (least_z (ZV.out.now GB.out)).mono ?_
  rintro e w2 ⟨r, rfl, m1, b⟩
  have lz2 := (show Below _ _ _ from b).size
  replace GB := hid (below_step GB.out b)
  have AR1 := hid (AR.out.step GB.out)
  have ZC1 := hid ((ZC.out.now GB.out).more (l := max k kv) (by omega))
  have PU1 := hid (PU.out.step GB.out)
  have PR1 := hid (PR.out.step GB.out)
  have G1 := hid (below_step G.out GB.out)
  have M1 := hid (m1.zc.more (l := max k kv) (by omega))
  obtain ⟨nr, xr, ar, cr, rfl⟩ := m1.parts
  clear m1
  clear b
  refine hK.out _ _ (fun _ => KB.out _ GB.out) ?_
  clear hK
  refine wpAnyT_take (i := 13) (oi := { dst := some 74, op := Op.indexAddr 22 (Operand.tmp 62) (Operand.tmp 70), type := 0, pos := "outright.go:41", after := #[{ on := 1, ground := Ground.data }, { on := 9, ground := Ground.data }, { on := 0, ground := Ground.phase }, { on := 1, ground := Ground.phase }, { on := 2, ground := Ground.phase }, { on := 3, ground := Ground.phase }, { on := 4, ground := Ground.phase }, { on := 5, ground := Ground.phase }, { on := 6, ground := Ground.phase }, { on := 7, ground := Ground.phase }, { on := 8, ground := Ground.phase }, { on := 9, ground := Ground.phase }, { on := 10, ground := Ground.phase }, { on := 11, ground := Ground.phase }, { on := 12, ground := Ground.phase }], guard := none }) (v := (.pointer (some ⟨g, ix * 2, none⟩))) rfl (by kernel_rfl) (fun _ _ _ h => h) (Or.inl ⟨by rfl, ?_⟩) (KB.out _ GB.out) ?_
  · intro w hSw
    (try dsimp only at hSw)
    go_simp
  simp only [Act.put, List.setIfInBounds_toArray, List.set_cons_zero, List.set_cons_succ]
  refine wpAnyT_one (i := 14) (o := { dst := none, op := Op.store 35 (Operand.tmp 74) (Operand.tmp 73), type := 0, pos := "outright.go:41", after := #[{ on := 13, ground := Ground.data }, { on := 12, ground := Ground.data }, { on := 12, ground := Ground.chain }, { on := 0, ground := Ground.phase }, { on := 1, ground := Ground.phase }, { on := 2, ground := Ground.phase }, { on := 3, ground := Ground.phase }, { on := 4, ground := Ground.phase }, { on := 5, ground := Ground.phase }, { on := 6, ground := Ground.phase }, { on := 7, ground := Ground.phase }, { on := 8, ground := Ground.phase }, { on := 9, ground := Ground.phase }, { on := 10, ground := Ground.phase }, { on := 11, ground := Ground.phase }, { on := 12, ground := Ground.phase }], guard := none }) (by kernel_rfl) rfl (fun K hK => ?_)
  have hps : ps[ix]? = some (ps[ix]'PL2.out) := List.getElem?_eq_getElem PL2.out
  obtain ⟨e0, e1⟩ := AR1.out.at hps
  have e2 := AR1.out.1.fz (ix * 2)
  have e3 := AR1.out.1.fz (ix * 2 + 1)
  clear hps
  go_simp
  clear e0 e1 e2 e3
  obtain ⟨V3, hW⟩ : ∃ V3, ((w2.setCell ⟨g, ix * 2, none⟩ (.bool nr)).setCell ⟨g, ix * 2 + 1, none⟩ (.slice ar xr.length cr)) = V3 := ⟨_, rfl⟩
  have HN1 : Hid (Mc V3 (matv r c (.slice (some ⟨g, 0, none⟩) N N)) r c (zs.set ix z) (max k kv) ∧ Cel V3 bu 24 (matc r c (.slice (some ⟨g, 0, none⟩) N N)) ∧ Cel V3 (w.heap.size + 1 + 1) 24 [.int .i64 0, .int .i64 0, .slice none 0 0] ∧ Below w.heap.size w V3) := by
    unfold Hid
    rw [← hW]
    have hk := AR1.out.wk PL2.out (.bool nr) (.slice ar xr.length cr)
    have q1 := (AR1.out.put PL2.out M1.out.zi.isI).prs (B := 0) (Nat.zero_le _) (by rw [List.length_set, PL.out]; omega) (Nat.le_refl _)
    rw [List.length_set, PL.out] at q1
    refine ⟨⟨_, _, rfl, q1, ZC1.out.set hk (M1.out.wk hk), by rw [List.length_set]; exact HZL.out, hr, hc⟩, ?_, ?_, bset (bset G1.out (by have := HGW.out; omega)) (by have := HGW.out; omega)⟩
    · exact (PU1.out.ne (by have := HGB.out; omega)).ne (by have := HGB.out; omega)
    · exact (PR1.out.ne (by have := HGW.out; omega)).ne (by have := HGW.out; omega)
  rw [hW]
  clear hW
  refine hK.out _ _ (fun h => absurd h (by decide)) ?_
  clear hK
  try simp only [Act.put]
  refine wpAnyT_done (by kernel_rfl) ?_ _
  obtain ⟨hmc, pu, pr, hb⟩ := HN1.out
  have FIN : Hid (DnsYes w r c (zs.set ix z) (max k kv) (.returned (.tuple #[.agg #[.int .i64 (r : Int), .int .i64 (c : Int), .slice (some ⟨g, 0, none⟩) N N], .bool true])) (put3 V3 (w.heap.size + 1 + 1) (.int .i64 (r : Int)) (.int .i64 (c : Int)) (.slice (some ⟨g, 0, none⟩) N N))) :=
    ⟨_, rfl, hmc.wk pr _ _ _, below_put3 hb (by omega) _ _ _⟩
  rw [UV.out] at FIN
  have PF := hid (pr.put3 (.int .i64 (r : Int)) (.int .i64 (c : Int)) (.slice (some ⟨g, 0, none⟩) N N))
  have z0 := pu.at (i := 0) rfl
  have z1 := pu.at (i := 1) rfl
  have z2 := pu.at (i := 2) rfl
  have r0 := pr.at (i := 0) rfl
  have r1 := pr.at (i := 1) rfl
  have r2 := pr.at (i := 2) rfl
  have f0 := pr.fz 0
  have f1 := pr.fz 1
  have f2 := pr.fz 2
  clear AR PL ZC PU PR G AR1 ZC1 PU1 PR1 G1 M1 PL2 GB KB HN1 hmc pu pr hb
  go_wp2
  exact bodyPost_ret (mback1 Try.results9 PF.out _ (by rfl) (by rfl)) rfl FIN.out
end Go.Proofs.Ytachdicdfhfoaaa
