/-
  In12: Inverse.
-/
import Derived.Test.YtiedmlfiboalhaaGreatQKe12ToZDivs
import Derived.Test.YtiedmlfiboalhaaGreatQLst9ToTail
import Derived.Test.YtiedmlfiboalhaaGreatQRs12ToTailA
namespace Go.Proofs.YtiedmlfiboalhaaGreat
open Go.RowKit
set_option linter.unusedVariables false

/-- The inverse's rows. -/
def invL (p r : Nat) (zs : List Int) : List (List Int) := cornL 0 r (wkS p r r zs).m
set_option maxHeartbeats 3200000 in
set_option maxRecDepth 100000 in
theorem inverse12_yes {w : World} {v : Value} {p r : Nat} {zs : List Int} {K0 : Nat} (hp : gdB p = true) (h : Mx w v r r zs K0) (hK : K0 ≤ 1099511627775) (hfull : ¬ wkR p r r zs < r) :
    Calls Tryz.prog 11 #[v, .int .u64 (p : Int)] w (GivesMO w r r (invL p r zs).flatten 1) := by
  obtain ⟨hpr, hp2⟩ := gd_parts hp
  have hp1 := hpr.1
  have hm0 := h
  obtain ⟨a, cap, rfl, hr, -⟩ := h.form
  have hl : zs.length = r * r := by obtain ⟨_, _, _, _, _, q, _⟩ := hm0; exact q
  have OKS := hid (wk_ok (p := p) (c := r) (r := r) hp1 hl)
  have HKF : Hid (invL p r zs = cornL 0 r (wkS p r r zs).m) := rfl
  obtain ⟨n, hn⟩ : ∃ n, r * r = n := ⟨_, rfl⟩
  have HNR := hid hn
  rw [hn] at hm0 ⊢
  obtain ⟨W0, hW⟩ : ∃ W0, (w.alloc (mrO (r : Int) (r : Int) a n cap)).alloc mbox = W0 := ⟨_, rfl⟩
  have b0 : Below w.heap.size w W0 := by rw [← hW]; exact ((Below.refl _ _).alloc (Nat.le_refl _) _).alloc (by simp) _
  have P1 : Hid (Cel W0 w.heap.size 24 (mrC (r : Int) (r : Int) a n cap)) := by unfold Hid; rw [← hW]; exact (Cel.new w _ _).step (alo12 _ _).1
  have PR : Hid (Cel W0 (w.heap.size + 1) 24 [.int .i64 0, .int .i64 0, .slice none 0 0]) := by
    unfold Hid; rw [← hW]
    have := Cel.new (w.alloc (mrO (r : Int) (r : Int) a n cap)) 24 [.int .i64 0, .int .i64 0, .slice none 0 0]
    simpa using this
  have x0 := P1.out.at (i := 0) rfl
  have x1 := P1.out.at (i := 1) rfl
  have x2 := P1.out.at (i := 2) rfl
  have MX := hid (hm0.now b0)
  have HWO : Hid (∀ w', Below W0.heap.size W0 w' → Calls Tryz.prog 28 #[matv r r (.slice a n cap), .int .u64 (p : Int)] w' (Worked w' p r r zs)) := fun w' q => worked12 hp ((hm0.now b0).now q) hK
  have G0 := hid b0
  have EW := hid hW
  have HWU : Hid (∀ w' e x, Worked w' p r r zs e x → ∃ lv gs pa pcap, e = .returned (.tuple #[shv p (r + r) lv, .slice pa (wkR p r r zs) pcap]) ∧ Lns w'.heap.size x lv (r + r) gs (wkS p r r zs).m ∧ Below w'.heap.size w' x) := fun _ _ _ q => q
  obtain ⟨KL, hKL⟩ : ∃ KL, invL p r zs = KL := ⟨_, rfl⟩
  rw [hKL] at HKF ⊢
  obtain ⟨rk, hrk⟩ : ∃ rk, wkR p r r zs = rk := ⟨_, rfl⟩
  obtain ⟨S, hS⟩ : ∃ S, wkS p r r zs = S := ⟨_, rfl⟩
  rw [hrk] at HWU hfull
  rw [hS] at HKF HWU OKS
  obtain ⟨N, hN⟩ : ∃ N, r + r = N := ⟨_, rfl⟩
  have HNN := hid hN
  rw [hN] at HWU OKS
  have HKW : Hid (WidE r KL) := by
    unfold Hid
    rw [HKF.out]
    have := cornL_wide (top := 0) (left := r) OKS.out.wid
    rw [show N - r = r by omega] at this
    exact this
  have HKR : Hid (ResM p KL) := by unfold Hid; rw [HKF.out]; exact cornL_res OKS.out.res
  have HKN : Hid (KL.length = r) := by unfold Hid; rw [HKF.out]; exact cornL_len OKS.out.len
  have HGD := hid hp
  have NMZ : Hid (0 = faultE true true p) := by unfold Hid faultE; rw [HGD.out]; rfl
  clear b0 hW h hm0 hK hl hn hpr hp hKL hrk hS hN
  go_enter Tryz.func11, Tryz.ntmps11
  go_wp2_with fail
  rw [EW.out]
  clear EW
  have KB : Hid (∀ w', Below W0.heap.size W0 w' → w'.cell? ⟨w.heap.size, 0, none⟩ = some (.int .i64 (r : Int)) ∧ w'.cell? ⟨w.heap.size, 1, none⟩ = some (.int .i64 (r : Int)) ∧ w'.cell? ⟨w.heap.size, 2, none⟩ = some (.slice a n cap)) := fun w' h => ⟨cnow h x0, cnow h x1, cnow h x2⟩
  refine wp_region_tail (fun w' => w'.cell? ⟨w.heap.size, 0, none⟩ = some (.int .i64 (r : Int)) ∧ w'.cell? ⟨w.heap.size, 1, none⟩ = some (.int .i64 (r : Int)) ∧ w'.cell? ⟨w.heap.size, 2, none⟩ = some (.slice a n cap)) 5 (by kernel_rfl) ?_
  obtain ⟨D1, hD⟩ : ∃ D1, W0.drew = D1 := ⟨_, rfl⟩
  have GB : Hid (Below W0.heap.size W0 D1) := by unfold Hid; rw [← hD]; exact (Below.refl _ _).drew
  rw [hD]
  clear hD
  refine wpAnyT_take (i := 0) (oi := { dst := some 9, op := Op.load 24 (Operand.tmp 2), type := 24, pos := "modp.go:53", after := #[], guard := none }) (v := (.agg #[.int .i64 (r : Int), .int .i64 (r : Int), .slice a n cap])) rfl (by kernel_rfl) (fun _ _ _ h => h) (Or.inl ⟨by rfl, ?_⟩) (KB.out _ GB.out) ?_
  · intro w hSw
    (try dsimp only at hSw)
    go_simp
  simp only [Act.put, List.setIfInBounds_toArray, List.set_cons_zero, List.set_cons_succ]
  refine wpAnyT_take (i := 1) (oi := { dst := some 10, op := Op.load 24 (Operand.tmp 2), type := 24, pos := "modp.go:53", after := #[], guard := none }) (v := (.agg #[.int .i64 (r : Int), .int .i64 (r : Int), .slice a n cap])) rfl (by kernel_rfl) (fun _ _ _ h => h) (Or.inl ⟨by rfl, ?_⟩) (KB.out _ GB.out) ?_
  · intro w hSw
    (try dsimp only at hSw)
    go_simp
  simp only [Act.put, List.setIfInBounds_toArray, List.set_cons_zero, List.set_cons_succ]
  refine wpAnyT_take (i := 3) (oi := { dst := some 12, op := Op.move (Operand.tmp 1), type := 25, pos := "modp.go:53", after := #[], guard := none }) (v := (.int .u64 (p : Int))) rfl (by kernel_rfl) (fun _ _ _ h => h) (Or.inl ⟨by rfl, ?_⟩) (KB.out _ GB.out) ?_
  · intro w hSw
    (try dsimp only at hSw)
    go_simp
  simp only [Act.put, List.setIfInBounds_toArray, List.set_cons_zero, List.set_cons_succ]
  refine wpAnyT_one (i := 2) (o := { dst := some 11, op := Op.call { callee := Callee.value (Operand.func 24), args := #[Operand.tmp 10], argTypes := #[24] }, type := 4, pos := "modp.go:53", after := #[{ on := 1, ground := Ground.data }], guard := none }) (by kernel_rfl) rfl (fun K hK => ?_)
  go_simp
  go_at_call 24
  refine (isSquare12).mono ?_
  rintro e w2 ⟨rfl, b⟩
  have lz2 := (show Below _ _ _ from b).size
  replace GB := hid (below_step GB.out b)
  have hbq : ((r : Int) == (r : Int)) = true := by simp
  rw [hbq]
  clear b
  refine hK.out _ _ (fun _ => KB.out _ GB.out) ?_
  clear hK
  refine wpAnyT_one (i := 4) (o := { dst := some 13, op := Op.call { callee := Callee.value (Operand.func 23), args := #[Operand.tmp 9, Operand.tmp 11, Operand.tmp 12], argTypes := #[24, 4, 25] }, type := 29, pos := "modp.go:53", after := #[{ on := 0, ground := Ground.data }, { on := 2, ground := Ground.data }, { on := 3, ground := Ground.data }, { on := 2, ground := Ground.chain }], guard := none }) (by kernel_rfl) rfl (fun K hK => ?_)
  go_simp
  go_at_call 23
  refine (fault12 (s := true) (f := true) (p := p) (MX.out.now GB.out).chk).mono ?_
  rintro e w3 ⟨rfl, b⟩
  have lz3 := (show Below _ _ _ from b).size
  replace GB := hid (below_step GB.out b)
  rw [← NMZ.out]
  clear b
  refine hK.out _ _ (fun _ => KB.out _ GB.out) ?_
  clear hK
  refine wpAnyT_one (i := 5) (o := { dst := some 6, op := Op.assign (Operand.tmp 13), type := 29, pos := "modp.go:53", after := #[{ on := 4, ground := Ground.data }, { on := 4, ground := Ground.chain }, { on := 0, ground := Ground.phase }, { on := 1, ground := Ground.phase }, { on := 2, ground := Ground.phase }, { on := 3, ground := Ground.phase }, { on := 4, ground := Ground.phase }], guard := none }) (by kernel_rfl) rfl (fun K hK => ?_)
  go_simp
  refine hK.out _ _ (fun h => absurd h (by decide)) ?_
  clear hK
  try simp only [Act.put]
  refine wpAnyT_done (by kernel_rfl) ?_ _
  have G1 := hid (below_step G0.out GB.out)
  replace P1 := hid (P1.out.step GB.out)
  replace PR := hid (PR.out.step GB.out)
  have HW1 := hid (HWO.out _ GB.out)
  have q0 : ((0 : Int) != 0) = false := rfl
  clear x0 x1 x2
  have z0 := P1.out.at (i := 0) rfl
  have z1 := P1.out.at (i := 1) rfl
  have z2 := P1.out.at (i := 2) rfl
  clear GB KB G0 MX HWO
  go_wp2_with fail
  refine HW1.out.mono ?_
  intro e w2 hwk
  obtain ⟨lv, gs, pa, pcap, rfl, hln, b2⟩ := HWU.out _ _ _ hwk
  clear hwk
  have G2 := hid (below_step G1.out b2)
  obtain ⟨la, lcap, rfl, -, -⟩ := hln.form
  rw [OKS.out.len] at hln ⊢
  obtain ⟨V, hV⟩ : ∃ V, w2.alloc (shO p N (.slice la r lcap)) = V := ⟨_, rfl⟩
  obtain ⟨bV, szV⟩ := alo12 w2 (shO p N (.slice la r lcap))
  rw [hV] at bV szV
  have PB : Hid (Cel V w2.heap.size 55 (shc p N (.slice la r lcap))) := by unfold Hid; rw [← hV]; exact Cel.new w2 _ _
  have HCO := hid (corner12 (p := p) (top := 0) (left := r) (hln.now bV) OKS.out.len hr (by have := HNN.out; omega) (Nat.zero_le _) (by have := HNN.out; omega) (fun _ => by have := HNN.out; omega))
  rw [← HKF.out] at HCO
  have HNC : Hid (N - r = r) := by unfold Hid; have := HNN.out; omega
  rw [HNC.out] at HCO
  replace PR := hid ((PR.out.step b2).step bV)
  replace P1 := hid ((P1.out.step b2).step bV)
  have y0 := PB.out.at (i := 0) rfl
  have y1 := PB.out.at (i := 1) rfl
  have y2 := PB.out.at (i := 2) rfl
  have z0' := P1.out.at (i := 0) rfl
  have z1' := P1.out.at (i := 1) rfl
  rw [← hV] at y0 y1 y2 z0' z1'
  have EV := hid hV
  have GV := hid (below_step G2.out bV)
  clear HW1 hln b2 z0 z1 z2 G1 G2 bV szV hV HWU
  have hk' : ¬ (rk : Int) < (r : Int) := by omega
  go_wp2_with fail
  rw [EV.out]
  refine HCO.out.mono ?_
  rintro e w4 ⟨lv4, rfl, hrd, b4⟩
  obtain ⟨la4, lcap4, rfl, -, -⟩ := hrd.form
  rw [HKN.out] at hrd ⊢
  have HMT := hid (matrix12 (p := p) hrd HKW.out HKR.out hp2 HKN.out hr hr)
  have PR4 := hid (PR.out.step b4)
  have G4 := hid (below_step GV.out b4)
  clear HCO hrd b4 y0 y1 y2 z1' z0' EV GV PR PB P1
  go_wp2_with fail
  refine HMT.out.mono ?_
  rintro e w5 ⟨v5, rfl, hm5, b5⟩
  have PR5 := hid (PR4.out.step b5)
  have G5 := hid (below_step G4.out b5)
  obtain ⟨a5, q5, rfl, -, -⟩ := hm5.mx.form
  rw [HNR.out] at hm5 ⊢
  have FIN : Hid (GivesMO w r r KL.flatten 1 (.returned (.tuple #[.agg #[.int .i64 (r : Int), .int .i64 (r : Int), .slice a5 n q5], .int .i64 0])) (put3 w5 (w.heap.size + 1) (.int .i64 (r : Int)) (.int .i64 (r : Int)) (.slice a5 n q5))) := ⟨_, rfl, hm5.wk PR5.out _ _ _, below_put3 G5.out (by omega) _ _ _⟩
  have PF := hid (PR5.out.put3 (.int .i64 (r : Int)) (.int .i64 (r : Int)) (.slice a5 n q5))
  have r0 := PR5.out.at (i := 0) rfl
  have r1 := PR5.out.at (i := 1) rfl
  have r2 := PR5.out.at (i := 2) rfl
  have f0 := PR5.out.fz 0
  have f1 := PR5.out.fz 1
  have f2 := PR5.out.fz 2
  clear HMT hm5 b5 PR4 G4 PR5 G5
  go_wp2
  exact bodyPost_ret (mback1 Tryz.results11 PF.out _ (by rfl) (by rfl)) rfl FIN.out
set_option maxHeartbeats 3200000 in
set_option maxRecDepth 100000 in
theorem inverse12_no {w : World} {v : Value} {p r : Nat} {zs : List Int} {K0 : Nat} (hp : gdB p = true) (h : Mx w v r r zs K0) (hK : K0 ≤ 1099511627775) (hfull : wkR p r r zs < r) :
    Calls Tryz.prog 11 #[v, .int .u64 (p : Int)] w (fun e w' => e = .returned (.tuple #[.agg #[.int .i64 0, .int .i64 0, .slice none 0 0], .int .i64 6]) ∧ Below w.heap.size w w') := by
  obtain ⟨hpr, hp2⟩ := gd_parts hp
  have hp1 := hpr.1
  have hm0 := h
  obtain ⟨a, cap, rfl, hr, -⟩ := h.form
  have hl : zs.length = r * r := by obtain ⟨_, _, _, _, _, q, _⟩ := hm0; exact q
  have OKS := hid (wk_ok (p := p) (c := r) (r := r) hp1 hl)
  have HKF : Hid (invL p r zs = cornL 0 r (wkS p r r zs).m) := rfl
  obtain ⟨n, hn⟩ : ∃ n, r * r = n := ⟨_, rfl⟩
  have HNR := hid hn
  rw [hn] at hm0 ⊢
  obtain ⟨W0, hW⟩ : ∃ W0, (w.alloc (mrO (r : Int) (r : Int) a n cap)).alloc mbox = W0 := ⟨_, rfl⟩
  have b0 : Below w.heap.size w W0 := by rw [← hW]; exact ((Below.refl _ _).alloc (Nat.le_refl _) _).alloc (by simp) _
  have P1 : Hid (Cel W0 w.heap.size 24 (mrC (r : Int) (r : Int) a n cap)) := by unfold Hid; rw [← hW]; exact (Cel.new w _ _).step (alo12 _ _).1
  have PR : Hid (Cel W0 (w.heap.size + 1) 24 [.int .i64 0, .int .i64 0, .slice none 0 0]) := by
    unfold Hid; rw [← hW]
    have := Cel.new (w.alloc (mrO (r : Int) (r : Int) a n cap)) 24 [.int .i64 0, .int .i64 0, .slice none 0 0]
    simpa using this
  have x0 := P1.out.at (i := 0) rfl
  have x1 := P1.out.at (i := 1) rfl
  have x2 := P1.out.at (i := 2) rfl
  have MX := hid (hm0.now b0)
  have HWO : Hid (∀ w', Below W0.heap.size W0 w' → Calls Tryz.prog 28 #[matv r r (.slice a n cap), .int .u64 (p : Int)] w' (Worked w' p r r zs)) := fun w' q => worked12 hp ((hm0.now b0).now q) hK
  have G0 := hid b0
  have EW := hid hW
  have HWU : Hid (∀ w' e x, Worked w' p r r zs e x → ∃ lv gs pa pcap, e = .returned (.tuple #[shv p (r + r) lv, .slice pa (wkR p r r zs) pcap]) ∧ Lns w'.heap.size x lv (r + r) gs (wkS p r r zs).m ∧ Below w'.heap.size w' x) := fun _ _ _ q => q
  obtain ⟨KL, hKL⟩ : ∃ KL, invL p r zs = KL := ⟨_, rfl⟩
  rw [hKL] at HKF
  obtain ⟨rk, hrk⟩ : ∃ rk, wkR p r r zs = rk := ⟨_, rfl⟩
  obtain ⟨S, hS⟩ : ∃ S, wkS p r r zs = S := ⟨_, rfl⟩
  rw [hrk] at HWU hfull
  rw [hS] at HKF HWU OKS
  obtain ⟨N, hN⟩ : ∃ N, r + r = N := ⟨_, rfl⟩
  have HNN := hid hN
  rw [hN] at HWU OKS
  have HKW : Hid (WidE r KL) := by
    unfold Hid
    rw [HKF.out]
    have := cornL_wide (top := 0) (left := r) OKS.out.wid
    rw [show N - r = r by omega] at this
    exact this
  have HKR : Hid (ResM p KL) := by unfold Hid; rw [HKF.out]; exact cornL_res OKS.out.res
  have HKN : Hid (KL.length = r) := by unfold Hid; rw [HKF.out]; exact cornL_len OKS.out.len
  have HGD := hid hp
  have NMZ : Hid (0 = faultE true true p) := by unfold Hid faultE; rw [HGD.out]; rfl
  clear b0 hW h hm0 hK hl hn hpr hp hKL hrk hS hN
  go_enter Tryz.func11, Tryz.ntmps11
  go_wp2_with fail
  rw [EW.out]
  clear EW
  have KB : Hid (∀ w', Below W0.heap.size W0 w' → w'.cell? ⟨w.heap.size, 0, none⟩ = some (.int .i64 (r : Int)) ∧ w'.cell? ⟨w.heap.size, 1, none⟩ = some (.int .i64 (r : Int)) ∧ w'.cell? ⟨w.heap.size, 2, none⟩ = some (.slice a n cap)) := fun w' h => ⟨cnow h x0, cnow h x1, cnow h x2⟩
  refine wp_region_tail (fun w' => w'.cell? ⟨w.heap.size, 0, none⟩ = some (.int .i64 (r : Int)) ∧ w'.cell? ⟨w.heap.size, 1, none⟩ = some (.int .i64 (r : Int)) ∧ w'.cell? ⟨w.heap.size, 2, none⟩ = some (.slice a n cap)) 5 (by kernel_rfl) ?_
  obtain ⟨D1, hD⟩ : ∃ D1, W0.drew = D1 := ⟨_, rfl⟩
  have GB : Hid (Below W0.heap.size W0 D1) := by unfold Hid; rw [← hD]; exact (Below.refl _ _).drew
  rw [hD]
  clear hD
  refine wpAnyT_take (i := 0) (oi := { dst := some 9, op := Op.load 24 (Operand.tmp 2), type := 24, pos := "modp.go:53", after := #[], guard := none }) (v := (.agg #[.int .i64 (r : Int), .int .i64 (r : Int), .slice a n cap])) rfl (by kernel_rfl) (fun _ _ _ h => h) (Or.inl ⟨by rfl, ?_⟩) (KB.out _ GB.out) ?_
  · intro w hSw
    (try dsimp only at hSw)
    go_simp
  simp only [Act.put, List.setIfInBounds_toArray, List.set_cons_zero, List.set_cons_succ]
  refine wpAnyT_take (i := 1) (oi := { dst := some 10, op := Op.load 24 (Operand.tmp 2), type := 24, pos := "modp.go:53", after := #[], guard := none }) (v := (.agg #[.int .i64 (r : Int), .int .i64 (r : Int), .slice a n cap])) rfl (by kernel_rfl) (fun _ _ _ h => h) (Or.inl ⟨by rfl, ?_⟩) (KB.out _ GB.out) ?_
  · intro w hSw
    (try dsimp only at hSw)
    go_simp
  simp only [Act.put, List.setIfInBounds_toArray, List.set_cons_zero, List.set_cons_succ]
  refine wpAnyT_take (i := 3) (oi := { dst := some 12, op := Op.move (Operand.tmp 1), type := 25, pos := "modp.go:53", after := #[], guard := none }) (v := (.int .u64 (p : Int))) rfl (by kernel_rfl) (fun _ _ _ h => h) (Or.inl ⟨by rfl, ?_⟩) (KB.out _ GB.out) ?_
  · intro w hSw
    (try dsimp only at hSw)
    go_simp
  simp only [Act.put, List.setIfInBounds_toArray, List.set_cons_zero, List.set_cons_succ]
  refine wpAnyT_one (i := 2) (o := { dst := some 11, op := Op.call { callee := Callee.value (Operand.func 24), args := #[Operand.tmp 10], argTypes := #[24] }, type := 4, pos := "modp.go:53", after := #[{ on := 1, ground := Ground.data }], guard := none }) (by kernel_rfl) rfl (fun K hK => ?_)
  go_simp
  go_at_call 24
  refine (isSquare12).mono ?_
  rintro e w2 ⟨rfl, b⟩
  have lz2 := (show Below _ _ _ from b).size
  replace GB := hid (below_step GB.out b)
  have hbq : ((r : Int) == (r : Int)) = true := by simp
  rw [hbq]
  clear b
  refine hK.out _ _ (fun _ => KB.out _ GB.out) ?_
  clear hK
  refine wpAnyT_one (i := 4) (o := { dst := some 13, op := Op.call { callee := Callee.value (Operand.func 23), args := #[Operand.tmp 9, Operand.tmp 11, Operand.tmp 12], argTypes := #[24, 4, 25] }, type := 29, pos := "modp.go:53", after := #[{ on := 0, ground := Ground.data }, { on := 2, ground := Ground.data }, { on := 3, ground := Ground.data }, { on := 2, ground := Ground.chain }], guard := none }) (by kernel_rfl) rfl (fun K hK => ?_)
  go_simp
  go_at_call 23
  refine (fault12 (s := true) (f := true) (p := p) (MX.out.now GB.out).chk).mono ?_
  rintro e w3 ⟨rfl, b⟩
  have lz3 := (show Below _ _ _ from b).size
  replace GB := hid (below_step GB.out b)
  rw [← NMZ.out]
  clear b
  refine hK.out _ _ (fun _ => KB.out _ GB.out) ?_
  clear hK
  refine wpAnyT_one (i := 5) (o := { dst := some 6, op := Op.assign (Operand.tmp 13), type := 29, pos := "modp.go:53", after := #[{ on := 4, ground := Ground.data }, { on := 4, ground := Ground.chain }, { on := 0, ground := Ground.phase }, { on := 1, ground := Ground.phase }, { on := 2, ground := Ground.phase }, { on := 3, ground := Ground.phase }, { on := 4, ground := Ground.phase }], guard := none }) (by kernel_rfl) rfl (fun K hK => ?_)
  go_simp
  refine hK.out _ _ (fun h => absurd h (by decide)) ?_
  clear hK
  try simp only [Act.put]
  refine wpAnyT_done (by kernel_rfl) ?_ _
  have G1 := hid (below_step G0.out GB.out)
  replace P1 := hid (P1.out.step GB.out)
  replace PR := hid (PR.out.step GB.out)
  have HW1 := hid (HWO.out _ GB.out)
  have q0 : ((0 : Int) != 0) = false := rfl
  clear x0 x1 x2
  have z0 := P1.out.at (i := 0) rfl
  have z1 := P1.out.at (i := 1) rfl
  have z2 := P1.out.at (i := 2) rfl
  clear GB KB G0 MX HWO
  go_wp2_with fail
  refine HW1.out.mono ?_
  intro e w2 hwk
  obtain ⟨lv, gs, pa, pcap, rfl, hln, b2⟩ := HWU.out _ _ _ hwk
  clear hwk
  have G2 := hid (below_step G1.out b2)
  obtain ⟨la, lcap, rfl, -, -⟩ := hln.form
  rw [OKS.out.len] at hln ⊢
  obtain ⟨V, hV⟩ : ∃ V, w2.alloc (shO p N (.slice la r lcap)) = V := ⟨_, rfl⟩
  obtain ⟨bV, szV⟩ := alo12 w2 (shO p N (.slice la r lcap))
  rw [hV] at bV szV
  have PB : Hid (Cel V w2.heap.size 55 (shc p N (.slice la r lcap))) := by unfold Hid; rw [← hV]; exact Cel.new w2 _ _
  have HCO := hid (corner12 (p := p) (top := 0) (left := r) (hln.now bV) OKS.out.len hr (by have := HNN.out; omega) (Nat.zero_le _) (by have := HNN.out; omega) (fun _ => by have := HNN.out; omega))
  rw [← HKF.out] at HCO
  have HNC : Hid (N - r = r) := by unfold Hid; have := HNN.out; omega
  rw [HNC.out] at HCO
  replace PR := hid ((PR.out.step b2).step bV)
  replace P1 := hid ((P1.out.step b2).step bV)
  have y0 := PB.out.at (i := 0) rfl
  have y1 := PB.out.at (i := 1) rfl
  have y2 := PB.out.at (i := 2) rfl
  have z0' := P1.out.at (i := 0) rfl
  have z1' := P1.out.at (i := 1) rfl
  rw [← hV] at y0 y1 y2 z0' z1'
  have EV := hid hV
  have GV := hid (below_step G2.out bV)
  clear HW1 hln b2 z0 z1 z2 G1 G2 bV szV hV HWU
  have hk' : (rk : Int) < (r : Int) := by omega
  have r0 := PR.out.at (i := 0) rfl
  have r1 := PR.out.at (i := 1) rfl
  have r2 := PR.out.at (i := 2) rfl
  have f0 := PR.out.fz 0
  have f1 := PR.out.fz 1
  have f2 := PR.out.fz 2
  rw [← EV.out] at r0 r1 r2 f0 f1 f2
  have FIN : Hid (Below w.heap.size w (put3 (w2.alloc (shO p N (.slice la r lcap))) (w.heap.size + 1) (.int .i64 0) (.int .i64 0) (.slice none 0 0))) := by unfold Hid; rw [EV.out]; exact below_put3 GV.out (by omega) _ _ _
  have PF := hid (PR.out.put3 (.int .i64 0) (.int .i64 0) (.slice none 0 0))
  rw [← EV.out] at PF
  clear HCO GV PB P1 PR EV
  go_wp2
  exact bodyPost_ret (mback1 Tryz.results11 PF.out _ (by rfl) (by rfl)) rfl ⟨rfl, FIN.out⟩
end Go.Proofs.YtiedmlfiboalhaaGreat
