/-
  Ad12: the reference's Scale and Add.
-/
import Derived.Test.YtiedmlfiboalhaaGreatQTn12
namespace Go.Proofs.YtiedmlfiboalhaaGreat
open Go.RowKit
set_option linter.unusedVariables false

def FlH (w : World) (g N : Nat) (F : Nat → Int) (kk : Nat) (P : World → Prop) (gk : Nat) (s : Value) (wx : World) : Prop := ∃ i : Nat, s = .int .i64 (i : Int) ∧ i ≤ N ∧ gk = N - i ∧ FilM wx g N i F kk ∧ P wx
def scZ (N : Nat) (z : Int) (xs : List Int) : List Int := (List.range N).map fun t => z * xs.getD t 0
def adZ (N : Nat) (xs ys : List Int) : List Int := (List.range N).map fun t => xs.getD t 0 + ys.getD t 0
def MBS (w wx : World) (bm : Nat) (x y : Value) (B0 M0 : List Value) : Prop := Duo wx w.heap.size x y ∧ Cel wx (w.heap.size + 1) 24 B0 ∧ Cel wx (w.heap.size + 1 + 1) 24 [.int .i64 0, .int .i64 0, .slice none 0 0] ∧ Cel wx bm 24 M0 ∧ Below w.heap.size w wx
theorem MBS.step {w x y : World} {bm : Nat} {a b : Value} {B0 M0 : List Value} (h : MBS w x bm a b B0 M0) (hb : Below x.heap.size x y) : MBS w y bm a b B0 M0 := ⟨h.1.step hb, h.2.1.step hb, h.2.2.1.step hb, h.2.2.2.1.step hb, below_step h.2.2.2.2 hb⟩
theorem MBS.put {w x : World} {bm g t : Nat} {a b u u' : Value} {B0 M0 : List Value} (h : MBS w x bm a b B0 M0) (ht : Ty 43 x ((x.setCell ⟨g, t * 2, none⟩ u).setCell ⟨g, t * 2 + 1, none⟩ u')) (hg : w.heap.size < g) : MBS w ((x.setCell ⟨g, t * 2, none⟩ u).setCell ⟨g, t * 2 + 1, none⟩ u') bm a b B0 M0 := ⟨(h.1.ne (by omega)).ne (by omega), h.2.1.ty12 ht (by decide), h.2.2.1.ty12 ht (by decide), h.2.2.2.1.ty12 ht (by decide), bset (bset h.2.2.2.2 (by omega)) (by omega)⟩
set_option maxHeartbeats 3200000 in
set_option maxRecDepth 100000 in
theorem rscale12 {w : World} {vk vb : Value} {r c : Nat} {z : Int} {ys : List Int} {ka kb : Nat} (hz : Zi w vk z ka) (hb : Mx w vb r c ys kb) (hk : ka + kb ≤ 1099511627776) :
    Calls Tryz.prog 32 #[vk, vb] w (GivesMO w r c (scZ (r * c) z ys) (ka + kb)) := by
  have HCK := hid (rcheckM hb)
  have HZ := hid hz
  obtain ⟨nz, xz, az, cz, rfl, -⟩ := hz
  obtain ⟨atb, pb, rfl, pb1, pb2, pb3, hr, hc⟩ := hb
  have HBB : Hid (∀ wx, Below w.heap.size w wx → ∀ t, t < r * c → ∃ b off cap n a l c', atb = .slice (some ⟨b, off, none⟩) (r * c) cap ∧ wx.cell? ⟨b, off + t * 2, none⟩ = some (.bool n) ∧ wx.cell? ⟨b, off + t * 2 + 1, none⟩ = some (.slice a l c') ∧ Zi wx (.agg #[.bool n, .slice a l c']) (ys.getD t 0) kb) := fun wx h t ht => by
    have := (pb1.now h).isI12 (pb2.now h) (t := t) (by rw [pb3]; exact ht)
    rw [pb3] at this
    exact this
  have hrc : r * c ≤ 64 * 64 := Nat.mul_le_mul hr hc
  obtain ⟨N, hN⟩ : ∃ N, r * c = N := ⟨_, rfl⟩
  have HBL : Hid (∀ w', Calls Tryz.prog 19 #[.int .i64 (r : Int), .int .i64 (c : Int)] w' (Blanked w' r c N)) := fun w' => rblank12 hr hc hN
  rw [hN] at hrc HBB ⊢
  obtain ⟨ab, cb, rfl, -, -, -, -⟩ := pb1.form
  have hpl : pb.length = N := by rw [pb2.1, pb3, hN]
  rw [hpl] at HBB ⊢
  rw [hpl] at HCK
  have HNN := hid hN
  obtain ⟨W0, hW⟩ : ∃ W0, ((w.alloc (duo (.bool nz) (.slice az xz.length cz))).alloc (matO r c (.slice ab N cb))).alloc mbox = W0 := ⟨_, rfl⟩
  obtain ⟨b0, sz0⟩ := alloc3 w (duo (.bool nz) (.slice az xz.length cz)) (matO r c (.slice ab N cb)) mbox
  rw [hW] at b0 sz0
  have PA : Hid (Duo W0 w.heap.size (.bool nz) (.slice az xz.length cz)) := by
    unfold Hid; rw [← hW]
    exact ((Duo.new w _ _).step ((Below.refl _ _).alloc (Nat.le_refl _) _)).step ((Below.refl _ _).alloc (Nat.le_refl _) _)
  have PB : Hid (Cel W0 (w.heap.size + 1) 24 (matc r c (.slice ab N cb))) := by
    unfold Hid; rw [← hW]
    have := ((Cel.new (w.alloc (duo (.bool nz) (.slice az xz.length cz))) 24 (matc r c (.slice ab N cb))).step ((Below.refl _ _).alloc (Nat.le_refl _) mbox))
    simpa using this
  have PR : Hid (Cel W0 (w.heap.size + 1 + 1) 24 [.int .i64 0, .int .i64 0, .slice none 0 0]) := by
    unfold Hid; rw [← hW]
    have := Cel.new ((w.alloc (duo (.bool nz) (.slice az xz.length cz))).alloc (matO r c (.slice ab N cb))) 24 [.int .i64 0, .int .i64 0, .slice none 0 0]
    simpa using this
  have y0 := PB.out.at (i := 0) rfl
  have y1 := PB.out.at (i := 1) rfl
  have y2 := PB.out.at (i := 2) rfl
  rw [← hW] at y0 y1 y2
  have G0 := hid b0
  have SZ := hid sz0
  have HK := hid hk
  have EW := hid hW
  clear pb1 pb2 pb3 b0 sz0 hW hk hN
  go_enter Tryz.func32, Tryz.ntmps32
  go_wp2_with fail
  rw [EW.out]
  refine (HCK.out _ G0.out).mono ?_
  rintro e w1 ⟨rfl, b1⟩
  have PA1 := hid (PA.out.step b1)
  have PB1 := hid (PB.out.step b1)
  have PR1 := hid (PR.out.step b1)
  have G1 := hid (below_step G0.out b1)
  clear y0 y1 y2 EW PA PB PR G0 HCK
  have y0 := PB1.out.at (i := 0) rfl
  have y1 := PB1.out.at (i := 1) rfl
  have sz1 := b1.size
  have q0 : ((0 : Int) != 0) = false := rfl
  go_wp2_with fail
  refine (HBL.out _).mono ?_
  rintro e w2 ⟨g, rfl, hge, harr, b2⟩
  clear y0 y1 q0 HBL
  obtain ⟨V1, hV⟩ : ∃ V1, w2.alloc (matO r c (.slice (some ⟨g, 0, none⟩) N N)) = V1 := ⟨_, rfl⟩
  obtain ⟨b3, sz3⟩ := alo1 w2 (matO r c (.slice (some ⟨g, 0, none⟩) N N))
  rw [hV] at b3 sz3
  have PM : Hid (Cel V1 w2.heap.size 24 (matc r c (.slice (some ⟨g, 0, none⟩) N N))) := by unfold Hid; rw [← hV]; exact Cel.new w2 _ _
  have HGW : Hid (w.heap.size + 1 + 1 < g) := by unfold Hid; have h1 := SZ.out; omega
  have H0 : Hid (FlH w g N (fun t => z * ys.getD t 0) (ka + kb) (fun wx => MBS w wx w2.heap.size (.bool nz) (.slice az xz.length cz) (matc r c (.slice ab N cb)) (matc r c (.slice (some ⟨g, 0, none⟩) N N))) N (.int .i64 0) V1) :=
    ⟨0, rfl, Nat.zero_le _, by omega, (FilM.start harr _ _).step b3, (PA1.out.step b2).step b3, (PB1.out.step b2).step b3, (PR1.out.step b2).step b3, PM.out, below_step (below_step G1.out b2) b3⟩
  have EV := hid hV
  clear PA1 PB1 PR1 G1 harr b1 b2 b3 sz3 PM hV hge SZ sz1
  go_wp2_with fail
  rw [EV.out]
  clear EV
  obtain ⟨bm, hbm⟩ : ∃ bm, w2.heap.size = bm := ⟨_, rfl⟩
  rw [hbm] at H0 ⊢
  clear hbm
  go_loopg [8] N (fun gk s8 wx => FlH w g N (fun t => z * ys.getD t 0) (ka + kb) (fun wx => MBS w wx bm (.bool nz) (.slice az xz.length cz) (matc r c (.slice ab N cb)) (matc r c (.slice (some ⟨g, 0, none⟩) N N))) gk s8 wx)
  case atStart => exact H0.out
  case round =>
    clear H0
    obtain ⟨i, rfl, hin, hg, hfil, hmb⟩ := hrel
    have FI := hid hfil
    have MBx := hid hmb
    have HG := hid hg
    clear hfil hmb hg
    have y2 := MBx.out.2.1.at (i := 2) rfl
    by_cases hlt : i < N
    · have hlt' : (i : Int) < (N : Int) := by omega
      have hw := wrapI9 (i := i) (by omega)
      have HMM : Hid (N - (i + 1) < gk) := by unfold Hid; rw [HG.out]; omega
      obtain ⟨b2, o2, c2, n2, a2, l2, d2, e2, v0, v1, z2⟩ := HBB.out wr MBx.out.2.2.2.2 i hlt
      simp only [Value.slice.injEq] at e2
      obtain ⟨rfl, -, rfl⟩ := e2
      have HS : Hid (∀ w', Below wr.heap.size wr w' → Calls Tryz.prog 36 #[.agg #[.bool nz, .slice az xz.length cz], .agg #[.bool n2, .slice a2 l2 d2]] w' (GivesZ w' (z * ys.getD i 0) (ka + kb))) := fun w' h => rmul_z ((HZ.out.now MBx.out.2.2.2.2).now h) (z2.now h) (by have := HK.out; omega) (by have := HK.out; omega)
      have s0 := MBx.out.1.c0
      have s1 := MBx.out.1.c1
      have m2 := MBx.out.2.2.2.1.at (i := 2) rfl
      clear z2 HG
      go_wp2_with fail
      have KB : Hid (∀ w', Below wr.heap.size wr w' → w'.cell? ⟨w.heap.size, 0, none⟩ = some (.bool nz) ∧ w'.cell? ⟨w.heap.size, 1, none⟩ = some (.slice az xz.length cz) ∧ w'.cell? ⟨w.heap.size + 1, 2, none⟩ = some (.slice (some ⟨b2, o2, none⟩) N cb) ∧ w'.cell? ⟨bm, 2, none⟩ = some (.slice (some ⟨g, 0, none⟩) N N) ∧ w'.cell? ⟨b2, o2 + i * 2, none⟩ = some (.bool n2) ∧ w'.cell? ⟨b2, o2 + i * 2 + 1, none⟩ = some (.slice a2 l2 d2)) := fun w' h => ⟨cnow h s0, cnow h s1, cnow h y2, cnow h m2, cnow h v0, cnow h v1⟩
      refine wp_region_tail (fun w' => w'.cell? ⟨w.heap.size, 0, none⟩ = some (.bool nz) ∧ w'.cell? ⟨w.heap.size, 1, none⟩ = some (.slice az xz.length cz) ∧ w'.cell? ⟨w.heap.size + 1, 2, none⟩ = some (.slice (some ⟨b2, o2, none⟩) N cb) ∧ w'.cell? ⟨bm, 2, none⟩ = some (.slice (some ⟨g, 0, none⟩) N N) ∧ w'.cell? ⟨b2, o2 + i * 2, none⟩ = some (.bool n2) ∧ w'.cell? ⟨b2, o2 + i * 2 + 1, none⟩ = some (.slice a2 l2 d2)) 11 (by kernel_rfl) ?_
      obtain ⟨D1, hD⟩ : ∃ D1, wr.drew = D1 := ⟨_, rfl⟩
      have GB : Hid (Below wr.heap.size wr D1) := by unfold Hid; rw [← hD]; exact (Below.refl _ _).drew
      rw [hD]
      clear hD
      have GBs := GB
      refine wpAnyT_take (i := 0) (oi := { dst := some 27, op := Op.fieldAddr 24 (Operand.tmp 7) 2, type := 0, pos := "ref.go:142", after := #[], guard := none }) (v := (.pointer (some ⟨bm, 2, none⟩))) rfl (by kernel_rfl) (fun _ _ _ h => h) (Or.inl ⟨by rfl, ?_⟩) (KB.out _ GB.out) ?_
      · intro w hSw
        (try dsimp only at hSw)
        go_simp
      simp only [Act.put, List.setIfInBounds_toArray, List.set_cons_zero, List.set_cons_succ]
      refine wpAnyT_take (i := 1) (oi := { dst := some 28, op := Op.load 22 (Operand.tmp 27), type := 22, pos := "ref.go:142", after := #[{ on := 0, ground := Ground.data }], guard := none }) (v := (.slice (some ⟨g, 0, none⟩) N N)) rfl (by kernel_rfl) (fun _ _ _ h => h) (Or.inl ⟨by rfl, ?_⟩) (KB.out _ GB.out) ?_
      · intro w hSw
        (try dsimp only at hSw)
        go_simp
      simp only [Act.put, List.setIfInBounds_toArray, List.set_cons_zero, List.set_cons_succ]
      refine wpAnyT_take (i := 2) (oi := { dst := some 29, op := Op.move (Operand.tmp 8), type := 3, pos := "ref.go:142", after := #[], guard := none }) (v := (.int .i64 (i : Int))) rfl (by kernel_rfl) (fun _ _ _ h => h) (Or.inl ⟨by rfl, ?_⟩) (KB.out _ GB.out) ?_
      · intro w hSw
        (try dsimp only at hSw)
        go_simp
      simp only [Act.put, List.setIfInBounds_toArray, List.set_cons_zero, List.set_cons_succ]
      refine wpAnyT_take (i := 3) (oi := { dst := some 30, op := Op.load 43 (Operand.tmp 2), type := 43, pos := "ref.go:142", after := #[], guard := none }) (v := (.agg #[.bool nz, .slice az xz.length cz])) rfl (by kernel_rfl) (fun _ _ _ h => h) (Or.inl ⟨by rfl, ?_⟩) (KB.out _ GB.out) ?_
      · intro w hSw
        (try dsimp only at hSw)
        go_simp
      simp only [Act.put, List.setIfInBounds_toArray, List.set_cons_zero, List.set_cons_succ]
      refine wpAnyT_take (i := 4) (oi := { dst := some 31, op := Op.fieldAddr 24 (Operand.tmp 3) 2, type := 0, pos := "ref.go:142", after := #[], guard := none }) (v := (.pointer (some ⟨(w.heap.size + 1), 2, none⟩))) rfl (by kernel_rfl) (fun _ _ _ h => h) (Or.inl ⟨by rfl, ?_⟩) (KB.out _ GB.out) ?_
      · intro w hSw
        (try dsimp only at hSw)
        go_simp
      simp only [Act.put, List.setIfInBounds_toArray, List.set_cons_zero, List.set_cons_succ]
      refine wpAnyT_take (i := 5) (oi := { dst := some 32, op := Op.load 22 (Operand.tmp 31), type := 22, pos := "ref.go:142", after := #[{ on := 4, ground := Ground.data }], guard := none }) (v := (.slice (some ⟨b2, o2, none⟩) N cb)) rfl (by kernel_rfl) (fun _ _ _ h => h) (Or.inl ⟨by rfl, ?_⟩) (KB.out _ GB.out) ?_
      · intro w hSw
        (try dsimp only at hSw)
        go_simp
      simp only [Act.put, List.setIfInBounds_toArray, List.set_cons_zero, List.set_cons_succ]
      refine wpAnyT_take (i := 6) (oi := { dst := some 33, op := Op.move (Operand.tmp 8), type := 3, pos := "ref.go:142", after := #[], guard := none }) (v := (.int .i64 (i : Int))) rfl (by kernel_rfl) (fun _ _ _ h => h) (Or.inl ⟨by rfl, ?_⟩) (KB.out _ GB.out) ?_
      · intro w hSw
        (try dsimp only at hSw)
        go_simp
      simp only [Act.put, List.setIfInBounds_toArray, List.set_cons_zero, List.set_cons_succ]
      refine wpAnyT_take (i := 7) (oi := { dst := some 34, op := Op.indexAddr 22 (Operand.tmp 32) (Operand.tmp 33), type := 0, pos := "ref.go:142", after := #[{ on := 5, ground := Ground.data }, { on := 6, ground := Ground.data }], guard := none }) (v := (.pointer (some ⟨b2, o2 + i * 2, none⟩))) rfl (by kernel_rfl) (fun _ _ _ h => h) (Or.inl ⟨by rfl, ?_⟩) (KB.out _ GB.out) ?_
      · intro w hSw
        (try dsimp only at hSw)
        go_simp
      simp only [Act.put, List.setIfInBounds_toArray, List.set_cons_zero, List.set_cons_succ]
      refine wpAnyT_take (i := 8) (oi := { dst := some 35, op := Op.load 43 (Operand.tmp 34), type := 43, pos := "ref.go:142", after := #[{ on := 7, ground := Ground.data }], guard := none }) (v := (.agg #[.bool n2, .slice a2 l2 d2])) rfl (by kernel_rfl) (fun _ _ _ h => h) (Or.inl ⟨by rfl, ?_⟩) (KB.out _ GB.out) ?_
      · intro w hSw
        (try dsimp only at hSw)
        go_simp
      simp only [Act.put, List.setIfInBounds_toArray, List.set_cons_zero, List.set_cons_succ]
      refine wpAnyT_one (i := 9) (o := { dst := some 36, op := Op.call { callee := Callee.value (Operand.func 36), args := #[Operand.tmp 30, Operand.tmp 35], argTypes := #[43, 43] }, type := 43, pos := "ref.go:142", after := #[{ on := 3, ground := Ground.data }, { on := 8, ground := Ground.data }], guard := none }) (by kernel_rfl) rfl (fun K hK => ?_)
      go_simp
      go_at_call 36
      refine (HS.out _ GB.out).mono ?_
      rintro e w2 ⟨rr, rfl, m1, b⟩
      have lz2 := (show Below _ _ _ from b).size
      replace GB := hid (below_step GB.out b)
      have FI1 := hid (FI.out.step (below_step (w0 := wr) GBs.out b))
      have MB2 := hid (MBx.out.step (below_step (w0 := wr) GBs.out b))
      have M1 := hid (m1.mono (Nat.zero_le _))
      obtain ⟨nr, xr, ar, cr, rfl⟩ := m1.parts
      clear m1
      clear b
      refine hK.out _ _ (fun _ => KB.out _ GB.out) ?_
      clear hK
      refine wpAnyT_take (i := 10) (oi := { dst := some 37, op := Op.indexAddr 22 (Operand.tmp 28) (Operand.tmp 29), type := 0, pos := "ref.go:142", after := #[{ on := 1, ground := Ground.data }, { on := 2, ground := Ground.data }, { on := 0, ground := Ground.phase }, { on := 1, ground := Ground.phase }, { on := 2, ground := Ground.phase }, { on := 3, ground := Ground.phase }, { on := 4, ground := Ground.phase }, { on := 5, ground := Ground.phase }, { on := 6, ground := Ground.phase }, { on := 7, ground := Ground.phase }, { on := 8, ground := Ground.phase }, { on := 9, ground := Ground.phase }], guard := none }) (v := (.pointer (some ⟨g, i * 2, none⟩))) rfl (by kernel_rfl) (fun _ _ _ h => h) (Or.inl ⟨by rfl, ?_⟩) (KB.out _ GB.out) ?_
      · intro w hSw
        (try dsimp only at hSw)
        go_simp
      simp only [Act.put, List.setIfInBounds_toArray, List.set_cons_zero, List.set_cons_succ]
      refine wpAnyT_one (i := 11) (o := { dst := none, op := Op.store 43 (Operand.tmp 37) (Operand.tmp 36), type := 0, pos := "ref.go:142", after := #[{ on := 10, ground := Ground.data }, { on := 9, ground := Ground.data }, { on := 9, ground := Ground.chain }, { on := 0, ground := Ground.phase }, { on := 1, ground := Ground.phase }, { on := 2, ground := Ground.phase }, { on := 3, ground := Ground.phase }, { on := 4, ground := Ground.phase }, { on := 5, ground := Ground.phase }, { on := 6, ground := Ground.phase }, { on := 7, ground := Ground.phase }, { on := 8, ground := Ground.phase }, { on := 9, ground := Ground.phase }], guard := none }) (by kernel_rfl) rfl (fun K hK => ?_)
      obtain ⟨m0, am, lm, cm, e0, e1, e2, e3⟩ := FI1.out.cells (j := i) hlt
      go_simp
      clear e0 e1 e2 e3
      obtain ⟨V3, hW⟩ : ∃ V3, ((w2.setCell ⟨g, i * 2, none⟩ (.bool nr)).setCell ⟨g, i * 2 + 1, none⟩ (.slice ar xr.length cr)) = V3 := ⟨_, rfl⟩
      have HN1 : Hid (FlH w g N (fun t => z * ys.getD t 0) (ka + kb) (fun wx => MBS w wx bm (.bool nz) (.slice az xz.length cz) (matc r c (.slice (some ⟨b2, o2, none⟩) N cb)) (matc r c (.slice (some ⟨g, 0, none⟩) N N))) (N - (i + 1)) (.int .i64 ((i + 1 : Nat) : Int)) V3) := by
        unfold Hid
        rw [← hW]
        exact ⟨i + 1, rfl, by omega, rfl, FI1.out.put hlt M1.out, MB2.out.put (FI1.out.ty12 _ _) (by have := HGW.out; omega)⟩
      rw [hW]
      clear hW
      refine hK.out _ _ (fun h => absurd h (by decide)) ?_
      clear hK
      try simp only [Act.put]
      refine wpAnyT_done (by kernel_rfl) ?_ _
      clear HS FI MBx FI1 MB2 M1 GBs GB KB
      go_wp2_with fail
      go_roundg (N - (i + 1))
      case rel => exact HN1.out
      case measure => exact HMM.out
    · have hlt' : ¬ (i : Int) < (N : Int) := by omega
      obtain rfl : i = N := by omega
      have m0 := MBx.out.2.2.2.1.at (i := 0) rfl
      have m1 := MBx.out.2.2.2.1.at (i := 1) rfl
      have m2 := MBx.out.2.2.2.1.at (i := 2) rfl
      have r0 := MBx.out.2.2.1.at (i := 0) rfl
      have r1 := MBx.out.2.2.1.at (i := 1) rfl
      have r2 := MBx.out.2.2.1.at (i := 2) rfl
      have f0 := MBx.out.2.2.1.fz 0
      have f1 := MBx.out.2.2.1.fz 1
      have f2 := MBx.out.2.2.1.fz 2
      obtain ⟨ps, p1, p2⟩ := FI.out.done (by omega)
      have FIN : Hid (GivesMO w r c (scZ i z ys) (ka + kb) (.returned (.tuple #[.agg #[.int .i64 (r : Int), .int .i64 (c : Int), .slice (some ⟨g, 0, none⟩) i i], .int .i64 0])) (put3 wr (w.heap.size + 1 + 1) (.int .i64 (r : Int)) (.int .i64 (c : Int)) (.slice (some ⟨g, 0, none⟩) i i))) := by
        have t1 : Ty 24 wr (put3 wr (w.heap.size + 1 + 1) (.int .i64 (r : Int)) (.int .i64 (c : Int)) (.slice (some ⟨g, 0, none⟩) i i)) := ((Ty.set MBx.out.2.2.1).trans (Ty.set (MBx.out.2.2.1.set 0 _))).trans (Ty.set ((MBx.out.2.2.1.set 0 _).set 1 _))
        exact ⟨_, rfl, ⟨_, ps, rfl, (p1.ty t1 (by decide)).1, (p2.ty t1 (by decide)).zcs, by simp [scZ]; exact HNN.out.symm, hr, hc⟩, below_put3 MBx.out.2.2.2.2 (by omega) _ _ _⟩
      have PG := hid (MBx.out.2.2.1.put3 (.int .i64 (r : Int)) (.int .i64 (c : Int)) (.slice (some ⟨g, 0, none⟩) i i))
      clear FI MBx HG p1 p2
      go_wp2
      exact bodyPost_ret (mback1 Tryz.results32 PG.out _ (by rfl) (by rfl)) rfl FIN.out
set_option maxHeartbeats 3200000 in
set_option maxRecDepth 100000 in
theorem radd12 {w : World} {va vb : Value} {r c : Nat} {xs ys : List Int} {ka kb : Nat} (ha : Mx w va r c xs ka) (hb : Mx w vb r c ys kb) (hk : ka + kb + 1 ≤ 1099511627776) :
    Calls Tryz.prog 33 #[va, vb] w (GivesMO w r c (adZ (r * c) xs ys) (ka + kb + 1)) := by
  have HBT : Hid (∀ w', Below w.heap.size w w' → Calls Tryz.prog 18 #[va, vb] w' (RCk w')) := fun w' h => rboth12 (ha.now h) (hb.now h)
  obtain ⟨ata, pa, rfl, pa1, pa2, pa3, -, -⟩ := ha
  obtain ⟨atb, pb, rfl, pb1, pb2, pb3, hr, hc⟩ := hb
  have HAA : Hid (∀ wx, Below w.heap.size w wx → ∀ t, t < r * c → ∃ b off cap n a l c', ata = .slice (some ⟨b, off, none⟩) (r * c) cap ∧ wx.cell? ⟨b, off + t * 2, none⟩ = some (.bool n) ∧ wx.cell? ⟨b, off + t * 2 + 1, none⟩ = some (.slice a l c') ∧ Zi wx (.agg #[.bool n, .slice a l c']) (xs.getD t 0) ka) := fun wx h t ht => by
    have := (pa1.now h).isI12 (pa2.now h) (t := t) (by rw [pa3]; exact ht)
    rw [pa3] at this
    exact this
  have HBB : Hid (∀ wx, Below w.heap.size w wx → ∀ t, t < r * c → ∃ b off cap n a l c', atb = .slice (some ⟨b, off, none⟩) (r * c) cap ∧ wx.cell? ⟨b, off + t * 2, none⟩ = some (.bool n) ∧ wx.cell? ⟨b, off + t * 2 + 1, none⟩ = some (.slice a l c') ∧ Zi wx (.agg #[.bool n, .slice a l c']) (ys.getD t 0) kb) := fun wx h t ht => by
    have := (pb1.now h).isI12 (pb2.now h) (t := t) (by rw [pb3]; exact ht)
    rw [pb3] at this
    exact this
  have hrc : r * c ≤ 64 * 64 := Nat.mul_le_mul hr hc
  obtain ⟨N, hN⟩ : ∃ N, r * c = N := ⟨_, rfl⟩
  have HBL : Hid (∀ w', Calls Tryz.prog 19 #[.int .i64 (r : Int), .int .i64 (c : Int)] w' (Blanked w' r c N)) := fun w' => rblank12 hr hc hN
  rw [hN] at hrc HBB ⊢
  rw [hN] at HAA
  obtain ⟨ab, cb, rfl, -, -, -, -⟩ := pb1.form
  have hpl : pb.length = N := by rw [pb2.1, pb3, hN]
  rw [hpl] at HBB ⊢
  rw [hpl] at HBT
  have HNN := hid hN
  obtain ⟨aa, ca, rfl, -, -, -, -⟩ := pa1.form
  have hpl' : pa.length = N := by rw [pa2.1, pa3, hN]
  rw [hpl'] at HAA HBT ⊢
  obtain ⟨W0, hW⟩ : ∃ W0, ((w.alloc (matO r c (.slice aa N ca))).alloc (matO r c (.slice ab N cb))).alloc mbox = W0 := ⟨_, rfl⟩
  obtain ⟨b0, sz0⟩ := alloc3 w (matO r c (.slice aa N ca)) (matO r c (.slice ab N cb)) mbox
  rw [hW] at b0 sz0
  have PA : Hid (Cel W0 w.heap.size 24 (matc r c (.slice aa N ca))) := by
    unfold Hid; rw [← hW]
    exact (((Cel.new w 24 (matc r c (.slice aa N ca))).step ((Below.refl _ _).alloc (Nat.le_refl _) _)).step ((Below.refl _ _).alloc (Nat.le_refl _) _))
  have PB : Hid (Cel W0 (w.heap.size + 1) 24 (matc r c (.slice ab N cb))) := by
    unfold Hid; rw [← hW]
    have := ((Cel.new (w.alloc (matO r c (.slice aa N ca))) 24 (matc r c (.slice ab N cb))).step ((Below.refl _ _).alloc (Nat.le_refl _) mbox))
    simpa using this
  have PR : Hid (Cel W0 (w.heap.size + 1 + 1) 24 [.int .i64 0, .int .i64 0, .slice none 0 0]) := by
    unfold Hid; rw [← hW]
    have := Cel.new ((w.alloc (matO r c (.slice aa N ca))).alloc (matO r c (.slice ab N cb))) 24 [.int .i64 0, .int .i64 0, .slice none 0 0]
    simpa using this
  have x0 := PA.out.at (i := 0) rfl
  have x1 := PA.out.at (i := 1) rfl
  have x2 := PA.out.at (i := 2) rfl
  rw [← hW] at x0 x1 x2
  have y0 := PB.out.at (i := 0) rfl
  have y1 := PB.out.at (i := 1) rfl
  have y2 := PB.out.at (i := 2) rfl
  rw [← hW] at y0 y1 y2
  have G0 := hid b0
  have SZ := hid sz0
  have HK := hid hk
  have EW := hid hW
  clear pb1 pb2 pb3 pa1 pa2 pa3 b0 sz0 hW hk hN
  go_enter Tryz.func33, Tryz.ntmps33
  go_wp2_with fail
  rw [EW.out]
  refine (HBT.out _ G0.out).mono ?_
  rintro e w1 ⟨rfl, b1⟩
  have PA1 := hid (PA.out.step b1)
  have PB1 := hid (PB.out.step b1)
  have PR1 := hid (PR.out.step b1)
  have G1 := hid (below_step G0.out b1)
  clear x0 x1 x2 y0 y1 y2 EW PA PB PR G0 HBT
  have x0 := PA1.out.at (i := 0) rfl
  have x1 := PA1.out.at (i := 1) rfl
  have q1 : ((r : Int) != (r : Int)) = false := by simp
  have q2 : ((c : Int) != (c : Int)) = false := by simp
  have y0 := PB1.out.at (i := 0) rfl
  have y1 := PB1.out.at (i := 1) rfl
  have sz1 := b1.size
  have q0 : ((0 : Int) != 0) = false := rfl
  go_wp2_with fail
  refine (HBL.out _).mono ?_
  rintro e w2 ⟨g, rfl, hge, harr, b2⟩
  clear x0 x1 q1 q2 y0 y1 q0 HBL
  obtain ⟨V1, hV⟩ : ∃ V1, w2.alloc (matO r c (.slice (some ⟨g, 0, none⟩) N N)) = V1 := ⟨_, rfl⟩
  obtain ⟨b3, sz3⟩ := alo1 w2 (matO r c (.slice (some ⟨g, 0, none⟩) N N))
  rw [hV] at b3 sz3
  have PM : Hid (Cel V1 w2.heap.size 24 (matc r c (.slice (some ⟨g, 0, none⟩) N N))) := by unfold Hid; rw [← hV]; exact Cel.new w2 _ _
  have HGW : Hid (w.heap.size + 1 + 1 < g) := by unfold Hid; have h1 := SZ.out; omega
  have H0 : Hid (FlH w g N (fun t => xs.getD t 0 + ys.getD t 0) (ka + kb + 1) (fun wx => MB w wx w2.heap.size (matc r c (.slice aa N ca)) (matc r c (.slice ab N cb)) (matc r c (.slice (some ⟨g, 0, none⟩) N N))) N (.int .i64 0) V1) :=
    ⟨0, rfl, Nat.zero_le _, by omega, (FilM.start harr _ _).step b3, (PA1.out.step b2).step b3, (PB1.out.step b2).step b3, (PR1.out.step b2).step b3, PM.out, below_step (below_step G1.out b2) b3⟩
  have EV := hid hV
  clear PA1 PB1 PR1 G1 harr b1 b2 b3 sz3 PM hV hge SZ sz1
  go_wp2_with fail
  rw [EV.out]
  clear EV
  obtain ⟨bm, hbm⟩ : ∃ bm, w2.heap.size = bm := ⟨_, rfl⟩
  rw [hbm] at H0 ⊢
  clear hbm
  go_loopg [8] N (fun gk s8 wx => FlH w g N (fun t => xs.getD t 0 + ys.getD t 0) (ka + kb + 1) (fun wx => MB w wx bm (matc r c (.slice aa N ca)) (matc r c (.slice ab N cb)) (matc r c (.slice (some ⟨g, 0, none⟩) N N))) gk s8 wx)
  case atStart => exact H0.out
  case round =>
    clear H0
    obtain ⟨i, rfl, hin, hg, hfil, hmb⟩ := hrel
    have FI := hid hfil
    have MBx := hid hmb
    have HG := hid hg
    clear hfil hmb hg
    have x2 := MBx.out.1.at (i := 2) rfl
    have y2 := MBx.out.2.1.at (i := 2) rfl
    by_cases hlt : i < N
    · have hlt' : (i : Int) < (N : Int) := by omega
      have hw := wrapI9 (i := i) (by omega)
      have HMM : Hid (N - (i + 1) < gk) := by unfold Hid; rw [HG.out]; omega
      obtain ⟨b1, o1, c1, n1, a1, l1, d1, e1, u0, u1, z1⟩ := HAA.out wr MBx.out.2.2.2.2 i hlt
      simp only [Value.slice.injEq] at e1
      obtain ⟨rfl, -, rfl⟩ := e1
      obtain ⟨b2, o2, c2, n2, a2, l2, d2, e2, v0, v1, z2⟩ := HBB.out wr MBx.out.2.2.2.2 i hlt
      simp only [Value.slice.injEq] at e2
      obtain ⟨rfl, -, rfl⟩ := e2
      have HS : Hid (∀ w', Below wr.heap.size wr w' → Calls Tryz.prog 37 #[.agg #[.bool n1, .slice a1 l1 d1], .agg #[.bool n2, .slice a2 l2 d2]] w' (GivesZ w' (xs.getD i 0 + ys.getD i 0) (ka + kb + 1))) := fun w' h => by
        refine (radd_z (z1.now h) (z2.now h) (by have := HK.out; omega) (by have := HK.out; omega)).mono ?_
        rintro e w'' ⟨rr, q1, q2, q3⟩
        exact ⟨rr, q1, q2.more (by omega), q3⟩
      have m2 := MBx.out.2.2.2.1.at (i := 2) rfl
      clear z1 z2 HG
      go_wp2_with fail
      have KB : Hid (∀ w', Below wr.heap.size wr w' → w'.cell? ⟨w.heap.size, 2, none⟩ = some (.slice (some ⟨b1, o1, none⟩) N ca) ∧ w'.cell? ⟨w.heap.size + 1, 2, none⟩ = some (.slice (some ⟨b2, o2, none⟩) N cb) ∧ w'.cell? ⟨bm, 2, none⟩ = some (.slice (some ⟨g, 0, none⟩) N N) ∧ w'.cell? ⟨b1, o1 + i * 2, none⟩ = some (.bool n1) ∧ w'.cell? ⟨b1, o1 + i * 2 + 1, none⟩ = some (.slice a1 l1 d1) ∧ w'.cell? ⟨b2, o2 + i * 2, none⟩ = some (.bool n2) ∧ w'.cell? ⟨b2, o2 + i * 2 + 1, none⟩ = some (.slice a2 l2 d2)) := fun w' h => ⟨cnow h x2, cnow h y2, cnow h m2, cnow h u0, cnow h u1, cnow h v0, cnow h v1⟩
      refine wp_region_tail (fun w' => w'.cell? ⟨w.heap.size, 2, none⟩ = some (.slice (some ⟨b1, o1, none⟩) N ca) ∧ w'.cell? ⟨w.heap.size + 1, 2, none⟩ = some (.slice (some ⟨b2, o2, none⟩) N cb) ∧ w'.cell? ⟨bm, 2, none⟩ = some (.slice (some ⟨g, 0, none⟩) N N) ∧ w'.cell? ⟨b1, o1 + i * 2, none⟩ = some (.bool n1) ∧ w'.cell? ⟨b1, o1 + i * 2 + 1, none⟩ = some (.slice a1 l1 d1) ∧ w'.cell? ⟨b2, o2 + i * 2, none⟩ = some (.bool n2) ∧ w'.cell? ⟨b2, o2 + i * 2 + 1, none⟩ = some (.slice a2 l2 d2)) 15 (by kernel_rfl) ?_
      obtain ⟨D1, hD⟩ : ∃ D1, wr.drew = D1 := ⟨_, rfl⟩
      have GB : Hid (Below wr.heap.size wr D1) := by unfold Hid; rw [← hD]; exact (Below.refl _ _).drew
      rw [hD]
      clear hD
      have GBs := GB
      refine wpAnyT_take (i := 0) (oi := { dst := some 41, op := Op.fieldAddr 24 (Operand.tmp 7) 2, type := 0, pos := "ref.go:120", after := #[], guard := none }) (v := (.pointer (some ⟨bm, 2, none⟩))) rfl (by kernel_rfl) (fun _ _ _ h => h) (Or.inl ⟨by rfl, ?_⟩) (KB.out _ GB.out) ?_
      · intro w hSw
        (try dsimp only at hSw)
        go_simp
      simp only [Act.put, List.setIfInBounds_toArray, List.set_cons_zero, List.set_cons_succ]
      refine wpAnyT_take (i := 1) (oi := { dst := some 42, op := Op.load 22 (Operand.tmp 41), type := 22, pos := "ref.go:120", after := #[{ on := 0, ground := Ground.data }], guard := none }) (v := (.slice (some ⟨g, 0, none⟩) N N)) rfl (by kernel_rfl) (fun _ _ _ h => h) (Or.inl ⟨by rfl, ?_⟩) (KB.out _ GB.out) ?_
      · intro w hSw
        (try dsimp only at hSw)
        go_simp
      simp only [Act.put, List.setIfInBounds_toArray, List.set_cons_zero, List.set_cons_succ]
      refine wpAnyT_take (i := 2) (oi := { dst := some 43, op := Op.move (Operand.tmp 8), type := 3, pos := "ref.go:120", after := #[], guard := none }) (v := (.int .i64 (i : Int))) rfl (by kernel_rfl) (fun _ _ _ h => h) (Or.inl ⟨by rfl, ?_⟩) (KB.out _ GB.out) ?_
      · intro w hSw
        (try dsimp only at hSw)
        go_simp
      simp only [Act.put, List.setIfInBounds_toArray, List.set_cons_zero, List.set_cons_succ]
      refine wpAnyT_take (i := 3) (oi := { dst := some 44, op := Op.fieldAddr 24 (Operand.tmp 2) 2, type := 0, pos := "ref.go:120", after := #[], guard := none }) (v := (.pointer (some ⟨w.heap.size, 2, none⟩))) rfl (by kernel_rfl) (fun _ _ _ h => h) (Or.inl ⟨by rfl, ?_⟩) (KB.out _ GB.out) ?_
      · intro w hSw
        (try dsimp only at hSw)
        go_simp
      simp only [Act.put, List.setIfInBounds_toArray, List.set_cons_zero, List.set_cons_succ]
      refine wpAnyT_take (i := 4) (oi := { dst := some 45, op := Op.load 22 (Operand.tmp 44), type := 22, pos := "ref.go:120", after := #[{ on := 3, ground := Ground.data }], guard := none }) (v := (.slice (some ⟨b1, o1, none⟩) N ca)) rfl (by kernel_rfl) (fun _ _ _ h => h) (Or.inl ⟨by rfl, ?_⟩) (KB.out _ GB.out) ?_
      · intro w hSw
        (try dsimp only at hSw)
        go_simp
      simp only [Act.put, List.setIfInBounds_toArray, List.set_cons_zero, List.set_cons_succ]
      refine wpAnyT_take (i := 5) (oi := { dst := some 46, op := Op.move (Operand.tmp 8), type := 3, pos := "ref.go:120", after := #[], guard := none }) (v := (.int .i64 (i : Int))) rfl (by kernel_rfl) (fun _ _ _ h => h) (Or.inl ⟨by rfl, ?_⟩) (KB.out _ GB.out) ?_
      · intro w hSw
        (try dsimp only at hSw)
        go_simp
      simp only [Act.put, List.setIfInBounds_toArray, List.set_cons_zero, List.set_cons_succ]
      refine wpAnyT_take (i := 6) (oi := { dst := some 47, op := Op.indexAddr 22 (Operand.tmp 45) (Operand.tmp 46), type := 0, pos := "ref.go:120", after := #[{ on := 4, ground := Ground.data }, { on := 5, ground := Ground.data }], guard := none }) (v := (.pointer (some ⟨b1, o1 + i * 2, none⟩))) rfl (by kernel_rfl) (fun _ _ _ h => h) (Or.inl ⟨by rfl, ?_⟩) (KB.out _ GB.out) ?_
      · intro w hSw
        (try dsimp only at hSw)
        go_simp
      simp only [Act.put, List.setIfInBounds_toArray, List.set_cons_zero, List.set_cons_succ]
      refine wpAnyT_take (i := 7) (oi := { dst := some 48, op := Op.load 43 (Operand.tmp 47), type := 43, pos := "ref.go:120", after := #[{ on := 6, ground := Ground.data }], guard := none }) (v := (.agg #[.bool n1, .slice a1 l1 d1])) rfl (by kernel_rfl) (fun _ _ _ h => h) (Or.inl ⟨by rfl, ?_⟩) (KB.out _ GB.out) ?_
      · intro w hSw
        (try dsimp only at hSw)
        go_simp
      simp only [Act.put, List.setIfInBounds_toArray, List.set_cons_zero, List.set_cons_succ]
      refine wpAnyT_take (i := 8) (oi := { dst := some 49, op := Op.fieldAddr 24 (Operand.tmp 3) 2, type := 0, pos := "ref.go:120", after := #[], guard := none }) (v := (.pointer (some ⟨(w.heap.size + 1), 2, none⟩))) rfl (by kernel_rfl) (fun _ _ _ h => h) (Or.inl ⟨by rfl, ?_⟩) (KB.out _ GB.out) ?_
      · intro w hSw
        (try dsimp only at hSw)
        go_simp
      simp only [Act.put, List.setIfInBounds_toArray, List.set_cons_zero, List.set_cons_succ]
      refine wpAnyT_take (i := 9) (oi := { dst := some 50, op := Op.load 22 (Operand.tmp 49), type := 22, pos := "ref.go:120", after := #[{ on := 8, ground := Ground.data }], guard := none }) (v := (.slice (some ⟨b2, o2, none⟩) N cb)) rfl (by kernel_rfl) (fun _ _ _ h => h) (Or.inl ⟨by rfl, ?_⟩) (KB.out _ GB.out) ?_
      · intro w hSw
        (try dsimp only at hSw)
        go_simp
      simp only [Act.put, List.setIfInBounds_toArray, List.set_cons_zero, List.set_cons_succ]
      refine wpAnyT_take (i := 10) (oi := { dst := some 51, op := Op.move (Operand.tmp 8), type := 3, pos := "ref.go:120", after := #[], guard := none }) (v := (.int .i64 (i : Int))) rfl (by kernel_rfl) (fun _ _ _ h => h) (Or.inl ⟨by rfl, ?_⟩) (KB.out _ GB.out) ?_
      · intro w hSw
        (try dsimp only at hSw)
        go_simp
      simp only [Act.put, List.setIfInBounds_toArray, List.set_cons_zero, List.set_cons_succ]
      refine wpAnyT_take (i := 11) (oi := { dst := some 52, op := Op.indexAddr 22 (Operand.tmp 50) (Operand.tmp 51), type := 0, pos := "ref.go:120", after := #[{ on := 9, ground := Ground.data }, { on := 10, ground := Ground.data }], guard := none }) (v := (.pointer (some ⟨b2, o2 + i * 2, none⟩))) rfl (by kernel_rfl) (fun _ _ _ h => h) (Or.inl ⟨by rfl, ?_⟩) (KB.out _ GB.out) ?_
      · intro w hSw
        (try dsimp only at hSw)
        go_simp
      simp only [Act.put, List.setIfInBounds_toArray, List.set_cons_zero, List.set_cons_succ]
      refine wpAnyT_take (i := 12) (oi := { dst := some 53, op := Op.load 43 (Operand.tmp 52), type := 43, pos := "ref.go:120", after := #[{ on := 11, ground := Ground.data }], guard := none }) (v := (.agg #[.bool n2, .slice a2 l2 d2])) rfl (by kernel_rfl) (fun _ _ _ h => h) (Or.inl ⟨by rfl, ?_⟩) (KB.out _ GB.out) ?_
      · intro w hSw
        (try dsimp only at hSw)
        go_simp
      simp only [Act.put, List.setIfInBounds_toArray, List.set_cons_zero, List.set_cons_succ]
      refine wpAnyT_one (i := 13) (o := { dst := some 54, op := Op.call { callee := Callee.value (Operand.func 37), args := #[Operand.tmp 48, Operand.tmp 53], argTypes := #[43, 43] }, type := 43, pos := "ref.go:120", after := #[{ on := 7, ground := Ground.data }, { on := 12, ground := Ground.data }], guard := none }) (by kernel_rfl) rfl (fun K hK => ?_)
      go_simp
      go_at_call 37
      refine (HS.out _ GB.out).mono ?_
      rintro e w2 ⟨rr, rfl, m1, b⟩
      have lz2 := (show Below _ _ _ from b).size
      replace GB := hid (below_step GB.out b)
      have FI1 := hid (FI.out.step (below_step (w0 := wr) GBs.out b))
      have MB2 := hid (MBx.out.step (below_step (w0 := wr) GBs.out b))
      have M1 := hid (m1.mono (Nat.zero_le _))
      obtain ⟨nr, xr, ar, cr, rfl⟩ := m1.parts
      clear m1
      clear b
      refine hK.out _ _ (fun _ => KB.out _ GB.out) ?_
      clear hK
      refine wpAnyT_take (i := 14) (oi := { dst := some 55, op := Op.indexAddr 22 (Operand.tmp 42) (Operand.tmp 43), type := 0, pos := "ref.go:120", after := #[{ on := 1, ground := Ground.data }, { on := 2, ground := Ground.data }, { on := 0, ground := Ground.phase }, { on := 1, ground := Ground.phase }, { on := 2, ground := Ground.phase }, { on := 3, ground := Ground.phase }, { on := 4, ground := Ground.phase }, { on := 5, ground := Ground.phase }, { on := 6, ground := Ground.phase }, { on := 7, ground := Ground.phase }, { on := 8, ground := Ground.phase }, { on := 9, ground := Ground.phase }, { on := 10, ground := Ground.phase }, { on := 11, ground := Ground.phase }, { on := 12, ground := Ground.phase }, { on := 13, ground := Ground.phase }], guard := none }) (v := (.pointer (some ⟨g, i * 2, none⟩))) rfl (by kernel_rfl) (fun _ _ _ h => h) (Or.inl ⟨by rfl, ?_⟩) (KB.out _ GB.out) ?_
      · intro w hSw
        (try dsimp only at hSw)
        go_simp
      simp only [Act.put, List.setIfInBounds_toArray, List.set_cons_zero, List.set_cons_succ]
      refine wpAnyT_one (i := 15) (o := { dst := none, op := Op.store 43 (Operand.tmp 55) (Operand.tmp 54), type := 0, pos := "ref.go:120", after := #[{ on := 14, ground := Ground.data }, { on := 13, ground := Ground.data }, { on := 13, ground := Ground.chain }, { on := 0, ground := Ground.phase }, { on := 1, ground := Ground.phase }, { on := 2, ground := Ground.phase }, { on := 3, ground := Ground.phase }, { on := 4, ground := Ground.phase }, { on := 5, ground := Ground.phase }, { on := 6, ground := Ground.phase }, { on := 7, ground := Ground.phase }, { on := 8, ground := Ground.phase }, { on := 9, ground := Ground.phase }, { on := 10, ground := Ground.phase }, { on := 11, ground := Ground.phase }, { on := 12, ground := Ground.phase }, { on := 13, ground := Ground.phase }], guard := none }) (by kernel_rfl) rfl (fun K hK => ?_)
      obtain ⟨m0, am, lm, cm, e0, e1, e2, e3⟩ := FI1.out.cells (j := i) hlt
      go_simp
      clear e0 e1 e2 e3
      obtain ⟨V3, hW⟩ : ∃ V3, ((w2.setCell ⟨g, i * 2, none⟩ (.bool nr)).setCell ⟨g, i * 2 + 1, none⟩ (.slice ar xr.length cr)) = V3 := ⟨_, rfl⟩
      have HN1 : Hid (FlH w g N (fun t => xs.getD t 0 + ys.getD t 0) (ka + kb + 1) (fun wx => MB w wx bm (matc r c (.slice (some ⟨b1, o1, none⟩) N ca)) (matc r c (.slice (some ⟨b2, o2, none⟩) N cb)) (matc r c (.slice (some ⟨g, 0, none⟩) N N))) (N - (i + 1)) (.int .i64 ((i + 1 : Nat) : Int)) V3) := by
        unfold Hid
        rw [← hW]
        exact ⟨i + 1, rfl, by omega, rfl, FI1.out.put hlt M1.out, MB2.out.ty (FI1.out.ty12 _ _) (bset (bset MB2.out.2.2.2.2 (by have := HGW.out; omega)) (by have := HGW.out; omega))⟩
      rw [hW]
      clear hW
      refine hK.out _ _ (fun h => absurd h (by decide)) ?_
      clear hK
      try simp only [Act.put]
      refine wpAnyT_done (by kernel_rfl) ?_ _
      clear HS FI MBx FI1 MB2 M1 GBs GB KB
      go_wp2_with fail
      go_roundg (N - (i + 1))
      case rel => exact HN1.out
      case measure => exact HMM.out
    · have hlt' : ¬ (i : Int) < (N : Int) := by omega
      obtain rfl : i = N := by omega
      have m0 := MBx.out.2.2.2.1.at (i := 0) rfl
      have m1 := MBx.out.2.2.2.1.at (i := 1) rfl
      have m2 := MBx.out.2.2.2.1.at (i := 2) rfl
      have r0 := MBx.out.2.2.1.at (i := 0) rfl
      have r1 := MBx.out.2.2.1.at (i := 1) rfl
      have r2 := MBx.out.2.2.1.at (i := 2) rfl
      have f0 := MBx.out.2.2.1.fz 0
      have f1 := MBx.out.2.2.1.fz 1
      have f2 := MBx.out.2.2.1.fz 2
      obtain ⟨ps, p1, p2⟩ := FI.out.done (by omega)
      have FIN : Hid (GivesMO w r c (adZ i xs ys) (ka + kb + 1) (.returned (.tuple #[.agg #[.int .i64 (r : Int), .int .i64 (c : Int), .slice (some ⟨g, 0, none⟩) i i], .int .i64 0])) (put3 wr (w.heap.size + 1 + 1) (.int .i64 (r : Int)) (.int .i64 (c : Int)) (.slice (some ⟨g, 0, none⟩) i i))) := by
        have t1 : Ty 24 wr (put3 wr (w.heap.size + 1 + 1) (.int .i64 (r : Int)) (.int .i64 (c : Int)) (.slice (some ⟨g, 0, none⟩) i i)) := ((Ty.set MBx.out.2.2.1).trans (Ty.set (MBx.out.2.2.1.set 0 _))).trans (Ty.set ((MBx.out.2.2.1.set 0 _).set 1 _))
        exact ⟨_, rfl, ⟨_, ps, rfl, (p1.ty t1 (by decide)).1, (p2.ty t1 (by decide)).zcs, by simp [adZ]; exact HNN.out.symm, hr, hc⟩, below_put3 MBx.out.2.2.2.2 (by omega) _ _ _⟩
      have PG := hid (MBx.out.2.2.1.put3 (.int .i64 (r : Int)) (.int .i64 (c : Int)) (.slice (some ⟨g, 0, none⟩) i i))
      clear FI MBx HG p1 p2
      go_wp2
      exact bodyPost_ret (mback1 Tryz.results33 PG.out _ (by rfl) (by rfl)) rfl FIN.out
end Go.Proofs.YtiedmlfiboalhaaGreat
