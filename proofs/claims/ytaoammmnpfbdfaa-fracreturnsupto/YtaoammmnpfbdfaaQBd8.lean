/-
  Bd8: bound.
-/
import Derived.Test.YtaoammmnpfbdfaaQLaw8
import Derived.Test.YtaoammmnpfbdfaaQWp8ToFresh
import Derived.Test.YtaoammmnpfbdfaaQRootAllToTailY
import Derived.Test.YtaoammmnpfbdfaaQRq8ToMWord
namespace Go.Proofs.Ytaoammmnpfbdfaa
open Go.RowKit
set_option linter.unusedVariables false

/-- A slice's root. -/
theorem sqrt_z {w : World} {x0 x1 : Value} {z : Int} {k : Nat} (h : Zi w (.agg #[x0, x1]) z k) (hk : k ≤ 33554432) :
    Calls Try.prog 74 #[x1] w fun e w' => ∃ (r : Nat) (zs : List Int) (a : Option Addr) (c : Nat) (u : Value), NRoot r z.natAbs 2 ∧ e = .returned (.tuple #[.slice a zs.length c, u]) ∧ Sl w'.heap.size w' (.slice a zs.length c) zs ∧ Canon zs ∧ val zs = (r : Int) ∧ Below w.heap.size w w' := by
  obtain ⟨n, xs, a, c, e, s, v, l⟩ := h
  obtain ⟨rfl, rfl⟩ := pair_eq (show #[x0, x1] = _ by simpa using e)
  have h1 := iv_abs s.1 v
  have h2 : val xs = (vn xs : Int) := val_vn s.1
  have h3 : vn xs = z.natAbs := by omega
  obtain ⟨r, hr⟩ := nroot_ex (k := 2) (by decide) z.natAbs
  refine (sqrt_any s (Nat.le_trans l hk) (r := r) (by rw [h3]; exact hr)).mono ?_
  rintro e w' ⟨zs, ls, v, u, rfl, s1, s2, c1, c2, v1, v2, b⟩
  obtain ⟨a', c', rfl⟩ : ∃ a c, v = .slice a zs.length c := by obtain ⟨_, a, c, e, _⟩ := s1; exact ⟨a, c, e⟩
  exact ⟨r, zs, a', c', u, hr, rfl, s1, c1, v1, b⟩
/-- The greatest k with 2 k k at most m - 1. -/
structure Bd (m K : Int) : Prop where
  k0 : 0 ≤ K
  lo : 2 * (K * K) < m
  hi : m ≤ 2 * ((K + 1) * (K + 1))
theorem bd_of {m : Int} (hm : 0 < m) {r : Nat} (hr : NRoot r (fdv (m - 1) 2).natAbs 2) : Bd m (r : Int) := by
  obtain ⟨e, p, -⟩ := fl_spec (A := m - 1) (B := 2) (by decide)
  obtain ⟨p0, p1⟩ := p (by decide)
  obtain ⟨h1, h2⟩ := hr
  rw [Nat.pow_two] at h1 h2
  have f0 : 0 ≤ fdv (m - 1) 2 := by omega
  have h1' : (r : Int) * (r : Int) ≤ fdv (m - 1) 2 := by
    have : ((r * r : Nat) : Int) ≤ ((fdv (m - 1) 2).natAbs : Int) := by omega
    push_cast at this
    omega
  have h2' : fdv (m - 1) 2 < ((r : Int) + 1) * ((r : Int) + 1) := by
    have : ((fdv (m - 1) 2).natAbs : Int) < (((r + 1) * (r + 1) : Nat) : Int) := by omega
    push_cast at this
    omega
  exact ⟨by omega, by omega, by omega⟩
theorem canon_small {zs : List Int} {k : Nat} (h : Canon zs) (hz : val zs < pw k) : zs.length ≤ k := canon_len h hz
theorem Bd.le {m K : Int} (h : Bd m K) : K < m := by
  have := h.k0
  have := h.lo
  have : K ≤ K * K ∨ K = 0 := by
    by_cases e : K = 0
    · exact .inr e
    · left
      have := Int.mul_le_mul_of_nonneg_left (show 1 ≤ K by omega) (show 0 ≤ K by omega)
      omega
  have := Int.mul_nonneg h.k0 h.k0
  omega
abbrev bdo1x0 : Oper := { dst := some 9, op := Op.load 24 (Operand.tmp 1), type := 24, pos := "recover.go:28", after := #[], guard := none }
abbrev bdo1x1 : Oper := { dst := some 10, op := Op.call { callee := Callee.value (Operand.func 20), args := #[Operand.const (Value.int IntKind.i64 1)], argTypes := #[2] }, type := 24, pos := "recover.go:28", after := #[], guard := none }
abbrev bdo1x2 : Oper := { dst := some 11, op := Op.call { callee := Callee.value (Operand.func 18), args := #[Operand.tmp 9, Operand.tmp 10], argTypes := #[24, 24] }, type := 24, pos := "recover.go:28", after := #[{ on := 0, ground := Ground.data }, { on := 1, ground := Ground.data }, { on := 1, ground := Ground.chain }], guard := none }
abbrev bdo1x3 : Oper := { dst := some 12, op := Op.call { callee := Callee.value (Operand.func 20), args := #[Operand.const (Value.int IntKind.i64 2)], argTypes := #[2] }, type := 24, pos := "recover.go:28", after := #[{ on := 2, ground := Ground.chain }], guard := none }
abbrev bdo1x4 : Oper := { dst := some 13, op := Op.call { callee := Callee.value (Operand.func 46), args := #[Operand.tmp 11, Operand.tmp 12], argTypes := #[24, 24] }, type := 60, pos := "recover.go:28", after := #[{ on := 2, ground := Ground.data }, { on := 3, ground := Ground.data }, { on := 3, ground := Ground.chain }], guard := none }
abbrev bdo1x5 : Oper := { dst := some 8, op := Op.move (Operand.tmp 13), type := 60, pos := "recover.go:28", after := #[{ on := 4, ground := Ground.data }], guard := none }
abbrev bdo1x6 : Oper := { dst := some 14, op := Op.extract (Operand.tmp 8) 0, type := 24, pos := "recover.go:28", after := #[{ on := 5, ground := Ground.data }], guard := none }
abbrev bdo1x7 : Oper := { dst := some 15, op := Op.extract (Operand.tmp 8) 1, type := 24, pos := "recover.go:28", after := #[{ on := 5, ground := Ground.data }, { on := 11, ground := Ground.gcOnly Departure.lateStores }], guard := none }
abbrev bdo1x8 : Oper := { dst := some 16, op := Op.extract (Operand.tmp 8) 2, type := 28, pos := "recover.go:28", after := #[{ on := 5, ground := Ground.data }, { on := 12, ground := Ground.gcOnly Departure.lateStores }], guard := none }
abbrev bdo1x9 : Oper := { dst := some 3, op := Op.alloc 24, type := 0, pos := "recover.go:28", after := #[], guard := none }
abbrev bdo1x10 : Oper := { dst := some 4, op := Op.alloc 24, type := 0, pos := "recover.go:28", after := #[], guard := none }
abbrev bdo1x11 : Oper := { dst := none, op := Op.store 24 (Operand.tmp 3) (Operand.tmp 14), type := 0, pos := "recover.go:28", after := #[{ on := 9, ground := Ground.data }, { on := 6, ground := Ground.data }, { on := 4, ground := Ground.chain }, { on := 0, ground := Ground.phase }, { on := 1, ground := Ground.phase }, { on := 2, ground := Ground.phase }, { on := 3, ground := Ground.phase }, { on := 4, ground := Ground.phase }, { on := 5, ground := Ground.phase }, { on := 6, ground := Ground.phase }, { on := 7, ground := Ground.textOnly Departure.lateStores }, { on := 8, ground := Ground.textOnly Departure.lateStores }, { on := 9, ground := Ground.phase }, { on := 10, ground := Ground.phase }], guard := none }
abbrev bdo1x12 : Oper := { dst := none, op := Op.store 24 (Operand.tmp 4) (Operand.tmp 15), type := 0, pos := "recover.go:28", after := #[{ on := 10, ground := Ground.data }, { on := 7, ground := Ground.data }, { on := 11, ground := Ground.chain }, { on := 0, ground := Ground.phase }, { on := 1, ground := Ground.phase }, { on := 2, ground := Ground.phase }, { on := 3, ground := Ground.phase }, { on := 4, ground := Ground.phase }, { on := 5, ground := Ground.phase }, { on := 6, ground := Ground.phase }, { on := 7, ground := Ground.phase }, { on := 8, ground := Ground.textOnly Departure.lateStores }, { on := 9, ground := Ground.phase }, { on := 10, ground := Ground.phase }, { on := 11, ground := Ground.phase }], guard := none }
abbrev bdo1x13 : Oper := { dst := some 5, op := Op.assign (Operand.tmp 16), type := 28, pos := "recover.go:28", after := #[{ on := 8, ground := Ground.data }, { on := 12, ground := Ground.chain }, { on := 0, ground := Ground.phase }, { on := 1, ground := Ground.phase }, { on := 2, ground := Ground.phase }, { on := 3, ground := Ground.phase }, { on := 4, ground := Ground.phase }, { on := 5, ground := Ground.phase }, { on := 6, ground := Ground.phase }, { on := 7, ground := Ground.phase }, { on := 8, ground := Ground.phase }, { on := 9, ground := Ground.phase }, { on := 10, ground := Ground.phase }, { on := 11, ground := Ground.phase }, { on := 12, ground := Ground.phase }], guard := none }
set_option maxHeartbeats 6400000 in
set_option maxRecDepth 100000 in
theorem bound_z {w : World} {vo : Value} {O : Int} {k : Nat} (ho : Zi w vo O k) (hk : k ≤ 33554000) (hO : 0 < O) :
    Calls Try.prog 55 #[vo] w (fun e w' => ∃ K, Bd O K ∧ GivesC8 w K k e w') := by
  have HO := hid hO
  clear hO
  have LO := hid ho.lt
  have zo0 := ho
  obtain ⟨no, xo, ado, co, rfl, -, -, -⟩ := ho
  obtain ⟨W0, hW⟩ : ∃ W0, (w.alloc (duo (.bool no) (.slice ado xo.length co))).alloc zbox = W0 := ⟨_, rfl⟩
  obtain ⟨b0, sz0⟩ := alloc2 w (duo (.bool no) (.slice ado xo.length co)) zbox
  rw [hW] at b0 sz0
  have Po : Hid (Duo W0 (w.heap.size) (.bool no) (.slice ado xo.length co)) := by unfold Hid; rw [← hW]; exact duo_late (duo_at (by simp)) _
  have PR : Hid (Duo W0 (w.heap.size + 1) (.bool false) (.slice none 0 0)) := by unfold Hid; rw [← hW]; exact duo_at (by simp)
  have Zo := hid (zo0.now b0)
  clear zo0
  have G := hid b0
  clear b0
  have EW := hid hW
  clear hW
  go_enter Try.func55, Try.ntmps55
  skip
  go_wp2_with fail
  rw [EW.out]
  clear EW
  go_cut [3, 5] from 8 (fun s1 s2 wx => MetB W0 wx s1 (fdv (O - 1) 2) (max (max k 1 + 1) 1 + 1) ∧ s2 = .int .i64 0)
  case first =>
    have GR : Hid (Below W0.heap.size W0 W0) := Below.refl _ _
    clear PR
    refine wp_region_X (fun w' => w'.cell? ⟨w.heap.size, 0, none⟩ = some (.bool no) ∧ w'.cell? ⟨w.heap.size, 1, none⟩ = some (.slice ado xo.length co)) [] (by kernel_rfl) ?_
    obtain ⟨D1, hD⟩ : ∃ D1, W0.drew = D1 := ⟨_, rfl⟩
    have b : Below W0.heap.size W0 D1 := by rw [← hD]; exact (Below.refl _ _).drew
    rw [hD]
    clear hD
    replace Zo := hid (Zo.out.now b)
    replace Po := hid (Po.out.step b)
    replace G := hid (below_step G.out b)
    replace GR := hid (below_step GR.out b)
    have lz2 := (show Below _ _ _ from b).size
    clear b
    refine wpAnyX_take (i := 0) (oi := bdo1x0) (v := (.agg #[(.bool no), (.slice ado xo.length co)])) rfl (by kernel_rfl) (fun _ _ _ h => h) (Or.inl ⟨by rfl, ?_⟩) ⟨Po.out.c0, Po.out.c1⟩ ?_
    · intro w hSw
      (try dsimp only at hSw)
      dsimp only [bdo1x0]
      go_simp
    simp only [Act.put, List.setIfInBounds_toArray, List.set_cons_zero, List.set_cons_succ]
    refine wpAnyX_three (i := 1) (j := 9) (k := 10) (oi := bdo1x1) (oj := bdo1x9) (ok := bdo1x10) (by kernel_rfl) rfl rfl rfl (fun K hK => ?_) (fun K hK => ?_) (fun K hK => ?_)
    · skip
      dsimp only [bdo1x1]
      go_simp
      go_at_call 20
      refine (of_z (n := 1) (by decide) (by decide) _).mono ?_
      rintro e w3 ⟨r0, rfl, m0, b⟩
      obtain ⟨np, xp, adp, qp, rfl, -, -, -, -, -⟩ := id m0
      replace Zo := hid (Zo.out.now b)
      replace Po := hid (Po.out.step b)
      replace G := hid (below_step G.out b)
      replace GR := hid (below_step GR.out b)
      have lz4 := (show Below _ _ _ from b).size
      have Zp := hid m0
      clear b m0
      refine hK.out _ _ (fun _ _ => ⟨Po.out.c0, Po.out.c1⟩) ?_
      clear hK
      refine wpAnyX_three (i := 2) (j := 9) (k := 10) (oi := bdo1x2) (oj := bdo1x9) (ok := bdo1x10) (by kernel_rfl) rfl rfl rfl (fun K hK => ?_) (fun K hK => ?_) (fun K hK => ?_)
      · skip
        dsimp only [bdo1x2]
        go_simp
        go_at_call 18
        refine (sub_z Zo.out Zp.out.zi (by omega) (by omega)).mono ?_
        rintro e w5 ⟨r0, rfl, m0, b⟩
        obtain ⟨nd, xd, add, qd, rfl, -, -, -, -, -⟩ := id m0
        replace Zo := hid (Zo.out.now b)
        replace Zp := hid (Zp.out.now b)
        replace Po := hid (Po.out.step b)
        replace G := hid (below_step G.out b)
        replace GR := hid (below_step GR.out b)
        have lz6 := (show Below _ _ _ from b).size
        have Zd := hid m0
        clear b m0
        clear Zp
        clear Zo
        refine hK.out _ _ (fun _ _ => ⟨Po.out.c0, Po.out.c1⟩) ?_
        clear hK
        refine wpAnyX_three (i := 3) (j := 9) (k := 10) (oi := bdo1x3) (oj := bdo1x9) (ok := bdo1x10) (by kernel_rfl) rfl rfl rfl (fun K hK => ?_) (fun K hK => ?_) (fun K hK => ?_)
        · skip
          dsimp only [bdo1x3]
          go_simp
          go_at_call 20
          refine (of_z (n := 2) (by decide) (by decide) _).mono ?_
          rintro e w7 ⟨r0, rfl, m0, b⟩
          obtain ⟨nt, xt, adt, qt, rfl, -, -, -, -, -⟩ := id m0
          replace Zd := hid (Zd.out.now b)
          replace Po := hid (Po.out.step b)
          replace G := hid (below_step G.out b)
          replace GR := hid (below_step GR.out b)
          have lz8 := (show Below _ _ _ from b).size
          have Zt := hid m0
          clear b m0
          refine hK.out _ _ (fun _ _ => ⟨Po.out.c0, Po.out.c1⟩) ?_
          clear hK
          refine wpAnyX_three (i := 4) (j := 9) (k := 10) (oi := bdo1x4) (oj := bdo1x9) (ok := bdo1x10) (by kernel_rfl) rfl rfl rfl (fun K hK => ?_) (fun K hK => ?_) (fun K hK => ?_)
          · skip
            dsimp only [bdo1x4]
            go_simp
            go_at_call 46
            refine (floor_z Zd.out.zi Zt.out.zi (by decide) (by omega) (by omega)).mono ?_
            rintro e w9 ⟨r0, r1, rfl, m0, m1, b⟩
            obtain ⟨nh, xh, adh, qh, rfl, -, -, -, -, -⟩ := id m0
            obtain ⟨ng, xg, adg, qg, rfl, -, -, -, -, -⟩ := id m1
            replace Zd := hid (Zd.out.now b)
            replace Zt := hid (Zt.out.now b)
            replace Po := hid (Po.out.step b)
            replace G := hid (below_step G.out b)
            replace GR := hid (below_step GR.out b)
            have lz10 := (show Below _ _ _ from b).size
            have Zh := hid m0
            have Zg := hid m1
            clear b m0 m1
            clear Zd
            clear Zt
            clear Zg
            refine hK.out _ _ (fun _ _ => ⟨Po.out.c0, Po.out.c1⟩) ?_
            clear hK
            refine wpAnyX_pure (i := 5) (oi := bdo1x5) (v := (.tuple #[(.agg #[.bool nh, .slice adh xh.length qh]), (.agg #[.bool ng, .slice adg xg.length qg]), (.int .i64 0)])) rfl (by kernel_rfl) (fun _ _ _ h => h) (Or.inl ⟨by rfl, ?_⟩)  ?_
            · intro w hSw
              (try dsimp only at hSw)
              dsimp only [bdo1x5]
              go_simp
            simp only [Act.put, List.setIfInBounds_toArray, List.set_cons_zero, List.set_cons_succ]
            refine wpAnyX_pure (i := 6) (oi := bdo1x6) (v := (.agg #[.bool nh, .slice adh xh.length qh])) rfl (by kernel_rfl) (fun _ _ _ h => h) (Or.inl ⟨by rfl, ?_⟩)  ?_
            · intro w hSw
              (try dsimp only at hSw)
              dsimp only [bdo1x6]
              go_simp
            simp only [Act.put, List.setIfInBounds_toArray, List.set_cons_zero, List.set_cons_succ]
            refine wpAnyX_pure (i := 7) (oi := bdo1x7) (v := (.agg #[.bool ng, .slice adg xg.length qg])) rfl (by kernel_rfl) (fun _ _ _ h => h) (Or.inl ⟨by rfl, ?_⟩)  ?_
            · intro w hSw
              (try dsimp only at hSw)
              dsimp only [bdo1x7]
              go_simp
            simp only [Act.put, List.setIfInBounds_toArray, List.set_cons_zero, List.set_cons_succ]
            refine wpAnyX_pure (i := 8) (oi := bdo1x8) (v := (.int .i64 0)) rfl (by kernel_rfl) (fun _ _ _ h => h) (Or.inl ⟨by rfl, ?_⟩)  ?_
            · intro w hSw
              (try dsimp only at hSw)
              dsimp only [bdo1x8]
              go_simp
            simp only [Act.put, List.setIfInBounds_toArray, List.set_cons_zero, List.set_cons_succ]
            refine wpAnyX_two (i := 9) (j := 10) (oi := bdo1x9) (oj := bdo1x10) (by kernel_rfl) rfl rfl (fun K hK => ?_) (fun K hK => ?_)
            · skip
              dsimp only [bdo1x9]
              go_simp
              obtain ⟨V11, hW⟩ : ∃ V11, w9.alloc zbox = V11 := ⟨_, rfl⟩
              obtain ⟨kW, sz11⟩ := alloc1 w9 zbox
              rw [hW] at kW sz11
              replace sz11 : w9.heap.size < V11.heap.size := by omega
              replace Zh := hid (Zh.out.now kW)
              replace Po := hid (Po.out.step kW)
              replace G := hid (below_step G.out kW)
              replace GR := hid (below_step GR.out kW)
              have lz12 := (show Below _ _ _ from kW).size
              have PN3 : Hid (Duo V11 (w9.heap.size) (.bool false) (.slice none 0 0)) := by unfold Hid; rw [← hW]; exact duo_at rfl
              rw [hW]
              clear hW kW
              refine hK.out _ _ (fun _ _ => ⟨Po.out.c0, Po.out.c1⟩) ?_
              clear hK
              try simp only [Act.put]
              refine wpAnyX_one (i := 10) (o := bdo1x10) (by kernel_rfl) rfl (fun K hK => ?_)
              dsimp only [bdo1x10]
              go_simp
              obtain ⟨V13, hW⟩ : ∃ V13, V11.alloc zbox = V13 := ⟨_, rfl⟩
              obtain ⟨kW, sz13⟩ := alloc1 V11 zbox
              rw [hW] at kW sz13
              replace sz13 : V11.heap.size < V13.heap.size := by omega
              replace Zh := hid (Zh.out.now kW)
              replace Po := hid (Po.out.step kW)
              replace PN3 := hid (PN3.out.step kW)
              replace G := hid (below_step G.out kW)
              replace GR := hid (below_step GR.out kW)
              have lz14 := (show Below _ _ _ from kW).size
              have PN4 : Hid (Duo V13 (V11.heap.size) (.bool false) (.slice none 0 0)) := by unfold Hid; rw [← hW]; exact duo_at rfl
              rw [hW]
              clear hW kW
              refine hK.out _ _ (fun _ _ => ⟨Po.out.c0, Po.out.c1⟩) ?_
              clear hK
              try simp only [Act.put]
              refine wpAnyX_one (i := 11) (o := bdo1x11) (by kernel_rfl) rfl (fun K hK => ?_)
              dsimp only [bdo1x11]
              have cN30 := PN3.out.c0
              have cN31 := PN3.out.c1
              have fN30 := PN3.out.fz 0
              have fN31 := PN3.out.fz 1
              go_simp
              clear cN30 cN31 fN30 fN31
              obtain ⟨V15, hW⟩ : ∃ V15, (V13.setCell ⟨w9.heap.size, 0, none⟩ (.bool nh)).setCell ⟨w9.heap.size, 1, none⟩ (.slice adh xh.length qh) = V15 := ⟨_, rfl⟩
              replace Zh := hid ((Zh.out).box (PN3.out) (.bool nh) (.slice adh xh.length qh))
              replace Po := hid ((Po.out).box (b' := w9.heap.size) (by omega) (.bool nh) (.slice adh xh.length qh))
              replace PN3 := hid ((PN3.out).set (.bool nh) (.slice adh xh.length qh))
              replace PN4 := hid ((PN4.out).box (b' := w9.heap.size) (by omega) (.bool nh) (.slice adh xh.length qh))
              replace G : Hid (Below w.heap.size w (((V13.setCell ⟨w9.heap.size, 0, none⟩ (.bool nh)).setCell ⟨w9.heap.size, 1, none⟩ (.slice adh xh.length qh)))) := bset (bset (G.out) (by omega)) (by omega)
              replace GR : Hid (Below W0.heap.size W0 (((V13.setCell ⟨w9.heap.size, 0, none⟩ (.bool nh)).setCell ⟨w9.heap.size, 1, none⟩ (.slice adh xh.length qh)))) := bset (bset (GR.out) (by omega)) (by omega)
              have sz15 : V15.heap.size = V13.heap.size := by rw [← hW]; simp
              rw [hW] at Zh Po PN3 PN4 G GR
              rw [hW]
              clear hW
              refine hK.out _ _ (fun _ _ => ⟨Po.out.c0, Po.out.c1⟩) ?_
              clear hK
              try simp only [Act.put]
              refine wpAnyX_one (i := 12) (o := bdo1x12) (by kernel_rfl) rfl (fun K hK => ?_)
              dsimp only [bdo1x12]
              have cN40 := PN4.out.c0
              have cN41 := PN4.out.c1
              have fN40 := PN4.out.fz 0
              have fN41 := PN4.out.fz 1
              go_simp
              clear cN40 cN41 fN40 fN41
              obtain ⟨V16, hW⟩ : ∃ V16, (V15.setCell ⟨V11.heap.size, 0, none⟩ (.bool ng)).setCell ⟨V11.heap.size, 1, none⟩ (.slice adg xg.length qg) = V16 := ⟨_, rfl⟩
              replace Zh := hid ((Zh.out).box (PN4.out) (.bool ng) (.slice adg xg.length qg))
              replace Po := hid ((Po.out).box (b' := V11.heap.size) (by omega) (.bool ng) (.slice adg xg.length qg))
              replace PN3 := hid ((PN3.out).box (b' := V11.heap.size) (by omega) (.bool ng) (.slice adg xg.length qg))
              replace PN4 := hid ((PN4.out).set (.bool ng) (.slice adg xg.length qg))
              replace G : Hid (Below w.heap.size w (((V15.setCell ⟨V11.heap.size, 0, none⟩ (.bool ng)).setCell ⟨V11.heap.size, 1, none⟩ (.slice adg xg.length qg)))) := bset (bset (G.out) (by omega)) (by omega)
              replace GR : Hid (Below W0.heap.size W0 (((V15.setCell ⟨V11.heap.size, 0, none⟩ (.bool ng)).setCell ⟨V11.heap.size, 1, none⟩ (.slice adg xg.length qg)))) := bset (bset (GR.out) (by omega)) (by omega)
              have sz16 : V16.heap.size = V15.heap.size := by rw [← hW]; simp
              rw [hW] at Zh Po PN3 PN4 G GR
              rw [hW]
              clear hW
              refine hK.out _ _ (fun _ _ => ⟨Po.out.c0, Po.out.c1⟩) ?_
              clear hK
              try simp only [Act.put]
              refine wpAnyX_pure (i := 13) (oi := bdo1x13) (v := (.int .i64 0)) rfl (by kernel_rfl) (fun _ _ _ h => h) (Or.inl ⟨by rfl, ?_⟩)  ?_
              · intro w hSw
                (try dsimp only at hSw)
                dsimp only [bdo1x13]
                go_simp
              simp only [Act.put, List.setIfInBounds_toArray, List.set_cons_zero, List.set_cons_succ]
              refine wpAnyX_done (by kernel_rfl) ?_ _
              go_wp2_with fail
              go_meet
              exact ⟨⟨_, _, _, _, _, rfl, GR.out, by omega, PN3.out.blk, PN3.out, Zh.out.mono (by omega)⟩, rfl⟩
            · skip
              dsimp only [bdo1x10]
              go_simp
              obtain ⟨V17, hW⟩ : ∃ V17, w9.alloc zbox = V17 := ⟨_, rfl⟩
              obtain ⟨kW, sz17⟩ := alloc1 w9 zbox
              rw [hW] at kW sz17
              replace sz17 : w9.heap.size < V17.heap.size := by omega
              replace Zh := hid (Zh.out.now kW)
              replace Po := hid (Po.out.step kW)
              replace G := hid (below_step G.out kW)
              replace GR := hid (below_step GR.out kW)
              have lz18 := (show Below _ _ _ from kW).size
              have PN4 : Hid (Duo V17 (w9.heap.size) (.bool false) (.slice none 0 0)) := by unfold Hid; rw [← hW]; exact duo_at rfl
              rw [hW]
              clear hW kW
              refine hK.out _ _ (fun _ _ => ⟨Po.out.c0, Po.out.c1⟩) ?_
              clear hK
              try simp only [Act.put]
              refine wpAnyX_one (i := 9) (o := bdo1x9) (by kernel_rfl) rfl (fun K hK => ?_)
              dsimp only [bdo1x9]
              go_simp
              obtain ⟨V19, hW⟩ : ∃ V19, V17.alloc zbox = V19 := ⟨_, rfl⟩
              obtain ⟨kW, sz19⟩ := alloc1 V17 zbox
              rw [hW] at kW sz19
              replace sz19 : V17.heap.size < V19.heap.size := by omega
              replace Zh := hid (Zh.out.now kW)
              replace Po := hid (Po.out.step kW)
              replace PN4 := hid (PN4.out.step kW)
              replace G := hid (below_step G.out kW)
              replace GR := hid (below_step GR.out kW)
              have lz20 := (show Below _ _ _ from kW).size
              have PN3 : Hid (Duo V19 (V17.heap.size) (.bool false) (.slice none 0 0)) := by unfold Hid; rw [← hW]; exact duo_at rfl
              rw [hW]
              clear hW kW
              refine hK.out _ _ (fun _ _ => ⟨Po.out.c0, Po.out.c1⟩) ?_
              clear hK
              try simp only [Act.put]
              refine wpAnyX_one (i := 11) (o := bdo1x11) (by kernel_rfl) rfl (fun K hK => ?_)
              dsimp only [bdo1x11]
              have cN30 := PN3.out.c0
              have cN31 := PN3.out.c1
              have fN30 := PN3.out.fz 0
              have fN31 := PN3.out.fz 1
              go_simp
              clear cN30 cN31 fN30 fN31
              obtain ⟨V21, hW⟩ : ∃ V21, (V19.setCell ⟨V17.heap.size, 0, none⟩ (.bool nh)).setCell ⟨V17.heap.size, 1, none⟩ (.slice adh xh.length qh) = V21 := ⟨_, rfl⟩
              replace Zh := hid ((Zh.out).box (PN3.out) (.bool nh) (.slice adh xh.length qh))
              replace Po := hid ((Po.out).box (b' := V17.heap.size) (by omega) (.bool nh) (.slice adh xh.length qh))
              replace PN4 := hid ((PN4.out).box (b' := V17.heap.size) (by omega) (.bool nh) (.slice adh xh.length qh))
              replace PN3 := hid ((PN3.out).set (.bool nh) (.slice adh xh.length qh))
              replace G : Hid (Below w.heap.size w (((V19.setCell ⟨V17.heap.size, 0, none⟩ (.bool nh)).setCell ⟨V17.heap.size, 1, none⟩ (.slice adh xh.length qh)))) := bset (bset (G.out) (by omega)) (by omega)
              replace GR : Hid (Below W0.heap.size W0 (((V19.setCell ⟨V17.heap.size, 0, none⟩ (.bool nh)).setCell ⟨V17.heap.size, 1, none⟩ (.slice adh xh.length qh)))) := bset (bset (GR.out) (by omega)) (by omega)
              have sz21 : V21.heap.size = V19.heap.size := by rw [← hW]; simp
              rw [hW] at Zh Po PN4 PN3 G GR
              rw [hW]
              clear hW
              refine hK.out _ _ (fun _ _ => ⟨Po.out.c0, Po.out.c1⟩) ?_
              clear hK
              try simp only [Act.put]
              refine wpAnyX_one (i := 12) (o := bdo1x12) (by kernel_rfl) rfl (fun K hK => ?_)
              dsimp only [bdo1x12]
              have cN40 := PN4.out.c0
              have cN41 := PN4.out.c1
              have fN40 := PN4.out.fz 0
              have fN41 := PN4.out.fz 1
              go_simp
              clear cN40 cN41 fN40 fN41
              obtain ⟨V22, hW⟩ : ∃ V22, (V21.setCell ⟨w9.heap.size, 0, none⟩ (.bool ng)).setCell ⟨w9.heap.size, 1, none⟩ (.slice adg xg.length qg) = V22 := ⟨_, rfl⟩
              replace Zh := hid ((Zh.out).box (PN4.out) (.bool ng) (.slice adg xg.length qg))
              replace Po := hid ((Po.out).box (b' := w9.heap.size) (by omega) (.bool ng) (.slice adg xg.length qg))
              replace PN4 := hid ((PN4.out).set (.bool ng) (.slice adg xg.length qg))
              replace PN3 := hid ((PN3.out).box (b' := w9.heap.size) (by omega) (.bool ng) (.slice adg xg.length qg))
              replace G : Hid (Below w.heap.size w (((V21.setCell ⟨w9.heap.size, 0, none⟩ (.bool ng)).setCell ⟨w9.heap.size, 1, none⟩ (.slice adg xg.length qg)))) := bset (bset (G.out) (by omega)) (by omega)
              replace GR : Hid (Below W0.heap.size W0 (((V21.setCell ⟨w9.heap.size, 0, none⟩ (.bool ng)).setCell ⟨w9.heap.size, 1, none⟩ (.slice adg xg.length qg)))) := bset (bset (GR.out) (by omega)) (by omega)
              have sz22 : V22.heap.size = V21.heap.size := by rw [← hW]; simp
              rw [hW] at Zh Po PN4 PN3 G GR
              rw [hW]
              clear hW
              refine hK.out _ _ (fun _ _ => ⟨Po.out.c0, Po.out.c1⟩) ?_
              clear hK
              try simp only [Act.put]
              refine wpAnyX_pure (i := 13) (oi := bdo1x13) (v := (.int .i64 0)) rfl (by kernel_rfl) (fun _ _ _ h => h) (Or.inl ⟨by rfl, ?_⟩)  ?_
              · intro w hSw
                (try dsimp only at hSw)
                dsimp only [bdo1x13]
                go_simp
              simp only [Act.put, List.setIfInBounds_toArray, List.set_cons_zero, List.set_cons_succ]
              refine wpAnyX_done (by kernel_rfl) ?_ _
              go_wp2_with fail
              go_meet
              exact ⟨⟨_, _, _, _, _, rfl, GR.out, by omega, PN3.out.blk, PN3.out, Zh.out.mono (by omega)⟩, rfl⟩
          · skip
            dsimp only [bdo1x9]
            go_simp
            obtain ⟨V23, hW⟩ : ∃ V23, w7.alloc zbox = V23 := ⟨_, rfl⟩
            obtain ⟨kW, sz23⟩ := alloc1 w7 zbox
            rw [hW] at kW sz23
            replace sz23 : w7.heap.size < V23.heap.size := by omega
            replace Zd := hid (Zd.out.now kW)
            replace Zt := hid (Zt.out.now kW)
            replace Po := hid (Po.out.step kW)
            replace G := hid (below_step G.out kW)
            replace GR := hid (below_step GR.out kW)
            have lz24 := (show Below _ _ _ from kW).size
            have PN3 : Hid (Duo V23 (w7.heap.size) (.bool false) (.slice none 0 0)) := by unfold Hid; rw [← hW]; exact duo_at rfl
            rw [hW]
            clear hW kW
            refine hK.out _ _ (fun _ _ => ⟨Po.out.c0, Po.out.c1⟩) ?_
            clear hK
            try simp only [Act.put]
            refine wpAnyX_two (i := 4) (j := 10) (oi := bdo1x4) (oj := bdo1x10) (by kernel_rfl) rfl rfl (fun K hK => ?_) (fun K hK => ?_)
            · skip
              dsimp only [bdo1x4]
              go_simp
              go_at_call 46
              refine (floor_z Zd.out.zi Zt.out.zi (by decide) (by omega) (by omega)).mono ?_
              rintro e w25 ⟨r0, r1, rfl, m0, m1, b⟩
              obtain ⟨nh, xh, adh, qh, rfl, -, -, -, -, -⟩ := id m0
              obtain ⟨ng, xg, adg, qg, rfl, -, -, -, -, -⟩ := id m1
              replace Zd := hid (Zd.out.now b)
              replace Zt := hid (Zt.out.now b)
              replace Po := hid (Po.out.step b)
              replace PN3 := hid (PN3.out.step b)
              replace G := hid (below_step G.out b)
              replace GR := hid (below_step GR.out b)
              have lz26 := (show Below _ _ _ from b).size
              have Zh := hid m0
              have Zg := hid m1
              clear b m0 m1
              clear Zd
              clear Zt
              clear Zg
              refine hK.out _ _ (fun _ _ => ⟨Po.out.c0, Po.out.c1⟩) ?_
              clear hK
              refine wpAnyX_pure (i := 5) (oi := bdo1x5) (v := (.tuple #[(.agg #[.bool nh, .slice adh xh.length qh]), (.agg #[.bool ng, .slice adg xg.length qg]), (.int .i64 0)])) rfl (by kernel_rfl) (fun _ _ _ h => h) (Or.inl ⟨by rfl, ?_⟩)  ?_
              · intro w hSw
                (try dsimp only at hSw)
                dsimp only [bdo1x5]
                go_simp
              simp only [Act.put, List.setIfInBounds_toArray, List.set_cons_zero, List.set_cons_succ]
              refine wpAnyX_pure (i := 6) (oi := bdo1x6) (v := (.agg #[.bool nh, .slice adh xh.length qh])) rfl (by kernel_rfl) (fun _ _ _ h => h) (Or.inl ⟨by rfl, ?_⟩)  ?_
              · intro w hSw
                (try dsimp only at hSw)
                dsimp only [bdo1x6]
                go_simp
              simp only [Act.put, List.setIfInBounds_toArray, List.set_cons_zero, List.set_cons_succ]
              refine wpAnyX_pure (i := 7) (oi := bdo1x7) (v := (.agg #[.bool ng, .slice adg xg.length qg])) rfl (by kernel_rfl) (fun _ _ _ h => h) (Or.inl ⟨by rfl, ?_⟩)  ?_
              · intro w hSw
                (try dsimp only at hSw)
                dsimp only [bdo1x7]
                go_simp
              simp only [Act.put, List.setIfInBounds_toArray, List.set_cons_zero, List.set_cons_succ]
              refine wpAnyX_pure (i := 8) (oi := bdo1x8) (v := (.int .i64 0)) rfl (by kernel_rfl) (fun _ _ _ h => h) (Or.inl ⟨by rfl, ?_⟩)  ?_
              · intro w hSw
                (try dsimp only at hSw)
                dsimp only [bdo1x8]
                go_simp
              simp only [Act.put, List.setIfInBounds_toArray, List.set_cons_zero, List.set_cons_succ]
              refine wpAnyX_one (i := 10) (o := bdo1x10) (by kernel_rfl) rfl (fun K hK => ?_)
              dsimp only [bdo1x10]
              go_simp
              obtain ⟨V27, hW⟩ : ∃ V27, w25.alloc zbox = V27 := ⟨_, rfl⟩
              obtain ⟨kW, sz27⟩ := alloc1 w25 zbox
              rw [hW] at kW sz27
              replace sz27 : w25.heap.size < V27.heap.size := by omega
              replace Zh := hid (Zh.out.now kW)
              replace Po := hid (Po.out.step kW)
              replace PN3 := hid (PN3.out.step kW)
              replace G := hid (below_step G.out kW)
              replace GR := hid (below_step GR.out kW)
              have lz28 := (show Below _ _ _ from kW).size
              have PN4 : Hid (Duo V27 (w25.heap.size) (.bool false) (.slice none 0 0)) := by unfold Hid; rw [← hW]; exact duo_at rfl
              rw [hW]
              clear hW kW
              refine hK.out _ _ (fun _ _ => ⟨Po.out.c0, Po.out.c1⟩) ?_
              clear hK
              try simp only [Act.put]
              refine wpAnyX_one (i := 11) (o := bdo1x11) (by kernel_rfl) rfl (fun K hK => ?_)
              dsimp only [bdo1x11]
              have cN30 := PN3.out.c0
              have cN31 := PN3.out.c1
              have fN30 := PN3.out.fz 0
              have fN31 := PN3.out.fz 1
              go_simp
              clear cN30 cN31 fN30 fN31
              obtain ⟨V29, hW⟩ : ∃ V29, (V27.setCell ⟨w7.heap.size, 0, none⟩ (.bool nh)).setCell ⟨w7.heap.size, 1, none⟩ (.slice adh xh.length qh) = V29 := ⟨_, rfl⟩
              replace Zh := hid ((Zh.out).box (PN3.out) (.bool nh) (.slice adh xh.length qh))
              replace Po := hid ((Po.out).box (b' := w7.heap.size) (by omega) (.bool nh) (.slice adh xh.length qh))
              replace PN3 := hid ((PN3.out).set (.bool nh) (.slice adh xh.length qh))
              replace PN4 := hid ((PN4.out).box (b' := w7.heap.size) (by omega) (.bool nh) (.slice adh xh.length qh))
              replace G : Hid (Below w.heap.size w (((V27.setCell ⟨w7.heap.size, 0, none⟩ (.bool nh)).setCell ⟨w7.heap.size, 1, none⟩ (.slice adh xh.length qh)))) := bset (bset (G.out) (by omega)) (by omega)
              replace GR : Hid (Below W0.heap.size W0 (((V27.setCell ⟨w7.heap.size, 0, none⟩ (.bool nh)).setCell ⟨w7.heap.size, 1, none⟩ (.slice adh xh.length qh)))) := bset (bset (GR.out) (by omega)) (by omega)
              have sz29 : V29.heap.size = V27.heap.size := by rw [← hW]; simp
              rw [hW] at Zh Po PN3 PN4 G GR
              rw [hW]
              clear hW
              refine hK.out _ _ (fun _ _ => ⟨Po.out.c0, Po.out.c1⟩) ?_
              clear hK
              try simp only [Act.put]
              refine wpAnyX_one (i := 12) (o := bdo1x12) (by kernel_rfl) rfl (fun K hK => ?_)
              dsimp only [bdo1x12]
              have cN40 := PN4.out.c0
              have cN41 := PN4.out.c1
              have fN40 := PN4.out.fz 0
              have fN41 := PN4.out.fz 1
              go_simp
              clear cN40 cN41 fN40 fN41
              obtain ⟨V30, hW⟩ : ∃ V30, (V29.setCell ⟨w25.heap.size, 0, none⟩ (.bool ng)).setCell ⟨w25.heap.size, 1, none⟩ (.slice adg xg.length qg) = V30 := ⟨_, rfl⟩
              replace Zh := hid ((Zh.out).box (PN4.out) (.bool ng) (.slice adg xg.length qg))
              replace Po := hid ((Po.out).box (b' := w25.heap.size) (by omega) (.bool ng) (.slice adg xg.length qg))
              replace PN3 := hid ((PN3.out).box (b' := w25.heap.size) (by omega) (.bool ng) (.slice adg xg.length qg))
              replace PN4 := hid ((PN4.out).set (.bool ng) (.slice adg xg.length qg))
              replace G : Hid (Below w.heap.size w (((V29.setCell ⟨w25.heap.size, 0, none⟩ (.bool ng)).setCell ⟨w25.heap.size, 1, none⟩ (.slice adg xg.length qg)))) := bset (bset (G.out) (by omega)) (by omega)
              replace GR : Hid (Below W0.heap.size W0 (((V29.setCell ⟨w25.heap.size, 0, none⟩ (.bool ng)).setCell ⟨w25.heap.size, 1, none⟩ (.slice adg xg.length qg)))) := bset (bset (GR.out) (by omega)) (by omega)
              have sz30 : V30.heap.size = V29.heap.size := by rw [← hW]; simp
              rw [hW] at Zh Po PN3 PN4 G GR
              rw [hW]
              clear hW
              refine hK.out _ _ (fun _ _ => ⟨Po.out.c0, Po.out.c1⟩) ?_
              clear hK
              try simp only [Act.put]
              refine wpAnyX_pure (i := 13) (oi := bdo1x13) (v := (.int .i64 0)) rfl (by kernel_rfl) (fun _ _ _ h => h) (Or.inl ⟨by rfl, ?_⟩)  ?_
              · intro w hSw
                (try dsimp only at hSw)
                dsimp only [bdo1x13]
                go_simp
              simp only [Act.put, List.setIfInBounds_toArray, List.set_cons_zero, List.set_cons_succ]
              refine wpAnyX_done (by kernel_rfl) ?_ _
              go_wp2_with fail
              go_meet
              exact ⟨⟨_, _, _, _, _, rfl, GR.out, by omega, PN3.out.blk, PN3.out, Zh.out.mono (by omega)⟩, rfl⟩
            · skip
              dsimp only [bdo1x10]
              go_simp
              obtain ⟨V31, hW⟩ : ∃ V31, V23.alloc zbox = V31 := ⟨_, rfl⟩
              obtain ⟨kW, sz31⟩ := alloc1 V23 zbox
              rw [hW] at kW sz31
              replace sz31 : V23.heap.size < V31.heap.size := by omega
              replace Zd := hid (Zd.out.now kW)
              replace Zt := hid (Zt.out.now kW)
              replace Po := hid (Po.out.step kW)
              replace PN3 := hid (PN3.out.step kW)
              replace G := hid (below_step G.out kW)
              replace GR := hid (below_step GR.out kW)
              have lz32 := (show Below _ _ _ from kW).size
              have PN4 : Hid (Duo V31 (V23.heap.size) (.bool false) (.slice none 0 0)) := by unfold Hid; rw [← hW]; exact duo_at rfl
              rw [hW]
              clear hW kW
              refine hK.out _ _ (fun _ _ => ⟨Po.out.c0, Po.out.c1⟩) ?_
              clear hK
              try simp only [Act.put]
              refine wpAnyX_one (i := 4) (o := bdo1x4) (by kernel_rfl) rfl (fun K hK => ?_)
              dsimp only [bdo1x4]
              go_simp
              go_at_call 46
              refine (floor_z Zd.out.zi Zt.out.zi (by decide) (by omega) (by omega)).mono ?_
              rintro e w33 ⟨r0, r1, rfl, m0, m1, b⟩
              obtain ⟨nh, xh, adh, qh, rfl, -, -, -, -, -⟩ := id m0
              obtain ⟨ng, xg, adg, qg, rfl, -, -, -, -, -⟩ := id m1
              replace Zd := hid (Zd.out.now b)
              replace Zt := hid (Zt.out.now b)
              replace Po := hid (Po.out.step b)
              replace PN3 := hid (PN3.out.step b)
              replace PN4 := hid (PN4.out.step b)
              replace G := hid (below_step G.out b)
              replace GR := hid (below_step GR.out b)
              have lz34 := (show Below _ _ _ from b).size
              have Zh := hid m0
              have Zg := hid m1
              clear b m0 m1
              clear Zd
              clear Zt
              clear Zg
              refine hK.out _ _ (fun _ _ => ⟨Po.out.c0, Po.out.c1⟩) ?_
              clear hK
              refine wpAnyX_pure (i := 5) (oi := bdo1x5) (v := (.tuple #[(.agg #[.bool nh, .slice adh xh.length qh]), (.agg #[.bool ng, .slice adg xg.length qg]), (.int .i64 0)])) rfl (by kernel_rfl) (fun _ _ _ h => h) (Or.inl ⟨by rfl, ?_⟩)  ?_
              · intro w hSw
                (try dsimp only at hSw)
                dsimp only [bdo1x5]
                go_simp
              simp only [Act.put, List.setIfInBounds_toArray, List.set_cons_zero, List.set_cons_succ]
              refine wpAnyX_pure (i := 6) (oi := bdo1x6) (v := (.agg #[.bool nh, .slice adh xh.length qh])) rfl (by kernel_rfl) (fun _ _ _ h => h) (Or.inl ⟨by rfl, ?_⟩)  ?_
              · intro w hSw
                (try dsimp only at hSw)
                dsimp only [bdo1x6]
                go_simp
              simp only [Act.put, List.setIfInBounds_toArray, List.set_cons_zero, List.set_cons_succ]
              refine wpAnyX_pure (i := 7) (oi := bdo1x7) (v := (.agg #[.bool ng, .slice adg xg.length qg])) rfl (by kernel_rfl) (fun _ _ _ h => h) (Or.inl ⟨by rfl, ?_⟩)  ?_
              · intro w hSw
                (try dsimp only at hSw)
                dsimp only [bdo1x7]
                go_simp
              simp only [Act.put, List.setIfInBounds_toArray, List.set_cons_zero, List.set_cons_succ]
              refine wpAnyX_pure (i := 8) (oi := bdo1x8) (v := (.int .i64 0)) rfl (by kernel_rfl) (fun _ _ _ h => h) (Or.inl ⟨by rfl, ?_⟩)  ?_
              · intro w hSw
                (try dsimp only at hSw)
                dsimp only [bdo1x8]
                go_simp
              simp only [Act.put, List.setIfInBounds_toArray, List.set_cons_zero, List.set_cons_succ]
              refine wpAnyX_one (i := 11) (o := bdo1x11) (by kernel_rfl) rfl (fun K hK => ?_)
              dsimp only [bdo1x11]
              have cN30 := PN3.out.c0
              have cN31 := PN3.out.c1
              have fN30 := PN3.out.fz 0
              have fN31 := PN3.out.fz 1
              go_simp
              clear cN30 cN31 fN30 fN31
              obtain ⟨V35, hW⟩ : ∃ V35, (w33.setCell ⟨w7.heap.size, 0, none⟩ (.bool nh)).setCell ⟨w7.heap.size, 1, none⟩ (.slice adh xh.length qh) = V35 := ⟨_, rfl⟩
              replace Zh := hid ((Zh.out).box (PN3.out) (.bool nh) (.slice adh xh.length qh))
              replace Po := hid ((Po.out).box (b' := w7.heap.size) (by omega) (.bool nh) (.slice adh xh.length qh))
              replace PN3 := hid ((PN3.out).set (.bool nh) (.slice adh xh.length qh))
              replace PN4 := hid ((PN4.out).box (b' := w7.heap.size) (by omega) (.bool nh) (.slice adh xh.length qh))
              replace G : Hid (Below w.heap.size w (((w33.setCell ⟨w7.heap.size, 0, none⟩ (.bool nh)).setCell ⟨w7.heap.size, 1, none⟩ (.slice adh xh.length qh)))) := bset (bset (G.out) (by omega)) (by omega)
              replace GR : Hid (Below W0.heap.size W0 (((w33.setCell ⟨w7.heap.size, 0, none⟩ (.bool nh)).setCell ⟨w7.heap.size, 1, none⟩ (.slice adh xh.length qh)))) := bset (bset (GR.out) (by omega)) (by omega)
              have sz35 : V35.heap.size = w33.heap.size := by rw [← hW]; simp
              rw [hW] at Zh Po PN3 PN4 G GR
              rw [hW]
              clear hW
              refine hK.out _ _ (fun _ _ => ⟨Po.out.c0, Po.out.c1⟩) ?_
              clear hK
              try simp only [Act.put]
              refine wpAnyX_one (i := 12) (o := bdo1x12) (by kernel_rfl) rfl (fun K hK => ?_)
              dsimp only [bdo1x12]
              have cN40 := PN4.out.c0
              have cN41 := PN4.out.c1
              have fN40 := PN4.out.fz 0
              have fN41 := PN4.out.fz 1
              go_simp
              clear cN40 cN41 fN40 fN41
              obtain ⟨V36, hW⟩ : ∃ V36, (V35.setCell ⟨V23.heap.size, 0, none⟩ (.bool ng)).setCell ⟨V23.heap.size, 1, none⟩ (.slice adg xg.length qg) = V36 := ⟨_, rfl⟩
              replace Zh := hid ((Zh.out).box (PN4.out) (.bool ng) (.slice adg xg.length qg))
              replace Po := hid ((Po.out).box (b' := V23.heap.size) (by omega) (.bool ng) (.slice adg xg.length qg))
              replace PN3 := hid ((PN3.out).box (b' := V23.heap.size) (by omega) (.bool ng) (.slice adg xg.length qg))
              replace PN4 := hid ((PN4.out).set (.bool ng) (.slice adg xg.length qg))
              replace G : Hid (Below w.heap.size w (((V35.setCell ⟨V23.heap.size, 0, none⟩ (.bool ng)).setCell ⟨V23.heap.size, 1, none⟩ (.slice adg xg.length qg)))) := bset (bset (G.out) (by omega)) (by omega)
              replace GR : Hid (Below W0.heap.size W0 (((V35.setCell ⟨V23.heap.size, 0, none⟩ (.bool ng)).setCell ⟨V23.heap.size, 1, none⟩ (.slice adg xg.length qg)))) := bset (bset (GR.out) (by omega)) (by omega)
              have sz36 : V36.heap.size = V35.heap.size := by rw [← hW]; simp
              rw [hW] at Zh Po PN3 PN4 G GR
              rw [hW]
              clear hW
              refine hK.out _ _ (fun _ _ => ⟨Po.out.c0, Po.out.c1⟩) ?_
              clear hK
              try simp only [Act.put]
              refine wpAnyX_pure (i := 13) (oi := bdo1x13) (v := (.int .i64 0)) rfl (by kernel_rfl) (fun _ _ _ h => h) (Or.inl ⟨by rfl, ?_⟩)  ?_
              · intro w hSw
                (try dsimp only at hSw)
                dsimp only [bdo1x13]
                go_simp
              simp only [Act.put, List.setIfInBounds_toArray, List.set_cons_zero, List.set_cons_succ]
              refine wpAnyX_done (by kernel_rfl) ?_ _
              go_wp2_with fail
              go_meet
              exact ⟨⟨_, _, _, _, _, rfl, GR.out, by omega, PN3.out.blk, PN3.out, Zh.out.mono (by omega)⟩, rfl⟩
          · skip
            dsimp only [bdo1x10]
            go_simp
            obtain ⟨V37, hW⟩ : ∃ V37, w7.alloc zbox = V37 := ⟨_, rfl⟩
            obtain ⟨kW, sz37⟩ := alloc1 w7 zbox
            rw [hW] at kW sz37
            replace sz37 : w7.heap.size < V37.heap.size := by omega
            replace Zd := hid (Zd.out.now kW)
            replace Zt := hid (Zt.out.now kW)
            replace Po := hid (Po.out.step kW)
            replace G := hid (below_step G.out kW)
            replace GR := hid (below_step GR.out kW)
            have lz38 := (show Below _ _ _ from kW).size
            have PN4 : Hid (Duo V37 (w7.heap.size) (.bool false) (.slice none 0 0)) := by unfold Hid; rw [← hW]; exact duo_at rfl
            rw [hW]
            clear hW kW
            refine hK.out _ _ (fun _ _ => ⟨Po.out.c0, Po.out.c1⟩) ?_
            clear hK
            try simp only [Act.put]
            refine wpAnyX_two (i := 4) (j := 9) (oi := bdo1x4) (oj := bdo1x9) (by kernel_rfl) rfl rfl (fun K hK => ?_) (fun K hK => ?_)
            · skip
              dsimp only [bdo1x4]
              go_simp
              go_at_call 46
              refine (floor_z Zd.out.zi Zt.out.zi (by decide) (by omega) (by omega)).mono ?_
              rintro e w39 ⟨r0, r1, rfl, m0, m1, b⟩
              obtain ⟨nh, xh, adh, qh, rfl, -, -, -, -, -⟩ := id m0
              obtain ⟨ng, xg, adg, qg, rfl, -, -, -, -, -⟩ := id m1
              replace Zd := hid (Zd.out.now b)
              replace Zt := hid (Zt.out.now b)
              replace Po := hid (Po.out.step b)
              replace PN4 := hid (PN4.out.step b)
              replace G := hid (below_step G.out b)
              replace GR := hid (below_step GR.out b)
              have lz40 := (show Below _ _ _ from b).size
              have Zh := hid m0
              have Zg := hid m1
              clear b m0 m1
              clear Zd
              clear Zt
              clear Zg
              refine hK.out _ _ (fun _ _ => ⟨Po.out.c0, Po.out.c1⟩) ?_
              clear hK
              refine wpAnyX_pure (i := 5) (oi := bdo1x5) (v := (.tuple #[(.agg #[.bool nh, .slice adh xh.length qh]), (.agg #[.bool ng, .slice adg xg.length qg]), (.int .i64 0)])) rfl (by kernel_rfl) (fun _ _ _ h => h) (Or.inl ⟨by rfl, ?_⟩)  ?_
              · intro w hSw
                (try dsimp only at hSw)
                dsimp only [bdo1x5]
                go_simp
              simp only [Act.put, List.setIfInBounds_toArray, List.set_cons_zero, List.set_cons_succ]
              refine wpAnyX_pure (i := 6) (oi := bdo1x6) (v := (.agg #[.bool nh, .slice adh xh.length qh])) rfl (by kernel_rfl) (fun _ _ _ h => h) (Or.inl ⟨by rfl, ?_⟩)  ?_
              · intro w hSw
                (try dsimp only at hSw)
                dsimp only [bdo1x6]
                go_simp
              simp only [Act.put, List.setIfInBounds_toArray, List.set_cons_zero, List.set_cons_succ]
              refine wpAnyX_pure (i := 7) (oi := bdo1x7) (v := (.agg #[.bool ng, .slice adg xg.length qg])) rfl (by kernel_rfl) (fun _ _ _ h => h) (Or.inl ⟨by rfl, ?_⟩)  ?_
              · intro w hSw
                (try dsimp only at hSw)
                dsimp only [bdo1x7]
                go_simp
              simp only [Act.put, List.setIfInBounds_toArray, List.set_cons_zero, List.set_cons_succ]
              refine wpAnyX_pure (i := 8) (oi := bdo1x8) (v := (.int .i64 0)) rfl (by kernel_rfl) (fun _ _ _ h => h) (Or.inl ⟨by rfl, ?_⟩)  ?_
              · intro w hSw
                (try dsimp only at hSw)
                dsimp only [bdo1x8]
                go_simp
              simp only [Act.put, List.setIfInBounds_toArray, List.set_cons_zero, List.set_cons_succ]
              refine wpAnyX_one (i := 9) (o := bdo1x9) (by kernel_rfl) rfl (fun K hK => ?_)
              dsimp only [bdo1x9]
              go_simp
              obtain ⟨V41, hW⟩ : ∃ V41, w39.alloc zbox = V41 := ⟨_, rfl⟩
              obtain ⟨kW, sz41⟩ := alloc1 w39 zbox
              rw [hW] at kW sz41
              replace sz41 : w39.heap.size < V41.heap.size := by omega
              replace Zh := hid (Zh.out.now kW)
              replace Po := hid (Po.out.step kW)
              replace PN4 := hid (PN4.out.step kW)
              replace G := hid (below_step G.out kW)
              replace GR := hid (below_step GR.out kW)
              have lz42 := (show Below _ _ _ from kW).size
              have PN3 : Hid (Duo V41 (w39.heap.size) (.bool false) (.slice none 0 0)) := by unfold Hid; rw [← hW]; exact duo_at rfl
              rw [hW]
              clear hW kW
              refine hK.out _ _ (fun _ _ => ⟨Po.out.c0, Po.out.c1⟩) ?_
              clear hK
              try simp only [Act.put]
              refine wpAnyX_one (i := 11) (o := bdo1x11) (by kernel_rfl) rfl (fun K hK => ?_)
              dsimp only [bdo1x11]
              have cN30 := PN3.out.c0
              have cN31 := PN3.out.c1
              have fN30 := PN3.out.fz 0
              have fN31 := PN3.out.fz 1
              go_simp
              clear cN30 cN31 fN30 fN31
              obtain ⟨V43, hW⟩ : ∃ V43, (V41.setCell ⟨w39.heap.size, 0, none⟩ (.bool nh)).setCell ⟨w39.heap.size, 1, none⟩ (.slice adh xh.length qh) = V43 := ⟨_, rfl⟩
              replace Zh := hid ((Zh.out).box (PN3.out) (.bool nh) (.slice adh xh.length qh))
              replace Po := hid ((Po.out).box (b' := w39.heap.size) (by omega) (.bool nh) (.slice adh xh.length qh))
              replace PN4 := hid ((PN4.out).box (b' := w39.heap.size) (by omega) (.bool nh) (.slice adh xh.length qh))
              replace PN3 := hid ((PN3.out).set (.bool nh) (.slice adh xh.length qh))
              replace G : Hid (Below w.heap.size w (((V41.setCell ⟨w39.heap.size, 0, none⟩ (.bool nh)).setCell ⟨w39.heap.size, 1, none⟩ (.slice adh xh.length qh)))) := bset (bset (G.out) (by omega)) (by omega)
              replace GR : Hid (Below W0.heap.size W0 (((V41.setCell ⟨w39.heap.size, 0, none⟩ (.bool nh)).setCell ⟨w39.heap.size, 1, none⟩ (.slice adh xh.length qh)))) := bset (bset (GR.out) (by omega)) (by omega)
              have sz43 : V43.heap.size = V41.heap.size := by rw [← hW]; simp
              rw [hW] at Zh Po PN4 PN3 G GR
              rw [hW]
              clear hW
              refine hK.out _ _ (fun _ _ => ⟨Po.out.c0, Po.out.c1⟩) ?_
              clear hK
              try simp only [Act.put]
              refine wpAnyX_one (i := 12) (o := bdo1x12) (by kernel_rfl) rfl (fun K hK => ?_)
              dsimp only [bdo1x12]
              have cN40 := PN4.out.c0
              have cN41 := PN4.out.c1
              have fN40 := PN4.out.fz 0
              have fN41 := PN4.out.fz 1
              go_simp
              clear cN40 cN41 fN40 fN41
              obtain ⟨V44, hW⟩ : ∃ V44, (V43.setCell ⟨w7.heap.size, 0, none⟩ (.bool ng)).setCell ⟨w7.heap.size, 1, none⟩ (.slice adg xg.length qg) = V44 := ⟨_, rfl⟩
              replace Zh := hid ((Zh.out).box (PN4.out) (.bool ng) (.slice adg xg.length qg))
              replace Po := hid ((Po.out).box (b' := w7.heap.size) (by omega) (.bool ng) (.slice adg xg.length qg))
              replace PN4 := hid ((PN4.out).set (.bool ng) (.slice adg xg.length qg))
              replace PN3 := hid ((PN3.out).box (b' := w7.heap.size) (by omega) (.bool ng) (.slice adg xg.length qg))
              replace G : Hid (Below w.heap.size w (((V43.setCell ⟨w7.heap.size, 0, none⟩ (.bool ng)).setCell ⟨w7.heap.size, 1, none⟩ (.slice adg xg.length qg)))) := bset (bset (G.out) (by omega)) (by omega)
              replace GR : Hid (Below W0.heap.size W0 (((V43.setCell ⟨w7.heap.size, 0, none⟩ (.bool ng)).setCell ⟨w7.heap.size, 1, none⟩ (.slice adg xg.length qg)))) := bset (bset (GR.out) (by omega)) (by omega)
              have sz44 : V44.heap.size = V43.heap.size := by rw [← hW]; simp
              rw [hW] at Zh Po PN4 PN3 G GR
              rw [hW]
              clear hW
              refine hK.out _ _ (fun _ _ => ⟨Po.out.c0, Po.out.c1⟩) ?_
              clear hK
              try simp only [Act.put]
              refine wpAnyX_pure (i := 13) (oi := bdo1x13) (v := (.int .i64 0)) rfl (by kernel_rfl) (fun _ _ _ h => h) (Or.inl ⟨by rfl, ?_⟩)  ?_
              · intro w hSw
                (try dsimp only at hSw)
                dsimp only [bdo1x13]
                go_simp
              simp only [Act.put, List.setIfInBounds_toArray, List.set_cons_zero, List.set_cons_succ]
              refine wpAnyX_done (by kernel_rfl) ?_ _
              go_wp2_with fail
              go_meet
              exact ⟨⟨_, _, _, _, _, rfl, GR.out, by omega, PN3.out.blk, PN3.out, Zh.out.mono (by omega)⟩, rfl⟩
            · skip
              dsimp only [bdo1x9]
              go_simp
              obtain ⟨V45, hW⟩ : ∃ V45, V37.alloc zbox = V45 := ⟨_, rfl⟩
              obtain ⟨kW, sz45⟩ := alloc1 V37 zbox
              rw [hW] at kW sz45
              replace sz45 : V37.heap.size < V45.heap.size := by omega
              replace Zd := hid (Zd.out.now kW)
              replace Zt := hid (Zt.out.now kW)
              replace Po := hid (Po.out.step kW)
              replace PN4 := hid (PN4.out.step kW)
              replace G := hid (below_step G.out kW)
              replace GR := hid (below_step GR.out kW)
              have lz46 := (show Below _ _ _ from kW).size
              have PN3 : Hid (Duo V45 (V37.heap.size) (.bool false) (.slice none 0 0)) := by unfold Hid; rw [← hW]; exact duo_at rfl
              rw [hW]
              clear hW kW
              refine hK.out _ _ (fun _ _ => ⟨Po.out.c0, Po.out.c1⟩) ?_
              clear hK
              try simp only [Act.put]
              refine wpAnyX_one (i := 4) (o := bdo1x4) (by kernel_rfl) rfl (fun K hK => ?_)
              dsimp only [bdo1x4]
              go_simp
              go_at_call 46
              refine (floor_z Zd.out.zi Zt.out.zi (by decide) (by omega) (by omega)).mono ?_
              rintro e w47 ⟨r0, r1, rfl, m0, m1, b⟩
              obtain ⟨nh, xh, adh, qh, rfl, -, -, -, -, -⟩ := id m0
              obtain ⟨ng, xg, adg, qg, rfl, -, -, -, -, -⟩ := id m1
              replace Zd := hid (Zd.out.now b)
              replace Zt := hid (Zt.out.now b)
              replace Po := hid (Po.out.step b)
              replace PN4 := hid (PN4.out.step b)
              replace PN3 := hid (PN3.out.step b)
              replace G := hid (below_step G.out b)
              replace GR := hid (below_step GR.out b)
              have lz48 := (show Below _ _ _ from b).size
              have Zh := hid m0
              have Zg := hid m1
              clear b m0 m1
              clear Zd
              clear Zt
              clear Zg
              refine hK.out _ _ (fun _ _ => ⟨Po.out.c0, Po.out.c1⟩) ?_
              clear hK
              refine wpAnyX_pure (i := 5) (oi := bdo1x5) (v := (.tuple #[(.agg #[.bool nh, .slice adh xh.length qh]), (.agg #[.bool ng, .slice adg xg.length qg]), (.int .i64 0)])) rfl (by kernel_rfl) (fun _ _ _ h => h) (Or.inl ⟨by rfl, ?_⟩)  ?_
              · intro w hSw
                (try dsimp only at hSw)
                dsimp only [bdo1x5]
                go_simp
              simp only [Act.put, List.setIfInBounds_toArray, List.set_cons_zero, List.set_cons_succ]
              refine wpAnyX_pure (i := 6) (oi := bdo1x6) (v := (.agg #[.bool nh, .slice adh xh.length qh])) rfl (by kernel_rfl) (fun _ _ _ h => h) (Or.inl ⟨by rfl, ?_⟩)  ?_
              · intro w hSw
                (try dsimp only at hSw)
                dsimp only [bdo1x6]
                go_simp
              simp only [Act.put, List.setIfInBounds_toArray, List.set_cons_zero, List.set_cons_succ]
              refine wpAnyX_pure (i := 7) (oi := bdo1x7) (v := (.agg #[.bool ng, .slice adg xg.length qg])) rfl (by kernel_rfl) (fun _ _ _ h => h) (Or.inl ⟨by rfl, ?_⟩)  ?_
              · intro w hSw
                (try dsimp only at hSw)
                dsimp only [bdo1x7]
                go_simp
              simp only [Act.put, List.setIfInBounds_toArray, List.set_cons_zero, List.set_cons_succ]
              refine wpAnyX_pure (i := 8) (oi := bdo1x8) (v := (.int .i64 0)) rfl (by kernel_rfl) (fun _ _ _ h => h) (Or.inl ⟨by rfl, ?_⟩)  ?_
              · intro w hSw
                (try dsimp only at hSw)
                dsimp only [bdo1x8]
                go_simp
              simp only [Act.put, List.setIfInBounds_toArray, List.set_cons_zero, List.set_cons_succ]
              refine wpAnyX_one (i := 11) (o := bdo1x11) (by kernel_rfl) rfl (fun K hK => ?_)
              dsimp only [bdo1x11]
              have cN30 := PN3.out.c0
              have cN31 := PN3.out.c1
              have fN30 := PN3.out.fz 0
              have fN31 := PN3.out.fz 1
              go_simp
              clear cN30 cN31 fN30 fN31
              obtain ⟨V49, hW⟩ : ∃ V49, (w47.setCell ⟨V37.heap.size, 0, none⟩ (.bool nh)).setCell ⟨V37.heap.size, 1, none⟩ (.slice adh xh.length qh) = V49 := ⟨_, rfl⟩
              replace Zh := hid ((Zh.out).box (PN3.out) (.bool nh) (.slice adh xh.length qh))
              replace Po := hid ((Po.out).box (b' := V37.heap.size) (by omega) (.bool nh) (.slice adh xh.length qh))
              replace PN4 := hid ((PN4.out).box (b' := V37.heap.size) (by omega) (.bool nh) (.slice adh xh.length qh))
              replace PN3 := hid ((PN3.out).set (.bool nh) (.slice adh xh.length qh))
              replace G : Hid (Below w.heap.size w (((w47.setCell ⟨V37.heap.size, 0, none⟩ (.bool nh)).setCell ⟨V37.heap.size, 1, none⟩ (.slice adh xh.length qh)))) := bset (bset (G.out) (by omega)) (by omega)
              replace GR : Hid (Below W0.heap.size W0 (((w47.setCell ⟨V37.heap.size, 0, none⟩ (.bool nh)).setCell ⟨V37.heap.size, 1, none⟩ (.slice adh xh.length qh)))) := bset (bset (GR.out) (by omega)) (by omega)
              have sz49 : V49.heap.size = w47.heap.size := by rw [← hW]; simp
              rw [hW] at Zh Po PN4 PN3 G GR
              rw [hW]
              clear hW
              refine hK.out _ _ (fun _ _ => ⟨Po.out.c0, Po.out.c1⟩) ?_
              clear hK
              try simp only [Act.put]
              refine wpAnyX_one (i := 12) (o := bdo1x12) (by kernel_rfl) rfl (fun K hK => ?_)
              dsimp only [bdo1x12]
              have cN40 := PN4.out.c0
              have cN41 := PN4.out.c1
              have fN40 := PN4.out.fz 0
              have fN41 := PN4.out.fz 1
              go_simp
              clear cN40 cN41 fN40 fN41
              obtain ⟨V50, hW⟩ : ∃ V50, (V49.setCell ⟨w7.heap.size, 0, none⟩ (.bool ng)).setCell ⟨w7.heap.size, 1, none⟩ (.slice adg xg.length qg) = V50 := ⟨_, rfl⟩
              replace Zh := hid ((Zh.out).box (PN4.out) (.bool ng) (.slice adg xg.length qg))
              replace Po := hid ((Po.out).box (b' := w7.heap.size) (by omega) (.bool ng) (.slice adg xg.length qg))
              replace PN4 := hid ((PN4.out).set (.bool ng) (.slice adg xg.length qg))
              replace PN3 := hid ((PN3.out).box (b' := w7.heap.size) (by omega) (.bool ng) (.slice adg xg.length qg))
              replace G : Hid (Below w.heap.size w (((V49.setCell ⟨w7.heap.size, 0, none⟩ (.bool ng)).setCell ⟨w7.heap.size, 1, none⟩ (.slice adg xg.length qg)))) := bset (bset (G.out) (by omega)) (by omega)
              replace GR : Hid (Below W0.heap.size W0 (((V49.setCell ⟨w7.heap.size, 0, none⟩ (.bool ng)).setCell ⟨w7.heap.size, 1, none⟩ (.slice adg xg.length qg)))) := bset (bset (GR.out) (by omega)) (by omega)
              have sz50 : V50.heap.size = V49.heap.size := by rw [← hW]; simp
              rw [hW] at Zh Po PN4 PN3 G GR
              rw [hW]
              clear hW
              refine hK.out _ _ (fun _ _ => ⟨Po.out.c0, Po.out.c1⟩) ?_
              clear hK
              try simp only [Act.put]
              refine wpAnyX_pure (i := 13) (oi := bdo1x13) (v := (.int .i64 0)) rfl (by kernel_rfl) (fun _ _ _ h => h) (Or.inl ⟨by rfl, ?_⟩)  ?_
              · intro w hSw
                (try dsimp only at hSw)
                dsimp only [bdo1x13]
                go_simp
              simp only [Act.put, List.setIfInBounds_toArray, List.set_cons_zero, List.set_cons_succ]
              refine wpAnyX_done (by kernel_rfl) ?_ _
              go_wp2_with fail
              go_meet
              exact ⟨⟨_, _, _, _, _, rfl, GR.out, by omega, PN3.out.blk, PN3.out, Zh.out.mono (by omega)⟩, rfl⟩
        · skip
          dsimp only [bdo1x9]
          go_simp
          obtain ⟨V51, hW⟩ : ∃ V51, w5.alloc zbox = V51 := ⟨_, rfl⟩
          obtain ⟨kW, sz51⟩ := alloc1 w5 zbox
          rw [hW] at kW sz51
          replace sz51 : w5.heap.size < V51.heap.size := by omega
          replace Zd := hid (Zd.out.now kW)
          replace Po := hid (Po.out.step kW)
          replace G := hid (below_step G.out kW)
          replace GR := hid (below_step GR.out kW)
          have lz52 := (show Below _ _ _ from kW).size
          have PN3 : Hid (Duo V51 (w5.heap.size) (.bool false) (.slice none 0 0)) := by unfold Hid; rw [← hW]; exact duo_at rfl
          rw [hW]
          clear hW kW
          refine hK.out _ _ (fun _ _ => ⟨Po.out.c0, Po.out.c1⟩) ?_
          clear hK
          try simp only [Act.put]
          refine wpAnyX_two (i := 3) (j := 10) (oi := bdo1x3) (oj := bdo1x10) (by kernel_rfl) rfl rfl (fun K hK => ?_) (fun K hK => ?_)
          · skip
            dsimp only [bdo1x3]
            go_simp
            go_at_call 20
            refine (of_z (n := 2) (by decide) (by decide) _).mono ?_
            rintro e w53 ⟨r0, rfl, m0, b⟩
            obtain ⟨nt, xt, adt, qt, rfl, -, -, -, -, -⟩ := id m0
            replace Zd := hid (Zd.out.now b)
            replace Po := hid (Po.out.step b)
            replace PN3 := hid (PN3.out.step b)
            replace G := hid (below_step G.out b)
            replace GR := hid (below_step GR.out b)
            have lz54 := (show Below _ _ _ from b).size
            have Zt := hid m0
            clear b m0
            refine hK.out _ _ (fun _ _ => ⟨Po.out.c0, Po.out.c1⟩) ?_
            clear hK
            refine wpAnyX_two (i := 4) (j := 10) (oi := bdo1x4) (oj := bdo1x10) (by kernel_rfl) rfl rfl (fun K hK => ?_) (fun K hK => ?_)
            · skip
              dsimp only [bdo1x4]
              go_simp
              go_at_call 46
              refine (floor_z Zd.out.zi Zt.out.zi (by decide) (by omega) (by omega)).mono ?_
              rintro e w55 ⟨r0, r1, rfl, m0, m1, b⟩
              obtain ⟨nh, xh, adh, qh, rfl, -, -, -, -, -⟩ := id m0
              obtain ⟨ng, xg, adg, qg, rfl, -, -, -, -, -⟩ := id m1
              replace Zd := hid (Zd.out.now b)
              replace Zt := hid (Zt.out.now b)
              replace Po := hid (Po.out.step b)
              replace PN3 := hid (PN3.out.step b)
              replace G := hid (below_step G.out b)
              replace GR := hid (below_step GR.out b)
              have lz56 := (show Below _ _ _ from b).size
              have Zh := hid m0
              have Zg := hid m1
              clear b m0 m1
              clear Zd
              clear Zt
              clear Zg
              refine hK.out _ _ (fun _ _ => ⟨Po.out.c0, Po.out.c1⟩) ?_
              clear hK
              refine wpAnyX_pure (i := 5) (oi := bdo1x5) (v := (.tuple #[(.agg #[.bool nh, .slice adh xh.length qh]), (.agg #[.bool ng, .slice adg xg.length qg]), (.int .i64 0)])) rfl (by kernel_rfl) (fun _ _ _ h => h) (Or.inl ⟨by rfl, ?_⟩)  ?_
              · intro w hSw
                (try dsimp only at hSw)
                dsimp only [bdo1x5]
                go_simp
              simp only [Act.put, List.setIfInBounds_toArray, List.set_cons_zero, List.set_cons_succ]
              refine wpAnyX_pure (i := 6) (oi := bdo1x6) (v := (.agg #[.bool nh, .slice adh xh.length qh])) rfl (by kernel_rfl) (fun _ _ _ h => h) (Or.inl ⟨by rfl, ?_⟩)  ?_
              · intro w hSw
                (try dsimp only at hSw)
                dsimp only [bdo1x6]
                go_simp
              simp only [Act.put, List.setIfInBounds_toArray, List.set_cons_zero, List.set_cons_succ]
              refine wpAnyX_pure (i := 7) (oi := bdo1x7) (v := (.agg #[.bool ng, .slice adg xg.length qg])) rfl (by kernel_rfl) (fun _ _ _ h => h) (Or.inl ⟨by rfl, ?_⟩)  ?_
              · intro w hSw
                (try dsimp only at hSw)
                dsimp only [bdo1x7]
                go_simp
              simp only [Act.put, List.setIfInBounds_toArray, List.set_cons_zero, List.set_cons_succ]
              refine wpAnyX_pure (i := 8) (oi := bdo1x8) (v := (.int .i64 0)) rfl (by kernel_rfl) (fun _ _ _ h => h) (Or.inl ⟨by rfl, ?_⟩)  ?_
              · intro w hSw
                (try dsimp only at hSw)
                dsimp only [bdo1x8]
                go_simp
              simp only [Act.put, List.setIfInBounds_toArray, List.set_cons_zero, List.set_cons_succ]
              refine wpAnyX_one (i := 10) (o := bdo1x10) (by kernel_rfl) rfl (fun K hK => ?_)
              dsimp only [bdo1x10]
              go_simp
              obtain ⟨V57, hW⟩ : ∃ V57, w55.alloc zbox = V57 := ⟨_, rfl⟩
              obtain ⟨kW, sz57⟩ := alloc1 w55 zbox
              rw [hW] at kW sz57
              replace sz57 : w55.heap.size < V57.heap.size := by omega
              replace Zh := hid (Zh.out.now kW)
              replace Po := hid (Po.out.step kW)
              replace PN3 := hid (PN3.out.step kW)
              replace G := hid (below_step G.out kW)
              replace GR := hid (below_step GR.out kW)
              have lz58 := (show Below _ _ _ from kW).size
              have PN4 : Hid (Duo V57 (w55.heap.size) (.bool false) (.slice none 0 0)) := by unfold Hid; rw [← hW]; exact duo_at rfl
              rw [hW]
              clear hW kW
              refine hK.out _ _ (fun _ _ => ⟨Po.out.c0, Po.out.c1⟩) ?_
              clear hK
              try simp only [Act.put]
              refine wpAnyX_one (i := 11) (o := bdo1x11) (by kernel_rfl) rfl (fun K hK => ?_)
              dsimp only [bdo1x11]
              have cN30 := PN3.out.c0
              have cN31 := PN3.out.c1
              have fN30 := PN3.out.fz 0
              have fN31 := PN3.out.fz 1
              go_simp
              clear cN30 cN31 fN30 fN31
              obtain ⟨V59, hW⟩ : ∃ V59, (V57.setCell ⟨w5.heap.size, 0, none⟩ (.bool nh)).setCell ⟨w5.heap.size, 1, none⟩ (.slice adh xh.length qh) = V59 := ⟨_, rfl⟩
              replace Zh := hid ((Zh.out).box (PN3.out) (.bool nh) (.slice adh xh.length qh))
              replace Po := hid ((Po.out).box (b' := w5.heap.size) (by omega) (.bool nh) (.slice adh xh.length qh))
              replace PN3 := hid ((PN3.out).set (.bool nh) (.slice adh xh.length qh))
              replace PN4 := hid ((PN4.out).box (b' := w5.heap.size) (by omega) (.bool nh) (.slice adh xh.length qh))
              replace G : Hid (Below w.heap.size w (((V57.setCell ⟨w5.heap.size, 0, none⟩ (.bool nh)).setCell ⟨w5.heap.size, 1, none⟩ (.slice adh xh.length qh)))) := bset (bset (G.out) (by omega)) (by omega)
              replace GR : Hid (Below W0.heap.size W0 (((V57.setCell ⟨w5.heap.size, 0, none⟩ (.bool nh)).setCell ⟨w5.heap.size, 1, none⟩ (.slice adh xh.length qh)))) := bset (bset (GR.out) (by omega)) (by omega)
              have sz59 : V59.heap.size = V57.heap.size := by rw [← hW]; simp
              rw [hW] at Zh Po PN3 PN4 G GR
              rw [hW]
              clear hW
              refine hK.out _ _ (fun _ _ => ⟨Po.out.c0, Po.out.c1⟩) ?_
              clear hK
              try simp only [Act.put]
              refine wpAnyX_one (i := 12) (o := bdo1x12) (by kernel_rfl) rfl (fun K hK => ?_)
              dsimp only [bdo1x12]
              have cN40 := PN4.out.c0
              have cN41 := PN4.out.c1
              have fN40 := PN4.out.fz 0
              have fN41 := PN4.out.fz 1
              go_simp
              clear cN40 cN41 fN40 fN41
              obtain ⟨V60, hW⟩ : ∃ V60, (V59.setCell ⟨w55.heap.size, 0, none⟩ (.bool ng)).setCell ⟨w55.heap.size, 1, none⟩ (.slice adg xg.length qg) = V60 := ⟨_, rfl⟩
              replace Zh := hid ((Zh.out).box (PN4.out) (.bool ng) (.slice adg xg.length qg))
              replace Po := hid ((Po.out).box (b' := w55.heap.size) (by omega) (.bool ng) (.slice adg xg.length qg))
              replace PN3 := hid ((PN3.out).box (b' := w55.heap.size) (by omega) (.bool ng) (.slice adg xg.length qg))
              replace PN4 := hid ((PN4.out).set (.bool ng) (.slice adg xg.length qg))
              replace G : Hid (Below w.heap.size w (((V59.setCell ⟨w55.heap.size, 0, none⟩ (.bool ng)).setCell ⟨w55.heap.size, 1, none⟩ (.slice adg xg.length qg)))) := bset (bset (G.out) (by omega)) (by omega)
              replace GR : Hid (Below W0.heap.size W0 (((V59.setCell ⟨w55.heap.size, 0, none⟩ (.bool ng)).setCell ⟨w55.heap.size, 1, none⟩ (.slice adg xg.length qg)))) := bset (bset (GR.out) (by omega)) (by omega)
              have sz60 : V60.heap.size = V59.heap.size := by rw [← hW]; simp
              rw [hW] at Zh Po PN3 PN4 G GR
              rw [hW]
              clear hW
              refine hK.out _ _ (fun _ _ => ⟨Po.out.c0, Po.out.c1⟩) ?_
              clear hK
              try simp only [Act.put]
              refine wpAnyX_pure (i := 13) (oi := bdo1x13) (v := (.int .i64 0)) rfl (by kernel_rfl) (fun _ _ _ h => h) (Or.inl ⟨by rfl, ?_⟩)  ?_
              · intro w hSw
                (try dsimp only at hSw)
                dsimp only [bdo1x13]
                go_simp
              simp only [Act.put, List.setIfInBounds_toArray, List.set_cons_zero, List.set_cons_succ]
              refine wpAnyX_done (by kernel_rfl) ?_ _
              go_wp2_with fail
              go_meet
              exact ⟨⟨_, _, _, _, _, rfl, GR.out, by omega, PN3.out.blk, PN3.out, Zh.out.mono (by omega)⟩, rfl⟩
            · skip
              dsimp only [bdo1x10]
              go_simp
              obtain ⟨V61, hW⟩ : ∃ V61, w53.alloc zbox = V61 := ⟨_, rfl⟩
              obtain ⟨kW, sz61⟩ := alloc1 w53 zbox
              rw [hW] at kW sz61
              replace sz61 : w53.heap.size < V61.heap.size := by omega
              replace Zd := hid (Zd.out.now kW)
              replace Zt := hid (Zt.out.now kW)
              replace Po := hid (Po.out.step kW)
              replace PN3 := hid (PN3.out.step kW)
              replace G := hid (below_step G.out kW)
              replace GR := hid (below_step GR.out kW)
              have lz62 := (show Below _ _ _ from kW).size
              have PN4 : Hid (Duo V61 (w53.heap.size) (.bool false) (.slice none 0 0)) := by unfold Hid; rw [← hW]; exact duo_at rfl
              rw [hW]
              clear hW kW
              refine hK.out _ _ (fun _ _ => ⟨Po.out.c0, Po.out.c1⟩) ?_
              clear hK
              try simp only [Act.put]
              refine wpAnyX_one (i := 4) (o := bdo1x4) (by kernel_rfl) rfl (fun K hK => ?_)
              dsimp only [bdo1x4]
              go_simp
              go_at_call 46
              refine (floor_z Zd.out.zi Zt.out.zi (by decide) (by omega) (by omega)).mono ?_
              rintro e w63 ⟨r0, r1, rfl, m0, m1, b⟩
              obtain ⟨nh, xh, adh, qh, rfl, -, -, -, -, -⟩ := id m0
              obtain ⟨ng, xg, adg, qg, rfl, -, -, -, -, -⟩ := id m1
              replace Zd := hid (Zd.out.now b)
              replace Zt := hid (Zt.out.now b)
              replace Po := hid (Po.out.step b)
              replace PN3 := hid (PN3.out.step b)
              replace PN4 := hid (PN4.out.step b)
              replace G := hid (below_step G.out b)
              replace GR := hid (below_step GR.out b)
              have lz64 := (show Below _ _ _ from b).size
              have Zh := hid m0
              have Zg := hid m1
              clear b m0 m1
              clear Zd
              clear Zt
              clear Zg
              refine hK.out _ _ (fun _ _ => ⟨Po.out.c0, Po.out.c1⟩) ?_
              clear hK
              refine wpAnyX_pure (i := 5) (oi := bdo1x5) (v := (.tuple #[(.agg #[.bool nh, .slice adh xh.length qh]), (.agg #[.bool ng, .slice adg xg.length qg]), (.int .i64 0)])) rfl (by kernel_rfl) (fun _ _ _ h => h) (Or.inl ⟨by rfl, ?_⟩)  ?_
              · intro w hSw
                (try dsimp only at hSw)
                dsimp only [bdo1x5]
                go_simp
              simp only [Act.put, List.setIfInBounds_toArray, List.set_cons_zero, List.set_cons_succ]
              refine wpAnyX_pure (i := 6) (oi := bdo1x6) (v := (.agg #[.bool nh, .slice adh xh.length qh])) rfl (by kernel_rfl) (fun _ _ _ h => h) (Or.inl ⟨by rfl, ?_⟩)  ?_
              · intro w hSw
                (try dsimp only at hSw)
                dsimp only [bdo1x6]
                go_simp
              simp only [Act.put, List.setIfInBounds_toArray, List.set_cons_zero, List.set_cons_succ]
              refine wpAnyX_pure (i := 7) (oi := bdo1x7) (v := (.agg #[.bool ng, .slice adg xg.length qg])) rfl (by kernel_rfl) (fun _ _ _ h => h) (Or.inl ⟨by rfl, ?_⟩)  ?_
              · intro w hSw
                (try dsimp only at hSw)
                dsimp only [bdo1x7]
                go_simp
              simp only [Act.put, List.setIfInBounds_toArray, List.set_cons_zero, List.set_cons_succ]
              refine wpAnyX_pure (i := 8) (oi := bdo1x8) (v := (.int .i64 0)) rfl (by kernel_rfl) (fun _ _ _ h => h) (Or.inl ⟨by rfl, ?_⟩)  ?_
              · intro w hSw
                (try dsimp only at hSw)
                dsimp only [bdo1x8]
                go_simp
              simp only [Act.put, List.setIfInBounds_toArray, List.set_cons_zero, List.set_cons_succ]
              refine wpAnyX_one (i := 11) (o := bdo1x11) (by kernel_rfl) rfl (fun K hK => ?_)
              dsimp only [bdo1x11]
              have cN30 := PN3.out.c0
              have cN31 := PN3.out.c1
              have fN30 := PN3.out.fz 0
              have fN31 := PN3.out.fz 1
              go_simp
              clear cN30 cN31 fN30 fN31
              obtain ⟨V65, hW⟩ : ∃ V65, (w63.setCell ⟨w5.heap.size, 0, none⟩ (.bool nh)).setCell ⟨w5.heap.size, 1, none⟩ (.slice adh xh.length qh) = V65 := ⟨_, rfl⟩
              replace Zh := hid ((Zh.out).box (PN3.out) (.bool nh) (.slice adh xh.length qh))
              replace Po := hid ((Po.out).box (b' := w5.heap.size) (by omega) (.bool nh) (.slice adh xh.length qh))
              replace PN3 := hid ((PN3.out).set (.bool nh) (.slice adh xh.length qh))
              replace PN4 := hid ((PN4.out).box (b' := w5.heap.size) (by omega) (.bool nh) (.slice adh xh.length qh))
              replace G : Hid (Below w.heap.size w (((w63.setCell ⟨w5.heap.size, 0, none⟩ (.bool nh)).setCell ⟨w5.heap.size, 1, none⟩ (.slice adh xh.length qh)))) := bset (bset (G.out) (by omega)) (by omega)
              replace GR : Hid (Below W0.heap.size W0 (((w63.setCell ⟨w5.heap.size, 0, none⟩ (.bool nh)).setCell ⟨w5.heap.size, 1, none⟩ (.slice adh xh.length qh)))) := bset (bset (GR.out) (by omega)) (by omega)
              have sz65 : V65.heap.size = w63.heap.size := by rw [← hW]; simp
              rw [hW] at Zh Po PN3 PN4 G GR
              rw [hW]
              clear hW
              refine hK.out _ _ (fun _ _ => ⟨Po.out.c0, Po.out.c1⟩) ?_
              clear hK
              try simp only [Act.put]
              refine wpAnyX_one (i := 12) (o := bdo1x12) (by kernel_rfl) rfl (fun K hK => ?_)
              dsimp only [bdo1x12]
              have cN40 := PN4.out.c0
              have cN41 := PN4.out.c1
              have fN40 := PN4.out.fz 0
              have fN41 := PN4.out.fz 1
              go_simp
              clear cN40 cN41 fN40 fN41
              obtain ⟨V66, hW⟩ : ∃ V66, (V65.setCell ⟨w53.heap.size, 0, none⟩ (.bool ng)).setCell ⟨w53.heap.size, 1, none⟩ (.slice adg xg.length qg) = V66 := ⟨_, rfl⟩
              replace Zh := hid ((Zh.out).box (PN4.out) (.bool ng) (.slice adg xg.length qg))
              replace Po := hid ((Po.out).box (b' := w53.heap.size) (by omega) (.bool ng) (.slice adg xg.length qg))
              replace PN3 := hid ((PN3.out).box (b' := w53.heap.size) (by omega) (.bool ng) (.slice adg xg.length qg))
              replace PN4 := hid ((PN4.out).set (.bool ng) (.slice adg xg.length qg))
              replace G : Hid (Below w.heap.size w (((V65.setCell ⟨w53.heap.size, 0, none⟩ (.bool ng)).setCell ⟨w53.heap.size, 1, none⟩ (.slice adg xg.length qg)))) := bset (bset (G.out) (by omega)) (by omega)
              replace GR : Hid (Below W0.heap.size W0 (((V65.setCell ⟨w53.heap.size, 0, none⟩ (.bool ng)).setCell ⟨w53.heap.size, 1, none⟩ (.slice adg xg.length qg)))) := bset (bset (GR.out) (by omega)) (by omega)
              have sz66 : V66.heap.size = V65.heap.size := by rw [← hW]; simp
              rw [hW] at Zh Po PN3 PN4 G GR
              rw [hW]
              clear hW
              refine hK.out _ _ (fun _ _ => ⟨Po.out.c0, Po.out.c1⟩) ?_
              clear hK
              try simp only [Act.put]
              refine wpAnyX_pure (i := 13) (oi := bdo1x13) (v := (.int .i64 0)) rfl (by kernel_rfl) (fun _ _ _ h => h) (Or.inl ⟨by rfl, ?_⟩)  ?_
              · intro w hSw
                (try dsimp only at hSw)
                dsimp only [bdo1x13]
                go_simp
              simp only [Act.put, List.setIfInBounds_toArray, List.set_cons_zero, List.set_cons_succ]
              refine wpAnyX_done (by kernel_rfl) ?_ _
              go_wp2_with fail
              go_meet
              exact ⟨⟨_, _, _, _, _, rfl, GR.out, by omega, PN3.out.blk, PN3.out, Zh.out.mono (by omega)⟩, rfl⟩
          · skip
            dsimp only [bdo1x10]
            go_simp
            obtain ⟨V67, hW⟩ : ∃ V67, V51.alloc zbox = V67 := ⟨_, rfl⟩
            obtain ⟨kW, sz67⟩ := alloc1 V51 zbox
            rw [hW] at kW sz67
            replace sz67 : V51.heap.size < V67.heap.size := by omega
            replace Zd := hid (Zd.out.now kW)
            replace Po := hid (Po.out.step kW)
            replace PN3 := hid (PN3.out.step kW)
            replace G := hid (below_step G.out kW)
            replace GR := hid (below_step GR.out kW)
            have lz68 := (show Below _ _ _ from kW).size
            have PN4 : Hid (Duo V67 (V51.heap.size) (.bool false) (.slice none 0 0)) := by unfold Hid; rw [← hW]; exact duo_at rfl
            rw [hW]
            clear hW kW
            refine hK.out _ _ (fun _ _ => ⟨Po.out.c0, Po.out.c1⟩) ?_
            clear hK
            try simp only [Act.put]
            refine wpAnyX_one (i := 3) (o := bdo1x3) (by kernel_rfl) rfl (fun K hK => ?_)
            dsimp only [bdo1x3]
            go_simp
            go_at_call 20
            refine (of_z (n := 2) (by decide) (by decide) _).mono ?_
            rintro e w69 ⟨r0, rfl, m0, b⟩
            obtain ⟨nt, xt, adt, qt, rfl, -, -, -, -, -⟩ := id m0
            replace Zd := hid (Zd.out.now b)
            replace Po := hid (Po.out.step b)
            replace PN3 := hid (PN3.out.step b)
            replace PN4 := hid (PN4.out.step b)
            replace G := hid (below_step G.out b)
            replace GR := hid (below_step GR.out b)
            have lz70 := (show Below _ _ _ from b).size
            have Zt := hid m0
            clear b m0
            refine hK.out _ _ (fun _ _ => ⟨Po.out.c0, Po.out.c1⟩) ?_
            clear hK
            refine wpAnyX_one (i := 4) (o := bdo1x4) (by kernel_rfl) rfl (fun K hK => ?_)
            dsimp only [bdo1x4]
            go_simp
            go_at_call 46
            refine (floor_z Zd.out.zi Zt.out.zi (by decide) (by omega) (by omega)).mono ?_
            rintro e w71 ⟨r0, r1, rfl, m0, m1, b⟩
            obtain ⟨nh, xh, adh, qh, rfl, -, -, -, -, -⟩ := id m0
            obtain ⟨ng, xg, adg, qg, rfl, -, -, -, -, -⟩ := id m1
            replace Zd := hid (Zd.out.now b)
            replace Zt := hid (Zt.out.now b)
            replace Po := hid (Po.out.step b)
            replace PN3 := hid (PN3.out.step b)
            replace PN4 := hid (PN4.out.step b)
            replace G := hid (below_step G.out b)
            replace GR := hid (below_step GR.out b)
            have lz72 := (show Below _ _ _ from b).size
            have Zh := hid m0
            have Zg := hid m1
            clear b m0 m1
            clear Zd
            clear Zt
            clear Zg
            refine hK.out _ _ (fun _ _ => ⟨Po.out.c0, Po.out.c1⟩) ?_
            clear hK
            refine wpAnyX_pure (i := 5) (oi := bdo1x5) (v := (.tuple #[(.agg #[.bool nh, .slice adh xh.length qh]), (.agg #[.bool ng, .slice adg xg.length qg]), (.int .i64 0)])) rfl (by kernel_rfl) (fun _ _ _ h => h) (Or.inl ⟨by rfl, ?_⟩)  ?_
            · intro w hSw
              (try dsimp only at hSw)
              dsimp only [bdo1x5]
              go_simp
            simp only [Act.put, List.setIfInBounds_toArray, List.set_cons_zero, List.set_cons_succ]
            refine wpAnyX_pure (i := 6) (oi := bdo1x6) (v := (.agg #[.bool nh, .slice adh xh.length qh])) rfl (by kernel_rfl) (fun _ _ _ h => h) (Or.inl ⟨by rfl, ?_⟩)  ?_
            · intro w hSw
              (try dsimp only at hSw)
              dsimp only [bdo1x6]
              go_simp
            simp only [Act.put, List.setIfInBounds_toArray, List.set_cons_zero, List.set_cons_succ]
            refine wpAnyX_pure (i := 7) (oi := bdo1x7) (v := (.agg #[.bool ng, .slice adg xg.length qg])) rfl (by kernel_rfl) (fun _ _ _ h => h) (Or.inl ⟨by rfl, ?_⟩)  ?_
            · intro w hSw
              (try dsimp only at hSw)
              dsimp only [bdo1x7]
              go_simp
            simp only [Act.put, List.setIfInBounds_toArray, List.set_cons_zero, List.set_cons_succ]
            refine wpAnyX_pure (i := 8) (oi := bdo1x8) (v := (.int .i64 0)) rfl (by kernel_rfl) (fun _ _ _ h => h) (Or.inl ⟨by rfl, ?_⟩)  ?_
            · intro w hSw
              (try dsimp only at hSw)
              dsimp only [bdo1x8]
              go_simp
            simp only [Act.put, List.setIfInBounds_toArray, List.set_cons_zero, List.set_cons_succ]
            refine wpAnyX_one (i := 11) (o := bdo1x11) (by kernel_rfl) rfl (fun K hK => ?_)
            dsimp only [bdo1x11]
            have cN30 := PN3.out.c0
            have cN31 := PN3.out.c1
            have fN30 := PN3.out.fz 0
            have fN31 := PN3.out.fz 1
            go_simp
            clear cN30 cN31 fN30 fN31
            obtain ⟨V73, hW⟩ : ∃ V73, (w71.setCell ⟨w5.heap.size, 0, none⟩ (.bool nh)).setCell ⟨w5.heap.size, 1, none⟩ (.slice adh xh.length qh) = V73 := ⟨_, rfl⟩
            replace Zh := hid ((Zh.out).box (PN3.out) (.bool nh) (.slice adh xh.length qh))
            replace Po := hid ((Po.out).box (b' := w5.heap.size) (by omega) (.bool nh) (.slice adh xh.length qh))
            replace PN3 := hid ((PN3.out).set (.bool nh) (.slice adh xh.length qh))
            replace PN4 := hid ((PN4.out).box (b' := w5.heap.size) (by omega) (.bool nh) (.slice adh xh.length qh))
            replace G : Hid (Below w.heap.size w (((w71.setCell ⟨w5.heap.size, 0, none⟩ (.bool nh)).setCell ⟨w5.heap.size, 1, none⟩ (.slice adh xh.length qh)))) := bset (bset (G.out) (by omega)) (by omega)
            replace GR : Hid (Below W0.heap.size W0 (((w71.setCell ⟨w5.heap.size, 0, none⟩ (.bool nh)).setCell ⟨w5.heap.size, 1, none⟩ (.slice adh xh.length qh)))) := bset (bset (GR.out) (by omega)) (by omega)
            have sz73 : V73.heap.size = w71.heap.size := by rw [← hW]; simp
            rw [hW] at Zh Po PN3 PN4 G GR
            rw [hW]
            clear hW
            refine hK.out _ _ (fun _ _ => ⟨Po.out.c0, Po.out.c1⟩) ?_
            clear hK
            try simp only [Act.put]
            refine wpAnyX_one (i := 12) (o := bdo1x12) (by kernel_rfl) rfl (fun K hK => ?_)
            dsimp only [bdo1x12]
            have cN40 := PN4.out.c0
            have cN41 := PN4.out.c1
            have fN40 := PN4.out.fz 0
            have fN41 := PN4.out.fz 1
            go_simp
            clear cN40 cN41 fN40 fN41
            obtain ⟨V74, hW⟩ : ∃ V74, (V73.setCell ⟨V51.heap.size, 0, none⟩ (.bool ng)).setCell ⟨V51.heap.size, 1, none⟩ (.slice adg xg.length qg) = V74 := ⟨_, rfl⟩
            replace Zh := hid ((Zh.out).box (PN4.out) (.bool ng) (.slice adg xg.length qg))
            replace Po := hid ((Po.out).box (b' := V51.heap.size) (by omega) (.bool ng) (.slice adg xg.length qg))
            replace PN3 := hid ((PN3.out).box (b' := V51.heap.size) (by omega) (.bool ng) (.slice adg xg.length qg))
            replace PN4 := hid ((PN4.out).set (.bool ng) (.slice adg xg.length qg))
            replace G : Hid (Below w.heap.size w (((V73.setCell ⟨V51.heap.size, 0, none⟩ (.bool ng)).setCell ⟨V51.heap.size, 1, none⟩ (.slice adg xg.length qg)))) := bset (bset (G.out) (by omega)) (by omega)
            replace GR : Hid (Below W0.heap.size W0 (((V73.setCell ⟨V51.heap.size, 0, none⟩ (.bool ng)).setCell ⟨V51.heap.size, 1, none⟩ (.slice adg xg.length qg)))) := bset (bset (GR.out) (by omega)) (by omega)
            have sz74 : V74.heap.size = V73.heap.size := by rw [← hW]; simp
            rw [hW] at Zh Po PN3 PN4 G GR
            rw [hW]
            clear hW
            refine hK.out _ _ (fun _ _ => ⟨Po.out.c0, Po.out.c1⟩) ?_
            clear hK
            try simp only [Act.put]
            refine wpAnyX_pure (i := 13) (oi := bdo1x13) (v := (.int .i64 0)) rfl (by kernel_rfl) (fun _ _ _ h => h) (Or.inl ⟨by rfl, ?_⟩)  ?_
            · intro w hSw
              (try dsimp only at hSw)
              dsimp only [bdo1x13]
              go_simp
            simp only [Act.put, List.setIfInBounds_toArray, List.set_cons_zero, List.set_cons_succ]
            refine wpAnyX_done (by kernel_rfl) ?_ _
            go_wp2_with fail
            go_meet
            exact ⟨⟨_, _, _, _, _, rfl, GR.out, by omega, PN3.out.blk, PN3.out, Zh.out.mono (by omega)⟩, rfl⟩
        · skip
          dsimp only [bdo1x10]
          go_simp
          obtain ⟨V75, hW⟩ : ∃ V75, w5.alloc zbox = V75 := ⟨_, rfl⟩
          obtain ⟨kW, sz75⟩ := alloc1 w5 zbox
          rw [hW] at kW sz75
          replace sz75 : w5.heap.size < V75.heap.size := by omega
          replace Zd := hid (Zd.out.now kW)
          replace Po := hid (Po.out.step kW)
          replace G := hid (below_step G.out kW)
          replace GR := hid (below_step GR.out kW)
          have lz76 := (show Below _ _ _ from kW).size
          have PN4 : Hid (Duo V75 (w5.heap.size) (.bool false) (.slice none 0 0)) := by unfold Hid; rw [← hW]; exact duo_at rfl
          rw [hW]
          clear hW kW
          refine hK.out _ _ (fun _ _ => ⟨Po.out.c0, Po.out.c1⟩) ?_
          clear hK
          try simp only [Act.put]
          refine wpAnyX_two (i := 3) (j := 9) (oi := bdo1x3) (oj := bdo1x9) (by kernel_rfl) rfl rfl (fun K hK => ?_) (fun K hK => ?_)
          · skip
            dsimp only [bdo1x3]
            go_simp
            go_at_call 20
            refine (of_z (n := 2) (by decide) (by decide) _).mono ?_
            rintro e w77 ⟨r0, rfl, m0, b⟩
            obtain ⟨nt, xt, adt, qt, rfl, -, -, -, -, -⟩ := id m0
            replace Zd := hid (Zd.out.now b)
            replace Po := hid (Po.out.step b)
            replace PN4 := hid (PN4.out.step b)
            replace G := hid (below_step G.out b)
            replace GR := hid (below_step GR.out b)
            have lz78 := (show Below _ _ _ from b).size
            have Zt := hid m0
            clear b m0
            refine hK.out _ _ (fun _ _ => ⟨Po.out.c0, Po.out.c1⟩) ?_
            clear hK
            refine wpAnyX_two (i := 4) (j := 9) (oi := bdo1x4) (oj := bdo1x9) (by kernel_rfl) rfl rfl (fun K hK => ?_) (fun K hK => ?_)
            · skip
              dsimp only [bdo1x4]
              go_simp
              go_at_call 46
              refine (floor_z Zd.out.zi Zt.out.zi (by decide) (by omega) (by omega)).mono ?_
              rintro e w79 ⟨r0, r1, rfl, m0, m1, b⟩
              obtain ⟨nh, xh, adh, qh, rfl, -, -, -, -, -⟩ := id m0
              obtain ⟨ng, xg, adg, qg, rfl, -, -, -, -, -⟩ := id m1
              replace Zd := hid (Zd.out.now b)
              replace Zt := hid (Zt.out.now b)
              replace Po := hid (Po.out.step b)
              replace PN4 := hid (PN4.out.step b)
              replace G := hid (below_step G.out b)
              replace GR := hid (below_step GR.out b)
              have lz80 := (show Below _ _ _ from b).size
              have Zh := hid m0
              have Zg := hid m1
              clear b m0 m1
              clear Zd
              clear Zt
              clear Zg
              refine hK.out _ _ (fun _ _ => ⟨Po.out.c0, Po.out.c1⟩) ?_
              clear hK
              refine wpAnyX_pure (i := 5) (oi := bdo1x5) (v := (.tuple #[(.agg #[.bool nh, .slice adh xh.length qh]), (.agg #[.bool ng, .slice adg xg.length qg]), (.int .i64 0)])) rfl (by kernel_rfl) (fun _ _ _ h => h) (Or.inl ⟨by rfl, ?_⟩)  ?_
              · intro w hSw
                (try dsimp only at hSw)
                dsimp only [bdo1x5]
                go_simp
              simp only [Act.put, List.setIfInBounds_toArray, List.set_cons_zero, List.set_cons_succ]
              refine wpAnyX_pure (i := 6) (oi := bdo1x6) (v := (.agg #[.bool nh, .slice adh xh.length qh])) rfl (by kernel_rfl) (fun _ _ _ h => h) (Or.inl ⟨by rfl, ?_⟩)  ?_
              · intro w hSw
                (try dsimp only at hSw)
                dsimp only [bdo1x6]
                go_simp
              simp only [Act.put, List.setIfInBounds_toArray, List.set_cons_zero, List.set_cons_succ]
              refine wpAnyX_pure (i := 7) (oi := bdo1x7) (v := (.agg #[.bool ng, .slice adg xg.length qg])) rfl (by kernel_rfl) (fun _ _ _ h => h) (Or.inl ⟨by rfl, ?_⟩)  ?_
              · intro w hSw
                (try dsimp only at hSw)
                dsimp only [bdo1x7]
                go_simp
              simp only [Act.put, List.setIfInBounds_toArray, List.set_cons_zero, List.set_cons_succ]
              refine wpAnyX_pure (i := 8) (oi := bdo1x8) (v := (.int .i64 0)) rfl (by kernel_rfl) (fun _ _ _ h => h) (Or.inl ⟨by rfl, ?_⟩)  ?_
              · intro w hSw
                (try dsimp only at hSw)
                dsimp only [bdo1x8]
                go_simp
              simp only [Act.put, List.setIfInBounds_toArray, List.set_cons_zero, List.set_cons_succ]
              refine wpAnyX_one (i := 9) (o := bdo1x9) (by kernel_rfl) rfl (fun K hK => ?_)
              dsimp only [bdo1x9]
              go_simp
              obtain ⟨V81, hW⟩ : ∃ V81, w79.alloc zbox = V81 := ⟨_, rfl⟩
              obtain ⟨kW, sz81⟩ := alloc1 w79 zbox
              rw [hW] at kW sz81
              replace sz81 : w79.heap.size < V81.heap.size := by omega
              replace Zh := hid (Zh.out.now kW)
              replace Po := hid (Po.out.step kW)
              replace PN4 := hid (PN4.out.step kW)
              replace G := hid (below_step G.out kW)
              replace GR := hid (below_step GR.out kW)
              have lz82 := (show Below _ _ _ from kW).size
              have PN3 : Hid (Duo V81 (w79.heap.size) (.bool false) (.slice none 0 0)) := by unfold Hid; rw [← hW]; exact duo_at rfl
              rw [hW]
              clear hW kW
              refine hK.out _ _ (fun _ _ => ⟨Po.out.c0, Po.out.c1⟩) ?_
              clear hK
              try simp only [Act.put]
              refine wpAnyX_one (i := 11) (o := bdo1x11) (by kernel_rfl) rfl (fun K hK => ?_)
              dsimp only [bdo1x11]
              have cN30 := PN3.out.c0
              have cN31 := PN3.out.c1
              have fN30 := PN3.out.fz 0
              have fN31 := PN3.out.fz 1
              go_simp
              clear cN30 cN31 fN30 fN31
              obtain ⟨V83, hW⟩ : ∃ V83, (V81.setCell ⟨w79.heap.size, 0, none⟩ (.bool nh)).setCell ⟨w79.heap.size, 1, none⟩ (.slice adh xh.length qh) = V83 := ⟨_, rfl⟩
              replace Zh := hid ((Zh.out).box (PN3.out) (.bool nh) (.slice adh xh.length qh))
              replace Po := hid ((Po.out).box (b' := w79.heap.size) (by omega) (.bool nh) (.slice adh xh.length qh))
              replace PN4 := hid ((PN4.out).box (b' := w79.heap.size) (by omega) (.bool nh) (.slice adh xh.length qh))
              replace PN3 := hid ((PN3.out).set (.bool nh) (.slice adh xh.length qh))
              replace G : Hid (Below w.heap.size w (((V81.setCell ⟨w79.heap.size, 0, none⟩ (.bool nh)).setCell ⟨w79.heap.size, 1, none⟩ (.slice adh xh.length qh)))) := bset (bset (G.out) (by omega)) (by omega)
              replace GR : Hid (Below W0.heap.size W0 (((V81.setCell ⟨w79.heap.size, 0, none⟩ (.bool nh)).setCell ⟨w79.heap.size, 1, none⟩ (.slice adh xh.length qh)))) := bset (bset (GR.out) (by omega)) (by omega)
              have sz83 : V83.heap.size = V81.heap.size := by rw [← hW]; simp
              rw [hW] at Zh Po PN4 PN3 G GR
              rw [hW]
              clear hW
              refine hK.out _ _ (fun _ _ => ⟨Po.out.c0, Po.out.c1⟩) ?_
              clear hK
              try simp only [Act.put]
              refine wpAnyX_one (i := 12) (o := bdo1x12) (by kernel_rfl) rfl (fun K hK => ?_)
              dsimp only [bdo1x12]
              have cN40 := PN4.out.c0
              have cN41 := PN4.out.c1
              have fN40 := PN4.out.fz 0
              have fN41 := PN4.out.fz 1
              go_simp
              clear cN40 cN41 fN40 fN41
              obtain ⟨V84, hW⟩ : ∃ V84, (V83.setCell ⟨w5.heap.size, 0, none⟩ (.bool ng)).setCell ⟨w5.heap.size, 1, none⟩ (.slice adg xg.length qg) = V84 := ⟨_, rfl⟩
              replace Zh := hid ((Zh.out).box (PN4.out) (.bool ng) (.slice adg xg.length qg))
              replace Po := hid ((Po.out).box (b' := w5.heap.size) (by omega) (.bool ng) (.slice adg xg.length qg))
              replace PN4 := hid ((PN4.out).set (.bool ng) (.slice adg xg.length qg))
              replace PN3 := hid ((PN3.out).box (b' := w5.heap.size) (by omega) (.bool ng) (.slice adg xg.length qg))
              replace G : Hid (Below w.heap.size w (((V83.setCell ⟨w5.heap.size, 0, none⟩ (.bool ng)).setCell ⟨w5.heap.size, 1, none⟩ (.slice adg xg.length qg)))) := bset (bset (G.out) (by omega)) (by omega)
              replace GR : Hid (Below W0.heap.size W0 (((V83.setCell ⟨w5.heap.size, 0, none⟩ (.bool ng)).setCell ⟨w5.heap.size, 1, none⟩ (.slice adg xg.length qg)))) := bset (bset (GR.out) (by omega)) (by omega)
              have sz84 : V84.heap.size = V83.heap.size := by rw [← hW]; simp
              rw [hW] at Zh Po PN4 PN3 G GR
              rw [hW]
              clear hW
              refine hK.out _ _ (fun _ _ => ⟨Po.out.c0, Po.out.c1⟩) ?_
              clear hK
              try simp only [Act.put]
              refine wpAnyX_pure (i := 13) (oi := bdo1x13) (v := (.int .i64 0)) rfl (by kernel_rfl) (fun _ _ _ h => h) (Or.inl ⟨by rfl, ?_⟩)  ?_
              · intro w hSw
                (try dsimp only at hSw)
                dsimp only [bdo1x13]
                go_simp
              simp only [Act.put, List.setIfInBounds_toArray, List.set_cons_zero, List.set_cons_succ]
              refine wpAnyX_done (by kernel_rfl) ?_ _
              go_wp2_with fail
              go_meet
              exact ⟨⟨_, _, _, _, _, rfl, GR.out, by omega, PN3.out.blk, PN3.out, Zh.out.mono (by omega)⟩, rfl⟩
            · skip
              dsimp only [bdo1x9]
              go_simp
              obtain ⟨V85, hW⟩ : ∃ V85, w77.alloc zbox = V85 := ⟨_, rfl⟩
              obtain ⟨kW, sz85⟩ := alloc1 w77 zbox
              rw [hW] at kW sz85
              replace sz85 : w77.heap.size < V85.heap.size := by omega
              replace Zd := hid (Zd.out.now kW)
              replace Zt := hid (Zt.out.now kW)
              replace Po := hid (Po.out.step kW)
              replace PN4 := hid (PN4.out.step kW)
              replace G := hid (below_step G.out kW)
              replace GR := hid (below_step GR.out kW)
              have lz86 := (show Below _ _ _ from kW).size
              have PN3 : Hid (Duo V85 (w77.heap.size) (.bool false) (.slice none 0 0)) := by unfold Hid; rw [← hW]; exact duo_at rfl
              rw [hW]
              clear hW kW
              refine hK.out _ _ (fun _ _ => ⟨Po.out.c0, Po.out.c1⟩) ?_
              clear hK
              try simp only [Act.put]
              refine wpAnyX_one (i := 4) (o := bdo1x4) (by kernel_rfl) rfl (fun K hK => ?_)
              dsimp only [bdo1x4]
              go_simp
              go_at_call 46
              refine (floor_z Zd.out.zi Zt.out.zi (by decide) (by omega) (by omega)).mono ?_
              rintro e w87 ⟨r0, r1, rfl, m0, m1, b⟩
              obtain ⟨nh, xh, adh, qh, rfl, -, -, -, -, -⟩ := id m0
              obtain ⟨ng, xg, adg, qg, rfl, -, -, -, -, -⟩ := id m1
              replace Zd := hid (Zd.out.now b)
              replace Zt := hid (Zt.out.now b)
              replace Po := hid (Po.out.step b)
              replace PN4 := hid (PN4.out.step b)
              replace PN3 := hid (PN3.out.step b)
              replace G := hid (below_step G.out b)
              replace GR := hid (below_step GR.out b)
              have lz88 := (show Below _ _ _ from b).size
              have Zh := hid m0
              have Zg := hid m1
              clear b m0 m1
              clear Zd
              clear Zt
              clear Zg
              refine hK.out _ _ (fun _ _ => ⟨Po.out.c0, Po.out.c1⟩) ?_
              clear hK
              refine wpAnyX_pure (i := 5) (oi := bdo1x5) (v := (.tuple #[(.agg #[.bool nh, .slice adh xh.length qh]), (.agg #[.bool ng, .slice adg xg.length qg]), (.int .i64 0)])) rfl (by kernel_rfl) (fun _ _ _ h => h) (Or.inl ⟨by rfl, ?_⟩)  ?_
              · intro w hSw
                (try dsimp only at hSw)
                dsimp only [bdo1x5]
                go_simp
              simp only [Act.put, List.setIfInBounds_toArray, List.set_cons_zero, List.set_cons_succ]
              refine wpAnyX_pure (i := 6) (oi := bdo1x6) (v := (.agg #[.bool nh, .slice adh xh.length qh])) rfl (by kernel_rfl) (fun _ _ _ h => h) (Or.inl ⟨by rfl, ?_⟩)  ?_
              · intro w hSw
                (try dsimp only at hSw)
                dsimp only [bdo1x6]
                go_simp
              simp only [Act.put, List.setIfInBounds_toArray, List.set_cons_zero, List.set_cons_succ]
              refine wpAnyX_pure (i := 7) (oi := bdo1x7) (v := (.agg #[.bool ng, .slice adg xg.length qg])) rfl (by kernel_rfl) (fun _ _ _ h => h) (Or.inl ⟨by rfl, ?_⟩)  ?_
              · intro w hSw
                (try dsimp only at hSw)
                dsimp only [bdo1x7]
                go_simp
              simp only [Act.put, List.setIfInBounds_toArray, List.set_cons_zero, List.set_cons_succ]
              refine wpAnyX_pure (i := 8) (oi := bdo1x8) (v := (.int .i64 0)) rfl (by kernel_rfl) (fun _ _ _ h => h) (Or.inl ⟨by rfl, ?_⟩)  ?_
              · intro w hSw
                (try dsimp only at hSw)
                dsimp only [bdo1x8]
                go_simp
              simp only [Act.put, List.setIfInBounds_toArray, List.set_cons_zero, List.set_cons_succ]
              refine wpAnyX_one (i := 11) (o := bdo1x11) (by kernel_rfl) rfl (fun K hK => ?_)
              dsimp only [bdo1x11]
              have cN30 := PN3.out.c0
              have cN31 := PN3.out.c1
              have fN30 := PN3.out.fz 0
              have fN31 := PN3.out.fz 1
              go_simp
              clear cN30 cN31 fN30 fN31
              obtain ⟨V89, hW⟩ : ∃ V89, (w87.setCell ⟨w77.heap.size, 0, none⟩ (.bool nh)).setCell ⟨w77.heap.size, 1, none⟩ (.slice adh xh.length qh) = V89 := ⟨_, rfl⟩
              replace Zh := hid ((Zh.out).box (PN3.out) (.bool nh) (.slice adh xh.length qh))
              replace Po := hid ((Po.out).box (b' := w77.heap.size) (by omega) (.bool nh) (.slice adh xh.length qh))
              replace PN4 := hid ((PN4.out).box (b' := w77.heap.size) (by omega) (.bool nh) (.slice adh xh.length qh))
              replace PN3 := hid ((PN3.out).set (.bool nh) (.slice adh xh.length qh))
              replace G : Hid (Below w.heap.size w (((w87.setCell ⟨w77.heap.size, 0, none⟩ (.bool nh)).setCell ⟨w77.heap.size, 1, none⟩ (.slice adh xh.length qh)))) := bset (bset (G.out) (by omega)) (by omega)
              replace GR : Hid (Below W0.heap.size W0 (((w87.setCell ⟨w77.heap.size, 0, none⟩ (.bool nh)).setCell ⟨w77.heap.size, 1, none⟩ (.slice adh xh.length qh)))) := bset (bset (GR.out) (by omega)) (by omega)
              have sz89 : V89.heap.size = w87.heap.size := by rw [← hW]; simp
              rw [hW] at Zh Po PN4 PN3 G GR
              rw [hW]
              clear hW
              refine hK.out _ _ (fun _ _ => ⟨Po.out.c0, Po.out.c1⟩) ?_
              clear hK
              try simp only [Act.put]
              refine wpAnyX_one (i := 12) (o := bdo1x12) (by kernel_rfl) rfl (fun K hK => ?_)
              dsimp only [bdo1x12]
              have cN40 := PN4.out.c0
              have cN41 := PN4.out.c1
              have fN40 := PN4.out.fz 0
              have fN41 := PN4.out.fz 1
              go_simp
              clear cN40 cN41 fN40 fN41
              obtain ⟨V90, hW⟩ : ∃ V90, (V89.setCell ⟨w5.heap.size, 0, none⟩ (.bool ng)).setCell ⟨w5.heap.size, 1, none⟩ (.slice adg xg.length qg) = V90 := ⟨_, rfl⟩
              replace Zh := hid ((Zh.out).box (PN4.out) (.bool ng) (.slice adg xg.length qg))
              replace Po := hid ((Po.out).box (b' := w5.heap.size) (by omega) (.bool ng) (.slice adg xg.length qg))
              replace PN4 := hid ((PN4.out).set (.bool ng) (.slice adg xg.length qg))
              replace PN3 := hid ((PN3.out).box (b' := w5.heap.size) (by omega) (.bool ng) (.slice adg xg.length qg))
              replace G : Hid (Below w.heap.size w (((V89.setCell ⟨w5.heap.size, 0, none⟩ (.bool ng)).setCell ⟨w5.heap.size, 1, none⟩ (.slice adg xg.length qg)))) := bset (bset (G.out) (by omega)) (by omega)
              replace GR : Hid (Below W0.heap.size W0 (((V89.setCell ⟨w5.heap.size, 0, none⟩ (.bool ng)).setCell ⟨w5.heap.size, 1, none⟩ (.slice adg xg.length qg)))) := bset (bset (GR.out) (by omega)) (by omega)
              have sz90 : V90.heap.size = V89.heap.size := by rw [← hW]; simp
              rw [hW] at Zh Po PN4 PN3 G GR
              rw [hW]
              clear hW
              refine hK.out _ _ (fun _ _ => ⟨Po.out.c0, Po.out.c1⟩) ?_
              clear hK
              try simp only [Act.put]
              refine wpAnyX_pure (i := 13) (oi := bdo1x13) (v := (.int .i64 0)) rfl (by kernel_rfl) (fun _ _ _ h => h) (Or.inl ⟨by rfl, ?_⟩)  ?_
              · intro w hSw
                (try dsimp only at hSw)
                dsimp only [bdo1x13]
                go_simp
              simp only [Act.put, List.setIfInBounds_toArray, List.set_cons_zero, List.set_cons_succ]
              refine wpAnyX_done (by kernel_rfl) ?_ _
              go_wp2_with fail
              go_meet
              exact ⟨⟨_, _, _, _, _, rfl, GR.out, by omega, PN3.out.blk, PN3.out, Zh.out.mono (by omega)⟩, rfl⟩
          · skip
            dsimp only [bdo1x9]
            go_simp
            obtain ⟨V91, hW⟩ : ∃ V91, V75.alloc zbox = V91 := ⟨_, rfl⟩
            obtain ⟨kW, sz91⟩ := alloc1 V75 zbox
            rw [hW] at kW sz91
            replace sz91 : V75.heap.size < V91.heap.size := by omega
            replace Zd := hid (Zd.out.now kW)
            replace Po := hid (Po.out.step kW)
            replace PN4 := hid (PN4.out.step kW)
            replace G := hid (below_step G.out kW)
            replace GR := hid (below_step GR.out kW)
            have lz92 := (show Below _ _ _ from kW).size
            have PN3 : Hid (Duo V91 (V75.heap.size) (.bool false) (.slice none 0 0)) := by unfold Hid; rw [← hW]; exact duo_at rfl
            rw [hW]
            clear hW kW
            refine hK.out _ _ (fun _ _ => ⟨Po.out.c0, Po.out.c1⟩) ?_
            clear hK
            try simp only [Act.put]
            refine wpAnyX_one (i := 3) (o := bdo1x3) (by kernel_rfl) rfl (fun K hK => ?_)
            dsimp only [bdo1x3]
            go_simp
            go_at_call 20
            refine (of_z (n := 2) (by decide) (by decide) _).mono ?_
            rintro e w93 ⟨r0, rfl, m0, b⟩
            obtain ⟨nt, xt, adt, qt, rfl, -, -, -, -, -⟩ := id m0
            replace Zd := hid (Zd.out.now b)
            replace Po := hid (Po.out.step b)
            replace PN4 := hid (PN4.out.step b)
            replace PN3 := hid (PN3.out.step b)
            replace G := hid (below_step G.out b)
            replace GR := hid (below_step GR.out b)
            have lz94 := (show Below _ _ _ from b).size
            have Zt := hid m0
            clear b m0
            refine hK.out _ _ (fun _ _ => ⟨Po.out.c0, Po.out.c1⟩) ?_
            clear hK
            refine wpAnyX_one (i := 4) (o := bdo1x4) (by kernel_rfl) rfl (fun K hK => ?_)
            dsimp only [bdo1x4]
            go_simp
            go_at_call 46
            refine (floor_z Zd.out.zi Zt.out.zi (by decide) (by omega) (by omega)).mono ?_
            rintro e w95 ⟨r0, r1, rfl, m0, m1, b⟩
            obtain ⟨nh, xh, adh, qh, rfl, -, -, -, -, -⟩ := id m0
            obtain ⟨ng, xg, adg, qg, rfl, -, -, -, -, -⟩ := id m1
            replace Zd := hid (Zd.out.now b)
            replace Zt := hid (Zt.out.now b)
            replace Po := hid (Po.out.step b)
            replace PN4 := hid (PN4.out.step b)
            replace PN3 := hid (PN3.out.step b)
            replace G := hid (below_step G.out b)
            replace GR := hid (below_step GR.out b)
            have lz96 := (show Below _ _ _ from b).size
            have Zh := hid m0
            have Zg := hid m1
            clear b m0 m1
            clear Zd
            clear Zt
            clear Zg
            refine hK.out _ _ (fun _ _ => ⟨Po.out.c0, Po.out.c1⟩) ?_
            clear hK
            refine wpAnyX_pure (i := 5) (oi := bdo1x5) (v := (.tuple #[(.agg #[.bool nh, .slice adh xh.length qh]), (.agg #[.bool ng, .slice adg xg.length qg]), (.int .i64 0)])) rfl (by kernel_rfl) (fun _ _ _ h => h) (Or.inl ⟨by rfl, ?_⟩)  ?_
            · intro w hSw
              (try dsimp only at hSw)
              dsimp only [bdo1x5]
              go_simp
            simp only [Act.put, List.setIfInBounds_toArray, List.set_cons_zero, List.set_cons_succ]
            refine wpAnyX_pure (i := 6) (oi := bdo1x6) (v := (.agg #[.bool nh, .slice adh xh.length qh])) rfl (by kernel_rfl) (fun _ _ _ h => h) (Or.inl ⟨by rfl, ?_⟩)  ?_
            · intro w hSw
              (try dsimp only at hSw)
              dsimp only [bdo1x6]
              go_simp
            simp only [Act.put, List.setIfInBounds_toArray, List.set_cons_zero, List.set_cons_succ]
            refine wpAnyX_pure (i := 7) (oi := bdo1x7) (v := (.agg #[.bool ng, .slice adg xg.length qg])) rfl (by kernel_rfl) (fun _ _ _ h => h) (Or.inl ⟨by rfl, ?_⟩)  ?_
            · intro w hSw
              (try dsimp only at hSw)
              dsimp only [bdo1x7]
              go_simp
            simp only [Act.put, List.setIfInBounds_toArray, List.set_cons_zero, List.set_cons_succ]
            refine wpAnyX_pure (i := 8) (oi := bdo1x8) (v := (.int .i64 0)) rfl (by kernel_rfl) (fun _ _ _ h => h) (Or.inl ⟨by rfl, ?_⟩)  ?_
            · intro w hSw
              (try dsimp only at hSw)
              dsimp only [bdo1x8]
              go_simp
            simp only [Act.put, List.setIfInBounds_toArray, List.set_cons_zero, List.set_cons_succ]
            refine wpAnyX_one (i := 11) (o := bdo1x11) (by kernel_rfl) rfl (fun K hK => ?_)
            dsimp only [bdo1x11]
            have cN30 := PN3.out.c0
            have cN31 := PN3.out.c1
            have fN30 := PN3.out.fz 0
            have fN31 := PN3.out.fz 1
            go_simp
            clear cN30 cN31 fN30 fN31
            obtain ⟨V97, hW⟩ : ∃ V97, (w95.setCell ⟨V75.heap.size, 0, none⟩ (.bool nh)).setCell ⟨V75.heap.size, 1, none⟩ (.slice adh xh.length qh) = V97 := ⟨_, rfl⟩
            replace Zh := hid ((Zh.out).box (PN3.out) (.bool nh) (.slice adh xh.length qh))
            replace Po := hid ((Po.out).box (b' := V75.heap.size) (by omega) (.bool nh) (.slice adh xh.length qh))
            replace PN4 := hid ((PN4.out).box (b' := V75.heap.size) (by omega) (.bool nh) (.slice adh xh.length qh))
            replace PN3 := hid ((PN3.out).set (.bool nh) (.slice adh xh.length qh))
            replace G : Hid (Below w.heap.size w (((w95.setCell ⟨V75.heap.size, 0, none⟩ (.bool nh)).setCell ⟨V75.heap.size, 1, none⟩ (.slice adh xh.length qh)))) := bset (bset (G.out) (by omega)) (by omega)
            replace GR : Hid (Below W0.heap.size W0 (((w95.setCell ⟨V75.heap.size, 0, none⟩ (.bool nh)).setCell ⟨V75.heap.size, 1, none⟩ (.slice adh xh.length qh)))) := bset (bset (GR.out) (by omega)) (by omega)
            have sz97 : V97.heap.size = w95.heap.size := by rw [← hW]; simp
            rw [hW] at Zh Po PN4 PN3 G GR
            rw [hW]
            clear hW
            refine hK.out _ _ (fun _ _ => ⟨Po.out.c0, Po.out.c1⟩) ?_
            clear hK
            try simp only [Act.put]
            refine wpAnyX_one (i := 12) (o := bdo1x12) (by kernel_rfl) rfl (fun K hK => ?_)
            dsimp only [bdo1x12]
            have cN40 := PN4.out.c0
            have cN41 := PN4.out.c1
            have fN40 := PN4.out.fz 0
            have fN41 := PN4.out.fz 1
            go_simp
            clear cN40 cN41 fN40 fN41
            obtain ⟨V98, hW⟩ : ∃ V98, (V97.setCell ⟨w5.heap.size, 0, none⟩ (.bool ng)).setCell ⟨w5.heap.size, 1, none⟩ (.slice adg xg.length qg) = V98 := ⟨_, rfl⟩
            replace Zh := hid ((Zh.out).box (PN4.out) (.bool ng) (.slice adg xg.length qg))
            replace Po := hid ((Po.out).box (b' := w5.heap.size) (by omega) (.bool ng) (.slice adg xg.length qg))
            replace PN4 := hid ((PN4.out).set (.bool ng) (.slice adg xg.length qg))
            replace PN3 := hid ((PN3.out).box (b' := w5.heap.size) (by omega) (.bool ng) (.slice adg xg.length qg))
            replace G : Hid (Below w.heap.size w (((V97.setCell ⟨w5.heap.size, 0, none⟩ (.bool ng)).setCell ⟨w5.heap.size, 1, none⟩ (.slice adg xg.length qg)))) := bset (bset (G.out) (by omega)) (by omega)
            replace GR : Hid (Below W0.heap.size W0 (((V97.setCell ⟨w5.heap.size, 0, none⟩ (.bool ng)).setCell ⟨w5.heap.size, 1, none⟩ (.slice adg xg.length qg)))) := bset (bset (GR.out) (by omega)) (by omega)
            have sz98 : V98.heap.size = V97.heap.size := by rw [← hW]; simp
            rw [hW] at Zh Po PN4 PN3 G GR
            rw [hW]
            clear hW
            refine hK.out _ _ (fun _ _ => ⟨Po.out.c0, Po.out.c1⟩) ?_
            clear hK
            try simp only [Act.put]
            refine wpAnyX_pure (i := 13) (oi := bdo1x13) (v := (.int .i64 0)) rfl (by kernel_rfl) (fun _ _ _ h => h) (Or.inl ⟨by rfl, ?_⟩)  ?_
            · intro w hSw
              (try dsimp only at hSw)
              dsimp only [bdo1x13]
              go_simp
            simp only [Act.put, List.setIfInBounds_toArray, List.set_cons_zero, List.set_cons_succ]
            refine wpAnyX_done (by kernel_rfl) ?_ _
            go_wp2_with fail
            go_meet
            exact ⟨⟨_, _, _, _, _, rfl, GR.out, by omega, PN3.out.blk, PN3.out, Zh.out.mono (by omega)⟩, rfl⟩
      · skip
        dsimp only [bdo1x9]
        go_simp
        obtain ⟨V99, hW⟩ : ∃ V99, w3.alloc zbox = V99 := ⟨_, rfl⟩
        obtain ⟨kW, sz99⟩ := alloc1 w3 zbox
        rw [hW] at kW sz99
        replace sz99 : w3.heap.size < V99.heap.size := by omega
        replace Zo := hid (Zo.out.now kW)
        replace Zp := hid (Zp.out.now kW)
        replace Po := hid (Po.out.step kW)
        replace G := hid (below_step G.out kW)
        replace GR := hid (below_step GR.out kW)
        have lz100 := (show Below _ _ _ from kW).size
        have PN3 : Hid (Duo V99 (w3.heap.size) (.bool false) (.slice none 0 0)) := by unfold Hid; rw [← hW]; exact duo_at rfl
        rw [hW]
        clear hW kW
        refine hK.out _ _ (fun _ _ => ⟨Po.out.c0, Po.out.c1⟩) ?_
        clear hK
        try simp only [Act.put]
        refine wpAnyX_two (i := 2) (j := 10) (oi := bdo1x2) (oj := bdo1x10) (by kernel_rfl) rfl rfl (fun K hK => ?_) (fun K hK => ?_)
        · skip
          dsimp only [bdo1x2]
          go_simp
          go_at_call 18
          refine (sub_z Zo.out Zp.out.zi (by omega) (by omega)).mono ?_
          rintro e w101 ⟨r0, rfl, m0, b⟩
          obtain ⟨nd, xd, add, qd, rfl, -, -, -, -, -⟩ := id m0
          replace Zo := hid (Zo.out.now b)
          replace Zp := hid (Zp.out.now b)
          replace Po := hid (Po.out.step b)
          replace PN3 := hid (PN3.out.step b)
          replace G := hid (below_step G.out b)
          replace GR := hid (below_step GR.out b)
          have lz102 := (show Below _ _ _ from b).size
          have Zd := hid m0
          clear b m0
          clear Zp
          clear Zo
          refine hK.out _ _ (fun _ _ => ⟨Po.out.c0, Po.out.c1⟩) ?_
          clear hK
          refine wpAnyX_two (i := 3) (j := 10) (oi := bdo1x3) (oj := bdo1x10) (by kernel_rfl) rfl rfl (fun K hK => ?_) (fun K hK => ?_)
          · skip
            dsimp only [bdo1x3]
            go_simp
            go_at_call 20
            refine (of_z (n := 2) (by decide) (by decide) _).mono ?_
            rintro e w103 ⟨r0, rfl, m0, b⟩
            obtain ⟨nt, xt, adt, qt, rfl, -, -, -, -, -⟩ := id m0
            replace Zd := hid (Zd.out.now b)
            replace Po := hid (Po.out.step b)
            replace PN3 := hid (PN3.out.step b)
            replace G := hid (below_step G.out b)
            replace GR := hid (below_step GR.out b)
            have lz104 := (show Below _ _ _ from b).size
            have Zt := hid m0
            clear b m0
            refine hK.out _ _ (fun _ _ => ⟨Po.out.c0, Po.out.c1⟩) ?_
            clear hK
            refine wpAnyX_two (i := 4) (j := 10) (oi := bdo1x4) (oj := bdo1x10) (by kernel_rfl) rfl rfl (fun K hK => ?_) (fun K hK => ?_)
            · skip
              dsimp only [bdo1x4]
              go_simp
              go_at_call 46
              refine (floor_z Zd.out.zi Zt.out.zi (by decide) (by omega) (by omega)).mono ?_
              rintro e w105 ⟨r0, r1, rfl, m0, m1, b⟩
              obtain ⟨nh, xh, adh, qh, rfl, -, -, -, -, -⟩ := id m0
              obtain ⟨ng, xg, adg, qg, rfl, -, -, -, -, -⟩ := id m1
              replace Zd := hid (Zd.out.now b)
              replace Zt := hid (Zt.out.now b)
              replace Po := hid (Po.out.step b)
              replace PN3 := hid (PN3.out.step b)
              replace G := hid (below_step G.out b)
              replace GR := hid (below_step GR.out b)
              have lz106 := (show Below _ _ _ from b).size
              have Zh := hid m0
              have Zg := hid m1
              clear b m0 m1
              clear Zd
              clear Zt
              clear Zg
              refine hK.out _ _ (fun _ _ => ⟨Po.out.c0, Po.out.c1⟩) ?_
              clear hK
              refine wpAnyX_pure (i := 5) (oi := bdo1x5) (v := (.tuple #[(.agg #[.bool nh, .slice adh xh.length qh]), (.agg #[.bool ng, .slice adg xg.length qg]), (.int .i64 0)])) rfl (by kernel_rfl) (fun _ _ _ h => h) (Or.inl ⟨by rfl, ?_⟩)  ?_
              · intro w hSw
                (try dsimp only at hSw)
                dsimp only [bdo1x5]
                go_simp
              simp only [Act.put, List.setIfInBounds_toArray, List.set_cons_zero, List.set_cons_succ]
              refine wpAnyX_pure (i := 6) (oi := bdo1x6) (v := (.agg #[.bool nh, .slice adh xh.length qh])) rfl (by kernel_rfl) (fun _ _ _ h => h) (Or.inl ⟨by rfl, ?_⟩)  ?_
              · intro w hSw
                (try dsimp only at hSw)
                dsimp only [bdo1x6]
                go_simp
              simp only [Act.put, List.setIfInBounds_toArray, List.set_cons_zero, List.set_cons_succ]
              refine wpAnyX_pure (i := 7) (oi := bdo1x7) (v := (.agg #[.bool ng, .slice adg xg.length qg])) rfl (by kernel_rfl) (fun _ _ _ h => h) (Or.inl ⟨by rfl, ?_⟩)  ?_
              · intro w hSw
                (try dsimp only at hSw)
                dsimp only [bdo1x7]
                go_simp
              simp only [Act.put, List.setIfInBounds_toArray, List.set_cons_zero, List.set_cons_succ]
              refine wpAnyX_pure (i := 8) (oi := bdo1x8) (v := (.int .i64 0)) rfl (by kernel_rfl) (fun _ _ _ h => h) (Or.inl ⟨by rfl, ?_⟩)  ?_
              · intro w hSw
                (try dsimp only at hSw)
                dsimp only [bdo1x8]
                go_simp
              simp only [Act.put, List.setIfInBounds_toArray, List.set_cons_zero, List.set_cons_succ]
              refine wpAnyX_one (i := 10) (o := bdo1x10) (by kernel_rfl) rfl (fun K hK => ?_)
              dsimp only [bdo1x10]
              go_simp
              obtain ⟨V107, hW⟩ : ∃ V107, w105.alloc zbox = V107 := ⟨_, rfl⟩
              obtain ⟨kW, sz107⟩ := alloc1 w105 zbox
              rw [hW] at kW sz107
              replace sz107 : w105.heap.size < V107.heap.size := by omega
              replace Zh := hid (Zh.out.now kW)
              replace Po := hid (Po.out.step kW)
              replace PN3 := hid (PN3.out.step kW)
              replace G := hid (below_step G.out kW)
              replace GR := hid (below_step GR.out kW)
              have lz108 := (show Below _ _ _ from kW).size
              have PN4 : Hid (Duo V107 (w105.heap.size) (.bool false) (.slice none 0 0)) := by unfold Hid; rw [← hW]; exact duo_at rfl
              rw [hW]
              clear hW kW
              refine hK.out _ _ (fun _ _ => ⟨Po.out.c0, Po.out.c1⟩) ?_
              clear hK
              try simp only [Act.put]
              refine wpAnyX_one (i := 11) (o := bdo1x11) (by kernel_rfl) rfl (fun K hK => ?_)
              dsimp only [bdo1x11]
              have cN30 := PN3.out.c0
              have cN31 := PN3.out.c1
              have fN30 := PN3.out.fz 0
              have fN31 := PN3.out.fz 1
              go_simp
              clear cN30 cN31 fN30 fN31
              obtain ⟨V109, hW⟩ : ∃ V109, (V107.setCell ⟨w3.heap.size, 0, none⟩ (.bool nh)).setCell ⟨w3.heap.size, 1, none⟩ (.slice adh xh.length qh) = V109 := ⟨_, rfl⟩
              replace Zh := hid ((Zh.out).box (PN3.out) (.bool nh) (.slice adh xh.length qh))
              replace Po := hid ((Po.out).box (b' := w3.heap.size) (by omega) (.bool nh) (.slice adh xh.length qh))
              replace PN3 := hid ((PN3.out).set (.bool nh) (.slice adh xh.length qh))
              replace PN4 := hid ((PN4.out).box (b' := w3.heap.size) (by omega) (.bool nh) (.slice adh xh.length qh))
              replace G : Hid (Below w.heap.size w (((V107.setCell ⟨w3.heap.size, 0, none⟩ (.bool nh)).setCell ⟨w3.heap.size, 1, none⟩ (.slice adh xh.length qh)))) := bset (bset (G.out) (by omega)) (by omega)
              replace GR : Hid (Below W0.heap.size W0 (((V107.setCell ⟨w3.heap.size, 0, none⟩ (.bool nh)).setCell ⟨w3.heap.size, 1, none⟩ (.slice adh xh.length qh)))) := bset (bset (GR.out) (by omega)) (by omega)
              have sz109 : V109.heap.size = V107.heap.size := by rw [← hW]; simp
              rw [hW] at Zh Po PN3 PN4 G GR
              rw [hW]
              clear hW
              refine hK.out _ _ (fun _ _ => ⟨Po.out.c0, Po.out.c1⟩) ?_
              clear hK
              try simp only [Act.put]
              refine wpAnyX_one (i := 12) (o := bdo1x12) (by kernel_rfl) rfl (fun K hK => ?_)
              dsimp only [bdo1x12]
              have cN40 := PN4.out.c0
              have cN41 := PN4.out.c1
              have fN40 := PN4.out.fz 0
              have fN41 := PN4.out.fz 1
              go_simp
              clear cN40 cN41 fN40 fN41
              obtain ⟨V110, hW⟩ : ∃ V110, (V109.setCell ⟨w105.heap.size, 0, none⟩ (.bool ng)).setCell ⟨w105.heap.size, 1, none⟩ (.slice adg xg.length qg) = V110 := ⟨_, rfl⟩
              replace Zh := hid ((Zh.out).box (PN4.out) (.bool ng) (.slice adg xg.length qg))
              replace Po := hid ((Po.out).box (b' := w105.heap.size) (by omega) (.bool ng) (.slice adg xg.length qg))
              replace PN3 := hid ((PN3.out).box (b' := w105.heap.size) (by omega) (.bool ng) (.slice adg xg.length qg))
              replace PN4 := hid ((PN4.out).set (.bool ng) (.slice adg xg.length qg))
              replace G : Hid (Below w.heap.size w (((V109.setCell ⟨w105.heap.size, 0, none⟩ (.bool ng)).setCell ⟨w105.heap.size, 1, none⟩ (.slice adg xg.length qg)))) := bset (bset (G.out) (by omega)) (by omega)
              replace GR : Hid (Below W0.heap.size W0 (((V109.setCell ⟨w105.heap.size, 0, none⟩ (.bool ng)).setCell ⟨w105.heap.size, 1, none⟩ (.slice adg xg.length qg)))) := bset (bset (GR.out) (by omega)) (by omega)
              have sz110 : V110.heap.size = V109.heap.size := by rw [← hW]; simp
              rw [hW] at Zh Po PN3 PN4 G GR
              rw [hW]
              clear hW
              refine hK.out _ _ (fun _ _ => ⟨Po.out.c0, Po.out.c1⟩) ?_
              clear hK
              try simp only [Act.put]
              refine wpAnyX_pure (i := 13) (oi := bdo1x13) (v := (.int .i64 0)) rfl (by kernel_rfl) (fun _ _ _ h => h) (Or.inl ⟨by rfl, ?_⟩)  ?_
              · intro w hSw
                (try dsimp only at hSw)
                dsimp only [bdo1x13]
                go_simp
              simp only [Act.put, List.setIfInBounds_toArray, List.set_cons_zero, List.set_cons_succ]
              refine wpAnyX_done (by kernel_rfl) ?_ _
              go_wp2_with fail
              go_meet
              exact ⟨⟨_, _, _, _, _, rfl, GR.out, by omega, PN3.out.blk, PN3.out, Zh.out.mono (by omega)⟩, rfl⟩
            · skip
              dsimp only [bdo1x10]
              go_simp
              obtain ⟨V111, hW⟩ : ∃ V111, w103.alloc zbox = V111 := ⟨_, rfl⟩
              obtain ⟨kW, sz111⟩ := alloc1 w103 zbox
              rw [hW] at kW sz111
              replace sz111 : w103.heap.size < V111.heap.size := by omega
              replace Zd := hid (Zd.out.now kW)
              replace Zt := hid (Zt.out.now kW)
              replace Po := hid (Po.out.step kW)
              replace PN3 := hid (PN3.out.step kW)
              replace G := hid (below_step G.out kW)
              replace GR := hid (below_step GR.out kW)
              have lz112 := (show Below _ _ _ from kW).size
              have PN4 : Hid (Duo V111 (w103.heap.size) (.bool false) (.slice none 0 0)) := by unfold Hid; rw [← hW]; exact duo_at rfl
              rw [hW]
              clear hW kW
              refine hK.out _ _ (fun _ _ => ⟨Po.out.c0, Po.out.c1⟩) ?_
              clear hK
              try simp only [Act.put]
              refine wpAnyX_one (i := 4) (o := bdo1x4) (by kernel_rfl) rfl (fun K hK => ?_)
              dsimp only [bdo1x4]
              go_simp
              go_at_call 46
              refine (floor_z Zd.out.zi Zt.out.zi (by decide) (by omega) (by omega)).mono ?_
              rintro e w113 ⟨r0, r1, rfl, m0, m1, b⟩
              obtain ⟨nh, xh, adh, qh, rfl, -, -, -, -, -⟩ := id m0
              obtain ⟨ng, xg, adg, qg, rfl, -, -, -, -, -⟩ := id m1
              replace Zd := hid (Zd.out.now b)
              replace Zt := hid (Zt.out.now b)
              replace Po := hid (Po.out.step b)
              replace PN3 := hid (PN3.out.step b)
              replace PN4 := hid (PN4.out.step b)
              replace G := hid (below_step G.out b)
              replace GR := hid (below_step GR.out b)
              have lz114 := (show Below _ _ _ from b).size
              have Zh := hid m0
              have Zg := hid m1
              clear b m0 m1
              clear Zd
              clear Zt
              clear Zg
              refine hK.out _ _ (fun _ _ => ⟨Po.out.c0, Po.out.c1⟩) ?_
              clear hK
              refine wpAnyX_pure (i := 5) (oi := bdo1x5) (v := (.tuple #[(.agg #[.bool nh, .slice adh xh.length qh]), (.agg #[.bool ng, .slice adg xg.length qg]), (.int .i64 0)])) rfl (by kernel_rfl) (fun _ _ _ h => h) (Or.inl ⟨by rfl, ?_⟩)  ?_
              · intro w hSw
                (try dsimp only at hSw)
                dsimp only [bdo1x5]
                go_simp
              simp only [Act.put, List.setIfInBounds_toArray, List.set_cons_zero, List.set_cons_succ]
              refine wpAnyX_pure (i := 6) (oi := bdo1x6) (v := (.agg #[.bool nh, .slice adh xh.length qh])) rfl (by kernel_rfl) (fun _ _ _ h => h) (Or.inl ⟨by rfl, ?_⟩)  ?_
              · intro w hSw
                (try dsimp only at hSw)
                dsimp only [bdo1x6]
                go_simp
              simp only [Act.put, List.setIfInBounds_toArray, List.set_cons_zero, List.set_cons_succ]
              refine wpAnyX_pure (i := 7) (oi := bdo1x7) (v := (.agg #[.bool ng, .slice adg xg.length qg])) rfl (by kernel_rfl) (fun _ _ _ h => h) (Or.inl ⟨by rfl, ?_⟩)  ?_
              · intro w hSw
                (try dsimp only at hSw)
                dsimp only [bdo1x7]
                go_simp
              simp only [Act.put, List.setIfInBounds_toArray, List.set_cons_zero, List.set_cons_succ]
              refine wpAnyX_pure (i := 8) (oi := bdo1x8) (v := (.int .i64 0)) rfl (by kernel_rfl) (fun _ _ _ h => h) (Or.inl ⟨by rfl, ?_⟩)  ?_
              · intro w hSw
                (try dsimp only at hSw)
                dsimp only [bdo1x8]
                go_simp
              simp only [Act.put, List.setIfInBounds_toArray, List.set_cons_zero, List.set_cons_succ]
              refine wpAnyX_one (i := 11) (o := bdo1x11) (by kernel_rfl) rfl (fun K hK => ?_)
              dsimp only [bdo1x11]
              have cN30 := PN3.out.c0
              have cN31 := PN3.out.c1
              have fN30 := PN3.out.fz 0
              have fN31 := PN3.out.fz 1
              go_simp
              clear cN30 cN31 fN30 fN31
              obtain ⟨V115, hW⟩ : ∃ V115, (w113.setCell ⟨w3.heap.size, 0, none⟩ (.bool nh)).setCell ⟨w3.heap.size, 1, none⟩ (.slice adh xh.length qh) = V115 := ⟨_, rfl⟩
              replace Zh := hid ((Zh.out).box (PN3.out) (.bool nh) (.slice adh xh.length qh))
              replace Po := hid ((Po.out).box (b' := w3.heap.size) (by omega) (.bool nh) (.slice adh xh.length qh))
              replace PN3 := hid ((PN3.out).set (.bool nh) (.slice adh xh.length qh))
              replace PN4 := hid ((PN4.out).box (b' := w3.heap.size) (by omega) (.bool nh) (.slice adh xh.length qh))
              replace G : Hid (Below w.heap.size w (((w113.setCell ⟨w3.heap.size, 0, none⟩ (.bool nh)).setCell ⟨w3.heap.size, 1, none⟩ (.slice adh xh.length qh)))) := bset (bset (G.out) (by omega)) (by omega)
              replace GR : Hid (Below W0.heap.size W0 (((w113.setCell ⟨w3.heap.size, 0, none⟩ (.bool nh)).setCell ⟨w3.heap.size, 1, none⟩ (.slice adh xh.length qh)))) := bset (bset (GR.out) (by omega)) (by omega)
              have sz115 : V115.heap.size = w113.heap.size := by rw [← hW]; simp
              rw [hW] at Zh Po PN3 PN4 G GR
              rw [hW]
              clear hW
              refine hK.out _ _ (fun _ _ => ⟨Po.out.c0, Po.out.c1⟩) ?_
              clear hK
              try simp only [Act.put]
              refine wpAnyX_one (i := 12) (o := bdo1x12) (by kernel_rfl) rfl (fun K hK => ?_)
              dsimp only [bdo1x12]
              have cN40 := PN4.out.c0
              have cN41 := PN4.out.c1
              have fN40 := PN4.out.fz 0
              have fN41 := PN4.out.fz 1
              go_simp
              clear cN40 cN41 fN40 fN41
              obtain ⟨V116, hW⟩ : ∃ V116, (V115.setCell ⟨w103.heap.size, 0, none⟩ (.bool ng)).setCell ⟨w103.heap.size, 1, none⟩ (.slice adg xg.length qg) = V116 := ⟨_, rfl⟩
              replace Zh := hid ((Zh.out).box (PN4.out) (.bool ng) (.slice adg xg.length qg))
              replace Po := hid ((Po.out).box (b' := w103.heap.size) (by omega) (.bool ng) (.slice adg xg.length qg))
              replace PN3 := hid ((PN3.out).box (b' := w103.heap.size) (by omega) (.bool ng) (.slice adg xg.length qg))
              replace PN4 := hid ((PN4.out).set (.bool ng) (.slice adg xg.length qg))
              replace G : Hid (Below w.heap.size w (((V115.setCell ⟨w103.heap.size, 0, none⟩ (.bool ng)).setCell ⟨w103.heap.size, 1, none⟩ (.slice adg xg.length qg)))) := bset (bset (G.out) (by omega)) (by omega)
              replace GR : Hid (Below W0.heap.size W0 (((V115.setCell ⟨w103.heap.size, 0, none⟩ (.bool ng)).setCell ⟨w103.heap.size, 1, none⟩ (.slice adg xg.length qg)))) := bset (bset (GR.out) (by omega)) (by omega)
              have sz116 : V116.heap.size = V115.heap.size := by rw [← hW]; simp
              rw [hW] at Zh Po PN3 PN4 G GR
              rw [hW]
              clear hW
              refine hK.out _ _ (fun _ _ => ⟨Po.out.c0, Po.out.c1⟩) ?_
              clear hK
              try simp only [Act.put]
              refine wpAnyX_pure (i := 13) (oi := bdo1x13) (v := (.int .i64 0)) rfl (by kernel_rfl) (fun _ _ _ h => h) (Or.inl ⟨by rfl, ?_⟩)  ?_
              · intro w hSw
                (try dsimp only at hSw)
                dsimp only [bdo1x13]
                go_simp
              simp only [Act.put, List.setIfInBounds_toArray, List.set_cons_zero, List.set_cons_succ]
              refine wpAnyX_done (by kernel_rfl) ?_ _
              go_wp2_with fail
              go_meet
              exact ⟨⟨_, _, _, _, _, rfl, GR.out, by omega, PN3.out.blk, PN3.out, Zh.out.mono (by omega)⟩, rfl⟩
          · skip
            dsimp only [bdo1x10]
            go_simp
            obtain ⟨V117, hW⟩ : ∃ V117, w101.alloc zbox = V117 := ⟨_, rfl⟩
            obtain ⟨kW, sz117⟩ := alloc1 w101 zbox
            rw [hW] at kW sz117
            replace sz117 : w101.heap.size < V117.heap.size := by omega
            replace Zd := hid (Zd.out.now kW)
            replace Po := hid (Po.out.step kW)
            replace PN3 := hid (PN3.out.step kW)
            replace G := hid (below_step G.out kW)
            replace GR := hid (below_step GR.out kW)
            have lz118 := (show Below _ _ _ from kW).size
            have PN4 : Hid (Duo V117 (w101.heap.size) (.bool false) (.slice none 0 0)) := by unfold Hid; rw [← hW]; exact duo_at rfl
            rw [hW]
            clear hW kW
            refine hK.out _ _ (fun _ _ => ⟨Po.out.c0, Po.out.c1⟩) ?_
            clear hK
            try simp only [Act.put]
            refine wpAnyX_one (i := 3) (o := bdo1x3) (by kernel_rfl) rfl (fun K hK => ?_)
            dsimp only [bdo1x3]
            go_simp
            go_at_call 20
            refine (of_z (n := 2) (by decide) (by decide) _).mono ?_
            rintro e w119 ⟨r0, rfl, m0, b⟩
            obtain ⟨nt, xt, adt, qt, rfl, -, -, -, -, -⟩ := id m0
            replace Zd := hid (Zd.out.now b)
            replace Po := hid (Po.out.step b)
            replace PN3 := hid (PN3.out.step b)
            replace PN4 := hid (PN4.out.step b)
            replace G := hid (below_step G.out b)
            replace GR := hid (below_step GR.out b)
            have lz120 := (show Below _ _ _ from b).size
            have Zt := hid m0
            clear b m0
            refine hK.out _ _ (fun _ _ => ⟨Po.out.c0, Po.out.c1⟩) ?_
            clear hK
            refine wpAnyX_one (i := 4) (o := bdo1x4) (by kernel_rfl) rfl (fun K hK => ?_)
            dsimp only [bdo1x4]
            go_simp
            go_at_call 46
            refine (floor_z Zd.out.zi Zt.out.zi (by decide) (by omega) (by omega)).mono ?_
            rintro e w121 ⟨r0, r1, rfl, m0, m1, b⟩
            obtain ⟨nh, xh, adh, qh, rfl, -, -, -, -, -⟩ := id m0
            obtain ⟨ng, xg, adg, qg, rfl, -, -, -, -, -⟩ := id m1
            replace Zd := hid (Zd.out.now b)
            replace Zt := hid (Zt.out.now b)
            replace Po := hid (Po.out.step b)
            replace PN3 := hid (PN3.out.step b)
            replace PN4 := hid (PN4.out.step b)
            replace G := hid (below_step G.out b)
            replace GR := hid (below_step GR.out b)
            have lz122 := (show Below _ _ _ from b).size
            have Zh := hid m0
            have Zg := hid m1
            clear b m0 m1
            clear Zd
            clear Zt
            clear Zg
            refine hK.out _ _ (fun _ _ => ⟨Po.out.c0, Po.out.c1⟩) ?_
            clear hK
            refine wpAnyX_pure (i := 5) (oi := bdo1x5) (v := (.tuple #[(.agg #[.bool nh, .slice adh xh.length qh]), (.agg #[.bool ng, .slice adg xg.length qg]), (.int .i64 0)])) rfl (by kernel_rfl) (fun _ _ _ h => h) (Or.inl ⟨by rfl, ?_⟩)  ?_
            · intro w hSw
              (try dsimp only at hSw)
              dsimp only [bdo1x5]
              go_simp
            simp only [Act.put, List.setIfInBounds_toArray, List.set_cons_zero, List.set_cons_succ]
            refine wpAnyX_pure (i := 6) (oi := bdo1x6) (v := (.agg #[.bool nh, .slice adh xh.length qh])) rfl (by kernel_rfl) (fun _ _ _ h => h) (Or.inl ⟨by rfl, ?_⟩)  ?_
            · intro w hSw
              (try dsimp only at hSw)
              dsimp only [bdo1x6]
              go_simp
            simp only [Act.put, List.setIfInBounds_toArray, List.set_cons_zero, List.set_cons_succ]
            refine wpAnyX_pure (i := 7) (oi := bdo1x7) (v := (.agg #[.bool ng, .slice adg xg.length qg])) rfl (by kernel_rfl) (fun _ _ _ h => h) (Or.inl ⟨by rfl, ?_⟩)  ?_
            · intro w hSw
              (try dsimp only at hSw)
              dsimp only [bdo1x7]
              go_simp
            simp only [Act.put, List.setIfInBounds_toArray, List.set_cons_zero, List.set_cons_succ]
            refine wpAnyX_pure (i := 8) (oi := bdo1x8) (v := (.int .i64 0)) rfl (by kernel_rfl) (fun _ _ _ h => h) (Or.inl ⟨by rfl, ?_⟩)  ?_
            · intro w hSw
              (try dsimp only at hSw)
              dsimp only [bdo1x8]
              go_simp
            simp only [Act.put, List.setIfInBounds_toArray, List.set_cons_zero, List.set_cons_succ]
            refine wpAnyX_one (i := 11) (o := bdo1x11) (by kernel_rfl) rfl (fun K hK => ?_)
            dsimp only [bdo1x11]
            have cN30 := PN3.out.c0
            have cN31 := PN3.out.c1
            have fN30 := PN3.out.fz 0
            have fN31 := PN3.out.fz 1
            go_simp
            clear cN30 cN31 fN30 fN31
            obtain ⟨V123, hW⟩ : ∃ V123, (w121.setCell ⟨w3.heap.size, 0, none⟩ (.bool nh)).setCell ⟨w3.heap.size, 1, none⟩ (.slice adh xh.length qh) = V123 := ⟨_, rfl⟩
            replace Zh := hid ((Zh.out).box (PN3.out) (.bool nh) (.slice adh xh.length qh))
            replace Po := hid ((Po.out).box (b' := w3.heap.size) (by omega) (.bool nh) (.slice adh xh.length qh))
            replace PN3 := hid ((PN3.out).set (.bool nh) (.slice adh xh.length qh))
            replace PN4 := hid ((PN4.out).box (b' := w3.heap.size) (by omega) (.bool nh) (.slice adh xh.length qh))
            replace G : Hid (Below w.heap.size w (((w121.setCell ⟨w3.heap.size, 0, none⟩ (.bool nh)).setCell ⟨w3.heap.size, 1, none⟩ (.slice adh xh.length qh)))) := bset (bset (G.out) (by omega)) (by omega)
            replace GR : Hid (Below W0.heap.size W0 (((w121.setCell ⟨w3.heap.size, 0, none⟩ (.bool nh)).setCell ⟨w3.heap.size, 1, none⟩ (.slice adh xh.length qh)))) := bset (bset (GR.out) (by omega)) (by omega)
            have sz123 : V123.heap.size = w121.heap.size := by rw [← hW]; simp
            rw [hW] at Zh Po PN3 PN4 G GR
            rw [hW]
            clear hW
            refine hK.out _ _ (fun _ _ => ⟨Po.out.c0, Po.out.c1⟩) ?_
            clear hK
            try simp only [Act.put]
            refine wpAnyX_one (i := 12) (o := bdo1x12) (by kernel_rfl) rfl (fun K hK => ?_)
            dsimp only [bdo1x12]
            have cN40 := PN4.out.c0
            have cN41 := PN4.out.c1
            have fN40 := PN4.out.fz 0
            have fN41 := PN4.out.fz 1
            go_simp
            clear cN40 cN41 fN40 fN41
            obtain ⟨V124, hW⟩ : ∃ V124, (V123.setCell ⟨w101.heap.size, 0, none⟩ (.bool ng)).setCell ⟨w101.heap.size, 1, none⟩ (.slice adg xg.length qg) = V124 := ⟨_, rfl⟩
            replace Zh := hid ((Zh.out).box (PN4.out) (.bool ng) (.slice adg xg.length qg))
            replace Po := hid ((Po.out).box (b' := w101.heap.size) (by omega) (.bool ng) (.slice adg xg.length qg))
            replace PN3 := hid ((PN3.out).box (b' := w101.heap.size) (by omega) (.bool ng) (.slice adg xg.length qg))
            replace PN4 := hid ((PN4.out).set (.bool ng) (.slice adg xg.length qg))
            replace G : Hid (Below w.heap.size w (((V123.setCell ⟨w101.heap.size, 0, none⟩ (.bool ng)).setCell ⟨w101.heap.size, 1, none⟩ (.slice adg xg.length qg)))) := bset (bset (G.out) (by omega)) (by omega)
            replace GR : Hid (Below W0.heap.size W0 (((V123.setCell ⟨w101.heap.size, 0, none⟩ (.bool ng)).setCell ⟨w101.heap.size, 1, none⟩ (.slice adg xg.length qg)))) := bset (bset (GR.out) (by omega)) (by omega)
            have sz124 : V124.heap.size = V123.heap.size := by rw [← hW]; simp
            rw [hW] at Zh Po PN3 PN4 G GR
            rw [hW]
            clear hW
            refine hK.out _ _ (fun _ _ => ⟨Po.out.c0, Po.out.c1⟩) ?_
            clear hK
            try simp only [Act.put]
            refine wpAnyX_pure (i := 13) (oi := bdo1x13) (v := (.int .i64 0)) rfl (by kernel_rfl) (fun _ _ _ h => h) (Or.inl ⟨by rfl, ?_⟩)  ?_
            · intro w hSw
              (try dsimp only at hSw)
              dsimp only [bdo1x13]
              go_simp
            simp only [Act.put, List.setIfInBounds_toArray, List.set_cons_zero, List.set_cons_succ]
            refine wpAnyX_done (by kernel_rfl) ?_ _
            go_wp2_with fail
            go_meet
            exact ⟨⟨_, _, _, _, _, rfl, GR.out, by omega, PN3.out.blk, PN3.out, Zh.out.mono (by omega)⟩, rfl⟩
        · skip
          dsimp only [bdo1x10]
          go_simp
          obtain ⟨V125, hW⟩ : ∃ V125, V99.alloc zbox = V125 := ⟨_, rfl⟩
          obtain ⟨kW, sz125⟩ := alloc1 V99 zbox
          rw [hW] at kW sz125
          replace sz125 : V99.heap.size < V125.heap.size := by omega
          replace Zo := hid (Zo.out.now kW)
          replace Zp := hid (Zp.out.now kW)
          replace Po := hid (Po.out.step kW)
          replace PN3 := hid (PN3.out.step kW)
          replace G := hid (below_step G.out kW)
          replace GR := hid (below_step GR.out kW)
          have lz126 := (show Below _ _ _ from kW).size
          have PN4 : Hid (Duo V125 (V99.heap.size) (.bool false) (.slice none 0 0)) := by unfold Hid; rw [← hW]; exact duo_at rfl
          rw [hW]
          clear hW kW
          refine hK.out _ _ (fun _ _ => ⟨Po.out.c0, Po.out.c1⟩) ?_
          clear hK
          try simp only [Act.put]
          refine wpAnyX_one (i := 2) (o := bdo1x2) (by kernel_rfl) rfl (fun K hK => ?_)
          dsimp only [bdo1x2]
          go_simp
          go_at_call 18
          refine (sub_z Zo.out Zp.out.zi (by omega) (by omega)).mono ?_
          rintro e w127 ⟨r0, rfl, m0, b⟩
          obtain ⟨nd, xd, add, qd, rfl, -, -, -, -, -⟩ := id m0
          replace Zo := hid (Zo.out.now b)
          replace Zp := hid (Zp.out.now b)
          replace Po := hid (Po.out.step b)
          replace PN3 := hid (PN3.out.step b)
          replace PN4 := hid (PN4.out.step b)
          replace G := hid (below_step G.out b)
          replace GR := hid (below_step GR.out b)
          have lz128 := (show Below _ _ _ from b).size
          have Zd := hid m0
          clear b m0
          clear Zp
          clear Zo
          refine hK.out _ _ (fun _ _ => ⟨Po.out.c0, Po.out.c1⟩) ?_
          clear hK
          refine wpAnyX_one (i := 3) (o := bdo1x3) (by kernel_rfl) rfl (fun K hK => ?_)
          dsimp only [bdo1x3]
          go_simp
          go_at_call 20
          refine (of_z (n := 2) (by decide) (by decide) _).mono ?_
          rintro e w129 ⟨r0, rfl, m0, b⟩
          obtain ⟨nt, xt, adt, qt, rfl, -, -, -, -, -⟩ := id m0
          replace Zd := hid (Zd.out.now b)
          replace Po := hid (Po.out.step b)
          replace PN3 := hid (PN3.out.step b)
          replace PN4 := hid (PN4.out.step b)
          replace G := hid (below_step G.out b)
          replace GR := hid (below_step GR.out b)
          have lz130 := (show Below _ _ _ from b).size
          have Zt := hid m0
          clear b m0
          refine hK.out _ _ (fun _ _ => ⟨Po.out.c0, Po.out.c1⟩) ?_
          clear hK
          refine wpAnyX_one (i := 4) (o := bdo1x4) (by kernel_rfl) rfl (fun K hK => ?_)
          dsimp only [bdo1x4]
          go_simp
          go_at_call 46
          refine (floor_z Zd.out.zi Zt.out.zi (by decide) (by omega) (by omega)).mono ?_
          rintro e w131 ⟨r0, r1, rfl, m0, m1, b⟩
          obtain ⟨nh, xh, adh, qh, rfl, -, -, -, -, -⟩ := id m0
          obtain ⟨ng, xg, adg, qg, rfl, -, -, -, -, -⟩ := id m1
          replace Zd := hid (Zd.out.now b)
          replace Zt := hid (Zt.out.now b)
          replace Po := hid (Po.out.step b)
          replace PN3 := hid (PN3.out.step b)
          replace PN4 := hid (PN4.out.step b)
          replace G := hid (below_step G.out b)
          replace GR := hid (below_step GR.out b)
          have lz132 := (show Below _ _ _ from b).size
          have Zh := hid m0
          have Zg := hid m1
          clear b m0 m1
          clear Zd
          clear Zt
          clear Zg
          refine hK.out _ _ (fun _ _ => ⟨Po.out.c0, Po.out.c1⟩) ?_
          clear hK
          refine wpAnyX_pure (i := 5) (oi := bdo1x5) (v := (.tuple #[(.agg #[.bool nh, .slice adh xh.length qh]), (.agg #[.bool ng, .slice adg xg.length qg]), (.int .i64 0)])) rfl (by kernel_rfl) (fun _ _ _ h => h) (Or.inl ⟨by rfl, ?_⟩)  ?_
          · intro w hSw
            (try dsimp only at hSw)
            dsimp only [bdo1x5]
            go_simp
          simp only [Act.put, List.setIfInBounds_toArray, List.set_cons_zero, List.set_cons_succ]
          refine wpAnyX_pure (i := 6) (oi := bdo1x6) (v := (.agg #[.bool nh, .slice adh xh.length qh])) rfl (by kernel_rfl) (fun _ _ _ h => h) (Or.inl ⟨by rfl, ?_⟩)  ?_
          · intro w hSw
            (try dsimp only at hSw)
            dsimp only [bdo1x6]
            go_simp
          simp only [Act.put, List.setIfInBounds_toArray, List.set_cons_zero, List.set_cons_succ]
          refine wpAnyX_pure (i := 7) (oi := bdo1x7) (v := (.agg #[.bool ng, .slice adg xg.length qg])) rfl (by kernel_rfl) (fun _ _ _ h => h) (Or.inl ⟨by rfl, ?_⟩)  ?_
          · intro w hSw
            (try dsimp only at hSw)
            dsimp only [bdo1x7]
            go_simp
          simp only [Act.put, List.setIfInBounds_toArray, List.set_cons_zero, List.set_cons_succ]
          refine wpAnyX_pure (i := 8) (oi := bdo1x8) (v := (.int .i64 0)) rfl (by kernel_rfl) (fun _ _ _ h => h) (Or.inl ⟨by rfl, ?_⟩)  ?_
          · intro w hSw
            (try dsimp only at hSw)
            dsimp only [bdo1x8]
            go_simp
          simp only [Act.put, List.setIfInBounds_toArray, List.set_cons_zero, List.set_cons_succ]
          refine wpAnyX_one (i := 11) (o := bdo1x11) (by kernel_rfl) rfl (fun K hK => ?_)
          dsimp only [bdo1x11]
          have cN30 := PN3.out.c0
          have cN31 := PN3.out.c1
          have fN30 := PN3.out.fz 0
          have fN31 := PN3.out.fz 1
          go_simp
          clear cN30 cN31 fN30 fN31
          obtain ⟨V133, hW⟩ : ∃ V133, (w131.setCell ⟨w3.heap.size, 0, none⟩ (.bool nh)).setCell ⟨w3.heap.size, 1, none⟩ (.slice adh xh.length qh) = V133 := ⟨_, rfl⟩
          replace Zh := hid ((Zh.out).box (PN3.out) (.bool nh) (.slice adh xh.length qh))
          replace Po := hid ((Po.out).box (b' := w3.heap.size) (by omega) (.bool nh) (.slice adh xh.length qh))
          replace PN3 := hid ((PN3.out).set (.bool nh) (.slice adh xh.length qh))
          replace PN4 := hid ((PN4.out).box (b' := w3.heap.size) (by omega) (.bool nh) (.slice adh xh.length qh))
          replace G : Hid (Below w.heap.size w (((w131.setCell ⟨w3.heap.size, 0, none⟩ (.bool nh)).setCell ⟨w3.heap.size, 1, none⟩ (.slice adh xh.length qh)))) := bset (bset (G.out) (by omega)) (by omega)
          replace GR : Hid (Below W0.heap.size W0 (((w131.setCell ⟨w3.heap.size, 0, none⟩ (.bool nh)).setCell ⟨w3.heap.size, 1, none⟩ (.slice adh xh.length qh)))) := bset (bset (GR.out) (by omega)) (by omega)
          have sz133 : V133.heap.size = w131.heap.size := by rw [← hW]; simp
          rw [hW] at Zh Po PN3 PN4 G GR
          rw [hW]
          clear hW
          refine hK.out _ _ (fun _ _ => ⟨Po.out.c0, Po.out.c1⟩) ?_
          clear hK
          try simp only [Act.put]
          refine wpAnyX_one (i := 12) (o := bdo1x12) (by kernel_rfl) rfl (fun K hK => ?_)
          dsimp only [bdo1x12]
          have cN40 := PN4.out.c0
          have cN41 := PN4.out.c1
          have fN40 := PN4.out.fz 0
          have fN41 := PN4.out.fz 1
          go_simp
          clear cN40 cN41 fN40 fN41
          obtain ⟨V134, hW⟩ : ∃ V134, (V133.setCell ⟨V99.heap.size, 0, none⟩ (.bool ng)).setCell ⟨V99.heap.size, 1, none⟩ (.slice adg xg.length qg) = V134 := ⟨_, rfl⟩
          replace Zh := hid ((Zh.out).box (PN4.out) (.bool ng) (.slice adg xg.length qg))
          replace Po := hid ((Po.out).box (b' := V99.heap.size) (by omega) (.bool ng) (.slice adg xg.length qg))
          replace PN3 := hid ((PN3.out).box (b' := V99.heap.size) (by omega) (.bool ng) (.slice adg xg.length qg))
          replace PN4 := hid ((PN4.out).set (.bool ng) (.slice adg xg.length qg))
          replace G : Hid (Below w.heap.size w (((V133.setCell ⟨V99.heap.size, 0, none⟩ (.bool ng)).setCell ⟨V99.heap.size, 1, none⟩ (.slice adg xg.length qg)))) := bset (bset (G.out) (by omega)) (by omega)
          replace GR : Hid (Below W0.heap.size W0 (((V133.setCell ⟨V99.heap.size, 0, none⟩ (.bool ng)).setCell ⟨V99.heap.size, 1, none⟩ (.slice adg xg.length qg)))) := bset (bset (GR.out) (by omega)) (by omega)
          have sz134 : V134.heap.size = V133.heap.size := by rw [← hW]; simp
          rw [hW] at Zh Po PN3 PN4 G GR
          rw [hW]
          clear hW
          refine hK.out _ _ (fun _ _ => ⟨Po.out.c0, Po.out.c1⟩) ?_
          clear hK
          try simp only [Act.put]
          refine wpAnyX_pure (i := 13) (oi := bdo1x13) (v := (.int .i64 0)) rfl (by kernel_rfl) (fun _ _ _ h => h) (Or.inl ⟨by rfl, ?_⟩)  ?_
          · intro w hSw
            (try dsimp only at hSw)
            dsimp only [bdo1x13]
            go_simp
          simp only [Act.put, List.setIfInBounds_toArray, List.set_cons_zero, List.set_cons_succ]
          refine wpAnyX_done (by kernel_rfl) ?_ _
          go_wp2_with fail
          go_meet
          exact ⟨⟨_, _, _, _, _, rfl, GR.out, by omega, PN3.out.blk, PN3.out, Zh.out.mono (by omega)⟩, rfl⟩
      · skip
        dsimp only [bdo1x10]
        go_simp
        obtain ⟨V135, hW⟩ : ∃ V135, w3.alloc zbox = V135 := ⟨_, rfl⟩
        obtain ⟨kW, sz135⟩ := alloc1 w3 zbox
        rw [hW] at kW sz135
        replace sz135 : w3.heap.size < V135.heap.size := by omega
        replace Zo := hid (Zo.out.now kW)
        replace Zp := hid (Zp.out.now kW)
        replace Po := hid (Po.out.step kW)
        replace G := hid (below_step G.out kW)
        replace GR := hid (below_step GR.out kW)
        have lz136 := (show Below _ _ _ from kW).size
        have PN4 : Hid (Duo V135 (w3.heap.size) (.bool false) (.slice none 0 0)) := by unfold Hid; rw [← hW]; exact duo_at rfl
        rw [hW]
        clear hW kW
        refine hK.out _ _ (fun _ _ => ⟨Po.out.c0, Po.out.c1⟩) ?_
        clear hK
        try simp only [Act.put]
        refine wpAnyX_two (i := 2) (j := 9) (oi := bdo1x2) (oj := bdo1x9) (by kernel_rfl) rfl rfl (fun K hK => ?_) (fun K hK => ?_)
        · skip
          dsimp only [bdo1x2]
          go_simp
          go_at_call 18
          refine (sub_z Zo.out Zp.out.zi (by omega) (by omega)).mono ?_
          rintro e w137 ⟨r0, rfl, m0, b⟩
          obtain ⟨nd, xd, add, qd, rfl, -, -, -, -, -⟩ := id m0
          replace Zo := hid (Zo.out.now b)
          replace Zp := hid (Zp.out.now b)
          replace Po := hid (Po.out.step b)
          replace PN4 := hid (PN4.out.step b)
          replace G := hid (below_step G.out b)
          replace GR := hid (below_step GR.out b)
          have lz138 := (show Below _ _ _ from b).size
          have Zd := hid m0
          clear b m0
          clear Zp
          clear Zo
          refine hK.out _ _ (fun _ _ => ⟨Po.out.c0, Po.out.c1⟩) ?_
          clear hK
          refine wpAnyX_two (i := 3) (j := 9) (oi := bdo1x3) (oj := bdo1x9) (by kernel_rfl) rfl rfl (fun K hK => ?_) (fun K hK => ?_)
          · skip
            dsimp only [bdo1x3]
            go_simp
            go_at_call 20
            refine (of_z (n := 2) (by decide) (by decide) _).mono ?_
            rintro e w139 ⟨r0, rfl, m0, b⟩
            obtain ⟨nt, xt, adt, qt, rfl, -, -, -, -, -⟩ := id m0
            replace Zd := hid (Zd.out.now b)
            replace Po := hid (Po.out.step b)
            replace PN4 := hid (PN4.out.step b)
            replace G := hid (below_step G.out b)
            replace GR := hid (below_step GR.out b)
            have lz140 := (show Below _ _ _ from b).size
            have Zt := hid m0
            clear b m0
            refine hK.out _ _ (fun _ _ => ⟨Po.out.c0, Po.out.c1⟩) ?_
            clear hK
            refine wpAnyX_two (i := 4) (j := 9) (oi := bdo1x4) (oj := bdo1x9) (by kernel_rfl) rfl rfl (fun K hK => ?_) (fun K hK => ?_)
            · skip
              dsimp only [bdo1x4]
              go_simp
              go_at_call 46
              refine (floor_z Zd.out.zi Zt.out.zi (by decide) (by omega) (by omega)).mono ?_
              rintro e w141 ⟨r0, r1, rfl, m0, m1, b⟩
              obtain ⟨nh, xh, adh, qh, rfl, -, -, -, -, -⟩ := id m0
              obtain ⟨ng, xg, adg, qg, rfl, -, -, -, -, -⟩ := id m1
              replace Zd := hid (Zd.out.now b)
              replace Zt := hid (Zt.out.now b)
              replace Po := hid (Po.out.step b)
              replace PN4 := hid (PN4.out.step b)
              replace G := hid (below_step G.out b)
              replace GR := hid (below_step GR.out b)
              have lz142 := (show Below _ _ _ from b).size
              have Zh := hid m0
              have Zg := hid m1
              clear b m0 m1
              clear Zd
              clear Zt
              clear Zg
              refine hK.out _ _ (fun _ _ => ⟨Po.out.c0, Po.out.c1⟩) ?_
              clear hK
              refine wpAnyX_pure (i := 5) (oi := bdo1x5) (v := (.tuple #[(.agg #[.bool nh, .slice adh xh.length qh]), (.agg #[.bool ng, .slice adg xg.length qg]), (.int .i64 0)])) rfl (by kernel_rfl) (fun _ _ _ h => h) (Or.inl ⟨by rfl, ?_⟩)  ?_
              · intro w hSw
                (try dsimp only at hSw)
                dsimp only [bdo1x5]
                go_simp
              simp only [Act.put, List.setIfInBounds_toArray, List.set_cons_zero, List.set_cons_succ]
              refine wpAnyX_pure (i := 6) (oi := bdo1x6) (v := (.agg #[.bool nh, .slice adh xh.length qh])) rfl (by kernel_rfl) (fun _ _ _ h => h) (Or.inl ⟨by rfl, ?_⟩)  ?_
              · intro w hSw
                (try dsimp only at hSw)
                dsimp only [bdo1x6]
                go_simp
              simp only [Act.put, List.setIfInBounds_toArray, List.set_cons_zero, List.set_cons_succ]
              refine wpAnyX_pure (i := 7) (oi := bdo1x7) (v := (.agg #[.bool ng, .slice adg xg.length qg])) rfl (by kernel_rfl) (fun _ _ _ h => h) (Or.inl ⟨by rfl, ?_⟩)  ?_
              · intro w hSw
                (try dsimp only at hSw)
                dsimp only [bdo1x7]
                go_simp
              simp only [Act.put, List.setIfInBounds_toArray, List.set_cons_zero, List.set_cons_succ]
              refine wpAnyX_pure (i := 8) (oi := bdo1x8) (v := (.int .i64 0)) rfl (by kernel_rfl) (fun _ _ _ h => h) (Or.inl ⟨by rfl, ?_⟩)  ?_
              · intro w hSw
                (try dsimp only at hSw)
                dsimp only [bdo1x8]
                go_simp
              simp only [Act.put, List.setIfInBounds_toArray, List.set_cons_zero, List.set_cons_succ]
              refine wpAnyX_one (i := 9) (o := bdo1x9) (by kernel_rfl) rfl (fun K hK => ?_)
              dsimp only [bdo1x9]
              go_simp
              obtain ⟨V143, hW⟩ : ∃ V143, w141.alloc zbox = V143 := ⟨_, rfl⟩
              obtain ⟨kW, sz143⟩ := alloc1 w141 zbox
              rw [hW] at kW sz143
              replace sz143 : w141.heap.size < V143.heap.size := by omega
              replace Zh := hid (Zh.out.now kW)
              replace Po := hid (Po.out.step kW)
              replace PN4 := hid (PN4.out.step kW)
              replace G := hid (below_step G.out kW)
              replace GR := hid (below_step GR.out kW)
              have lz144 := (show Below _ _ _ from kW).size
              have PN3 : Hid (Duo V143 (w141.heap.size) (.bool false) (.slice none 0 0)) := by unfold Hid; rw [← hW]; exact duo_at rfl
              rw [hW]
              clear hW kW
              refine hK.out _ _ (fun _ _ => ⟨Po.out.c0, Po.out.c1⟩) ?_
              clear hK
              try simp only [Act.put]
              refine wpAnyX_one (i := 11) (o := bdo1x11) (by kernel_rfl) rfl (fun K hK => ?_)
              dsimp only [bdo1x11]
              have cN30 := PN3.out.c0
              have cN31 := PN3.out.c1
              have fN30 := PN3.out.fz 0
              have fN31 := PN3.out.fz 1
              go_simp
              clear cN30 cN31 fN30 fN31
              obtain ⟨V145, hW⟩ : ∃ V145, (V143.setCell ⟨w141.heap.size, 0, none⟩ (.bool nh)).setCell ⟨w141.heap.size, 1, none⟩ (.slice adh xh.length qh) = V145 := ⟨_, rfl⟩
              replace Zh := hid ((Zh.out).box (PN3.out) (.bool nh) (.slice adh xh.length qh))
              replace Po := hid ((Po.out).box (b' := w141.heap.size) (by omega) (.bool nh) (.slice adh xh.length qh))
              replace PN4 := hid ((PN4.out).box (b' := w141.heap.size) (by omega) (.bool nh) (.slice adh xh.length qh))
              replace PN3 := hid ((PN3.out).set (.bool nh) (.slice adh xh.length qh))
              replace G : Hid (Below w.heap.size w (((V143.setCell ⟨w141.heap.size, 0, none⟩ (.bool nh)).setCell ⟨w141.heap.size, 1, none⟩ (.slice adh xh.length qh)))) := bset (bset (G.out) (by omega)) (by omega)
              replace GR : Hid (Below W0.heap.size W0 (((V143.setCell ⟨w141.heap.size, 0, none⟩ (.bool nh)).setCell ⟨w141.heap.size, 1, none⟩ (.slice adh xh.length qh)))) := bset (bset (GR.out) (by omega)) (by omega)
              have sz145 : V145.heap.size = V143.heap.size := by rw [← hW]; simp
              rw [hW] at Zh Po PN4 PN3 G GR
              rw [hW]
              clear hW
              refine hK.out _ _ (fun _ _ => ⟨Po.out.c0, Po.out.c1⟩) ?_
              clear hK
              try simp only [Act.put]
              refine wpAnyX_one (i := 12) (o := bdo1x12) (by kernel_rfl) rfl (fun K hK => ?_)
              dsimp only [bdo1x12]
              have cN40 := PN4.out.c0
              have cN41 := PN4.out.c1
              have fN40 := PN4.out.fz 0
              have fN41 := PN4.out.fz 1
              go_simp
              clear cN40 cN41 fN40 fN41
              obtain ⟨V146, hW⟩ : ∃ V146, (V145.setCell ⟨w3.heap.size, 0, none⟩ (.bool ng)).setCell ⟨w3.heap.size, 1, none⟩ (.slice adg xg.length qg) = V146 := ⟨_, rfl⟩
              replace Zh := hid ((Zh.out).box (PN4.out) (.bool ng) (.slice adg xg.length qg))
              replace Po := hid ((Po.out).box (b' := w3.heap.size) (by omega) (.bool ng) (.slice adg xg.length qg))
              replace PN4 := hid ((PN4.out).set (.bool ng) (.slice adg xg.length qg))
              replace PN3 := hid ((PN3.out).box (b' := w3.heap.size) (by omega) (.bool ng) (.slice adg xg.length qg))
              replace G : Hid (Below w.heap.size w (((V145.setCell ⟨w3.heap.size, 0, none⟩ (.bool ng)).setCell ⟨w3.heap.size, 1, none⟩ (.slice adg xg.length qg)))) := bset (bset (G.out) (by omega)) (by omega)
              replace GR : Hid (Below W0.heap.size W0 (((V145.setCell ⟨w3.heap.size, 0, none⟩ (.bool ng)).setCell ⟨w3.heap.size, 1, none⟩ (.slice adg xg.length qg)))) := bset (bset (GR.out) (by omega)) (by omega)
              have sz146 : V146.heap.size = V145.heap.size := by rw [← hW]; simp
              rw [hW] at Zh Po PN4 PN3 G GR
              rw [hW]
              clear hW
              refine hK.out _ _ (fun _ _ => ⟨Po.out.c0, Po.out.c1⟩) ?_
              clear hK
              try simp only [Act.put]
              refine wpAnyX_pure (i := 13) (oi := bdo1x13) (v := (.int .i64 0)) rfl (by kernel_rfl) (fun _ _ _ h => h) (Or.inl ⟨by rfl, ?_⟩)  ?_
              · intro w hSw
                (try dsimp only at hSw)
                dsimp only [bdo1x13]
                go_simp
              simp only [Act.put, List.setIfInBounds_toArray, List.set_cons_zero, List.set_cons_succ]
              refine wpAnyX_done (by kernel_rfl) ?_ _
              go_wp2_with fail
              go_meet
              exact ⟨⟨_, _, _, _, _, rfl, GR.out, by omega, PN3.out.blk, PN3.out, Zh.out.mono (by omega)⟩, rfl⟩
            · skip
              dsimp only [bdo1x9]
              go_simp
              obtain ⟨V147, hW⟩ : ∃ V147, w139.alloc zbox = V147 := ⟨_, rfl⟩
              obtain ⟨kW, sz147⟩ := alloc1 w139 zbox
              rw [hW] at kW sz147
              replace sz147 : w139.heap.size < V147.heap.size := by omega
              replace Zd := hid (Zd.out.now kW)
              replace Zt := hid (Zt.out.now kW)
              replace Po := hid (Po.out.step kW)
              replace PN4 := hid (PN4.out.step kW)
              replace G := hid (below_step G.out kW)
              replace GR := hid (below_step GR.out kW)
              have lz148 := (show Below _ _ _ from kW).size
              have PN3 : Hid (Duo V147 (w139.heap.size) (.bool false) (.slice none 0 0)) := by unfold Hid; rw [← hW]; exact duo_at rfl
              rw [hW]
              clear hW kW
              refine hK.out _ _ (fun _ _ => ⟨Po.out.c0, Po.out.c1⟩) ?_
              clear hK
              try simp only [Act.put]
              refine wpAnyX_one (i := 4) (o := bdo1x4) (by kernel_rfl) rfl (fun K hK => ?_)
              dsimp only [bdo1x4]
              go_simp
              go_at_call 46
              refine (floor_z Zd.out.zi Zt.out.zi (by decide) (by omega) (by omega)).mono ?_
              rintro e w149 ⟨r0, r1, rfl, m0, m1, b⟩
              obtain ⟨nh, xh, adh, qh, rfl, -, -, -, -, -⟩ := id m0
              obtain ⟨ng, xg, adg, qg, rfl, -, -, -, -, -⟩ := id m1
              replace Zd := hid (Zd.out.now b)
              replace Zt := hid (Zt.out.now b)
              replace Po := hid (Po.out.step b)
              replace PN4 := hid (PN4.out.step b)
              replace PN3 := hid (PN3.out.step b)
              replace G := hid (below_step G.out b)
              replace GR := hid (below_step GR.out b)
              have lz150 := (show Below _ _ _ from b).size
              have Zh := hid m0
              have Zg := hid m1
              clear b m0 m1
              clear Zd
              clear Zt
              clear Zg
              refine hK.out _ _ (fun _ _ => ⟨Po.out.c0, Po.out.c1⟩) ?_
              clear hK
              refine wpAnyX_pure (i := 5) (oi := bdo1x5) (v := (.tuple #[(.agg #[.bool nh, .slice adh xh.length qh]), (.agg #[.bool ng, .slice adg xg.length qg]), (.int .i64 0)])) rfl (by kernel_rfl) (fun _ _ _ h => h) (Or.inl ⟨by rfl, ?_⟩)  ?_
              · intro w hSw
                (try dsimp only at hSw)
                dsimp only [bdo1x5]
                go_simp
              simp only [Act.put, List.setIfInBounds_toArray, List.set_cons_zero, List.set_cons_succ]
              refine wpAnyX_pure (i := 6) (oi := bdo1x6) (v := (.agg #[.bool nh, .slice adh xh.length qh])) rfl (by kernel_rfl) (fun _ _ _ h => h) (Or.inl ⟨by rfl, ?_⟩)  ?_
              · intro w hSw
                (try dsimp only at hSw)
                dsimp only [bdo1x6]
                go_simp
              simp only [Act.put, List.setIfInBounds_toArray, List.set_cons_zero, List.set_cons_succ]
              refine wpAnyX_pure (i := 7) (oi := bdo1x7) (v := (.agg #[.bool ng, .slice adg xg.length qg])) rfl (by kernel_rfl) (fun _ _ _ h => h) (Or.inl ⟨by rfl, ?_⟩)  ?_
              · intro w hSw
                (try dsimp only at hSw)
                dsimp only [bdo1x7]
                go_simp
              simp only [Act.put, List.setIfInBounds_toArray, List.set_cons_zero, List.set_cons_succ]
              refine wpAnyX_pure (i := 8) (oi := bdo1x8) (v := (.int .i64 0)) rfl (by kernel_rfl) (fun _ _ _ h => h) (Or.inl ⟨by rfl, ?_⟩)  ?_
              · intro w hSw
                (try dsimp only at hSw)
                dsimp only [bdo1x8]
                go_simp
              simp only [Act.put, List.setIfInBounds_toArray, List.set_cons_zero, List.set_cons_succ]
              refine wpAnyX_one (i := 11) (o := bdo1x11) (by kernel_rfl) rfl (fun K hK => ?_)
              dsimp only [bdo1x11]
              have cN30 := PN3.out.c0
              have cN31 := PN3.out.c1
              have fN30 := PN3.out.fz 0
              have fN31 := PN3.out.fz 1
              go_simp
              clear cN30 cN31 fN30 fN31
              obtain ⟨V151, hW⟩ : ∃ V151, (w149.setCell ⟨w139.heap.size, 0, none⟩ (.bool nh)).setCell ⟨w139.heap.size, 1, none⟩ (.slice adh xh.length qh) = V151 := ⟨_, rfl⟩
              replace Zh := hid ((Zh.out).box (PN3.out) (.bool nh) (.slice adh xh.length qh))
              replace Po := hid ((Po.out).box (b' := w139.heap.size) (by omega) (.bool nh) (.slice adh xh.length qh))
              replace PN4 := hid ((PN4.out).box (b' := w139.heap.size) (by omega) (.bool nh) (.slice adh xh.length qh))
              replace PN3 := hid ((PN3.out).set (.bool nh) (.slice adh xh.length qh))
              replace G : Hid (Below w.heap.size w (((w149.setCell ⟨w139.heap.size, 0, none⟩ (.bool nh)).setCell ⟨w139.heap.size, 1, none⟩ (.slice adh xh.length qh)))) := bset (bset (G.out) (by omega)) (by omega)
              replace GR : Hid (Below W0.heap.size W0 (((w149.setCell ⟨w139.heap.size, 0, none⟩ (.bool nh)).setCell ⟨w139.heap.size, 1, none⟩ (.slice adh xh.length qh)))) := bset (bset (GR.out) (by omega)) (by omega)
              have sz151 : V151.heap.size = w149.heap.size := by rw [← hW]; simp
              rw [hW] at Zh Po PN4 PN3 G GR
              rw [hW]
              clear hW
              refine hK.out _ _ (fun _ _ => ⟨Po.out.c0, Po.out.c1⟩) ?_
              clear hK
              try simp only [Act.put]
              refine wpAnyX_one (i := 12) (o := bdo1x12) (by kernel_rfl) rfl (fun K hK => ?_)
              dsimp only [bdo1x12]
              have cN40 := PN4.out.c0
              have cN41 := PN4.out.c1
              have fN40 := PN4.out.fz 0
              have fN41 := PN4.out.fz 1
              go_simp
              clear cN40 cN41 fN40 fN41
              obtain ⟨V152, hW⟩ : ∃ V152, (V151.setCell ⟨w3.heap.size, 0, none⟩ (.bool ng)).setCell ⟨w3.heap.size, 1, none⟩ (.slice adg xg.length qg) = V152 := ⟨_, rfl⟩
              replace Zh := hid ((Zh.out).box (PN4.out) (.bool ng) (.slice adg xg.length qg))
              replace Po := hid ((Po.out).box (b' := w3.heap.size) (by omega) (.bool ng) (.slice adg xg.length qg))
              replace PN4 := hid ((PN4.out).set (.bool ng) (.slice adg xg.length qg))
              replace PN3 := hid ((PN3.out).box (b' := w3.heap.size) (by omega) (.bool ng) (.slice adg xg.length qg))
              replace G : Hid (Below w.heap.size w (((V151.setCell ⟨w3.heap.size, 0, none⟩ (.bool ng)).setCell ⟨w3.heap.size, 1, none⟩ (.slice adg xg.length qg)))) := bset (bset (G.out) (by omega)) (by omega)
              replace GR : Hid (Below W0.heap.size W0 (((V151.setCell ⟨w3.heap.size, 0, none⟩ (.bool ng)).setCell ⟨w3.heap.size, 1, none⟩ (.slice adg xg.length qg)))) := bset (bset (GR.out) (by omega)) (by omega)
              have sz152 : V152.heap.size = V151.heap.size := by rw [← hW]; simp
              rw [hW] at Zh Po PN4 PN3 G GR
              rw [hW]
              clear hW
              refine hK.out _ _ (fun _ _ => ⟨Po.out.c0, Po.out.c1⟩) ?_
              clear hK
              try simp only [Act.put]
              refine wpAnyX_pure (i := 13) (oi := bdo1x13) (v := (.int .i64 0)) rfl (by kernel_rfl) (fun _ _ _ h => h) (Or.inl ⟨by rfl, ?_⟩)  ?_
              · intro w hSw
                (try dsimp only at hSw)
                dsimp only [bdo1x13]
                go_simp
              simp only [Act.put, List.setIfInBounds_toArray, List.set_cons_zero, List.set_cons_succ]
              refine wpAnyX_done (by kernel_rfl) ?_ _
              go_wp2_with fail
              go_meet
              exact ⟨⟨_, _, _, _, _, rfl, GR.out, by omega, PN3.out.blk, PN3.out, Zh.out.mono (by omega)⟩, rfl⟩
          · skip
            dsimp only [bdo1x9]
            go_simp
            obtain ⟨V153, hW⟩ : ∃ V153, w137.alloc zbox = V153 := ⟨_, rfl⟩
            obtain ⟨kW, sz153⟩ := alloc1 w137 zbox
            rw [hW] at kW sz153
            replace sz153 : w137.heap.size < V153.heap.size := by omega
            replace Zd := hid (Zd.out.now kW)
            replace Po := hid (Po.out.step kW)
            replace PN4 := hid (PN4.out.step kW)
            replace G := hid (below_step G.out kW)
            replace GR := hid (below_step GR.out kW)
            have lz154 := (show Below _ _ _ from kW).size
            have PN3 : Hid (Duo V153 (w137.heap.size) (.bool false) (.slice none 0 0)) := by unfold Hid; rw [← hW]; exact duo_at rfl
            rw [hW]
            clear hW kW
            refine hK.out _ _ (fun _ _ => ⟨Po.out.c0, Po.out.c1⟩) ?_
            clear hK
            try simp only [Act.put]
            refine wpAnyX_one (i := 3) (o := bdo1x3) (by kernel_rfl) rfl (fun K hK => ?_)
            dsimp only [bdo1x3]
            go_simp
            go_at_call 20
            refine (of_z (n := 2) (by decide) (by decide) _).mono ?_
            rintro e w155 ⟨r0, rfl, m0, b⟩
            obtain ⟨nt, xt, adt, qt, rfl, -, -, -, -, -⟩ := id m0
            replace Zd := hid (Zd.out.now b)
            replace Po := hid (Po.out.step b)
            replace PN4 := hid (PN4.out.step b)
            replace PN3 := hid (PN3.out.step b)
            replace G := hid (below_step G.out b)
            replace GR := hid (below_step GR.out b)
            have lz156 := (show Below _ _ _ from b).size
            have Zt := hid m0
            clear b m0
            refine hK.out _ _ (fun _ _ => ⟨Po.out.c0, Po.out.c1⟩) ?_
            clear hK
            refine wpAnyX_one (i := 4) (o := bdo1x4) (by kernel_rfl) rfl (fun K hK => ?_)
            dsimp only [bdo1x4]
            go_simp
            go_at_call 46
            refine (floor_z Zd.out.zi Zt.out.zi (by decide) (by omega) (by omega)).mono ?_
            rintro e w157 ⟨r0, r1, rfl, m0, m1, b⟩
            obtain ⟨nh, xh, adh, qh, rfl, -, -, -, -, -⟩ := id m0
            obtain ⟨ng, xg, adg, qg, rfl, -, -, -, -, -⟩ := id m1
            replace Zd := hid (Zd.out.now b)
            replace Zt := hid (Zt.out.now b)
            replace Po := hid (Po.out.step b)
            replace PN4 := hid (PN4.out.step b)
            replace PN3 := hid (PN3.out.step b)
            replace G := hid (below_step G.out b)
            replace GR := hid (below_step GR.out b)
            have lz158 := (show Below _ _ _ from b).size
            have Zh := hid m0
            have Zg := hid m1
            clear b m0 m1
            clear Zd
            clear Zt
            clear Zg
            refine hK.out _ _ (fun _ _ => ⟨Po.out.c0, Po.out.c1⟩) ?_
            clear hK
            refine wpAnyX_pure (i := 5) (oi := bdo1x5) (v := (.tuple #[(.agg #[.bool nh, .slice adh xh.length qh]), (.agg #[.bool ng, .slice adg xg.length qg]), (.int .i64 0)])) rfl (by kernel_rfl) (fun _ _ _ h => h) (Or.inl ⟨by rfl, ?_⟩)  ?_
            · intro w hSw
              (try dsimp only at hSw)
              dsimp only [bdo1x5]
              go_simp
            simp only [Act.put, List.setIfInBounds_toArray, List.set_cons_zero, List.set_cons_succ]
            refine wpAnyX_pure (i := 6) (oi := bdo1x6) (v := (.agg #[.bool nh, .slice adh xh.length qh])) rfl (by kernel_rfl) (fun _ _ _ h => h) (Or.inl ⟨by rfl, ?_⟩)  ?_
            · intro w hSw
              (try dsimp only at hSw)
              dsimp only [bdo1x6]
              go_simp
            simp only [Act.put, List.setIfInBounds_toArray, List.set_cons_zero, List.set_cons_succ]
            refine wpAnyX_pure (i := 7) (oi := bdo1x7) (v := (.agg #[.bool ng, .slice adg xg.length qg])) rfl (by kernel_rfl) (fun _ _ _ h => h) (Or.inl ⟨by rfl, ?_⟩)  ?_
            · intro w hSw
              (try dsimp only at hSw)
              dsimp only [bdo1x7]
              go_simp
            simp only [Act.put, List.setIfInBounds_toArray, List.set_cons_zero, List.set_cons_succ]
            refine wpAnyX_pure (i := 8) (oi := bdo1x8) (v := (.int .i64 0)) rfl (by kernel_rfl) (fun _ _ _ h => h) (Or.inl ⟨by rfl, ?_⟩)  ?_
            · intro w hSw
              (try dsimp only at hSw)
              dsimp only [bdo1x8]
              go_simp
            simp only [Act.put, List.setIfInBounds_toArray, List.set_cons_zero, List.set_cons_succ]
            refine wpAnyX_one (i := 11) (o := bdo1x11) (by kernel_rfl) rfl (fun K hK => ?_)
            dsimp only [bdo1x11]
            have cN30 := PN3.out.c0
            have cN31 := PN3.out.c1
            have fN30 := PN3.out.fz 0
            have fN31 := PN3.out.fz 1
            go_simp
            clear cN30 cN31 fN30 fN31
            obtain ⟨V159, hW⟩ : ∃ V159, (w157.setCell ⟨w137.heap.size, 0, none⟩ (.bool nh)).setCell ⟨w137.heap.size, 1, none⟩ (.slice adh xh.length qh) = V159 := ⟨_, rfl⟩
            replace Zh := hid ((Zh.out).box (PN3.out) (.bool nh) (.slice adh xh.length qh))
            replace Po := hid ((Po.out).box (b' := w137.heap.size) (by omega) (.bool nh) (.slice adh xh.length qh))
            replace PN4 := hid ((PN4.out).box (b' := w137.heap.size) (by omega) (.bool nh) (.slice adh xh.length qh))
            replace PN3 := hid ((PN3.out).set (.bool nh) (.slice adh xh.length qh))
            replace G : Hid (Below w.heap.size w (((w157.setCell ⟨w137.heap.size, 0, none⟩ (.bool nh)).setCell ⟨w137.heap.size, 1, none⟩ (.slice adh xh.length qh)))) := bset (bset (G.out) (by omega)) (by omega)
            replace GR : Hid (Below W0.heap.size W0 (((w157.setCell ⟨w137.heap.size, 0, none⟩ (.bool nh)).setCell ⟨w137.heap.size, 1, none⟩ (.slice adh xh.length qh)))) := bset (bset (GR.out) (by omega)) (by omega)
            have sz159 : V159.heap.size = w157.heap.size := by rw [← hW]; simp
            rw [hW] at Zh Po PN4 PN3 G GR
            rw [hW]
            clear hW
            refine hK.out _ _ (fun _ _ => ⟨Po.out.c0, Po.out.c1⟩) ?_
            clear hK
            try simp only [Act.put]
            refine wpAnyX_one (i := 12) (o := bdo1x12) (by kernel_rfl) rfl (fun K hK => ?_)
            dsimp only [bdo1x12]
            have cN40 := PN4.out.c0
            have cN41 := PN4.out.c1
            have fN40 := PN4.out.fz 0
            have fN41 := PN4.out.fz 1
            go_simp
            clear cN40 cN41 fN40 fN41
            obtain ⟨V160, hW⟩ : ∃ V160, (V159.setCell ⟨w3.heap.size, 0, none⟩ (.bool ng)).setCell ⟨w3.heap.size, 1, none⟩ (.slice adg xg.length qg) = V160 := ⟨_, rfl⟩
            replace Zh := hid ((Zh.out).box (PN4.out) (.bool ng) (.slice adg xg.length qg))
            replace Po := hid ((Po.out).box (b' := w3.heap.size) (by omega) (.bool ng) (.slice adg xg.length qg))
            replace PN4 := hid ((PN4.out).set (.bool ng) (.slice adg xg.length qg))
            replace PN3 := hid ((PN3.out).box (b' := w3.heap.size) (by omega) (.bool ng) (.slice adg xg.length qg))
            replace G : Hid (Below w.heap.size w (((V159.setCell ⟨w3.heap.size, 0, none⟩ (.bool ng)).setCell ⟨w3.heap.size, 1, none⟩ (.slice adg xg.length qg)))) := bset (bset (G.out) (by omega)) (by omega)
            replace GR : Hid (Below W0.heap.size W0 (((V159.setCell ⟨w3.heap.size, 0, none⟩ (.bool ng)).setCell ⟨w3.heap.size, 1, none⟩ (.slice adg xg.length qg)))) := bset (bset (GR.out) (by omega)) (by omega)
            have sz160 : V160.heap.size = V159.heap.size := by rw [← hW]; simp
            rw [hW] at Zh Po PN4 PN3 G GR
            rw [hW]
            clear hW
            refine hK.out _ _ (fun _ _ => ⟨Po.out.c0, Po.out.c1⟩) ?_
            clear hK
            try simp only [Act.put]
            refine wpAnyX_pure (i := 13) (oi := bdo1x13) (v := (.int .i64 0)) rfl (by kernel_rfl) (fun _ _ _ h => h) (Or.inl ⟨by rfl, ?_⟩)  ?_
            · intro w hSw
              (try dsimp only at hSw)
              dsimp only [bdo1x13]
              go_simp
            simp only [Act.put, List.setIfInBounds_toArray, List.set_cons_zero, List.set_cons_succ]
            refine wpAnyX_done (by kernel_rfl) ?_ _
            go_wp2_with fail
            go_meet
            exact ⟨⟨_, _, _, _, _, rfl, GR.out, by omega, PN3.out.blk, PN3.out, Zh.out.mono (by omega)⟩, rfl⟩
        · skip
          dsimp only [bdo1x9]
          go_simp
          obtain ⟨V161, hW⟩ : ∃ V161, V135.alloc zbox = V161 := ⟨_, rfl⟩
          obtain ⟨kW, sz161⟩ := alloc1 V135 zbox
          rw [hW] at kW sz161
          replace sz161 : V135.heap.size < V161.heap.size := by omega
          replace Zo := hid (Zo.out.now kW)
          replace Zp := hid (Zp.out.now kW)
          replace Po := hid (Po.out.step kW)
          replace PN4 := hid (PN4.out.step kW)
          replace G := hid (below_step G.out kW)
          replace GR := hid (below_step GR.out kW)
          have lz162 := (show Below _ _ _ from kW).size
          have PN3 : Hid (Duo V161 (V135.heap.size) (.bool false) (.slice none 0 0)) := by unfold Hid; rw [← hW]; exact duo_at rfl
          rw [hW]
          clear hW kW
          refine hK.out _ _ (fun _ _ => ⟨Po.out.c0, Po.out.c1⟩) ?_
          clear hK
          try simp only [Act.put]
          refine wpAnyX_one (i := 2) (o := bdo1x2) (by kernel_rfl) rfl (fun K hK => ?_)
          dsimp only [bdo1x2]
          go_simp
          go_at_call 18
          refine (sub_z Zo.out Zp.out.zi (by omega) (by omega)).mono ?_
          rintro e w163 ⟨r0, rfl, m0, b⟩
          obtain ⟨nd, xd, add, qd, rfl, -, -, -, -, -⟩ := id m0
          replace Zo := hid (Zo.out.now b)
          replace Zp := hid (Zp.out.now b)
          replace Po := hid (Po.out.step b)
          replace PN4 := hid (PN4.out.step b)
          replace PN3 := hid (PN3.out.step b)
          replace G := hid (below_step G.out b)
          replace GR := hid (below_step GR.out b)
          have lz164 := (show Below _ _ _ from b).size
          have Zd := hid m0
          clear b m0
          clear Zp
          clear Zo
          refine hK.out _ _ (fun _ _ => ⟨Po.out.c0, Po.out.c1⟩) ?_
          clear hK
          refine wpAnyX_one (i := 3) (o := bdo1x3) (by kernel_rfl) rfl (fun K hK => ?_)
          dsimp only [bdo1x3]
          go_simp
          go_at_call 20
          refine (of_z (n := 2) (by decide) (by decide) _).mono ?_
          rintro e w165 ⟨r0, rfl, m0, b⟩
          obtain ⟨nt, xt, adt, qt, rfl, -, -, -, -, -⟩ := id m0
          replace Zd := hid (Zd.out.now b)
          replace Po := hid (Po.out.step b)
          replace PN4 := hid (PN4.out.step b)
          replace PN3 := hid (PN3.out.step b)
          replace G := hid (below_step G.out b)
          replace GR := hid (below_step GR.out b)
          have lz166 := (show Below _ _ _ from b).size
          have Zt := hid m0
          clear b m0
          refine hK.out _ _ (fun _ _ => ⟨Po.out.c0, Po.out.c1⟩) ?_
          clear hK
          refine wpAnyX_one (i := 4) (o := bdo1x4) (by kernel_rfl) rfl (fun K hK => ?_)
          dsimp only [bdo1x4]
          go_simp
          go_at_call 46
          refine (floor_z Zd.out.zi Zt.out.zi (by decide) (by omega) (by omega)).mono ?_
          rintro e w167 ⟨r0, r1, rfl, m0, m1, b⟩
          obtain ⟨nh, xh, adh, qh, rfl, -, -, -, -, -⟩ := id m0
          obtain ⟨ng, xg, adg, qg, rfl, -, -, -, -, -⟩ := id m1
          replace Zd := hid (Zd.out.now b)
          replace Zt := hid (Zt.out.now b)
          replace Po := hid (Po.out.step b)
          replace PN4 := hid (PN4.out.step b)
          replace PN3 := hid (PN3.out.step b)
          replace G := hid (below_step G.out b)
          replace GR := hid (below_step GR.out b)
          have lz168 := (show Below _ _ _ from b).size
          have Zh := hid m0
          have Zg := hid m1
          clear b m0 m1
          clear Zd
          clear Zt
          clear Zg
          refine hK.out _ _ (fun _ _ => ⟨Po.out.c0, Po.out.c1⟩) ?_
          clear hK
          refine wpAnyX_pure (i := 5) (oi := bdo1x5) (v := (.tuple #[(.agg #[.bool nh, .slice adh xh.length qh]), (.agg #[.bool ng, .slice adg xg.length qg]), (.int .i64 0)])) rfl (by kernel_rfl) (fun _ _ _ h => h) (Or.inl ⟨by rfl, ?_⟩)  ?_
          · intro w hSw
            (try dsimp only at hSw)
            dsimp only [bdo1x5]
            go_simp
          simp only [Act.put, List.setIfInBounds_toArray, List.set_cons_zero, List.set_cons_succ]
          refine wpAnyX_pure (i := 6) (oi := bdo1x6) (v := (.agg #[.bool nh, .slice adh xh.length qh])) rfl (by kernel_rfl) (fun _ _ _ h => h) (Or.inl ⟨by rfl, ?_⟩)  ?_
          · intro w hSw
            (try dsimp only at hSw)
            dsimp only [bdo1x6]
            go_simp
          simp only [Act.put, List.setIfInBounds_toArray, List.set_cons_zero, List.set_cons_succ]
          refine wpAnyX_pure (i := 7) (oi := bdo1x7) (v := (.agg #[.bool ng, .slice adg xg.length qg])) rfl (by kernel_rfl) (fun _ _ _ h => h) (Or.inl ⟨by rfl, ?_⟩)  ?_
          · intro w hSw
            (try dsimp only at hSw)
            dsimp only [bdo1x7]
            go_simp
          simp only [Act.put, List.setIfInBounds_toArray, List.set_cons_zero, List.set_cons_succ]
          refine wpAnyX_pure (i := 8) (oi := bdo1x8) (v := (.int .i64 0)) rfl (by kernel_rfl) (fun _ _ _ h => h) (Or.inl ⟨by rfl, ?_⟩)  ?_
          · intro w hSw
            (try dsimp only at hSw)
            dsimp only [bdo1x8]
            go_simp
          simp only [Act.put, List.setIfInBounds_toArray, List.set_cons_zero, List.set_cons_succ]
          refine wpAnyX_one (i := 11) (o := bdo1x11) (by kernel_rfl) rfl (fun K hK => ?_)
          dsimp only [bdo1x11]
          have cN30 := PN3.out.c0
          have cN31 := PN3.out.c1
          have fN30 := PN3.out.fz 0
          have fN31 := PN3.out.fz 1
          go_simp
          clear cN30 cN31 fN30 fN31
          obtain ⟨V169, hW⟩ : ∃ V169, (w167.setCell ⟨V135.heap.size, 0, none⟩ (.bool nh)).setCell ⟨V135.heap.size, 1, none⟩ (.slice adh xh.length qh) = V169 := ⟨_, rfl⟩
          replace Zh := hid ((Zh.out).box (PN3.out) (.bool nh) (.slice adh xh.length qh))
          replace Po := hid ((Po.out).box (b' := V135.heap.size) (by omega) (.bool nh) (.slice adh xh.length qh))
          replace PN4 := hid ((PN4.out).box (b' := V135.heap.size) (by omega) (.bool nh) (.slice adh xh.length qh))
          replace PN3 := hid ((PN3.out).set (.bool nh) (.slice adh xh.length qh))
          replace G : Hid (Below w.heap.size w (((w167.setCell ⟨V135.heap.size, 0, none⟩ (.bool nh)).setCell ⟨V135.heap.size, 1, none⟩ (.slice adh xh.length qh)))) := bset (bset (G.out) (by omega)) (by omega)
          replace GR : Hid (Below W0.heap.size W0 (((w167.setCell ⟨V135.heap.size, 0, none⟩ (.bool nh)).setCell ⟨V135.heap.size, 1, none⟩ (.slice adh xh.length qh)))) := bset (bset (GR.out) (by omega)) (by omega)
          have sz169 : V169.heap.size = w167.heap.size := by rw [← hW]; simp
          rw [hW] at Zh Po PN4 PN3 G GR
          rw [hW]
          clear hW
          refine hK.out _ _ (fun _ _ => ⟨Po.out.c0, Po.out.c1⟩) ?_
          clear hK
          try simp only [Act.put]
          refine wpAnyX_one (i := 12) (o := bdo1x12) (by kernel_rfl) rfl (fun K hK => ?_)
          dsimp only [bdo1x12]
          have cN40 := PN4.out.c0
          have cN41 := PN4.out.c1
          have fN40 := PN4.out.fz 0
          have fN41 := PN4.out.fz 1
          go_simp
          clear cN40 cN41 fN40 fN41
          obtain ⟨V170, hW⟩ : ∃ V170, (V169.setCell ⟨w3.heap.size, 0, none⟩ (.bool ng)).setCell ⟨w3.heap.size, 1, none⟩ (.slice adg xg.length qg) = V170 := ⟨_, rfl⟩
          replace Zh := hid ((Zh.out).box (PN4.out) (.bool ng) (.slice adg xg.length qg))
          replace Po := hid ((Po.out).box (b' := w3.heap.size) (by omega) (.bool ng) (.slice adg xg.length qg))
          replace PN4 := hid ((PN4.out).set (.bool ng) (.slice adg xg.length qg))
          replace PN3 := hid ((PN3.out).box (b' := w3.heap.size) (by omega) (.bool ng) (.slice adg xg.length qg))
          replace G : Hid (Below w.heap.size w (((V169.setCell ⟨w3.heap.size, 0, none⟩ (.bool ng)).setCell ⟨w3.heap.size, 1, none⟩ (.slice adg xg.length qg)))) := bset (bset (G.out) (by omega)) (by omega)
          replace GR : Hid (Below W0.heap.size W0 (((V169.setCell ⟨w3.heap.size, 0, none⟩ (.bool ng)).setCell ⟨w3.heap.size, 1, none⟩ (.slice adg xg.length qg)))) := bset (bset (GR.out) (by omega)) (by omega)
          have sz170 : V170.heap.size = V169.heap.size := by rw [← hW]; simp
          rw [hW] at Zh Po PN4 PN3 G GR
          rw [hW]
          clear hW
          refine hK.out _ _ (fun _ _ => ⟨Po.out.c0, Po.out.c1⟩) ?_
          clear hK
          try simp only [Act.put]
          refine wpAnyX_pure (i := 13) (oi := bdo1x13) (v := (.int .i64 0)) rfl (by kernel_rfl) (fun _ _ _ h => h) (Or.inl ⟨by rfl, ?_⟩)  ?_
          · intro w hSw
            (try dsimp only at hSw)
            dsimp only [bdo1x13]
            go_simp
          simp only [Act.put, List.setIfInBounds_toArray, List.set_cons_zero, List.set_cons_succ]
          refine wpAnyX_done (by kernel_rfl) ?_ _
          go_wp2_with fail
          go_meet
          exact ⟨⟨_, _, _, _, _, rfl, GR.out, by omega, PN3.out.blk, PN3.out, Zh.out.mono (by omega)⟩, rfl⟩
    · skip
      dsimp only [bdo1x9]
      go_simp
      obtain ⟨V171, hW⟩ : ∃ V171, D1.alloc zbox = V171 := ⟨_, rfl⟩
      obtain ⟨kW, sz171⟩ := alloc1 D1 zbox
      rw [hW] at kW sz171
      replace sz171 : D1.heap.size < V171.heap.size := by omega
      replace Zo := hid (Zo.out.now kW)
      replace Po := hid (Po.out.step kW)
      replace G := hid (below_step G.out kW)
      replace GR := hid (below_step GR.out kW)
      have lz172 := (show Below _ _ _ from kW).size
      have PN3 : Hid (Duo V171 (D1.heap.size) (.bool false) (.slice none 0 0)) := by unfold Hid; rw [← hW]; exact duo_at rfl
      rw [hW]
      clear hW kW
      refine hK.out _ _ (fun _ _ => ⟨Po.out.c0, Po.out.c1⟩) ?_
      clear hK
      try simp only [Act.put]
      refine wpAnyX_two (i := 1) (j := 10) (oi := bdo1x1) (oj := bdo1x10) (by kernel_rfl) rfl rfl (fun K hK => ?_) (fun K hK => ?_)
      · skip
        dsimp only [bdo1x1]
        go_simp
        go_at_call 20
        refine (of_z (n := 1) (by decide) (by decide) _).mono ?_
        rintro e w173 ⟨r0, rfl, m0, b⟩
        obtain ⟨np, xp, adp, qp, rfl, -, -, -, -, -⟩ := id m0
        replace Zo := hid (Zo.out.now b)
        replace Po := hid (Po.out.step b)
        replace PN3 := hid (PN3.out.step b)
        replace G := hid (below_step G.out b)
        replace GR := hid (below_step GR.out b)
        have lz174 := (show Below _ _ _ from b).size
        have Zp := hid m0
        clear b m0
        refine hK.out _ _ (fun _ _ => ⟨Po.out.c0, Po.out.c1⟩) ?_
        clear hK
        refine wpAnyX_two (i := 2) (j := 10) (oi := bdo1x2) (oj := bdo1x10) (by kernel_rfl) rfl rfl (fun K hK => ?_) (fun K hK => ?_)
        · skip
          dsimp only [bdo1x2]
          go_simp
          go_at_call 18
          refine (sub_z Zo.out Zp.out.zi (by omega) (by omega)).mono ?_
          rintro e w175 ⟨r0, rfl, m0, b⟩
          obtain ⟨nd, xd, add, qd, rfl, -, -, -, -, -⟩ := id m0
          replace Zo := hid (Zo.out.now b)
          replace Zp := hid (Zp.out.now b)
          replace Po := hid (Po.out.step b)
          replace PN3 := hid (PN3.out.step b)
          replace G := hid (below_step G.out b)
          replace GR := hid (below_step GR.out b)
          have lz176 := (show Below _ _ _ from b).size
          have Zd := hid m0
          clear b m0
          clear Zp
          clear Zo
          refine hK.out _ _ (fun _ _ => ⟨Po.out.c0, Po.out.c1⟩) ?_
          clear hK
          refine wpAnyX_two (i := 3) (j := 10) (oi := bdo1x3) (oj := bdo1x10) (by kernel_rfl) rfl rfl (fun K hK => ?_) (fun K hK => ?_)
          · skip
            dsimp only [bdo1x3]
            go_simp
            go_at_call 20
            refine (of_z (n := 2) (by decide) (by decide) _).mono ?_
            rintro e w177 ⟨r0, rfl, m0, b⟩
            obtain ⟨nt, xt, adt, qt, rfl, -, -, -, -, -⟩ := id m0
            replace Zd := hid (Zd.out.now b)
            replace Po := hid (Po.out.step b)
            replace PN3 := hid (PN3.out.step b)
            replace G := hid (below_step G.out b)
            replace GR := hid (below_step GR.out b)
            have lz178 := (show Below _ _ _ from b).size
            have Zt := hid m0
            clear b m0
            refine hK.out _ _ (fun _ _ => ⟨Po.out.c0, Po.out.c1⟩) ?_
            clear hK
            refine wpAnyX_two (i := 4) (j := 10) (oi := bdo1x4) (oj := bdo1x10) (by kernel_rfl) rfl rfl (fun K hK => ?_) (fun K hK => ?_)
            · skip
              dsimp only [bdo1x4]
              go_simp
              go_at_call 46
              refine (floor_z Zd.out.zi Zt.out.zi (by decide) (by omega) (by omega)).mono ?_
              rintro e w179 ⟨r0, r1, rfl, m0, m1, b⟩
              obtain ⟨nh, xh, adh, qh, rfl, -, -, -, -, -⟩ := id m0
              obtain ⟨ng, xg, adg, qg, rfl, -, -, -, -, -⟩ := id m1
              replace Zd := hid (Zd.out.now b)
              replace Zt := hid (Zt.out.now b)
              replace Po := hid (Po.out.step b)
              replace PN3 := hid (PN3.out.step b)
              replace G := hid (below_step G.out b)
              replace GR := hid (below_step GR.out b)
              have lz180 := (show Below _ _ _ from b).size
              have Zh := hid m0
              have Zg := hid m1
              clear b m0 m1
              clear Zd
              clear Zt
              clear Zg
              refine hK.out _ _ (fun _ _ => ⟨Po.out.c0, Po.out.c1⟩) ?_
              clear hK
              refine wpAnyX_pure (i := 5) (oi := bdo1x5) (v := (.tuple #[(.agg #[.bool nh, .slice adh xh.length qh]), (.agg #[.bool ng, .slice adg xg.length qg]), (.int .i64 0)])) rfl (by kernel_rfl) (fun _ _ _ h => h) (Or.inl ⟨by rfl, ?_⟩)  ?_
              · intro w hSw
                (try dsimp only at hSw)
                dsimp only [bdo1x5]
                go_simp
              simp only [Act.put, List.setIfInBounds_toArray, List.set_cons_zero, List.set_cons_succ]
              refine wpAnyX_pure (i := 6) (oi := bdo1x6) (v := (.agg #[.bool nh, .slice adh xh.length qh])) rfl (by kernel_rfl) (fun _ _ _ h => h) (Or.inl ⟨by rfl, ?_⟩)  ?_
              · intro w hSw
                (try dsimp only at hSw)
                dsimp only [bdo1x6]
                go_simp
              simp only [Act.put, List.setIfInBounds_toArray, List.set_cons_zero, List.set_cons_succ]
              refine wpAnyX_pure (i := 7) (oi := bdo1x7) (v := (.agg #[.bool ng, .slice adg xg.length qg])) rfl (by kernel_rfl) (fun _ _ _ h => h) (Or.inl ⟨by rfl, ?_⟩)  ?_
              · intro w hSw
                (try dsimp only at hSw)
                dsimp only [bdo1x7]
                go_simp
              simp only [Act.put, List.setIfInBounds_toArray, List.set_cons_zero, List.set_cons_succ]
              refine wpAnyX_pure (i := 8) (oi := bdo1x8) (v := (.int .i64 0)) rfl (by kernel_rfl) (fun _ _ _ h => h) (Or.inl ⟨by rfl, ?_⟩)  ?_
              · intro w hSw
                (try dsimp only at hSw)
                dsimp only [bdo1x8]
                go_simp
              simp only [Act.put, List.setIfInBounds_toArray, List.set_cons_zero, List.set_cons_succ]
              refine wpAnyX_one (i := 10) (o := bdo1x10) (by kernel_rfl) rfl (fun K hK => ?_)
              dsimp only [bdo1x10]
              go_simp
              obtain ⟨V181, hW⟩ : ∃ V181, w179.alloc zbox = V181 := ⟨_, rfl⟩
              obtain ⟨kW, sz181⟩ := alloc1 w179 zbox
              rw [hW] at kW sz181
              replace sz181 : w179.heap.size < V181.heap.size := by omega
              replace Zh := hid (Zh.out.now kW)
              replace Po := hid (Po.out.step kW)
              replace PN3 := hid (PN3.out.step kW)
              replace G := hid (below_step G.out kW)
              replace GR := hid (below_step GR.out kW)
              have lz182 := (show Below _ _ _ from kW).size
              have PN4 : Hid (Duo V181 (w179.heap.size) (.bool false) (.slice none 0 0)) := by unfold Hid; rw [← hW]; exact duo_at rfl
              rw [hW]
              clear hW kW
              refine hK.out _ _ (fun _ _ => ⟨Po.out.c0, Po.out.c1⟩) ?_
              clear hK
              try simp only [Act.put]
              refine wpAnyX_one (i := 11) (o := bdo1x11) (by kernel_rfl) rfl (fun K hK => ?_)
              dsimp only [bdo1x11]
              have cN30 := PN3.out.c0
              have cN31 := PN3.out.c1
              have fN30 := PN3.out.fz 0
              have fN31 := PN3.out.fz 1
              go_simp
              clear cN30 cN31 fN30 fN31
              obtain ⟨V183, hW⟩ : ∃ V183, (V181.setCell ⟨D1.heap.size, 0, none⟩ (.bool nh)).setCell ⟨D1.heap.size, 1, none⟩ (.slice adh xh.length qh) = V183 := ⟨_, rfl⟩
              replace Zh := hid ((Zh.out).box (PN3.out) (.bool nh) (.slice adh xh.length qh))
              replace Po := hid ((Po.out).box (b' := D1.heap.size) (by omega) (.bool nh) (.slice adh xh.length qh))
              replace PN3 := hid ((PN3.out).set (.bool nh) (.slice adh xh.length qh))
              replace PN4 := hid ((PN4.out).box (b' := D1.heap.size) (by omega) (.bool nh) (.slice adh xh.length qh))
              replace G : Hid (Below w.heap.size w (((V181.setCell ⟨D1.heap.size, 0, none⟩ (.bool nh)).setCell ⟨D1.heap.size, 1, none⟩ (.slice adh xh.length qh)))) := bset (bset (G.out) (by omega)) (by omega)
              replace GR : Hid (Below W0.heap.size W0 (((V181.setCell ⟨D1.heap.size, 0, none⟩ (.bool nh)).setCell ⟨D1.heap.size, 1, none⟩ (.slice adh xh.length qh)))) := bset (bset (GR.out) (by omega)) (by omega)
              have sz183 : V183.heap.size = V181.heap.size := by rw [← hW]; simp
              rw [hW] at Zh Po PN3 PN4 G GR
              rw [hW]
              clear hW
              refine hK.out _ _ (fun _ _ => ⟨Po.out.c0, Po.out.c1⟩) ?_
              clear hK
              try simp only [Act.put]
              refine wpAnyX_one (i := 12) (o := bdo1x12) (by kernel_rfl) rfl (fun K hK => ?_)
              dsimp only [bdo1x12]
              have cN40 := PN4.out.c0
              have cN41 := PN4.out.c1
              have fN40 := PN4.out.fz 0
              have fN41 := PN4.out.fz 1
              go_simp
              clear cN40 cN41 fN40 fN41
              obtain ⟨V184, hW⟩ : ∃ V184, (V183.setCell ⟨w179.heap.size, 0, none⟩ (.bool ng)).setCell ⟨w179.heap.size, 1, none⟩ (.slice adg xg.length qg) = V184 := ⟨_, rfl⟩
              replace Zh := hid ((Zh.out).box (PN4.out) (.bool ng) (.slice adg xg.length qg))
              replace Po := hid ((Po.out).box (b' := w179.heap.size) (by omega) (.bool ng) (.slice adg xg.length qg))
              replace PN3 := hid ((PN3.out).box (b' := w179.heap.size) (by omega) (.bool ng) (.slice adg xg.length qg))
              replace PN4 := hid ((PN4.out).set (.bool ng) (.slice adg xg.length qg))
              replace G : Hid (Below w.heap.size w (((V183.setCell ⟨w179.heap.size, 0, none⟩ (.bool ng)).setCell ⟨w179.heap.size, 1, none⟩ (.slice adg xg.length qg)))) := bset (bset (G.out) (by omega)) (by omega)
              replace GR : Hid (Below W0.heap.size W0 (((V183.setCell ⟨w179.heap.size, 0, none⟩ (.bool ng)).setCell ⟨w179.heap.size, 1, none⟩ (.slice adg xg.length qg)))) := bset (bset (GR.out) (by omega)) (by omega)
              have sz184 : V184.heap.size = V183.heap.size := by rw [← hW]; simp
              rw [hW] at Zh Po PN3 PN4 G GR
              rw [hW]
              clear hW
              refine hK.out _ _ (fun _ _ => ⟨Po.out.c0, Po.out.c1⟩) ?_
              clear hK
              try simp only [Act.put]
              refine wpAnyX_pure (i := 13) (oi := bdo1x13) (v := (.int .i64 0)) rfl (by kernel_rfl) (fun _ _ _ h => h) (Or.inl ⟨by rfl, ?_⟩)  ?_
              · intro w hSw
                (try dsimp only at hSw)
                dsimp only [bdo1x13]
                go_simp
              simp only [Act.put, List.setIfInBounds_toArray, List.set_cons_zero, List.set_cons_succ]
              refine wpAnyX_done (by kernel_rfl) ?_ _
              go_wp2_with fail
              go_meet
              exact ⟨⟨_, _, _, _, _, rfl, GR.out, by omega, PN3.out.blk, PN3.out, Zh.out.mono (by omega)⟩, rfl⟩
            · skip
              dsimp only [bdo1x10]
              go_simp
              obtain ⟨V185, hW⟩ : ∃ V185, w177.alloc zbox = V185 := ⟨_, rfl⟩
              obtain ⟨kW, sz185⟩ := alloc1 w177 zbox
              rw [hW] at kW sz185
              replace sz185 : w177.heap.size < V185.heap.size := by omega
              replace Zd := hid (Zd.out.now kW)
              replace Zt := hid (Zt.out.now kW)
              replace Po := hid (Po.out.step kW)
              replace PN3 := hid (PN3.out.step kW)
              replace G := hid (below_step G.out kW)
              replace GR := hid (below_step GR.out kW)
              have lz186 := (show Below _ _ _ from kW).size
              have PN4 : Hid (Duo V185 (w177.heap.size) (.bool false) (.slice none 0 0)) := by unfold Hid; rw [← hW]; exact duo_at rfl
              rw [hW]
              clear hW kW
              refine hK.out _ _ (fun _ _ => ⟨Po.out.c0, Po.out.c1⟩) ?_
              clear hK
              try simp only [Act.put]
              refine wpAnyX_one (i := 4) (o := bdo1x4) (by kernel_rfl) rfl (fun K hK => ?_)
              dsimp only [bdo1x4]
              go_simp
              go_at_call 46
              refine (floor_z Zd.out.zi Zt.out.zi (by decide) (by omega) (by omega)).mono ?_
              rintro e w187 ⟨r0, r1, rfl, m0, m1, b⟩
              obtain ⟨nh, xh, adh, qh, rfl, -, -, -, -, -⟩ := id m0
              obtain ⟨ng, xg, adg, qg, rfl, -, -, -, -, -⟩ := id m1
              replace Zd := hid (Zd.out.now b)
              replace Zt := hid (Zt.out.now b)
              replace Po := hid (Po.out.step b)
              replace PN3 := hid (PN3.out.step b)
              replace PN4 := hid (PN4.out.step b)
              replace G := hid (below_step G.out b)
              replace GR := hid (below_step GR.out b)
              have lz188 := (show Below _ _ _ from b).size
              have Zh := hid m0
              have Zg := hid m1
              clear b m0 m1
              clear Zd
              clear Zt
              clear Zg
              refine hK.out _ _ (fun _ _ => ⟨Po.out.c0, Po.out.c1⟩) ?_
              clear hK
              refine wpAnyX_pure (i := 5) (oi := bdo1x5) (v := (.tuple #[(.agg #[.bool nh, .slice adh xh.length qh]), (.agg #[.bool ng, .slice adg xg.length qg]), (.int .i64 0)])) rfl (by kernel_rfl) (fun _ _ _ h => h) (Or.inl ⟨by rfl, ?_⟩)  ?_
              · intro w hSw
                (try dsimp only at hSw)
                dsimp only [bdo1x5]
                go_simp
              simp only [Act.put, List.setIfInBounds_toArray, List.set_cons_zero, List.set_cons_succ]
              refine wpAnyX_pure (i := 6) (oi := bdo1x6) (v := (.agg #[.bool nh, .slice adh xh.length qh])) rfl (by kernel_rfl) (fun _ _ _ h => h) (Or.inl ⟨by rfl, ?_⟩)  ?_
              · intro w hSw
                (try dsimp only at hSw)
                dsimp only [bdo1x6]
                go_simp
              simp only [Act.put, List.setIfInBounds_toArray, List.set_cons_zero, List.set_cons_succ]
              refine wpAnyX_pure (i := 7) (oi := bdo1x7) (v := (.agg #[.bool ng, .slice adg xg.length qg])) rfl (by kernel_rfl) (fun _ _ _ h => h) (Or.inl ⟨by rfl, ?_⟩)  ?_
              · intro w hSw
                (try dsimp only at hSw)
                dsimp only [bdo1x7]
                go_simp
              simp only [Act.put, List.setIfInBounds_toArray, List.set_cons_zero, List.set_cons_succ]
              refine wpAnyX_pure (i := 8) (oi := bdo1x8) (v := (.int .i64 0)) rfl (by kernel_rfl) (fun _ _ _ h => h) (Or.inl ⟨by rfl, ?_⟩)  ?_
              · intro w hSw
                (try dsimp only at hSw)
                dsimp only [bdo1x8]
                go_simp
              simp only [Act.put, List.setIfInBounds_toArray, List.set_cons_zero, List.set_cons_succ]
              refine wpAnyX_one (i := 11) (o := bdo1x11) (by kernel_rfl) rfl (fun K hK => ?_)
              dsimp only [bdo1x11]
              have cN30 := PN3.out.c0
              have cN31 := PN3.out.c1
              have fN30 := PN3.out.fz 0
              have fN31 := PN3.out.fz 1
              go_simp
              clear cN30 cN31 fN30 fN31
              obtain ⟨V189, hW⟩ : ∃ V189, (w187.setCell ⟨D1.heap.size, 0, none⟩ (.bool nh)).setCell ⟨D1.heap.size, 1, none⟩ (.slice adh xh.length qh) = V189 := ⟨_, rfl⟩
              replace Zh := hid ((Zh.out).box (PN3.out) (.bool nh) (.slice adh xh.length qh))
              replace Po := hid ((Po.out).box (b' := D1.heap.size) (by omega) (.bool nh) (.slice adh xh.length qh))
              replace PN3 := hid ((PN3.out).set (.bool nh) (.slice adh xh.length qh))
              replace PN4 := hid ((PN4.out).box (b' := D1.heap.size) (by omega) (.bool nh) (.slice adh xh.length qh))
              replace G : Hid (Below w.heap.size w (((w187.setCell ⟨D1.heap.size, 0, none⟩ (.bool nh)).setCell ⟨D1.heap.size, 1, none⟩ (.slice adh xh.length qh)))) := bset (bset (G.out) (by omega)) (by omega)
              replace GR : Hid (Below W0.heap.size W0 (((w187.setCell ⟨D1.heap.size, 0, none⟩ (.bool nh)).setCell ⟨D1.heap.size, 1, none⟩ (.slice adh xh.length qh)))) := bset (bset (GR.out) (by omega)) (by omega)
              have sz189 : V189.heap.size = w187.heap.size := by rw [← hW]; simp
              rw [hW] at Zh Po PN3 PN4 G GR
              rw [hW]
              clear hW
              refine hK.out _ _ (fun _ _ => ⟨Po.out.c0, Po.out.c1⟩) ?_
              clear hK
              try simp only [Act.put]
              refine wpAnyX_one (i := 12) (o := bdo1x12) (by kernel_rfl) rfl (fun K hK => ?_)
              dsimp only [bdo1x12]
              have cN40 := PN4.out.c0
              have cN41 := PN4.out.c1
              have fN40 := PN4.out.fz 0
              have fN41 := PN4.out.fz 1
              go_simp
              clear cN40 cN41 fN40 fN41
              obtain ⟨V190, hW⟩ : ∃ V190, (V189.setCell ⟨w177.heap.size, 0, none⟩ (.bool ng)).setCell ⟨w177.heap.size, 1, none⟩ (.slice adg xg.length qg) = V190 := ⟨_, rfl⟩
              replace Zh := hid ((Zh.out).box (PN4.out) (.bool ng) (.slice adg xg.length qg))
              replace Po := hid ((Po.out).box (b' := w177.heap.size) (by omega) (.bool ng) (.slice adg xg.length qg))
              replace PN3 := hid ((PN3.out).box (b' := w177.heap.size) (by omega) (.bool ng) (.slice adg xg.length qg))
              replace PN4 := hid ((PN4.out).set (.bool ng) (.slice adg xg.length qg))
              replace G : Hid (Below w.heap.size w (((V189.setCell ⟨w177.heap.size, 0, none⟩ (.bool ng)).setCell ⟨w177.heap.size, 1, none⟩ (.slice adg xg.length qg)))) := bset (bset (G.out) (by omega)) (by omega)
              replace GR : Hid (Below W0.heap.size W0 (((V189.setCell ⟨w177.heap.size, 0, none⟩ (.bool ng)).setCell ⟨w177.heap.size, 1, none⟩ (.slice adg xg.length qg)))) := bset (bset (GR.out) (by omega)) (by omega)
              have sz190 : V190.heap.size = V189.heap.size := by rw [← hW]; simp
              rw [hW] at Zh Po PN3 PN4 G GR
              rw [hW]
              clear hW
              refine hK.out _ _ (fun _ _ => ⟨Po.out.c0, Po.out.c1⟩) ?_
              clear hK
              try simp only [Act.put]
              refine wpAnyX_pure (i := 13) (oi := bdo1x13) (v := (.int .i64 0)) rfl (by kernel_rfl) (fun _ _ _ h => h) (Or.inl ⟨by rfl, ?_⟩)  ?_
              · intro w hSw
                (try dsimp only at hSw)
                dsimp only [bdo1x13]
                go_simp
              simp only [Act.put, List.setIfInBounds_toArray, List.set_cons_zero, List.set_cons_succ]
              refine wpAnyX_done (by kernel_rfl) ?_ _
              go_wp2_with fail
              go_meet
              exact ⟨⟨_, _, _, _, _, rfl, GR.out, by omega, PN3.out.blk, PN3.out, Zh.out.mono (by omega)⟩, rfl⟩
          · skip
            dsimp only [bdo1x10]
            go_simp
            obtain ⟨V191, hW⟩ : ∃ V191, w175.alloc zbox = V191 := ⟨_, rfl⟩
            obtain ⟨kW, sz191⟩ := alloc1 w175 zbox
            rw [hW] at kW sz191
            replace sz191 : w175.heap.size < V191.heap.size := by omega
            replace Zd := hid (Zd.out.now kW)
            replace Po := hid (Po.out.step kW)
            replace PN3 := hid (PN3.out.step kW)
            replace G := hid (below_step G.out kW)
            replace GR := hid (below_step GR.out kW)
            have lz192 := (show Below _ _ _ from kW).size
            have PN4 : Hid (Duo V191 (w175.heap.size) (.bool false) (.slice none 0 0)) := by unfold Hid; rw [← hW]; exact duo_at rfl
            rw [hW]
            clear hW kW
            refine hK.out _ _ (fun _ _ => ⟨Po.out.c0, Po.out.c1⟩) ?_
            clear hK
            try simp only [Act.put]
            refine wpAnyX_one (i := 3) (o := bdo1x3) (by kernel_rfl) rfl (fun K hK => ?_)
            dsimp only [bdo1x3]
            go_simp
            go_at_call 20
            refine (of_z (n := 2) (by decide) (by decide) _).mono ?_
            rintro e w193 ⟨r0, rfl, m0, b⟩
            obtain ⟨nt, xt, adt, qt, rfl, -, -, -, -, -⟩ := id m0
            replace Zd := hid (Zd.out.now b)
            replace Po := hid (Po.out.step b)
            replace PN3 := hid (PN3.out.step b)
            replace PN4 := hid (PN4.out.step b)
            replace G := hid (below_step G.out b)
            replace GR := hid (below_step GR.out b)
            have lz194 := (show Below _ _ _ from b).size
            have Zt := hid m0
            clear b m0
            refine hK.out _ _ (fun _ _ => ⟨Po.out.c0, Po.out.c1⟩) ?_
            clear hK
            refine wpAnyX_one (i := 4) (o := bdo1x4) (by kernel_rfl) rfl (fun K hK => ?_)
            dsimp only [bdo1x4]
            go_simp
            go_at_call 46
            refine (floor_z Zd.out.zi Zt.out.zi (by decide) (by omega) (by omega)).mono ?_
            rintro e w195 ⟨r0, r1, rfl, m0, m1, b⟩
            obtain ⟨nh, xh, adh, qh, rfl, -, -, -, -, -⟩ := id m0
            obtain ⟨ng, xg, adg, qg, rfl, -, -, -, -, -⟩ := id m1
            replace Zd := hid (Zd.out.now b)
            replace Zt := hid (Zt.out.now b)
            replace Po := hid (Po.out.step b)
            replace PN3 := hid (PN3.out.step b)
            replace PN4 := hid (PN4.out.step b)
            replace G := hid (below_step G.out b)
            replace GR := hid (below_step GR.out b)
            have lz196 := (show Below _ _ _ from b).size
            have Zh := hid m0
            have Zg := hid m1
            clear b m0 m1
            clear Zd
            clear Zt
            clear Zg
            refine hK.out _ _ (fun _ _ => ⟨Po.out.c0, Po.out.c1⟩) ?_
            clear hK
            refine wpAnyX_pure (i := 5) (oi := bdo1x5) (v := (.tuple #[(.agg #[.bool nh, .slice adh xh.length qh]), (.agg #[.bool ng, .slice adg xg.length qg]), (.int .i64 0)])) rfl (by kernel_rfl) (fun _ _ _ h => h) (Or.inl ⟨by rfl, ?_⟩)  ?_
            · intro w hSw
              (try dsimp only at hSw)
              dsimp only [bdo1x5]
              go_simp
            simp only [Act.put, List.setIfInBounds_toArray, List.set_cons_zero, List.set_cons_succ]
            refine wpAnyX_pure (i := 6) (oi := bdo1x6) (v := (.agg #[.bool nh, .slice adh xh.length qh])) rfl (by kernel_rfl) (fun _ _ _ h => h) (Or.inl ⟨by rfl, ?_⟩)  ?_
            · intro w hSw
              (try dsimp only at hSw)
              dsimp only [bdo1x6]
              go_simp
            simp only [Act.put, List.setIfInBounds_toArray, List.set_cons_zero, List.set_cons_succ]
            refine wpAnyX_pure (i := 7) (oi := bdo1x7) (v := (.agg #[.bool ng, .slice adg xg.length qg])) rfl (by kernel_rfl) (fun _ _ _ h => h) (Or.inl ⟨by rfl, ?_⟩)  ?_
            · intro w hSw
              (try dsimp only at hSw)
              dsimp only [bdo1x7]
              go_simp
            simp only [Act.put, List.setIfInBounds_toArray, List.set_cons_zero, List.set_cons_succ]
            refine wpAnyX_pure (i := 8) (oi := bdo1x8) (v := (.int .i64 0)) rfl (by kernel_rfl) (fun _ _ _ h => h) (Or.inl ⟨by rfl, ?_⟩)  ?_
            · intro w hSw
              (try dsimp only at hSw)
              dsimp only [bdo1x8]
              go_simp
            simp only [Act.put, List.setIfInBounds_toArray, List.set_cons_zero, List.set_cons_succ]
            refine wpAnyX_one (i := 11) (o := bdo1x11) (by kernel_rfl) rfl (fun K hK => ?_)
            dsimp only [bdo1x11]
            have cN30 := PN3.out.c0
            have cN31 := PN3.out.c1
            have fN30 := PN3.out.fz 0
            have fN31 := PN3.out.fz 1
            go_simp
            clear cN30 cN31 fN30 fN31
            obtain ⟨V197, hW⟩ : ∃ V197, (w195.setCell ⟨D1.heap.size, 0, none⟩ (.bool nh)).setCell ⟨D1.heap.size, 1, none⟩ (.slice adh xh.length qh) = V197 := ⟨_, rfl⟩
            replace Zh := hid ((Zh.out).box (PN3.out) (.bool nh) (.slice adh xh.length qh))
            replace Po := hid ((Po.out).box (b' := D1.heap.size) (by omega) (.bool nh) (.slice adh xh.length qh))
            replace PN3 := hid ((PN3.out).set (.bool nh) (.slice adh xh.length qh))
            replace PN4 := hid ((PN4.out).box (b' := D1.heap.size) (by omega) (.bool nh) (.slice adh xh.length qh))
            replace G : Hid (Below w.heap.size w (((w195.setCell ⟨D1.heap.size, 0, none⟩ (.bool nh)).setCell ⟨D1.heap.size, 1, none⟩ (.slice adh xh.length qh)))) := bset (bset (G.out) (by omega)) (by omega)
            replace GR : Hid (Below W0.heap.size W0 (((w195.setCell ⟨D1.heap.size, 0, none⟩ (.bool nh)).setCell ⟨D1.heap.size, 1, none⟩ (.slice adh xh.length qh)))) := bset (bset (GR.out) (by omega)) (by omega)
            have sz197 : V197.heap.size = w195.heap.size := by rw [← hW]; simp
            rw [hW] at Zh Po PN3 PN4 G GR
            rw [hW]
            clear hW
            refine hK.out _ _ (fun _ _ => ⟨Po.out.c0, Po.out.c1⟩) ?_
            clear hK
            try simp only [Act.put]
            refine wpAnyX_one (i := 12) (o := bdo1x12) (by kernel_rfl) rfl (fun K hK => ?_)
            dsimp only [bdo1x12]
            have cN40 := PN4.out.c0
            have cN41 := PN4.out.c1
            have fN40 := PN4.out.fz 0
            have fN41 := PN4.out.fz 1
            go_simp
            clear cN40 cN41 fN40 fN41
            obtain ⟨V198, hW⟩ : ∃ V198, (V197.setCell ⟨w175.heap.size, 0, none⟩ (.bool ng)).setCell ⟨w175.heap.size, 1, none⟩ (.slice adg xg.length qg) = V198 := ⟨_, rfl⟩
            replace Zh := hid ((Zh.out).box (PN4.out) (.bool ng) (.slice adg xg.length qg))
            replace Po := hid ((Po.out).box (b' := w175.heap.size) (by omega) (.bool ng) (.slice adg xg.length qg))
            replace PN3 := hid ((PN3.out).box (b' := w175.heap.size) (by omega) (.bool ng) (.slice adg xg.length qg))
            replace PN4 := hid ((PN4.out).set (.bool ng) (.slice adg xg.length qg))
            replace G : Hid (Below w.heap.size w (((V197.setCell ⟨w175.heap.size, 0, none⟩ (.bool ng)).setCell ⟨w175.heap.size, 1, none⟩ (.slice adg xg.length qg)))) := bset (bset (G.out) (by omega)) (by omega)
            replace GR : Hid (Below W0.heap.size W0 (((V197.setCell ⟨w175.heap.size, 0, none⟩ (.bool ng)).setCell ⟨w175.heap.size, 1, none⟩ (.slice adg xg.length qg)))) := bset (bset (GR.out) (by omega)) (by omega)
            have sz198 : V198.heap.size = V197.heap.size := by rw [← hW]; simp
            rw [hW] at Zh Po PN3 PN4 G GR
            rw [hW]
            clear hW
            refine hK.out _ _ (fun _ _ => ⟨Po.out.c0, Po.out.c1⟩) ?_
            clear hK
            try simp only [Act.put]
            refine wpAnyX_pure (i := 13) (oi := bdo1x13) (v := (.int .i64 0)) rfl (by kernel_rfl) (fun _ _ _ h => h) (Or.inl ⟨by rfl, ?_⟩)  ?_
            · intro w hSw
              (try dsimp only at hSw)
              dsimp only [bdo1x13]
              go_simp
            simp only [Act.put, List.setIfInBounds_toArray, List.set_cons_zero, List.set_cons_succ]
            refine wpAnyX_done (by kernel_rfl) ?_ _
            go_wp2_with fail
            go_meet
            exact ⟨⟨_, _, _, _, _, rfl, GR.out, by omega, PN3.out.blk, PN3.out, Zh.out.mono (by omega)⟩, rfl⟩
        · skip
          dsimp only [bdo1x10]
          go_simp
          obtain ⟨V199, hW⟩ : ∃ V199, w173.alloc zbox = V199 := ⟨_, rfl⟩
          obtain ⟨kW, sz199⟩ := alloc1 w173 zbox
          rw [hW] at kW sz199
          replace sz199 : w173.heap.size < V199.heap.size := by omega
          replace Zo := hid (Zo.out.now kW)
          replace Zp := hid (Zp.out.now kW)
          replace Po := hid (Po.out.step kW)
          replace PN3 := hid (PN3.out.step kW)
          replace G := hid (below_step G.out kW)
          replace GR := hid (below_step GR.out kW)
          have lz200 := (show Below _ _ _ from kW).size
          have PN4 : Hid (Duo V199 (w173.heap.size) (.bool false) (.slice none 0 0)) := by unfold Hid; rw [← hW]; exact duo_at rfl
          rw [hW]
          clear hW kW
          refine hK.out _ _ (fun _ _ => ⟨Po.out.c0, Po.out.c1⟩) ?_
          clear hK
          try simp only [Act.put]
          refine wpAnyX_one (i := 2) (o := bdo1x2) (by kernel_rfl) rfl (fun K hK => ?_)
          dsimp only [bdo1x2]
          go_simp
          go_at_call 18
          refine (sub_z Zo.out Zp.out.zi (by omega) (by omega)).mono ?_
          rintro e w201 ⟨r0, rfl, m0, b⟩
          obtain ⟨nd, xd, add, qd, rfl, -, -, -, -, -⟩ := id m0
          replace Zo := hid (Zo.out.now b)
          replace Zp := hid (Zp.out.now b)
          replace Po := hid (Po.out.step b)
          replace PN3 := hid (PN3.out.step b)
          replace PN4 := hid (PN4.out.step b)
          replace G := hid (below_step G.out b)
          replace GR := hid (below_step GR.out b)
          have lz202 := (show Below _ _ _ from b).size
          have Zd := hid m0
          clear b m0
          clear Zp
          clear Zo
          refine hK.out _ _ (fun _ _ => ⟨Po.out.c0, Po.out.c1⟩) ?_
          clear hK
          refine wpAnyX_one (i := 3) (o := bdo1x3) (by kernel_rfl) rfl (fun K hK => ?_)
          dsimp only [bdo1x3]
          go_simp
          go_at_call 20
          refine (of_z (n := 2) (by decide) (by decide) _).mono ?_
          rintro e w203 ⟨r0, rfl, m0, b⟩
          obtain ⟨nt, xt, adt, qt, rfl, -, -, -, -, -⟩ := id m0
          replace Zd := hid (Zd.out.now b)
          replace Po := hid (Po.out.step b)
          replace PN3 := hid (PN3.out.step b)
          replace PN4 := hid (PN4.out.step b)
          replace G := hid (below_step G.out b)
          replace GR := hid (below_step GR.out b)
          have lz204 := (show Below _ _ _ from b).size
          have Zt := hid m0
          clear b m0
          refine hK.out _ _ (fun _ _ => ⟨Po.out.c0, Po.out.c1⟩) ?_
          clear hK
          refine wpAnyX_one (i := 4) (o := bdo1x4) (by kernel_rfl) rfl (fun K hK => ?_)
          dsimp only [bdo1x4]
          go_simp
          go_at_call 46
          refine (floor_z Zd.out.zi Zt.out.zi (by decide) (by omega) (by omega)).mono ?_
          rintro e w205 ⟨r0, r1, rfl, m0, m1, b⟩
          obtain ⟨nh, xh, adh, qh, rfl, -, -, -, -, -⟩ := id m0
          obtain ⟨ng, xg, adg, qg, rfl, -, -, -, -, -⟩ := id m1
          replace Zd := hid (Zd.out.now b)
          replace Zt := hid (Zt.out.now b)
          replace Po := hid (Po.out.step b)
          replace PN3 := hid (PN3.out.step b)
          replace PN4 := hid (PN4.out.step b)
          replace G := hid (below_step G.out b)
          replace GR := hid (below_step GR.out b)
          have lz206 := (show Below _ _ _ from b).size
          have Zh := hid m0
          have Zg := hid m1
          clear b m0 m1
          clear Zd
          clear Zt
          clear Zg
          refine hK.out _ _ (fun _ _ => ⟨Po.out.c0, Po.out.c1⟩) ?_
          clear hK
          refine wpAnyX_pure (i := 5) (oi := bdo1x5) (v := (.tuple #[(.agg #[.bool nh, .slice adh xh.length qh]), (.agg #[.bool ng, .slice adg xg.length qg]), (.int .i64 0)])) rfl (by kernel_rfl) (fun _ _ _ h => h) (Or.inl ⟨by rfl, ?_⟩)  ?_
          · intro w hSw
            (try dsimp only at hSw)
            dsimp only [bdo1x5]
            go_simp
          simp only [Act.put, List.setIfInBounds_toArray, List.set_cons_zero, List.set_cons_succ]
          refine wpAnyX_pure (i := 6) (oi := bdo1x6) (v := (.agg #[.bool nh, .slice adh xh.length qh])) rfl (by kernel_rfl) (fun _ _ _ h => h) (Or.inl ⟨by rfl, ?_⟩)  ?_
          · intro w hSw
            (try dsimp only at hSw)
            dsimp only [bdo1x6]
            go_simp
          simp only [Act.put, List.setIfInBounds_toArray, List.set_cons_zero, List.set_cons_succ]
          refine wpAnyX_pure (i := 7) (oi := bdo1x7) (v := (.agg #[.bool ng, .slice adg xg.length qg])) rfl (by kernel_rfl) (fun _ _ _ h => h) (Or.inl ⟨by rfl, ?_⟩)  ?_
          · intro w hSw
            (try dsimp only at hSw)
            dsimp only [bdo1x7]
            go_simp
          simp only [Act.put, List.setIfInBounds_toArray, List.set_cons_zero, List.set_cons_succ]
          refine wpAnyX_pure (i := 8) (oi := bdo1x8) (v := (.int .i64 0)) rfl (by kernel_rfl) (fun _ _ _ h => h) (Or.inl ⟨by rfl, ?_⟩)  ?_
          · intro w hSw
            (try dsimp only at hSw)
            dsimp only [bdo1x8]
            go_simp
          simp only [Act.put, List.setIfInBounds_toArray, List.set_cons_zero, List.set_cons_succ]
          refine wpAnyX_one (i := 11) (o := bdo1x11) (by kernel_rfl) rfl (fun K hK => ?_)
          dsimp only [bdo1x11]
          have cN30 := PN3.out.c0
          have cN31 := PN3.out.c1
          have fN30 := PN3.out.fz 0
          have fN31 := PN3.out.fz 1
          go_simp
          clear cN30 cN31 fN30 fN31
          obtain ⟨V207, hW⟩ : ∃ V207, (w205.setCell ⟨D1.heap.size, 0, none⟩ (.bool nh)).setCell ⟨D1.heap.size, 1, none⟩ (.slice adh xh.length qh) = V207 := ⟨_, rfl⟩
          replace Zh := hid ((Zh.out).box (PN3.out) (.bool nh) (.slice adh xh.length qh))
          replace Po := hid ((Po.out).box (b' := D1.heap.size) (by omega) (.bool nh) (.slice adh xh.length qh))
          replace PN3 := hid ((PN3.out).set (.bool nh) (.slice adh xh.length qh))
          replace PN4 := hid ((PN4.out).box (b' := D1.heap.size) (by omega) (.bool nh) (.slice adh xh.length qh))
          replace G : Hid (Below w.heap.size w (((w205.setCell ⟨D1.heap.size, 0, none⟩ (.bool nh)).setCell ⟨D1.heap.size, 1, none⟩ (.slice adh xh.length qh)))) := bset (bset (G.out) (by omega)) (by omega)
          replace GR : Hid (Below W0.heap.size W0 (((w205.setCell ⟨D1.heap.size, 0, none⟩ (.bool nh)).setCell ⟨D1.heap.size, 1, none⟩ (.slice adh xh.length qh)))) := bset (bset (GR.out) (by omega)) (by omega)
          have sz207 : V207.heap.size = w205.heap.size := by rw [← hW]; simp
          rw [hW] at Zh Po PN3 PN4 G GR
          rw [hW]
          clear hW
          refine hK.out _ _ (fun _ _ => ⟨Po.out.c0, Po.out.c1⟩) ?_
          clear hK
          try simp only [Act.put]
          refine wpAnyX_one (i := 12) (o := bdo1x12) (by kernel_rfl) rfl (fun K hK => ?_)
          dsimp only [bdo1x12]
          have cN40 := PN4.out.c0
          have cN41 := PN4.out.c1
          have fN40 := PN4.out.fz 0
          have fN41 := PN4.out.fz 1
          go_simp
          clear cN40 cN41 fN40 fN41
          obtain ⟨V208, hW⟩ : ∃ V208, (V207.setCell ⟨w173.heap.size, 0, none⟩ (.bool ng)).setCell ⟨w173.heap.size, 1, none⟩ (.slice adg xg.length qg) = V208 := ⟨_, rfl⟩
          replace Zh := hid ((Zh.out).box (PN4.out) (.bool ng) (.slice adg xg.length qg))
          replace Po := hid ((Po.out).box (b' := w173.heap.size) (by omega) (.bool ng) (.slice adg xg.length qg))
          replace PN3 := hid ((PN3.out).box (b' := w173.heap.size) (by omega) (.bool ng) (.slice adg xg.length qg))
          replace PN4 := hid ((PN4.out).set (.bool ng) (.slice adg xg.length qg))
          replace G : Hid (Below w.heap.size w (((V207.setCell ⟨w173.heap.size, 0, none⟩ (.bool ng)).setCell ⟨w173.heap.size, 1, none⟩ (.slice adg xg.length qg)))) := bset (bset (G.out) (by omega)) (by omega)
          replace GR : Hid (Below W0.heap.size W0 (((V207.setCell ⟨w173.heap.size, 0, none⟩ (.bool ng)).setCell ⟨w173.heap.size, 1, none⟩ (.slice adg xg.length qg)))) := bset (bset (GR.out) (by omega)) (by omega)
          have sz208 : V208.heap.size = V207.heap.size := by rw [← hW]; simp
          rw [hW] at Zh Po PN3 PN4 G GR
          rw [hW]
          clear hW
          refine hK.out _ _ (fun _ _ => ⟨Po.out.c0, Po.out.c1⟩) ?_
          clear hK
          try simp only [Act.put]
          refine wpAnyX_pure (i := 13) (oi := bdo1x13) (v := (.int .i64 0)) rfl (by kernel_rfl) (fun _ _ _ h => h) (Or.inl ⟨by rfl, ?_⟩)  ?_
          · intro w hSw
            (try dsimp only at hSw)
            dsimp only [bdo1x13]
            go_simp
          simp only [Act.put, List.setIfInBounds_toArray, List.set_cons_zero, List.set_cons_succ]
          refine wpAnyX_done (by kernel_rfl) ?_ _
          go_wp2_with fail
          go_meet
          exact ⟨⟨_, _, _, _, _, rfl, GR.out, by omega, PN3.out.blk, PN3.out, Zh.out.mono (by omega)⟩, rfl⟩
      · skip
        dsimp only [bdo1x10]
        go_simp
        obtain ⟨V209, hW⟩ : ∃ V209, V171.alloc zbox = V209 := ⟨_, rfl⟩
        obtain ⟨kW, sz209⟩ := alloc1 V171 zbox
        rw [hW] at kW sz209
        replace sz209 : V171.heap.size < V209.heap.size := by omega
        replace Zo := hid (Zo.out.now kW)
        replace Po := hid (Po.out.step kW)
        replace PN3 := hid (PN3.out.step kW)
        replace G := hid (below_step G.out kW)
        replace GR := hid (below_step GR.out kW)
        have lz210 := (show Below _ _ _ from kW).size
        have PN4 : Hid (Duo V209 (V171.heap.size) (.bool false) (.slice none 0 0)) := by unfold Hid; rw [← hW]; exact duo_at rfl
        rw [hW]
        clear hW kW
        refine hK.out _ _ (fun _ _ => ⟨Po.out.c0, Po.out.c1⟩) ?_
        clear hK
        try simp only [Act.put]
        refine wpAnyX_one (i := 1) (o := bdo1x1) (by kernel_rfl) rfl (fun K hK => ?_)
        dsimp only [bdo1x1]
        go_simp
        go_at_call 20
        refine (of_z (n := 1) (by decide) (by decide) _).mono ?_
        rintro e w211 ⟨r0, rfl, m0, b⟩
        obtain ⟨np, xp, adp, qp, rfl, -, -, -, -, -⟩ := id m0
        replace Zo := hid (Zo.out.now b)
        replace Po := hid (Po.out.step b)
        replace PN3 := hid (PN3.out.step b)
        replace PN4 := hid (PN4.out.step b)
        replace G := hid (below_step G.out b)
        replace GR := hid (below_step GR.out b)
        have lz212 := (show Below _ _ _ from b).size
        have Zp := hid m0
        clear b m0
        refine hK.out _ _ (fun _ _ => ⟨Po.out.c0, Po.out.c1⟩) ?_
        clear hK
        refine wpAnyX_one (i := 2) (o := bdo1x2) (by kernel_rfl) rfl (fun K hK => ?_)
        dsimp only [bdo1x2]
        go_simp
        go_at_call 18
        refine (sub_z Zo.out Zp.out.zi (by omega) (by omega)).mono ?_
        rintro e w213 ⟨r0, rfl, m0, b⟩
        obtain ⟨nd, xd, add, qd, rfl, -, -, -, -, -⟩ := id m0
        replace Zo := hid (Zo.out.now b)
        replace Zp := hid (Zp.out.now b)
        replace Po := hid (Po.out.step b)
        replace PN3 := hid (PN3.out.step b)
        replace PN4 := hid (PN4.out.step b)
        replace G := hid (below_step G.out b)
        replace GR := hid (below_step GR.out b)
        have lz214 := (show Below _ _ _ from b).size
        have Zd := hid m0
        clear b m0
        clear Zp
        clear Zo
        refine hK.out _ _ (fun _ _ => ⟨Po.out.c0, Po.out.c1⟩) ?_
        clear hK
        refine wpAnyX_one (i := 3) (o := bdo1x3) (by kernel_rfl) rfl (fun K hK => ?_)
        dsimp only [bdo1x3]
        go_simp
        go_at_call 20
        refine (of_z (n := 2) (by decide) (by decide) _).mono ?_
        rintro e w215 ⟨r0, rfl, m0, b⟩
        obtain ⟨nt, xt, adt, qt, rfl, -, -, -, -, -⟩ := id m0
        replace Zd := hid (Zd.out.now b)
        replace Po := hid (Po.out.step b)
        replace PN3 := hid (PN3.out.step b)
        replace PN4 := hid (PN4.out.step b)
        replace G := hid (below_step G.out b)
        replace GR := hid (below_step GR.out b)
        have lz216 := (show Below _ _ _ from b).size
        have Zt := hid m0
        clear b m0
        refine hK.out _ _ (fun _ _ => ⟨Po.out.c0, Po.out.c1⟩) ?_
        clear hK
        refine wpAnyX_one (i := 4) (o := bdo1x4) (by kernel_rfl) rfl (fun K hK => ?_)
        dsimp only [bdo1x4]
        go_simp
        go_at_call 46
        refine (floor_z Zd.out.zi Zt.out.zi (by decide) (by omega) (by omega)).mono ?_
        rintro e w217 ⟨r0, r1, rfl, m0, m1, b⟩
        obtain ⟨nh, xh, adh, qh, rfl, -, -, -, -, -⟩ := id m0
        obtain ⟨ng, xg, adg, qg, rfl, -, -, -, -, -⟩ := id m1
        replace Zd := hid (Zd.out.now b)
        replace Zt := hid (Zt.out.now b)
        replace Po := hid (Po.out.step b)
        replace PN3 := hid (PN3.out.step b)
        replace PN4 := hid (PN4.out.step b)
        replace G := hid (below_step G.out b)
        replace GR := hid (below_step GR.out b)
        have lz218 := (show Below _ _ _ from b).size
        have Zh := hid m0
        have Zg := hid m1
        clear b m0 m1
        clear Zd
        clear Zt
        clear Zg
        refine hK.out _ _ (fun _ _ => ⟨Po.out.c0, Po.out.c1⟩) ?_
        clear hK
        refine wpAnyX_pure (i := 5) (oi := bdo1x5) (v := (.tuple #[(.agg #[.bool nh, .slice adh xh.length qh]), (.agg #[.bool ng, .slice adg xg.length qg]), (.int .i64 0)])) rfl (by kernel_rfl) (fun _ _ _ h => h) (Or.inl ⟨by rfl, ?_⟩)  ?_
        · intro w hSw
          (try dsimp only at hSw)
          dsimp only [bdo1x5]
          go_simp
        simp only [Act.put, List.setIfInBounds_toArray, List.set_cons_zero, List.set_cons_succ]
        refine wpAnyX_pure (i := 6) (oi := bdo1x6) (v := (.agg #[.bool nh, .slice adh xh.length qh])) rfl (by kernel_rfl) (fun _ _ _ h => h) (Or.inl ⟨by rfl, ?_⟩)  ?_
        · intro w hSw
          (try dsimp only at hSw)
          dsimp only [bdo1x6]
          go_simp
        simp only [Act.put, List.setIfInBounds_toArray, List.set_cons_zero, List.set_cons_succ]
        refine wpAnyX_pure (i := 7) (oi := bdo1x7) (v := (.agg #[.bool ng, .slice adg xg.length qg])) rfl (by kernel_rfl) (fun _ _ _ h => h) (Or.inl ⟨by rfl, ?_⟩)  ?_
        · intro w hSw
          (try dsimp only at hSw)
          dsimp only [bdo1x7]
          go_simp
        simp only [Act.put, List.setIfInBounds_toArray, List.set_cons_zero, List.set_cons_succ]
        refine wpAnyX_pure (i := 8) (oi := bdo1x8) (v := (.int .i64 0)) rfl (by kernel_rfl) (fun _ _ _ h => h) (Or.inl ⟨by rfl, ?_⟩)  ?_
        · intro w hSw
          (try dsimp only at hSw)
          dsimp only [bdo1x8]
          go_simp
        simp only [Act.put, List.setIfInBounds_toArray, List.set_cons_zero, List.set_cons_succ]
        refine wpAnyX_one (i := 11) (o := bdo1x11) (by kernel_rfl) rfl (fun K hK => ?_)
        dsimp only [bdo1x11]
        have cN30 := PN3.out.c0
        have cN31 := PN3.out.c1
        have fN30 := PN3.out.fz 0
        have fN31 := PN3.out.fz 1
        go_simp
        clear cN30 cN31 fN30 fN31
        obtain ⟨V219, hW⟩ : ∃ V219, (w217.setCell ⟨D1.heap.size, 0, none⟩ (.bool nh)).setCell ⟨D1.heap.size, 1, none⟩ (.slice adh xh.length qh) = V219 := ⟨_, rfl⟩
        replace Zh := hid ((Zh.out).box (PN3.out) (.bool nh) (.slice adh xh.length qh))
        replace Po := hid ((Po.out).box (b' := D1.heap.size) (by omega) (.bool nh) (.slice adh xh.length qh))
        replace PN3 := hid ((PN3.out).set (.bool nh) (.slice adh xh.length qh))
        replace PN4 := hid ((PN4.out).box (b' := D1.heap.size) (by omega) (.bool nh) (.slice adh xh.length qh))
        replace G : Hid (Below w.heap.size w (((w217.setCell ⟨D1.heap.size, 0, none⟩ (.bool nh)).setCell ⟨D1.heap.size, 1, none⟩ (.slice adh xh.length qh)))) := bset (bset (G.out) (by omega)) (by omega)
        replace GR : Hid (Below W0.heap.size W0 (((w217.setCell ⟨D1.heap.size, 0, none⟩ (.bool nh)).setCell ⟨D1.heap.size, 1, none⟩ (.slice adh xh.length qh)))) := bset (bset (GR.out) (by omega)) (by omega)
        have sz219 : V219.heap.size = w217.heap.size := by rw [← hW]; simp
        rw [hW] at Zh Po PN3 PN4 G GR
        rw [hW]
        clear hW
        refine hK.out _ _ (fun _ _ => ⟨Po.out.c0, Po.out.c1⟩) ?_
        clear hK
        try simp only [Act.put]
        refine wpAnyX_one (i := 12) (o := bdo1x12) (by kernel_rfl) rfl (fun K hK => ?_)
        dsimp only [bdo1x12]
        have cN40 := PN4.out.c0
        have cN41 := PN4.out.c1
        have fN40 := PN4.out.fz 0
        have fN41 := PN4.out.fz 1
        go_simp
        clear cN40 cN41 fN40 fN41
        obtain ⟨V220, hW⟩ : ∃ V220, (V219.setCell ⟨V171.heap.size, 0, none⟩ (.bool ng)).setCell ⟨V171.heap.size, 1, none⟩ (.slice adg xg.length qg) = V220 := ⟨_, rfl⟩
        replace Zh := hid ((Zh.out).box (PN4.out) (.bool ng) (.slice adg xg.length qg))
        replace Po := hid ((Po.out).box (b' := V171.heap.size) (by omega) (.bool ng) (.slice adg xg.length qg))
        replace PN3 := hid ((PN3.out).box (b' := V171.heap.size) (by omega) (.bool ng) (.slice adg xg.length qg))
        replace PN4 := hid ((PN4.out).set (.bool ng) (.slice adg xg.length qg))
        replace G : Hid (Below w.heap.size w (((V219.setCell ⟨V171.heap.size, 0, none⟩ (.bool ng)).setCell ⟨V171.heap.size, 1, none⟩ (.slice adg xg.length qg)))) := bset (bset (G.out) (by omega)) (by omega)
        replace GR : Hid (Below W0.heap.size W0 (((V219.setCell ⟨V171.heap.size, 0, none⟩ (.bool ng)).setCell ⟨V171.heap.size, 1, none⟩ (.slice adg xg.length qg)))) := bset (bset (GR.out) (by omega)) (by omega)
        have sz220 : V220.heap.size = V219.heap.size := by rw [← hW]; simp
        rw [hW] at Zh Po PN3 PN4 G GR
        rw [hW]
        clear hW
        refine hK.out _ _ (fun _ _ => ⟨Po.out.c0, Po.out.c1⟩) ?_
        clear hK
        try simp only [Act.put]
        refine wpAnyX_pure (i := 13) (oi := bdo1x13) (v := (.int .i64 0)) rfl (by kernel_rfl) (fun _ _ _ h => h) (Or.inl ⟨by rfl, ?_⟩)  ?_
        · intro w hSw
          (try dsimp only at hSw)
          dsimp only [bdo1x13]
          go_simp
        simp only [Act.put, List.setIfInBounds_toArray, List.set_cons_zero, List.set_cons_succ]
        refine wpAnyX_done (by kernel_rfl) ?_ _
        go_wp2_with fail
        go_meet
        exact ⟨⟨_, _, _, _, _, rfl, GR.out, by omega, PN3.out.blk, PN3.out, Zh.out.mono (by omega)⟩, rfl⟩
    · skip
      dsimp only [bdo1x10]
      go_simp
      obtain ⟨V221, hW⟩ : ∃ V221, D1.alloc zbox = V221 := ⟨_, rfl⟩
      obtain ⟨kW, sz221⟩ := alloc1 D1 zbox
      rw [hW] at kW sz221
      replace sz221 : D1.heap.size < V221.heap.size := by omega
      replace Zo := hid (Zo.out.now kW)
      replace Po := hid (Po.out.step kW)
      replace G := hid (below_step G.out kW)
      replace GR := hid (below_step GR.out kW)
      have lz222 := (show Below _ _ _ from kW).size
      have PN4 : Hid (Duo V221 (D1.heap.size) (.bool false) (.slice none 0 0)) := by unfold Hid; rw [← hW]; exact duo_at rfl
      rw [hW]
      clear hW kW
      refine hK.out _ _ (fun _ _ => ⟨Po.out.c0, Po.out.c1⟩) ?_
      clear hK
      try simp only [Act.put]
      refine wpAnyX_two (i := 1) (j := 9) (oi := bdo1x1) (oj := bdo1x9) (by kernel_rfl) rfl rfl (fun K hK => ?_) (fun K hK => ?_)
      · skip
        dsimp only [bdo1x1]
        go_simp
        go_at_call 20
        refine (of_z (n := 1) (by decide) (by decide) _).mono ?_
        rintro e w223 ⟨r0, rfl, m0, b⟩
        obtain ⟨np, xp, adp, qp, rfl, -, -, -, -, -⟩ := id m0
        replace Zo := hid (Zo.out.now b)
        replace Po := hid (Po.out.step b)
        replace PN4 := hid (PN4.out.step b)
        replace G := hid (below_step G.out b)
        replace GR := hid (below_step GR.out b)
        have lz224 := (show Below _ _ _ from b).size
        have Zp := hid m0
        clear b m0
        refine hK.out _ _ (fun _ _ => ⟨Po.out.c0, Po.out.c1⟩) ?_
        clear hK
        refine wpAnyX_two (i := 2) (j := 9) (oi := bdo1x2) (oj := bdo1x9) (by kernel_rfl) rfl rfl (fun K hK => ?_) (fun K hK => ?_)
        · skip
          dsimp only [bdo1x2]
          go_simp
          go_at_call 18
          refine (sub_z Zo.out Zp.out.zi (by omega) (by omega)).mono ?_
          rintro e w225 ⟨r0, rfl, m0, b⟩
          obtain ⟨nd, xd, add, qd, rfl, -, -, -, -, -⟩ := id m0
          replace Zo := hid (Zo.out.now b)
          replace Zp := hid (Zp.out.now b)
          replace Po := hid (Po.out.step b)
          replace PN4 := hid (PN4.out.step b)
          replace G := hid (below_step G.out b)
          replace GR := hid (below_step GR.out b)
          have lz226 := (show Below _ _ _ from b).size
          have Zd := hid m0
          clear b m0
          clear Zp
          clear Zo
          refine hK.out _ _ (fun _ _ => ⟨Po.out.c0, Po.out.c1⟩) ?_
          clear hK
          refine wpAnyX_two (i := 3) (j := 9) (oi := bdo1x3) (oj := bdo1x9) (by kernel_rfl) rfl rfl (fun K hK => ?_) (fun K hK => ?_)
          · skip
            dsimp only [bdo1x3]
            go_simp
            go_at_call 20
            refine (of_z (n := 2) (by decide) (by decide) _).mono ?_
            rintro e w227 ⟨r0, rfl, m0, b⟩
            obtain ⟨nt, xt, adt, qt, rfl, -, -, -, -, -⟩ := id m0
            replace Zd := hid (Zd.out.now b)
            replace Po := hid (Po.out.step b)
            replace PN4 := hid (PN4.out.step b)
            replace G := hid (below_step G.out b)
            replace GR := hid (below_step GR.out b)
            have lz228 := (show Below _ _ _ from b).size
            have Zt := hid m0
            clear b m0
            refine hK.out _ _ (fun _ _ => ⟨Po.out.c0, Po.out.c1⟩) ?_
            clear hK
            refine wpAnyX_two (i := 4) (j := 9) (oi := bdo1x4) (oj := bdo1x9) (by kernel_rfl) rfl rfl (fun K hK => ?_) (fun K hK => ?_)
            · skip
              dsimp only [bdo1x4]
              go_simp
              go_at_call 46
              refine (floor_z Zd.out.zi Zt.out.zi (by decide) (by omega) (by omega)).mono ?_
              rintro e w229 ⟨r0, r1, rfl, m0, m1, b⟩
              obtain ⟨nh, xh, adh, qh, rfl, -, -, -, -, -⟩ := id m0
              obtain ⟨ng, xg, adg, qg, rfl, -, -, -, -, -⟩ := id m1
              replace Zd := hid (Zd.out.now b)
              replace Zt := hid (Zt.out.now b)
              replace Po := hid (Po.out.step b)
              replace PN4 := hid (PN4.out.step b)
              replace G := hid (below_step G.out b)
              replace GR := hid (below_step GR.out b)
              have lz230 := (show Below _ _ _ from b).size
              have Zh := hid m0
              have Zg := hid m1
              clear b m0 m1
              clear Zd
              clear Zt
              clear Zg
              refine hK.out _ _ (fun _ _ => ⟨Po.out.c0, Po.out.c1⟩) ?_
              clear hK
              refine wpAnyX_pure (i := 5) (oi := bdo1x5) (v := (.tuple #[(.agg #[.bool nh, .slice adh xh.length qh]), (.agg #[.bool ng, .slice adg xg.length qg]), (.int .i64 0)])) rfl (by kernel_rfl) (fun _ _ _ h => h) (Or.inl ⟨by rfl, ?_⟩)  ?_
              · intro w hSw
                (try dsimp only at hSw)
                dsimp only [bdo1x5]
                go_simp
              simp only [Act.put, List.setIfInBounds_toArray, List.set_cons_zero, List.set_cons_succ]
              refine wpAnyX_pure (i := 6) (oi := bdo1x6) (v := (.agg #[.bool nh, .slice adh xh.length qh])) rfl (by kernel_rfl) (fun _ _ _ h => h) (Or.inl ⟨by rfl, ?_⟩)  ?_
              · intro w hSw
                (try dsimp only at hSw)
                dsimp only [bdo1x6]
                go_simp
              simp only [Act.put, List.setIfInBounds_toArray, List.set_cons_zero, List.set_cons_succ]
              refine wpAnyX_pure (i := 7) (oi := bdo1x7) (v := (.agg #[.bool ng, .slice adg xg.length qg])) rfl (by kernel_rfl) (fun _ _ _ h => h) (Or.inl ⟨by rfl, ?_⟩)  ?_
              · intro w hSw
                (try dsimp only at hSw)
                dsimp only [bdo1x7]
                go_simp
              simp only [Act.put, List.setIfInBounds_toArray, List.set_cons_zero, List.set_cons_succ]
              refine wpAnyX_pure (i := 8) (oi := bdo1x8) (v := (.int .i64 0)) rfl (by kernel_rfl) (fun _ _ _ h => h) (Or.inl ⟨by rfl, ?_⟩)  ?_
              · intro w hSw
                (try dsimp only at hSw)
                dsimp only [bdo1x8]
                go_simp
              simp only [Act.put, List.setIfInBounds_toArray, List.set_cons_zero, List.set_cons_succ]
              refine wpAnyX_one (i := 9) (o := bdo1x9) (by kernel_rfl) rfl (fun K hK => ?_)
              dsimp only [bdo1x9]
              go_simp
              obtain ⟨V231, hW⟩ : ∃ V231, w229.alloc zbox = V231 := ⟨_, rfl⟩
              obtain ⟨kW, sz231⟩ := alloc1 w229 zbox
              rw [hW] at kW sz231
              replace sz231 : w229.heap.size < V231.heap.size := by omega
              replace Zh := hid (Zh.out.now kW)
              replace Po := hid (Po.out.step kW)
              replace PN4 := hid (PN4.out.step kW)
              replace G := hid (below_step G.out kW)
              replace GR := hid (below_step GR.out kW)
              have lz232 := (show Below _ _ _ from kW).size
              have PN3 : Hid (Duo V231 (w229.heap.size) (.bool false) (.slice none 0 0)) := by unfold Hid; rw [← hW]; exact duo_at rfl
              rw [hW]
              clear hW kW
              refine hK.out _ _ (fun _ _ => ⟨Po.out.c0, Po.out.c1⟩) ?_
              clear hK
              try simp only [Act.put]
              refine wpAnyX_one (i := 11) (o := bdo1x11) (by kernel_rfl) rfl (fun K hK => ?_)
              dsimp only [bdo1x11]
              have cN30 := PN3.out.c0
              have cN31 := PN3.out.c1
              have fN30 := PN3.out.fz 0
              have fN31 := PN3.out.fz 1
              go_simp
              clear cN30 cN31 fN30 fN31
              obtain ⟨V233, hW⟩ : ∃ V233, (V231.setCell ⟨w229.heap.size, 0, none⟩ (.bool nh)).setCell ⟨w229.heap.size, 1, none⟩ (.slice adh xh.length qh) = V233 := ⟨_, rfl⟩
              replace Zh := hid ((Zh.out).box (PN3.out) (.bool nh) (.slice adh xh.length qh))
              replace Po := hid ((Po.out).box (b' := w229.heap.size) (by omega) (.bool nh) (.slice adh xh.length qh))
              replace PN4 := hid ((PN4.out).box (b' := w229.heap.size) (by omega) (.bool nh) (.slice adh xh.length qh))
              replace PN3 := hid ((PN3.out).set (.bool nh) (.slice adh xh.length qh))
              replace G : Hid (Below w.heap.size w (((V231.setCell ⟨w229.heap.size, 0, none⟩ (.bool nh)).setCell ⟨w229.heap.size, 1, none⟩ (.slice adh xh.length qh)))) := bset (bset (G.out) (by omega)) (by omega)
              replace GR : Hid (Below W0.heap.size W0 (((V231.setCell ⟨w229.heap.size, 0, none⟩ (.bool nh)).setCell ⟨w229.heap.size, 1, none⟩ (.slice adh xh.length qh)))) := bset (bset (GR.out) (by omega)) (by omega)
              have sz233 : V233.heap.size = V231.heap.size := by rw [← hW]; simp
              rw [hW] at Zh Po PN4 PN3 G GR
              rw [hW]
              clear hW
              refine hK.out _ _ (fun _ _ => ⟨Po.out.c0, Po.out.c1⟩) ?_
              clear hK
              try simp only [Act.put]
              refine wpAnyX_one (i := 12) (o := bdo1x12) (by kernel_rfl) rfl (fun K hK => ?_)
              dsimp only [bdo1x12]
              have cN40 := PN4.out.c0
              have cN41 := PN4.out.c1
              have fN40 := PN4.out.fz 0
              have fN41 := PN4.out.fz 1
              go_simp
              clear cN40 cN41 fN40 fN41
              obtain ⟨V234, hW⟩ : ∃ V234, (V233.setCell ⟨D1.heap.size, 0, none⟩ (.bool ng)).setCell ⟨D1.heap.size, 1, none⟩ (.slice adg xg.length qg) = V234 := ⟨_, rfl⟩
              replace Zh := hid ((Zh.out).box (PN4.out) (.bool ng) (.slice adg xg.length qg))
              replace Po := hid ((Po.out).box (b' := D1.heap.size) (by omega) (.bool ng) (.slice adg xg.length qg))
              replace PN4 := hid ((PN4.out).set (.bool ng) (.slice adg xg.length qg))
              replace PN3 := hid ((PN3.out).box (b' := D1.heap.size) (by omega) (.bool ng) (.slice adg xg.length qg))
              replace G : Hid (Below w.heap.size w (((V233.setCell ⟨D1.heap.size, 0, none⟩ (.bool ng)).setCell ⟨D1.heap.size, 1, none⟩ (.slice adg xg.length qg)))) := bset (bset (G.out) (by omega)) (by omega)
              replace GR : Hid (Below W0.heap.size W0 (((V233.setCell ⟨D1.heap.size, 0, none⟩ (.bool ng)).setCell ⟨D1.heap.size, 1, none⟩ (.slice adg xg.length qg)))) := bset (bset (GR.out) (by omega)) (by omega)
              have sz234 : V234.heap.size = V233.heap.size := by rw [← hW]; simp
              rw [hW] at Zh Po PN4 PN3 G GR
              rw [hW]
              clear hW
              refine hK.out _ _ (fun _ _ => ⟨Po.out.c0, Po.out.c1⟩) ?_
              clear hK
              try simp only [Act.put]
              refine wpAnyX_pure (i := 13) (oi := bdo1x13) (v := (.int .i64 0)) rfl (by kernel_rfl) (fun _ _ _ h => h) (Or.inl ⟨by rfl, ?_⟩)  ?_
              · intro w hSw
                (try dsimp only at hSw)
                dsimp only [bdo1x13]
                go_simp
              simp only [Act.put, List.setIfInBounds_toArray, List.set_cons_zero, List.set_cons_succ]
              refine wpAnyX_done (by kernel_rfl) ?_ _
              go_wp2_with fail
              go_meet
              exact ⟨⟨_, _, _, _, _, rfl, GR.out, by omega, PN3.out.blk, PN3.out, Zh.out.mono (by omega)⟩, rfl⟩
            · skip
              dsimp only [bdo1x9]
              go_simp
              obtain ⟨V235, hW⟩ : ∃ V235, w227.alloc zbox = V235 := ⟨_, rfl⟩
              obtain ⟨kW, sz235⟩ := alloc1 w227 zbox
              rw [hW] at kW sz235
              replace sz235 : w227.heap.size < V235.heap.size := by omega
              replace Zd := hid (Zd.out.now kW)
              replace Zt := hid (Zt.out.now kW)
              replace Po := hid (Po.out.step kW)
              replace PN4 := hid (PN4.out.step kW)
              replace G := hid (below_step G.out kW)
              replace GR := hid (below_step GR.out kW)
              have lz236 := (show Below _ _ _ from kW).size
              have PN3 : Hid (Duo V235 (w227.heap.size) (.bool false) (.slice none 0 0)) := by unfold Hid; rw [← hW]; exact duo_at rfl
              rw [hW]
              clear hW kW
              refine hK.out _ _ (fun _ _ => ⟨Po.out.c0, Po.out.c1⟩) ?_
              clear hK
              try simp only [Act.put]
              refine wpAnyX_one (i := 4) (o := bdo1x4) (by kernel_rfl) rfl (fun K hK => ?_)
              dsimp only [bdo1x4]
              go_simp
              go_at_call 46
              refine (floor_z Zd.out.zi Zt.out.zi (by decide) (by omega) (by omega)).mono ?_
              rintro e w237 ⟨r0, r1, rfl, m0, m1, b⟩
              obtain ⟨nh, xh, adh, qh, rfl, -, -, -, -, -⟩ := id m0
              obtain ⟨ng, xg, adg, qg, rfl, -, -, -, -, -⟩ := id m1
              replace Zd := hid (Zd.out.now b)
              replace Zt := hid (Zt.out.now b)
              replace Po := hid (Po.out.step b)
              replace PN4 := hid (PN4.out.step b)
              replace PN3 := hid (PN3.out.step b)
              replace G := hid (below_step G.out b)
              replace GR := hid (below_step GR.out b)
              have lz238 := (show Below _ _ _ from b).size
              have Zh := hid m0
              have Zg := hid m1
              clear b m0 m1
              clear Zd
              clear Zt
              clear Zg
              refine hK.out _ _ (fun _ _ => ⟨Po.out.c0, Po.out.c1⟩) ?_
              clear hK
              refine wpAnyX_pure (i := 5) (oi := bdo1x5) (v := (.tuple #[(.agg #[.bool nh, .slice adh xh.length qh]), (.agg #[.bool ng, .slice adg xg.length qg]), (.int .i64 0)])) rfl (by kernel_rfl) (fun _ _ _ h => h) (Or.inl ⟨by rfl, ?_⟩)  ?_
              · intro w hSw
                (try dsimp only at hSw)
                dsimp only [bdo1x5]
                go_simp
              simp only [Act.put, List.setIfInBounds_toArray, List.set_cons_zero, List.set_cons_succ]
              refine wpAnyX_pure (i := 6) (oi := bdo1x6) (v := (.agg #[.bool nh, .slice adh xh.length qh])) rfl (by kernel_rfl) (fun _ _ _ h => h) (Or.inl ⟨by rfl, ?_⟩)  ?_
              · intro w hSw
                (try dsimp only at hSw)
                dsimp only [bdo1x6]
                go_simp
              simp only [Act.put, List.setIfInBounds_toArray, List.set_cons_zero, List.set_cons_succ]
              refine wpAnyX_pure (i := 7) (oi := bdo1x7) (v := (.agg #[.bool ng, .slice adg xg.length qg])) rfl (by kernel_rfl) (fun _ _ _ h => h) (Or.inl ⟨by rfl, ?_⟩)  ?_
              · intro w hSw
                (try dsimp only at hSw)
                dsimp only [bdo1x7]
                go_simp
              simp only [Act.put, List.setIfInBounds_toArray, List.set_cons_zero, List.set_cons_succ]
              refine wpAnyX_pure (i := 8) (oi := bdo1x8) (v := (.int .i64 0)) rfl (by kernel_rfl) (fun _ _ _ h => h) (Or.inl ⟨by rfl, ?_⟩)  ?_
              · intro w hSw
                (try dsimp only at hSw)
                dsimp only [bdo1x8]
                go_simp
              simp only [Act.put, List.setIfInBounds_toArray, List.set_cons_zero, List.set_cons_succ]
              refine wpAnyX_one (i := 11) (o := bdo1x11) (by kernel_rfl) rfl (fun K hK => ?_)
              dsimp only [bdo1x11]
              have cN30 := PN3.out.c0
              have cN31 := PN3.out.c1
              have fN30 := PN3.out.fz 0
              have fN31 := PN3.out.fz 1
              go_simp
              clear cN30 cN31 fN30 fN31
              obtain ⟨V239, hW⟩ : ∃ V239, (w237.setCell ⟨w227.heap.size, 0, none⟩ (.bool nh)).setCell ⟨w227.heap.size, 1, none⟩ (.slice adh xh.length qh) = V239 := ⟨_, rfl⟩
              replace Zh := hid ((Zh.out).box (PN3.out) (.bool nh) (.slice adh xh.length qh))
              replace Po := hid ((Po.out).box (b' := w227.heap.size) (by omega) (.bool nh) (.slice adh xh.length qh))
              replace PN4 := hid ((PN4.out).box (b' := w227.heap.size) (by omega) (.bool nh) (.slice adh xh.length qh))
              replace PN3 := hid ((PN3.out).set (.bool nh) (.slice adh xh.length qh))
              replace G : Hid (Below w.heap.size w (((w237.setCell ⟨w227.heap.size, 0, none⟩ (.bool nh)).setCell ⟨w227.heap.size, 1, none⟩ (.slice adh xh.length qh)))) := bset (bset (G.out) (by omega)) (by omega)
              replace GR : Hid (Below W0.heap.size W0 (((w237.setCell ⟨w227.heap.size, 0, none⟩ (.bool nh)).setCell ⟨w227.heap.size, 1, none⟩ (.slice adh xh.length qh)))) := bset (bset (GR.out) (by omega)) (by omega)
              have sz239 : V239.heap.size = w237.heap.size := by rw [← hW]; simp
              rw [hW] at Zh Po PN4 PN3 G GR
              rw [hW]
              clear hW
              refine hK.out _ _ (fun _ _ => ⟨Po.out.c0, Po.out.c1⟩) ?_
              clear hK
              try simp only [Act.put]
              refine wpAnyX_one (i := 12) (o := bdo1x12) (by kernel_rfl) rfl (fun K hK => ?_)
              dsimp only [bdo1x12]
              have cN40 := PN4.out.c0
              have cN41 := PN4.out.c1
              have fN40 := PN4.out.fz 0
              have fN41 := PN4.out.fz 1
              go_simp
              clear cN40 cN41 fN40 fN41
              obtain ⟨V240, hW⟩ : ∃ V240, (V239.setCell ⟨D1.heap.size, 0, none⟩ (.bool ng)).setCell ⟨D1.heap.size, 1, none⟩ (.slice adg xg.length qg) = V240 := ⟨_, rfl⟩
              replace Zh := hid ((Zh.out).box (PN4.out) (.bool ng) (.slice adg xg.length qg))
              replace Po := hid ((Po.out).box (b' := D1.heap.size) (by omega) (.bool ng) (.slice adg xg.length qg))
              replace PN4 := hid ((PN4.out).set (.bool ng) (.slice adg xg.length qg))
              replace PN3 := hid ((PN3.out).box (b' := D1.heap.size) (by omega) (.bool ng) (.slice adg xg.length qg))
              replace G : Hid (Below w.heap.size w (((V239.setCell ⟨D1.heap.size, 0, none⟩ (.bool ng)).setCell ⟨D1.heap.size, 1, none⟩ (.slice adg xg.length qg)))) := bset (bset (G.out) (by omega)) (by omega)
              replace GR : Hid (Below W0.heap.size W0 (((V239.setCell ⟨D1.heap.size, 0, none⟩ (.bool ng)).setCell ⟨D1.heap.size, 1, none⟩ (.slice adg xg.length qg)))) := bset (bset (GR.out) (by omega)) (by omega)
              have sz240 : V240.heap.size = V239.heap.size := by rw [← hW]; simp
              rw [hW] at Zh Po PN4 PN3 G GR
              rw [hW]
              clear hW
              refine hK.out _ _ (fun _ _ => ⟨Po.out.c0, Po.out.c1⟩) ?_
              clear hK
              try simp only [Act.put]
              refine wpAnyX_pure (i := 13) (oi := bdo1x13) (v := (.int .i64 0)) rfl (by kernel_rfl) (fun _ _ _ h => h) (Or.inl ⟨by rfl, ?_⟩)  ?_
              · intro w hSw
                (try dsimp only at hSw)
                dsimp only [bdo1x13]
                go_simp
              simp only [Act.put, List.setIfInBounds_toArray, List.set_cons_zero, List.set_cons_succ]
              refine wpAnyX_done (by kernel_rfl) ?_ _
              go_wp2_with fail
              go_meet
              exact ⟨⟨_, _, _, _, _, rfl, GR.out, by omega, PN3.out.blk, PN3.out, Zh.out.mono (by omega)⟩, rfl⟩
          · skip
            dsimp only [bdo1x9]
            go_simp
            obtain ⟨V241, hW⟩ : ∃ V241, w225.alloc zbox = V241 := ⟨_, rfl⟩
            obtain ⟨kW, sz241⟩ := alloc1 w225 zbox
            rw [hW] at kW sz241
            replace sz241 : w225.heap.size < V241.heap.size := by omega
            replace Zd := hid (Zd.out.now kW)
            replace Po := hid (Po.out.step kW)
            replace PN4 := hid (PN4.out.step kW)
            replace G := hid (below_step G.out kW)
            replace GR := hid (below_step GR.out kW)
            have lz242 := (show Below _ _ _ from kW).size
            have PN3 : Hid (Duo V241 (w225.heap.size) (.bool false) (.slice none 0 0)) := by unfold Hid; rw [← hW]; exact duo_at rfl
            rw [hW]
            clear hW kW
            refine hK.out _ _ (fun _ _ => ⟨Po.out.c0, Po.out.c1⟩) ?_
            clear hK
            try simp only [Act.put]
            refine wpAnyX_one (i := 3) (o := bdo1x3) (by kernel_rfl) rfl (fun K hK => ?_)
            dsimp only [bdo1x3]
            go_simp
            go_at_call 20
            refine (of_z (n := 2) (by decide) (by decide) _).mono ?_
            rintro e w243 ⟨r0, rfl, m0, b⟩
            obtain ⟨nt, xt, adt, qt, rfl, -, -, -, -, -⟩ := id m0
            replace Zd := hid (Zd.out.now b)
            replace Po := hid (Po.out.step b)
            replace PN4 := hid (PN4.out.step b)
            replace PN3 := hid (PN3.out.step b)
            replace G := hid (below_step G.out b)
            replace GR := hid (below_step GR.out b)
            have lz244 := (show Below _ _ _ from b).size
            have Zt := hid m0
            clear b m0
            refine hK.out _ _ (fun _ _ => ⟨Po.out.c0, Po.out.c1⟩) ?_
            clear hK
            refine wpAnyX_one (i := 4) (o := bdo1x4) (by kernel_rfl) rfl (fun K hK => ?_)
            dsimp only [bdo1x4]
            go_simp
            go_at_call 46
            refine (floor_z Zd.out.zi Zt.out.zi (by decide) (by omega) (by omega)).mono ?_
            rintro e w245 ⟨r0, r1, rfl, m0, m1, b⟩
            obtain ⟨nh, xh, adh, qh, rfl, -, -, -, -, -⟩ := id m0
            obtain ⟨ng, xg, adg, qg, rfl, -, -, -, -, -⟩ := id m1
            replace Zd := hid (Zd.out.now b)
            replace Zt := hid (Zt.out.now b)
            replace Po := hid (Po.out.step b)
            replace PN4 := hid (PN4.out.step b)
            replace PN3 := hid (PN3.out.step b)
            replace G := hid (below_step G.out b)
            replace GR := hid (below_step GR.out b)
            have lz246 := (show Below _ _ _ from b).size
            have Zh := hid m0
            have Zg := hid m1
            clear b m0 m1
            clear Zd
            clear Zt
            clear Zg
            refine hK.out _ _ (fun _ _ => ⟨Po.out.c0, Po.out.c1⟩) ?_
            clear hK
            refine wpAnyX_pure (i := 5) (oi := bdo1x5) (v := (.tuple #[(.agg #[.bool nh, .slice adh xh.length qh]), (.agg #[.bool ng, .slice adg xg.length qg]), (.int .i64 0)])) rfl (by kernel_rfl) (fun _ _ _ h => h) (Or.inl ⟨by rfl, ?_⟩)  ?_
            · intro w hSw
              (try dsimp only at hSw)
              dsimp only [bdo1x5]
              go_simp
            simp only [Act.put, List.setIfInBounds_toArray, List.set_cons_zero, List.set_cons_succ]
            refine wpAnyX_pure (i := 6) (oi := bdo1x6) (v := (.agg #[.bool nh, .slice adh xh.length qh])) rfl (by kernel_rfl) (fun _ _ _ h => h) (Or.inl ⟨by rfl, ?_⟩)  ?_
            · intro w hSw
              (try dsimp only at hSw)
              dsimp only [bdo1x6]
              go_simp
            simp only [Act.put, List.setIfInBounds_toArray, List.set_cons_zero, List.set_cons_succ]
            refine wpAnyX_pure (i := 7) (oi := bdo1x7) (v := (.agg #[.bool ng, .slice adg xg.length qg])) rfl (by kernel_rfl) (fun _ _ _ h => h) (Or.inl ⟨by rfl, ?_⟩)  ?_
            · intro w hSw
              (try dsimp only at hSw)
              dsimp only [bdo1x7]
              go_simp
            simp only [Act.put, List.setIfInBounds_toArray, List.set_cons_zero, List.set_cons_succ]
            refine wpAnyX_pure (i := 8) (oi := bdo1x8) (v := (.int .i64 0)) rfl (by kernel_rfl) (fun _ _ _ h => h) (Or.inl ⟨by rfl, ?_⟩)  ?_
            · intro w hSw
              (try dsimp only at hSw)
              dsimp only [bdo1x8]
              go_simp
            simp only [Act.put, List.setIfInBounds_toArray, List.set_cons_zero, List.set_cons_succ]
            refine wpAnyX_one (i := 11) (o := bdo1x11) (by kernel_rfl) rfl (fun K hK => ?_)
            dsimp only [bdo1x11]
            have cN30 := PN3.out.c0
            have cN31 := PN3.out.c1
            have fN30 := PN3.out.fz 0
            have fN31 := PN3.out.fz 1
            go_simp
            clear cN30 cN31 fN30 fN31
            obtain ⟨V247, hW⟩ : ∃ V247, (w245.setCell ⟨w225.heap.size, 0, none⟩ (.bool nh)).setCell ⟨w225.heap.size, 1, none⟩ (.slice adh xh.length qh) = V247 := ⟨_, rfl⟩
            replace Zh := hid ((Zh.out).box (PN3.out) (.bool nh) (.slice adh xh.length qh))
            replace Po := hid ((Po.out).box (b' := w225.heap.size) (by omega) (.bool nh) (.slice adh xh.length qh))
            replace PN4 := hid ((PN4.out).box (b' := w225.heap.size) (by omega) (.bool nh) (.slice adh xh.length qh))
            replace PN3 := hid ((PN3.out).set (.bool nh) (.slice adh xh.length qh))
            replace G : Hid (Below w.heap.size w (((w245.setCell ⟨w225.heap.size, 0, none⟩ (.bool nh)).setCell ⟨w225.heap.size, 1, none⟩ (.slice adh xh.length qh)))) := bset (bset (G.out) (by omega)) (by omega)
            replace GR : Hid (Below W0.heap.size W0 (((w245.setCell ⟨w225.heap.size, 0, none⟩ (.bool nh)).setCell ⟨w225.heap.size, 1, none⟩ (.slice adh xh.length qh)))) := bset (bset (GR.out) (by omega)) (by omega)
            have sz247 : V247.heap.size = w245.heap.size := by rw [← hW]; simp
            rw [hW] at Zh Po PN4 PN3 G GR
            rw [hW]
            clear hW
            refine hK.out _ _ (fun _ _ => ⟨Po.out.c0, Po.out.c1⟩) ?_
            clear hK
            try simp only [Act.put]
            refine wpAnyX_one (i := 12) (o := bdo1x12) (by kernel_rfl) rfl (fun K hK => ?_)
            dsimp only [bdo1x12]
            have cN40 := PN4.out.c0
            have cN41 := PN4.out.c1
            have fN40 := PN4.out.fz 0
            have fN41 := PN4.out.fz 1
            go_simp
            clear cN40 cN41 fN40 fN41
            obtain ⟨V248, hW⟩ : ∃ V248, (V247.setCell ⟨D1.heap.size, 0, none⟩ (.bool ng)).setCell ⟨D1.heap.size, 1, none⟩ (.slice adg xg.length qg) = V248 := ⟨_, rfl⟩
            replace Zh := hid ((Zh.out).box (PN4.out) (.bool ng) (.slice adg xg.length qg))
            replace Po := hid ((Po.out).box (b' := D1.heap.size) (by omega) (.bool ng) (.slice adg xg.length qg))
            replace PN4 := hid ((PN4.out).set (.bool ng) (.slice adg xg.length qg))
            replace PN3 := hid ((PN3.out).box (b' := D1.heap.size) (by omega) (.bool ng) (.slice adg xg.length qg))
            replace G : Hid (Below w.heap.size w (((V247.setCell ⟨D1.heap.size, 0, none⟩ (.bool ng)).setCell ⟨D1.heap.size, 1, none⟩ (.slice adg xg.length qg)))) := bset (bset (G.out) (by omega)) (by omega)
            replace GR : Hid (Below W0.heap.size W0 (((V247.setCell ⟨D1.heap.size, 0, none⟩ (.bool ng)).setCell ⟨D1.heap.size, 1, none⟩ (.slice adg xg.length qg)))) := bset (bset (GR.out) (by omega)) (by omega)
            have sz248 : V248.heap.size = V247.heap.size := by rw [← hW]; simp
            rw [hW] at Zh Po PN4 PN3 G GR
            rw [hW]
            clear hW
            refine hK.out _ _ (fun _ _ => ⟨Po.out.c0, Po.out.c1⟩) ?_
            clear hK
            try simp only [Act.put]
            refine wpAnyX_pure (i := 13) (oi := bdo1x13) (v := (.int .i64 0)) rfl (by kernel_rfl) (fun _ _ _ h => h) (Or.inl ⟨by rfl, ?_⟩)  ?_
            · intro w hSw
              (try dsimp only at hSw)
              dsimp only [bdo1x13]
              go_simp
            simp only [Act.put, List.setIfInBounds_toArray, List.set_cons_zero, List.set_cons_succ]
            refine wpAnyX_done (by kernel_rfl) ?_ _
            go_wp2_with fail
            go_meet
            exact ⟨⟨_, _, _, _, _, rfl, GR.out, by omega, PN3.out.blk, PN3.out, Zh.out.mono (by omega)⟩, rfl⟩
        · skip
          dsimp only [bdo1x9]
          go_simp
          obtain ⟨V249, hW⟩ : ∃ V249, w223.alloc zbox = V249 := ⟨_, rfl⟩
          obtain ⟨kW, sz249⟩ := alloc1 w223 zbox
          rw [hW] at kW sz249
          replace sz249 : w223.heap.size < V249.heap.size := by omega
          replace Zo := hid (Zo.out.now kW)
          replace Zp := hid (Zp.out.now kW)
          replace Po := hid (Po.out.step kW)
          replace PN4 := hid (PN4.out.step kW)
          replace G := hid (below_step G.out kW)
          replace GR := hid (below_step GR.out kW)
          have lz250 := (show Below _ _ _ from kW).size
          have PN3 : Hid (Duo V249 (w223.heap.size) (.bool false) (.slice none 0 0)) := by unfold Hid; rw [← hW]; exact duo_at rfl
          rw [hW]
          clear hW kW
          refine hK.out _ _ (fun _ _ => ⟨Po.out.c0, Po.out.c1⟩) ?_
          clear hK
          try simp only [Act.put]
          refine wpAnyX_one (i := 2) (o := bdo1x2) (by kernel_rfl) rfl (fun K hK => ?_)
          dsimp only [bdo1x2]
          go_simp
          go_at_call 18
          refine (sub_z Zo.out Zp.out.zi (by omega) (by omega)).mono ?_
          rintro e w251 ⟨r0, rfl, m0, b⟩
          obtain ⟨nd, xd, add, qd, rfl, -, -, -, -, -⟩ := id m0
          replace Zo := hid (Zo.out.now b)
          replace Zp := hid (Zp.out.now b)
          replace Po := hid (Po.out.step b)
          replace PN4 := hid (PN4.out.step b)
          replace PN3 := hid (PN3.out.step b)
          replace G := hid (below_step G.out b)
          replace GR := hid (below_step GR.out b)
          have lz252 := (show Below _ _ _ from b).size
          have Zd := hid m0
          clear b m0
          clear Zp
          clear Zo
          refine hK.out _ _ (fun _ _ => ⟨Po.out.c0, Po.out.c1⟩) ?_
          clear hK
          refine wpAnyX_one (i := 3) (o := bdo1x3) (by kernel_rfl) rfl (fun K hK => ?_)
          dsimp only [bdo1x3]
          go_simp
          go_at_call 20
          refine (of_z (n := 2) (by decide) (by decide) _).mono ?_
          rintro e w253 ⟨r0, rfl, m0, b⟩
          obtain ⟨nt, xt, adt, qt, rfl, -, -, -, -, -⟩ := id m0
          replace Zd := hid (Zd.out.now b)
          replace Po := hid (Po.out.step b)
          replace PN4 := hid (PN4.out.step b)
          replace PN3 := hid (PN3.out.step b)
          replace G := hid (below_step G.out b)
          replace GR := hid (below_step GR.out b)
          have lz254 := (show Below _ _ _ from b).size
          have Zt := hid m0
          clear b m0
          refine hK.out _ _ (fun _ _ => ⟨Po.out.c0, Po.out.c1⟩) ?_
          clear hK
          refine wpAnyX_one (i := 4) (o := bdo1x4) (by kernel_rfl) rfl (fun K hK => ?_)
          dsimp only [bdo1x4]
          go_simp
          go_at_call 46
          refine (floor_z Zd.out.zi Zt.out.zi (by decide) (by omega) (by omega)).mono ?_
          rintro e w255 ⟨r0, r1, rfl, m0, m1, b⟩
          obtain ⟨nh, xh, adh, qh, rfl, -, -, -, -, -⟩ := id m0
          obtain ⟨ng, xg, adg, qg, rfl, -, -, -, -, -⟩ := id m1
          replace Zd := hid (Zd.out.now b)
          replace Zt := hid (Zt.out.now b)
          replace Po := hid (Po.out.step b)
          replace PN4 := hid (PN4.out.step b)
          replace PN3 := hid (PN3.out.step b)
          replace G := hid (below_step G.out b)
          replace GR := hid (below_step GR.out b)
          have lz256 := (show Below _ _ _ from b).size
          have Zh := hid m0
          have Zg := hid m1
          clear b m0 m1
          clear Zd
          clear Zt
          clear Zg
          refine hK.out _ _ (fun _ _ => ⟨Po.out.c0, Po.out.c1⟩) ?_
          clear hK
          refine wpAnyX_pure (i := 5) (oi := bdo1x5) (v := (.tuple #[(.agg #[.bool nh, .slice adh xh.length qh]), (.agg #[.bool ng, .slice adg xg.length qg]), (.int .i64 0)])) rfl (by kernel_rfl) (fun _ _ _ h => h) (Or.inl ⟨by rfl, ?_⟩)  ?_
          · intro w hSw
            (try dsimp only at hSw)
            dsimp only [bdo1x5]
            go_simp
          simp only [Act.put, List.setIfInBounds_toArray, List.set_cons_zero, List.set_cons_succ]
          refine wpAnyX_pure (i := 6) (oi := bdo1x6) (v := (.agg #[.bool nh, .slice adh xh.length qh])) rfl (by kernel_rfl) (fun _ _ _ h => h) (Or.inl ⟨by rfl, ?_⟩)  ?_
          · intro w hSw
            (try dsimp only at hSw)
            dsimp only [bdo1x6]
            go_simp
          simp only [Act.put, List.setIfInBounds_toArray, List.set_cons_zero, List.set_cons_succ]
          refine wpAnyX_pure (i := 7) (oi := bdo1x7) (v := (.agg #[.bool ng, .slice adg xg.length qg])) rfl (by kernel_rfl) (fun _ _ _ h => h) (Or.inl ⟨by rfl, ?_⟩)  ?_
          · intro w hSw
            (try dsimp only at hSw)
            dsimp only [bdo1x7]
            go_simp
          simp only [Act.put, List.setIfInBounds_toArray, List.set_cons_zero, List.set_cons_succ]
          refine wpAnyX_pure (i := 8) (oi := bdo1x8) (v := (.int .i64 0)) rfl (by kernel_rfl) (fun _ _ _ h => h) (Or.inl ⟨by rfl, ?_⟩)  ?_
          · intro w hSw
            (try dsimp only at hSw)
            dsimp only [bdo1x8]
            go_simp
          simp only [Act.put, List.setIfInBounds_toArray, List.set_cons_zero, List.set_cons_succ]
          refine wpAnyX_one (i := 11) (o := bdo1x11) (by kernel_rfl) rfl (fun K hK => ?_)
          dsimp only [bdo1x11]
          have cN30 := PN3.out.c0
          have cN31 := PN3.out.c1
          have fN30 := PN3.out.fz 0
          have fN31 := PN3.out.fz 1
          go_simp
          clear cN30 cN31 fN30 fN31
          obtain ⟨V257, hW⟩ : ∃ V257, (w255.setCell ⟨w223.heap.size, 0, none⟩ (.bool nh)).setCell ⟨w223.heap.size, 1, none⟩ (.slice adh xh.length qh) = V257 := ⟨_, rfl⟩
          replace Zh := hid ((Zh.out).box (PN3.out) (.bool nh) (.slice adh xh.length qh))
          replace Po := hid ((Po.out).box (b' := w223.heap.size) (by omega) (.bool nh) (.slice adh xh.length qh))
          replace PN4 := hid ((PN4.out).box (b' := w223.heap.size) (by omega) (.bool nh) (.slice adh xh.length qh))
          replace PN3 := hid ((PN3.out).set (.bool nh) (.slice adh xh.length qh))
          replace G : Hid (Below w.heap.size w (((w255.setCell ⟨w223.heap.size, 0, none⟩ (.bool nh)).setCell ⟨w223.heap.size, 1, none⟩ (.slice adh xh.length qh)))) := bset (bset (G.out) (by omega)) (by omega)
          replace GR : Hid (Below W0.heap.size W0 (((w255.setCell ⟨w223.heap.size, 0, none⟩ (.bool nh)).setCell ⟨w223.heap.size, 1, none⟩ (.slice adh xh.length qh)))) := bset (bset (GR.out) (by omega)) (by omega)
          have sz257 : V257.heap.size = w255.heap.size := by rw [← hW]; simp
          rw [hW] at Zh Po PN4 PN3 G GR
          rw [hW]
          clear hW
          refine hK.out _ _ (fun _ _ => ⟨Po.out.c0, Po.out.c1⟩) ?_
          clear hK
          try simp only [Act.put]
          refine wpAnyX_one (i := 12) (o := bdo1x12) (by kernel_rfl) rfl (fun K hK => ?_)
          dsimp only [bdo1x12]
          have cN40 := PN4.out.c0
          have cN41 := PN4.out.c1
          have fN40 := PN4.out.fz 0
          have fN41 := PN4.out.fz 1
          go_simp
          clear cN40 cN41 fN40 fN41
          obtain ⟨V258, hW⟩ : ∃ V258, (V257.setCell ⟨D1.heap.size, 0, none⟩ (.bool ng)).setCell ⟨D1.heap.size, 1, none⟩ (.slice adg xg.length qg) = V258 := ⟨_, rfl⟩
          replace Zh := hid ((Zh.out).box (PN4.out) (.bool ng) (.slice adg xg.length qg))
          replace Po := hid ((Po.out).box (b' := D1.heap.size) (by omega) (.bool ng) (.slice adg xg.length qg))
          replace PN4 := hid ((PN4.out).set (.bool ng) (.slice adg xg.length qg))
          replace PN3 := hid ((PN3.out).box (b' := D1.heap.size) (by omega) (.bool ng) (.slice adg xg.length qg))
          replace G : Hid (Below w.heap.size w (((V257.setCell ⟨D1.heap.size, 0, none⟩ (.bool ng)).setCell ⟨D1.heap.size, 1, none⟩ (.slice adg xg.length qg)))) := bset (bset (G.out) (by omega)) (by omega)
          replace GR : Hid (Below W0.heap.size W0 (((V257.setCell ⟨D1.heap.size, 0, none⟩ (.bool ng)).setCell ⟨D1.heap.size, 1, none⟩ (.slice adg xg.length qg)))) := bset (bset (GR.out) (by omega)) (by omega)
          have sz258 : V258.heap.size = V257.heap.size := by rw [← hW]; simp
          rw [hW] at Zh Po PN4 PN3 G GR
          rw [hW]
          clear hW
          refine hK.out _ _ (fun _ _ => ⟨Po.out.c0, Po.out.c1⟩) ?_
          clear hK
          try simp only [Act.put]
          refine wpAnyX_pure (i := 13) (oi := bdo1x13) (v := (.int .i64 0)) rfl (by kernel_rfl) (fun _ _ _ h => h) (Or.inl ⟨by rfl, ?_⟩)  ?_
          · intro w hSw
            (try dsimp only at hSw)
            dsimp only [bdo1x13]
            go_simp
          simp only [Act.put, List.setIfInBounds_toArray, List.set_cons_zero, List.set_cons_succ]
          refine wpAnyX_done (by kernel_rfl) ?_ _
          go_wp2_with fail
          go_meet
          exact ⟨⟨_, _, _, _, _, rfl, GR.out, by omega, PN3.out.blk, PN3.out, Zh.out.mono (by omega)⟩, rfl⟩
      · skip
        dsimp only [bdo1x9]
        go_simp
        obtain ⟨V259, hW⟩ : ∃ V259, V221.alloc zbox = V259 := ⟨_, rfl⟩
        obtain ⟨kW, sz259⟩ := alloc1 V221 zbox
        rw [hW] at kW sz259
        replace sz259 : V221.heap.size < V259.heap.size := by omega
        replace Zo := hid (Zo.out.now kW)
        replace Po := hid (Po.out.step kW)
        replace PN4 := hid (PN4.out.step kW)
        replace G := hid (below_step G.out kW)
        replace GR := hid (below_step GR.out kW)
        have lz260 := (show Below _ _ _ from kW).size
        have PN3 : Hid (Duo V259 (V221.heap.size) (.bool false) (.slice none 0 0)) := by unfold Hid; rw [← hW]; exact duo_at rfl
        rw [hW]
        clear hW kW
        refine hK.out _ _ (fun _ _ => ⟨Po.out.c0, Po.out.c1⟩) ?_
        clear hK
        try simp only [Act.put]
        refine wpAnyX_one (i := 1) (o := bdo1x1) (by kernel_rfl) rfl (fun K hK => ?_)
        dsimp only [bdo1x1]
        go_simp
        go_at_call 20
        refine (of_z (n := 1) (by decide) (by decide) _).mono ?_
        rintro e w261 ⟨r0, rfl, m0, b⟩
        obtain ⟨np, xp, adp, qp, rfl, -, -, -, -, -⟩ := id m0
        replace Zo := hid (Zo.out.now b)
        replace Po := hid (Po.out.step b)
        replace PN4 := hid (PN4.out.step b)
        replace PN3 := hid (PN3.out.step b)
        replace G := hid (below_step G.out b)
        replace GR := hid (below_step GR.out b)
        have lz262 := (show Below _ _ _ from b).size
        have Zp := hid m0
        clear b m0
        refine hK.out _ _ (fun _ _ => ⟨Po.out.c0, Po.out.c1⟩) ?_
        clear hK
        refine wpAnyX_one (i := 2) (o := bdo1x2) (by kernel_rfl) rfl (fun K hK => ?_)
        dsimp only [bdo1x2]
        go_simp
        go_at_call 18
        refine (sub_z Zo.out Zp.out.zi (by omega) (by omega)).mono ?_
        rintro e w263 ⟨r0, rfl, m0, b⟩
        obtain ⟨nd, xd, add, qd, rfl, -, -, -, -, -⟩ := id m0
        replace Zo := hid (Zo.out.now b)
        replace Zp := hid (Zp.out.now b)
        replace Po := hid (Po.out.step b)
        replace PN4 := hid (PN4.out.step b)
        replace PN3 := hid (PN3.out.step b)
        replace G := hid (below_step G.out b)
        replace GR := hid (below_step GR.out b)
        have lz264 := (show Below _ _ _ from b).size
        have Zd := hid m0
        clear b m0
        clear Zp
        clear Zo
        refine hK.out _ _ (fun _ _ => ⟨Po.out.c0, Po.out.c1⟩) ?_
        clear hK
        refine wpAnyX_one (i := 3) (o := bdo1x3) (by kernel_rfl) rfl (fun K hK => ?_)
        dsimp only [bdo1x3]
        go_simp
        go_at_call 20
        refine (of_z (n := 2) (by decide) (by decide) _).mono ?_
        rintro e w265 ⟨r0, rfl, m0, b⟩
        obtain ⟨nt, xt, adt, qt, rfl, -, -, -, -, -⟩ := id m0
        replace Zd := hid (Zd.out.now b)
        replace Po := hid (Po.out.step b)
        replace PN4 := hid (PN4.out.step b)
        replace PN3 := hid (PN3.out.step b)
        replace G := hid (below_step G.out b)
        replace GR := hid (below_step GR.out b)
        have lz266 := (show Below _ _ _ from b).size
        have Zt := hid m0
        clear b m0
        refine hK.out _ _ (fun _ _ => ⟨Po.out.c0, Po.out.c1⟩) ?_
        clear hK
        refine wpAnyX_one (i := 4) (o := bdo1x4) (by kernel_rfl) rfl (fun K hK => ?_)
        dsimp only [bdo1x4]
        go_simp
        go_at_call 46
        refine (floor_z Zd.out.zi Zt.out.zi (by decide) (by omega) (by omega)).mono ?_
        rintro e w267 ⟨r0, r1, rfl, m0, m1, b⟩
        obtain ⟨nh, xh, adh, qh, rfl, -, -, -, -, -⟩ := id m0
        obtain ⟨ng, xg, adg, qg, rfl, -, -, -, -, -⟩ := id m1
        replace Zd := hid (Zd.out.now b)
        replace Zt := hid (Zt.out.now b)
        replace Po := hid (Po.out.step b)
        replace PN4 := hid (PN4.out.step b)
        replace PN3 := hid (PN3.out.step b)
        replace G := hid (below_step G.out b)
        replace GR := hid (below_step GR.out b)
        have lz268 := (show Below _ _ _ from b).size
        have Zh := hid m0
        have Zg := hid m1
        clear b m0 m1
        clear Zd
        clear Zt
        clear Zg
        refine hK.out _ _ (fun _ _ => ⟨Po.out.c0, Po.out.c1⟩) ?_
        clear hK
        refine wpAnyX_pure (i := 5) (oi := bdo1x5) (v := (.tuple #[(.agg #[.bool nh, .slice adh xh.length qh]), (.agg #[.bool ng, .slice adg xg.length qg]), (.int .i64 0)])) rfl (by kernel_rfl) (fun _ _ _ h => h) (Or.inl ⟨by rfl, ?_⟩)  ?_
        · intro w hSw
          (try dsimp only at hSw)
          dsimp only [bdo1x5]
          go_simp
        simp only [Act.put, List.setIfInBounds_toArray, List.set_cons_zero, List.set_cons_succ]
        refine wpAnyX_pure (i := 6) (oi := bdo1x6) (v := (.agg #[.bool nh, .slice adh xh.length qh])) rfl (by kernel_rfl) (fun _ _ _ h => h) (Or.inl ⟨by rfl, ?_⟩)  ?_
        · intro w hSw
          (try dsimp only at hSw)
          dsimp only [bdo1x6]
          go_simp
        simp only [Act.put, List.setIfInBounds_toArray, List.set_cons_zero, List.set_cons_succ]
        refine wpAnyX_pure (i := 7) (oi := bdo1x7) (v := (.agg #[.bool ng, .slice adg xg.length qg])) rfl (by kernel_rfl) (fun _ _ _ h => h) (Or.inl ⟨by rfl, ?_⟩)  ?_
        · intro w hSw
          (try dsimp only at hSw)
          dsimp only [bdo1x7]
          go_simp
        simp only [Act.put, List.setIfInBounds_toArray, List.set_cons_zero, List.set_cons_succ]
        refine wpAnyX_pure (i := 8) (oi := bdo1x8) (v := (.int .i64 0)) rfl (by kernel_rfl) (fun _ _ _ h => h) (Or.inl ⟨by rfl, ?_⟩)  ?_
        · intro w hSw
          (try dsimp only at hSw)
          dsimp only [bdo1x8]
          go_simp
        simp only [Act.put, List.setIfInBounds_toArray, List.set_cons_zero, List.set_cons_succ]
        refine wpAnyX_one (i := 11) (o := bdo1x11) (by kernel_rfl) rfl (fun K hK => ?_)
        dsimp only [bdo1x11]
        have cN30 := PN3.out.c0
        have cN31 := PN3.out.c1
        have fN30 := PN3.out.fz 0
        have fN31 := PN3.out.fz 1
        go_simp
        clear cN30 cN31 fN30 fN31
        obtain ⟨V269, hW⟩ : ∃ V269, (w267.setCell ⟨V221.heap.size, 0, none⟩ (.bool nh)).setCell ⟨V221.heap.size, 1, none⟩ (.slice adh xh.length qh) = V269 := ⟨_, rfl⟩
        replace Zh := hid ((Zh.out).box (PN3.out) (.bool nh) (.slice adh xh.length qh))
        replace Po := hid ((Po.out).box (b' := V221.heap.size) (by omega) (.bool nh) (.slice adh xh.length qh))
        replace PN4 := hid ((PN4.out).box (b' := V221.heap.size) (by omega) (.bool nh) (.slice adh xh.length qh))
        replace PN3 := hid ((PN3.out).set (.bool nh) (.slice adh xh.length qh))
        replace G : Hid (Below w.heap.size w (((w267.setCell ⟨V221.heap.size, 0, none⟩ (.bool nh)).setCell ⟨V221.heap.size, 1, none⟩ (.slice adh xh.length qh)))) := bset (bset (G.out) (by omega)) (by omega)
        replace GR : Hid (Below W0.heap.size W0 (((w267.setCell ⟨V221.heap.size, 0, none⟩ (.bool nh)).setCell ⟨V221.heap.size, 1, none⟩ (.slice adh xh.length qh)))) := bset (bset (GR.out) (by omega)) (by omega)
        have sz269 : V269.heap.size = w267.heap.size := by rw [← hW]; simp
        rw [hW] at Zh Po PN4 PN3 G GR
        rw [hW]
        clear hW
        refine hK.out _ _ (fun _ _ => ⟨Po.out.c0, Po.out.c1⟩) ?_
        clear hK
        try simp only [Act.put]
        refine wpAnyX_one (i := 12) (o := bdo1x12) (by kernel_rfl) rfl (fun K hK => ?_)
        dsimp only [bdo1x12]
        have cN40 := PN4.out.c0
        have cN41 := PN4.out.c1
        have fN40 := PN4.out.fz 0
        have fN41 := PN4.out.fz 1
        go_simp
        clear cN40 cN41 fN40 fN41
        obtain ⟨V270, hW⟩ : ∃ V270, (V269.setCell ⟨D1.heap.size, 0, none⟩ (.bool ng)).setCell ⟨D1.heap.size, 1, none⟩ (.slice adg xg.length qg) = V270 := ⟨_, rfl⟩
        replace Zh := hid ((Zh.out).box (PN4.out) (.bool ng) (.slice adg xg.length qg))
        replace Po := hid ((Po.out).box (b' := D1.heap.size) (by omega) (.bool ng) (.slice adg xg.length qg))
        replace PN4 := hid ((PN4.out).set (.bool ng) (.slice adg xg.length qg))
        replace PN3 := hid ((PN3.out).box (b' := D1.heap.size) (by omega) (.bool ng) (.slice adg xg.length qg))
        replace G : Hid (Below w.heap.size w (((V269.setCell ⟨D1.heap.size, 0, none⟩ (.bool ng)).setCell ⟨D1.heap.size, 1, none⟩ (.slice adg xg.length qg)))) := bset (bset (G.out) (by omega)) (by omega)
        replace GR : Hid (Below W0.heap.size W0 (((V269.setCell ⟨D1.heap.size, 0, none⟩ (.bool ng)).setCell ⟨D1.heap.size, 1, none⟩ (.slice adg xg.length qg)))) := bset (bset (GR.out) (by omega)) (by omega)
        have sz270 : V270.heap.size = V269.heap.size := by rw [← hW]; simp
        rw [hW] at Zh Po PN4 PN3 G GR
        rw [hW]
        clear hW
        refine hK.out _ _ (fun _ _ => ⟨Po.out.c0, Po.out.c1⟩) ?_
        clear hK
        try simp only [Act.put]
        refine wpAnyX_pure (i := 13) (oi := bdo1x13) (v := (.int .i64 0)) rfl (by kernel_rfl) (fun _ _ _ h => h) (Or.inl ⟨by rfl, ?_⟩)  ?_
        · intro w hSw
          (try dsimp only at hSw)
          dsimp only [bdo1x13]
          go_simp
        simp only [Act.put, List.setIfInBounds_toArray, List.set_cons_zero, List.set_cons_succ]
        refine wpAnyX_done (by kernel_rfl) ?_ _
        go_wp2_with fail
        go_meet
        exact ⟨⟨_, _, _, _, _, rfl, GR.out, by omega, PN3.out.blk, PN3.out, Zh.out.mono (by omega)⟩, rfl⟩
  case rest =>
  obtain ⟨⟨bkh, nh, xh, adh, qh, rfl, b, geh, lth, p, m⟩, rfl⟩ := hcut
  replace Zo := hid (Zo.out.now b)
  replace Po := hid (Po.out.step b)
  replace PR := hid (PR.out.step b)
  replace G := hid (below_step G.out b)
  have lz272 := (show Below _ _ _ from b).size
  have Zh := hid m
  have Ph := hid p
  clear b p m
  generalize wc = C272 at *
  have ch0 := Ph.out.c0
  have ch1 := Ph.out.c1
  go_wp2_with fail
  clear ch0 ch1
  refine (sqrt_z Zh.out.zi (by omega)).mono ?_
  rintro e w9 ⟨r, zs, az, cz, u, hr, rfl, s1, c1, v1, b⟩
  have BD := hid (bd_of HO.out hr)
  have S1 := hid s1
  have HC := hid c1
  have HV := hid v1
  have HL : Hid (zs.length ≤ k) := canon_small c1 (by
    have := BD.out.le
    have := LO.out
    rw [v1]
    omega)
  clear hr s1 c1 v1
  replace Zo := hid (Zo.out.now b)
  replace Zh := hid (Zh.out.now b)
  replace Po := hid (Po.out.step b)
  replace PR := hid (PR.out.step b)
  replace Ph := hid (Ph.out.step b)
  replace G := hid (below_step G.out b)
  have lz273 := (show Below _ _ _ from b).size
  clear b
  have cR0 := PR.out.c0
  have cR1 := PR.out.c1
  have fR0 := PR.out.fz 0
  have fR1 := PR.out.fz 1
  have FIN : Hid (Zc w9 (.agg #[.bool false, .slice az zs.length cz]) (r : Int) k) := ⟨false, zs, az, cz, rfl, S1.out, HC.out, fun _ => rfl, (iv_pos zs).trans HV.out, HL.out⟩
  go_wp2
  exact bodyPost_ret (zback Try.results55 (PR.out.set _ _) _ (by rfl)) rfl ⟨_, BD.out, _, rfl, FIN.out.wk (PR.out.wk _ _), bset (bset G.out (by omega)) (by omega)⟩

end Go.Proofs.Ytaoammmnpfbdfaa
