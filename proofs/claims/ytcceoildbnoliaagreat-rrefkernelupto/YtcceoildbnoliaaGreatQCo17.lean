/-
  Co17: columnsOf.
-/
import Derived.Test.YtcceoildbnoliaaGreatQCk17ToCj17
import Derived.Test.YtcceoildbnoliaaGreatQDu12ToTailL
namespace Go.Proofs.YtcceoildbnoliaaGreat
open Go.RowKit
set_option linter.unusedVariables false
set_option linter.unusedSimpArgs false

/-- The columns' numbers. -/
def clP (c : Nat) (P : Nat → Int) (j i : Nat) : Int := P (i * c + j)
structure CoJ (w : World) (bq gc gr r c : Nat) (a : Option Addr) (l cap : Nat) (P Q : Nat → Int) (k i j0 : Nat) (C : Nat → Nat → Nat → Value) (wx : World) : Prop where
  q : Cel wx bq 24 [.int .i64 (r : Int), .int .i64 (c : Int), .slice a l cap]
  f : FilS wx gr r r (fun j u => Qs w u c (rwP c P j) (rwP c Q j) k)
  s : Cls w.heap.size gc c i j0 C wx
  z : ∀ j t, j < c → t < ln17 i j0 j → Zi w (.agg #[C j t 0, C j t 1]) (clP c P j t) k ∧ Zi w (.agg #[C j t 2, C j t 3]) (clP c Q j t) k
  b : Below w.heap.size w wx
theorem CoJ.now {w : World} {bq gc gr r c : Nat} {a : Option Addr} {l cap : Nat} {P Q : Nat → Int} {k i j0 : Nat} {C : Nat → Nat → Nat → Value} {wx wy : World} (h : CoJ w bq gc gr r c a l cap P Q k i j0 C wx) (hb : Below wx.heap.size wx wy) : CoJ w bq gc gr r c a l cap P Q k i j0 C wy :=
  ⟨h.q.step hb, h.f.step hb fun _ _ _ q => q, h.s.now hb, h.z, below_step h.b hb⟩
def CoD (w : World) (r c : Nat) (P Q : Nat → Int) (k : Nat) (e : Ending) (w' : World) : Prop := ∃ v, e = .returned v ∧ QLs w' v c r (clP c P) (clP c Q) k ∧ Below w.heap.size w w'
/-- The columns as lists of their own. -/
def CoE (w : World) (r c : Nat) (P Q : Nat → Int) (k : Nat) (e : Ending) (w' : World) : Prop := ∃ (gc : Nat) (C : Nat → Nat → Nat → Value), e = .returned (.slice (some ⟨gc, 0, none⟩) c c) ∧ w.heap.size ≤ gc ∧ Cls w.heap.size gc c r 0 C w' ∧ (∀ j t, j < c → t < r → Zi w (.agg #[C j t 0, C j t 1]) (clP c P j t) k ∧ Zi w (.agg #[C j t 2, C j t 3]) (clP c Q j t) k) ∧ Below w.heap.size w w'
set_option maxHeartbeats 6400000 in
set_option maxRecDepth 100000 in
theorem columnsOf17c {w : World} {a : Option Addr} {l cap r c k : Nat} {P Q : Nat → Int} (hv : Qs w (.slice a l cap) l P Q k) (hl : l = r * c) (hr : r ≤ 64) (hc : c ≤ 64) :
    Calls Tryz.prog 50 #[qmv r c (.slice a l cap)] w (CoE w r c P Q k) := by
  have HRO : Hid (∀ w', Calls Tryz.prog 30 #[.agg #[.int .i64 (r : Int), .int .i64 (c : Int), .slice a l cap]] w' (Rod w w' r c P Q k)) := fun w' => rowsOf17 hv hl hr hc
  obtain ⟨W0, hW⟩ : ∃ W0, w.alloc (.cells #[.int .i64 (r : Int), .int .i64 (c : Int), .slice a l cap] 24) = W0 := ⟨_, rfl⟩
  obtain ⟨b0, sz0⟩ := alo1 w (.cells #[.int .i64 (r : Int), .int .i64 (c : Int), .slice a l cap] 24)
  rw [hW] at b0 sz0
  have CQ : Hid (Cel W0 w.heap.size 24 [.int .i64 (r : Int), .int .i64 (c : Int), .slice a l cap]) := by unfold Hid; rw [← hW]; exact Cel.new w _ _
  have c1 := CQ.out.at (i := 1) rfl
  rw [← hW] at c1
  have B0 := hid b0
  have EW := hid hW
  have SZ := hid sz0
  clear hv hl b0 sz0 hW
  show Calls Tryz.prog 50 #[.agg #[.int .i64 (r : Int), .int .i64 (c : Int), .slice a l cap]] w _
  go_enter Tryz.func50, Tryz.ntmps50
  go_wp2_with (at_make; rw [EW.out]; refine wpList_make_rows17 _ rfl _ _ rfl _ _ c c rfl rfl rfl rfl (Nat.le_refl _) (by omega) ?_)
  intro w1 hrow hb1 hsz1
  have CQ1 := hid (CQ.out.step hb1.out)
  have G1 := hid (below_step B0.out hb1.out)
  have HRW := hid (HRO.out w1)
  have HGC : Hid (w.heap.size < W0.heap.size) := by unfold Hid; rw [SZ.out]; omega
  have HGC2 : Hid (W0.heap.size < w1.heap.size) := by unfold Hid; rw [hsz1.out]; omega
  have ROW := hrow
  have q0 := CQ1.out.at (i := 0) rfl
  have q1 := CQ1.out.at (i := 1) rfl
  have q2 := CQ1.out.at (i := 2) rfl
  clear hrow hb1 hsz1 CQ B0 EW SZ c1 HRO
  generalize W0.heap.size = gc at *
  go_wp2_with fail
  refine HRW.out.mono ?_
  rintro e w2 ⟨gr, rfl, hgr, hfil, b2⟩
  have HGG : Hid (gc ≠ gr) := by unfold Hid; have := HGC2.out; omega
  obtain ⟨bq, hbq⟩ : ∃ bq, w.heap.size = bq := ⟨_, rfl⟩
  have EQ := hid hbq
  have HBQ : Hid (gc ≠ bq ∧ w.heap.size ≤ gc) := by unfold Hid; have := HGC.out; omega
  have H0 : Hid (∃ (i : Nat) (C : Nat → Nat → Nat → Value), Value.int .i64 0 = .int .i64 (i : Int) ∧ i ≤ r ∧ r = r - i ∧ CoJ w bq gc gr r c a l cap P Q k i 0 C w2) := ⟨0, fun _ _ _ => .bool false, rfl, Nat.zero_le _, rfl, ⟨by rw [← hbq]; exact CQ1.out.step b2, hfil, Cls.start (ROW.out.step b2) _, fun j t hj ht => by unfold ln17 at ht; rw [if_neg (by omega)] at ht; omega, below_step G1.out b2⟩⟩
  clear HRW hgr hfil b2 CQ1 G1 ROW q0 q1 q2 HGC HGC2 hbq
  go_wp2_with fail
  rw [EQ.out]
  go_loopg [14] r (fun gk s14 wx => ∃ (i : Nat) (C : Nat → Nat → Nat → Value), s14 = .int .i64 (i : Int) ∧ i ≤ r ∧ gk = r - i ∧ CoJ w bq gc gr r c a l cap P Q k i 0 C wx)
  case atStart => exact H0.out
  case round =>
    clear H0
    obtain ⟨i, C, rfl, hir, hgk, hJ⟩ := hrel
    have J := hid hJ
    have HG := hid hgk
    clear hJ hgk
    by_cases hlt : i < r
    · have hlt' : (i : Int) < (r : Int) := by omega
      have hwi := wrapI9 (i := i) (by omega)
      obtain ⟨ra, rl, rc, k0, -, hqs⟩ := J.out.f.cells hlt
      have hq := hqs hlt
      obtain ⟨ra', rc', he, -, -, hra⟩ := hq.form
      simp only [Value.slice.injEq] at he
      obtain ⟨he1, he2, he3⟩ := he
      subst he1
      subst he3
      subst he2
      have HQ := hid hq
      have HRA := hid hra
      have HMO : Hid (r - (i + 1) < gk) := by unfold Hid; rw [HG.out]; omega
      have HI : Hid (∃ (j : Nat) (C : Nat → Nat → Nat → Value), Value.int .i64 0 = .int .i64 (j : Int) ∧ j ≤ rl ∧ rl = rl - j ∧ CoJ w bq gc gr r rl a l cap P Q k i j C wr) := ⟨0, C, rfl, Nat.zero_le _, rfl, J.out⟩
      clear hqs hq hra HG
      go_wp2_with fail
      clear k0
      go_loopg [20] rl (fun gk s20 wx => ∃ (j : Nat) (C : Nat → Nat → Nat → Value), s20 = .int .i64 (j : Int) ∧ j ≤ rl ∧ gk = rl - j ∧ CoJ w bq gc gr r rl a l cap P Q k i j C wx)
      case atStart => exact HI.out
      case round =>
        clear HI J
        obtain ⟨j, C, rfl, hjc, hgk, hJ⟩ := hrel
        have J := hid hJ
        have HG := hid hgk
        clear hJ hgk
        by_cases hlt2 : j < rl
        · have hlt2' : (j : Int) < (rl : Int) := by omega
          have hwj := wrapI9 (i := j) (by omega)
          obtain ⟨rb, ro, rfl⟩ := HRA.out (by omega)
          obtain ⟨n1, a1, l1, c1, n2, a2, l2, c2, e1, e2, e3, e4, -, -⟩ := (HQ.out.now J.out.b).at hlt2
          obtain ⟨m1, d1, f1, g1, m2, d2, f2, g2, h1, h2, h3, h4, hzp, hzq⟩ := HQ.out.at hlt2
          have q1 := (cnow J.out.b h1).symm.trans e1
          have q2 := (cnow J.out.b h2).symm.trans e2
          have q3 := (cnow J.out.b h3).symm.trans e3
          have q4 := (cnow J.out.b h4).symm.trans e4
          simp only [Option.some.injEq] at q1 q2 q3 q4
          rw [q1, q2] at hzp
          rw [q3, q4] at hzq
          have ZP := hid hzp
          have ZQ := hid hzq
          have HMM : Hid (rl - (j + 1) < gk) := by unfold Hid; rw [HG.out]; omega
          obtain ⟨V1, hV⟩ : ∃ V1, wr.alloc (.cells #[.bool n1, .slice a1 l1 c1, .bool n2, .slice a2 l2 c2] 47) = V1 := ⟨_, rfl⟩
          obtain ⟨b, sz1⟩ := alo1 wr (.cells #[.bool n1, .slice a1 l1 c1, .bool n2, .slice a2 l2 c2] 47)
          rw [hV] at b sz1
          have DF : Hid (Cel V1 wr.heap.size 47 [.bool n1, .slice a1 l1 c1, .bool n2, .slice a2 l2 c2]) := by unfold Hid; rw [← hV]; exact Cel.new wr _ _
          have J1 := hid (J.out.now b)
          obtain ⟨ca, cc, k0, -, hOc⟩ := J1.out.s.at hlt2
          have OC := hid hOc
          have d0 := DF.out.at (i := 0) rfl
          have dd1 := DF.out.at (i := 1) rfl
          have dd2 := DF.out.at (i := 2) rfl
          have dd3 := DF.out.at (i := 3) rfl
          have EV := hid hV
          have HB1 : Hid (w.heap.size ≤ V1.heap.size) := J1.out.b.size
          have HNB : Hid (∀ bb, (Value.slice ca i cc).ownBlock = some bb → bb ≠ wr.heap.size) := fun bb hb e => by
            obtain ⟨ca', cc', k0', -, hOc'⟩ := J.out.s.at hlt2
            have q := (cnow b k0').symm.trans k0
            simp only [Option.some.injEq] at q
            rw [← q] at hb
            have := (hOc'.own hb).2.1
            omega
          clear h1 h2 h3 h4 q1 q2 q3 q4 hzp hzq hV b sz1 hOc J HG
          go_wp2_with fail
          rw [EV.out]
          clear EV e1 e2 e3 e4
          generalize wr.heap.size = bx at *
          have KB : Hid (∀ w', Below V1.heap.size V1 w' → w'.cell? ⟨gc, j, none⟩ = some (.slice ca i cc) ∧ w'.cell? ⟨bx, 0, none⟩ = some (.bool n1) ∧ w'.cell? ⟨bx, 1, none⟩ = some (.slice a1 l1 c1) ∧ w'.cell? ⟨bx, 2, none⟩ = some (.bool n2) ∧ w'.cell? ⟨bx, 3, none⟩ = some (.slice a2 l2 c2)) := fun w' h => ⟨cnow h k0, cnow h d0, cnow h dd1, cnow h dd2, cnow h dd3⟩
          refine wp_region_tail (fun w' => w'.cell? ⟨gc, j, none⟩ = some (.slice ca i cc) ∧ w'.cell? ⟨bx, 0, none⟩ = some (.bool n1) ∧ w'.cell? ⟨bx, 1, none⟩ = some (.slice a1 l1 c1) ∧ w'.cell? ⟨bx, 2, none⟩ = some (.bool n2) ∧ w'.cell? ⟨bx, 3, none⟩ = some (.slice a2 l2 c2)) 10 (by kernel_rfl) ?_
          obtain ⟨D1, hD⟩ : ∃ D1, V1.drew = D1 := ⟨_, rfl⟩
          have GB : Hid (Below V1.heap.size V1 D1) := by unfold Hid; rw [← hD]; exact (Below.refl _ _).drew
          rw [hD]
          clear hD
          have KC := hid (KB.out _ GB.out)
          refine wpAnyT_take (i := 0) (oi := { dst := some 25, op := Op.move (Operand.tmp 3), type := 71, pos := "lines.go:91", after := #[], guard := none }) (v := (.slice (some ⟨gc, 0, none⟩) rl rl)) rfl (by kernel_rfl) (fun _ _ _ h => h) (Or.inl ⟨by rfl, ?_⟩) (KC.out) ?_
          · intro w hSw
            (try dsimp only at hSw)
            go_simp
          simp only [Act.put, List.setIfInBounds_toArray, List.set_cons_zero, List.set_cons_succ]
          refine wpAnyT_take (i := 1) (oi := { dst := some 26, op := Op.move (Operand.tmp 6), type := 3, pos := "lines.go:91", after := #[], guard := none }) (v := (.int .i64 (j : Int))) rfl (by kernel_rfl) (fun _ _ _ h => h) (Or.inl ⟨by rfl, ?_⟩) (KC.out) ?_
          · intro w hSw
            (try dsimp only at hSw)
            go_simp
          simp only [Act.put, List.setIfInBounds_toArray, List.set_cons_zero, List.set_cons_succ]
          refine wpAnyT_take (i := 2) (oi := { dst := some 27, op := Op.move (Operand.tmp 3), type := 71, pos := "lines.go:91", after := #[], guard := none }) (v := (.slice (some ⟨gc, 0, none⟩) rl rl)) rfl (by kernel_rfl) (fun _ _ _ h => h) (Or.inl ⟨by rfl, ?_⟩) (KC.out) ?_
          · intro w hSw
            (try dsimp only at hSw)
            go_simp
          simp only [Act.put, List.setIfInBounds_toArray, List.set_cons_zero, List.set_cons_succ]
          refine wpAnyT_take (i := 3) (oi := { dst := some 28, op := Op.move (Operand.tmp 6), type := 3, pos := "lines.go:91", after := #[], guard := none }) (v := (.int .i64 (j : Int))) rfl (by kernel_rfl) (fun _ _ _ h => h) (Or.inl ⟨by rfl, ?_⟩) (KC.out) ?_
          · intro w hSw
            (try dsimp only at hSw)
            go_simp
          simp only [Act.put, List.setIfInBounds_toArray, List.set_cons_zero, List.set_cons_succ]
          refine wpAnyT_take (i := 4) (oi := { dst := some 29, op := Op.indexAddr 71 (Operand.tmp 27) (Operand.tmp 28), type := 0, pos := "lines.go:91", after := #[{ on := 2, ground := Ground.data }, { on := 3, ground := Ground.data }], guard := none }) (v := (.pointer (some ⟨gc, j, none⟩))) rfl (by kernel_rfl) (fun _ _ _ h => h) (Or.inl ⟨by rfl, ?_⟩) (KC.out) ?_
          · intro w hSw
            (try dsimp only at hSw)
            go_simp
          simp only [Act.put, List.setIfInBounds_toArray, List.set_cons_zero, List.set_cons_succ]
          refine wpAnyT_take (i := 5) (oi := { dst := some 30, op := Op.load 22 (Operand.tmp 29), type := 22, pos := "lines.go:91", after := #[{ on := 4, ground := Ground.data }], guard := none }) (v := (.slice ca i cc)) rfl (by kernel_rfl) (fun _ _ _ h => h) (Or.inl ⟨by rfl, ?_⟩) (KC.out) ?_
          · intro w hSw
            (try dsimp only at hSw)
            go_simp
          simp only [Act.put, List.setIfInBounds_toArray, List.set_cons_zero, List.set_cons_succ]
          refine wpAnyT_take (i := 6) (oi := { dst := some 31, op := Op.load 47 (Operand.tmp 7), type := 47, pos := "lines.go:91", after := #[], guard := none }) (v := (.agg #[.bool n1, .slice a1 l1 c1, .bool n2, .slice a2 l2 c2])) rfl (by kernel_rfl) (fun _ _ _ h => h) (Or.inl ⟨by rfl, ?_⟩) (KC.out) ?_
          · intro w hSw
            (try dsimp only at hSw)
            go_simp
          simp only [Act.put, List.setIfInBounds_toArray, List.set_cons_zero, List.set_cons_succ]
          refine wpAnyT_one (i := 7) (o := { dst := some 32, op := Op.buildSlice 22 1 #[(0, Operand.tmp 31)], type := 22, pos := "lines.go:91", after := #[{ on := 6, ground := Ground.data }], guard := none }) (by kernel_rfl) rfl (fun K hK => ?_)
          go_simp
          obtain ⟨V52, hW⟩ : ∃ V52, D1.alloc (.cells #[.bool n1, .slice a1 l1 c1, .bool n2, .slice a2 l2 c2] 47) = V52 := ⟨_, rfl⟩
          obtain ⟨b, szz⟩ := alo1 D1 (.cells #[.bool n1, .slice a1 l1 c1, .bool n2, .slice a2 l2 c2] 47)
          rw [hW] at b szz
          replace GB := hid (below_step GB.out b)
          replace KC := hid (KB.out _ GB.out)
          have CX : Hid (Cel V52 D1.heap.size 47 [.bool n1, .slice a1 l1 c1, .bool n2, .slice a2 l2 c2]) := by unfold Hid; rw [← hW]; exact Cel.new D1 _ _
          rw [hW]
          clear hW b szz
          refine hK.out _ _ (fun _ => KC.out) ?_
          clear hK
          try simp only [Act.put]
          refine wpAnyT_one (i := 8) (o := { dst := some 33, op := Op.call { callee := Callee.builtin Builtin.append, args := #[Operand.tmp 30, Operand.tmp 32], argTypes := #[22, 22] }, type := 22, pos := "lines.go:91", after := #[{ on := 5, ground := Ground.data }, { on := 7, ground := Ground.data }], guard := none }) (by kernel_rfl) rfl (fun K hK => ?_)
          have JX := hid (J1.out.now GB.out)
          have OX := hid (OC.out.now GB.out)
          have DX := hid (DF.out.step GB.out)
          have HBX : Hid (w.heap.size ≤ V52.heap.size) := by unfold Hid; have := GB.out.size; have := HB1.out; omega
          obtain ⟨F, hF⟩ : ∃ F : Nat → Value, F = fun r => (#[Value.bool n1, .slice a1 l1 c1, .bool n2, .slice a2 l2 c2] : Array Value).getD r (.bool false) := ⟨_, rfl⟩
          have F0 : F 0 = .bool n1 := by rw [hF]; rfl
          have F1 : F 1 = .slice a1 l1 c1 := by rw [hF]; rfl
          have F2 : F 2 = .bool n2 := by rw [hF]; rfl
          have F3 : F 3 = .slice a2 l2 c2 := by rw [hF]; rfl
          have HFF : Hid (IsQ F ∧ Zi w (.agg #[F 0, F 1]) (rwP rl P i j) k ∧ Zi w (.agg #[F 2, F 3]) (rwP rl Q i j) k) := by
            unfold Hid
            rw [F0, F1, F2, F3]
            exact ⟨⟨n1, a1, l1, c1, n2, a2, l2, c2, F0, F1, F2, F3⟩, ZP.out, ZQ.out⟩
          have HCN : Hid (∀ (t r : Nat), t < 1 → r < 4 → V52.cell? ⟨D1.heap.size, 0 + t * 4 + r, none⟩ = some ((fun _ => F) t r)) := fun t r ht hr => by
            obtain rfl : t = 0 := by omega
            show _ = some (F r)
            match r, hr with
            | 0, _ => rw [F0]; exact CX.out.at (i := 0) rfl
            | 1, _ => rw [F1]; exact CX.out.at (i := 1) rfl
            | 2, _ => rw [F2]; exact CX.out.at (i := 2) rfl
            | 3, _ => rw [F3]; exact CX.out.at (i := 3) rfl
          clear hF F0 F1 F2 F3
          refine step_append_four V52 rfl (.tmp 30) (.tmp 32) rfl w.heap.size i 1 1 D1.heap.size 0 (.slice ca i cc) (C j) (fun _ => F) rfl OX.out rfl HCN.out (fun _ _ => HFF.out.1) (by omega) (by omega) HBX.out ?_
          intro g9 cap9 w53 l9 hl9 hO9 hg9 ho9
          have TG : Hid (Ty 47 V52 w53) := Ty.grown OX.out.1 hg9.out
          have BG : Hid (Below w.heap.size w w53) := Own4.below JX.out.b OX.out hg9.out HBX.out
          have DX2 : Hid (Cel w53 bx 47 [.bool n1, .slice a1 l1 c1, .bool n2, .slice a2 l2 c2]) := by
            unfold Hid Cel
            rw [hg9.out.block bx DX.out.blk fun q => HNB.out bx q.symm rfl]
            exact DX.out
          have KX := KC.out.1
          obtain ⟨vsX, vX1, vX2, vX3, vX4⟩ := JX.out.s
          have CG := hid (vX1.ty13 TG.out (by decide))
          replace KC := hid (⟨(World.cell?_of_block (a := ⟨gc, j, none⟩) (show w53.heap[gc]? = V52.heap[gc]? from (show _ = _ from CG.out).trans (show _ = _ from vX1).symm)).trans KX, DX2.out.at (i := 0) rfl, DX2.out.at (i := 1) rfl, DX2.out.at (i := 2) rfl, DX2.out.at (i := 3) rfl⟩ : _ ∧ _ ∧ _ ∧ _ ∧ _)
          have PUT := hid (fun (hc : V52.cell? ⟨gc, j, none⟩ = some (.slice ca i cc)) => JX.out.s.put hlt2 hc hl9.out hO9.out hg9.out ho9.out TG.out)
          have KX1 := hid KX
          have MQ := hid (JX.out.q.ty13 TG.out (by decide))
          have MF : Hid (FilS w53 gr r r (fun j u => Qs w u rl (rwP rl P j) (rwP rl Q j) k)) := by
            obtain ⟨vs, s1, s2, s3, s4⟩ := JX.out.f
            exact ⟨vs, s1.ty13 TG.out (by decide), s2, s3, s4⟩
          have MZ := hid JX.out.z
          clear hl9 hO9 hg9 ho9 OX DX HBX HCN CX JX KX vX1 vX2 vX3 vX4 DX2
          refine hK.out _ _ (fun _ => KC.out) ?_
          clear hK
          refine wpAnyT_take (i := 9) (oi := { dst := some 34, op := Op.indexAddr 71 (Operand.tmp 25) (Operand.tmp 26), type := 0, pos := "lines.go:91", after := #[{ on := 0, ground := Ground.data }, { on := 1, ground := Ground.data }, { on := 0, ground := Ground.phase }, { on := 1, ground := Ground.phase }, { on := 2, ground := Ground.phase }, { on := 3, ground := Ground.phase }, { on := 4, ground := Ground.phase }, { on := 5, ground := Ground.phase }, { on := 6, ground := Ground.phase }, { on := 7, ground := Ground.phase }, { on := 8, ground := Ground.phase }], guard := none }) (v := (.pointer (some ⟨gc, j, none⟩))) rfl (by kernel_rfl) (fun _ _ _ h => h) (Or.inl ⟨by rfl, ?_⟩) (KC.out) ?_
          · intro w hSw
            (try dsimp only at hSw)
            go_simp
          simp only [Act.put, List.setIfInBounds_toArray, List.set_cons_zero, List.set_cons_succ]
          refine wpAnyT_one (i := 10) (o := { dst := none, op := Op.store 22 (Operand.tmp 34) (Operand.tmp 33), type := 0, pos := "lines.go:91", after := #[{ on := 9, ground := Ground.data }, { on := 8, ground := Ground.data }, { on := 8, ground := Ground.chain }, { on := 0, ground := Ground.phase }, { on := 1, ground := Ground.phase }, { on := 2, ground := Ground.phase }, { on := 3, ground := Ground.phase }, { on := 4, ground := Ground.phase }, { on := 5, ground := Ground.phase }, { on := 6, ground := Ground.phase }, { on := 7, ground := Ground.phase }, { on := 8, ground := Ground.phase }], guard := none }) (by kernel_rfl) rfl (fun K hK => ?_)
          have h0 := KC.out.1
          have h1 := CG.out.fz j
          go_simp
          clear h0 h1
          obtain ⟨V4, hW⟩ : ∃ V4, (w53.setCell ⟨gc, j, none⟩ (.slice (some ⟨g9, 0, none⟩) l9 cap9)) = V4 := ⟨_, rfl⟩
          have HN1 : Hid (∃ (j' : Nat) (C : Nat → Nat → Nat → Value), Value.int .i64 ((j + 1 : Nat) : Int) = .int .i64 (j' : Int) ∧ j' ≤ rl ∧ rl - (j + 1) = rl - j' ∧ CoJ w bq gc gr r rl a l cap P Q k i j' C V4) := by
            obtain ⟨p1, p2⟩ := PUT.out KX1.out
            unfold Hid
            rw [hW] at p1 p2
            refine ⟨j + 1, upC C j i F, rfl, by omega, rfl, ⟨?_, ?_, p1, ?_, ?_⟩⟩
            · rw [← hW]; exact MQ.out.ne HBQ.out.1
            · rw [← hW]
              exact MF.out.keep17 (Below.heap_setCell _ _ _ gr (fun q => HGG.out (by simpa using q.symm)))
            · refine upC_zi (Z := fun x t D => Zi w (.agg #[D 0, D 1]) (clP rl P x t) k ∧ Zi w (.agg #[D 2, D 3]) (clP rl Q x t) k) MZ.out ?_
              exact HFF.out.2
            · rw [← hW]; exact bset BG.out HBQ.out.2
          rw [hW]
          clear hW
          refine hK.out _ _ (fun h => absurd h (by decide)) ?_
          clear hK
          try simp only [Act.put]
          refine wpAnyT_done (by kernel_rfl) ?_ _
          clear GB KB KC CG PUT KX1 MQ MF MZ HFF BG TG J1 OC DF k0 d0 dd1 dd2 dd3 HB1 HNB ZP ZQ
          go_wp2_with fail
          go_roundg (rl - (j + 1))
          case rel => exact HN1.out
          case measure => exact HMM.out
        · have hlt2' : ¬ (j : Int) < (rl : Int) := by omega
          obtain rfl : j = rl := by omega
          have HN1 : Hid (∃ (i' : Nat) (C : Nat → Nat → Nat → Value), Value.int .i64 ((i + 1 : Nat) : Int) = .int .i64 (i' : Int) ∧ i' ≤ r ∧ r - (i + 1) = r - i' ∧ CoJ w bq gc gr r j a l cap P Q k i' 0 C wr) := ⟨i + 1, C, rfl, by omega, rfl, ⟨J.out.q, J.out.f, J.out.s.next, fun x t hx ht => J.out.z x t hx (by unfold ln17 at ht ⊢; rw [if_neg (by omega)] at ht; rw [if_pos hx]; exact ht), J.out.b⟩⟩
          clear J HG
          go_wp2_with fail
          go_roundg (r - (i + 1))
          case rel => exact HN1.out
          case measure => exact HMO.out
    · have hlt' : ¬ (i : Int) < (r : Int) := by omega
      obtain rfl : i = r := by omega
      have FF : Hid (CoE w i c P Q k (.returned (.slice (some ⟨gc, 0, none⟩) c c)) wr) := ⟨gc, C, rfl, HBQ.out.2, J.out.s, fun j t hj ht => J.out.z j t hj (by unfold ln17; rw [if_neg (by omega)]; exact ht), J.out.b⟩
      clear J HG
      go_wp2
      go_ret
      exact FF.out
theorem columnsOf17 {w : World} {a : Option Addr} {l cap r c k : Nat} {P Q : Nat → Int} (hv : Qs w (.slice a l cap) l P Q k) (hl : l = r * c) (hr : r ≤ 64) (hc : c ≤ 64) :
    Calls Tryz.prog 50 #[qmv r c (.slice a l cap)] w (CoD w r c P Q k) := (columnsOf17c hv hl hr hc).mono fun e w' ⟨gc, C, e1, _, e2, e3, e4⟩ => ⟨_, e1, e2.qls (by omega) fun j t hj ht => ⟨(e3 j t hj ht).1.now e4, (e3 j t hj ht).2.now e4⟩, e4⟩
end Go.Proofs.YtcceoildbnoliaaGreat
