/-
  Unit9: Zero, Unit.
-/
import Derived.Test.YthpldhaolpmneaaGreatQCat9ToMul9
namespace Go.Proofs.YthpldhaolpmneaaGreat
open Go.RowKit
set_option linter.unusedVariables false

theorem Arr.ne {w : World} {g b i : Nat} {u : Value} {ps : List (Value × Value)} (h : Arr w g ps) (hne : b ≠ g) : Arr (w.setCell ⟨b, i, none⟩ u) g ps := ⟨h.1.ne hne, h.2⟩
theorem Arr.put3 {w : World} {g b : Nat} {ps : List (Value × Value)} (h : Arr w g ps) (hne : b ≠ g) (y0 y1 y2 : Value) : Arr (put3 w b y0 y1 y2) g ps := ((h.ne hne).ne hne).ne hne
def Zeroed (w : World) (r c n : Nat) (e : Ending) (w' : World) : Prop := ∃ g, e = .returned (.tuple #[matv r c (.slice (some ⟨g, 0, none⟩) n n), .int .i64 0]) ∧ w.heap.size ≤ g ∧ Arr w' g (List.replicate n zpair) ∧ Below w.heap.size w w'
set_option maxHeartbeats 1600000 in
set_option maxRecDepth 100000 in
theorem zero_any {w : World} {r c : Nat} (hr : r ≤ 64) (hc : c ≤ 64) : Calls Tryz.prog 59 #[.int .i64 (r : Int), .int .i64 (c : Int)] w (Zeroed w r c (r * c)) := by
  obtain ⟨W0, hW⟩ : ∃ W0, w.alloc mbox = W0 := ⟨_, rfl⟩
  obtain ⟨b0, sz0⟩ := alo1 w mbox
  rw [hW] at b0 sz0
  have P4 := hid (mbox_new hW)
  have HS := hid (isShape_yes (w := W0) hr hc)
  have hm0 := wrapM9 (i := r) (c := c) hr hc
  have hrc : r * c ≤ 64 * 64 := Nat.mul_le_mul hr hc
  generalize r * c = n at *
  have hm2 := hm0
  rw [IntKind.wrap_i64] at hm2
  have G0 := hid b0
  have EW := hid hW
  have SZ := hid sz0
  clear b0 hW sz0
  go_enter Tryz.func59, Tryz.ntmps59
  go_wp2_with fail
  rw [EW.out]
  refine HS.out.mono ?_
  rintro e w1 ⟨rfl, hw1⟩
  have hw1' := hw1.symm
  subst hw1'
  go_wp2_with (at_make; refine wpList_make_pairs9 _ rfl _ _ rfl _ _ n n rfl rfl rfl rfl (Nat.le_refl _) (by omega) ?_)
  intro w2 hrow hb2 hsz2
  have PR := hid (P4.out.step hb2)
  have r0 := PR.out.at (i := 0) rfl
  have r1 := PR.out.at (i := 1) rfl
  have r2 := PR.out.at (i := 2) rfl
  have f0 := PR.out.fz 0
  have f1 := PR.out.fz 1
  have f2 := PR.out.fz 2
  have FIN : Hid (Zeroed w r c n (.returned (.tuple #[.agg #[.int .i64 (r : Int), .int .i64 (c : Int), .slice (some ⟨W0.heap.size, 0, none⟩) n n], .int .i64 0])) (put3 w2 w.heap.size (.int .i64 (r : Int)) (.int .i64 (c : Int)) (.slice (some ⟨W0.heap.size, 0, none⟩) n n))) :=
    ⟨_, rfl, by have := SZ.out; omega, hrow.put3 (by have := SZ.out; omega) _ _ _, below_put3 (below_step G0.out hb2) (Nat.le_refl _) _ _ _⟩
  have PF := hid (PR.out.put3 (.int .i64 (r : Int)) (.int .i64 (c : Int)) (.slice (some ⟨W0.heap.size, 0, none⟩) n n))
  clear HS P4 hrow hb2 hsz2 hw1 G0
  go_wp2
  exact bodyPost_ret (mback1 Tryz.results59 PF.out _ (by rfl) (by rfl)) rfl FIN.out
def unitL (n : Nat) : Nat → List Int
  | 0 => List.replicate (n * n) 0
  | i + 1 => (unitL n i).set (i * n + i) 1
theorem unitL_length (n : Nat) : ∀ i, (unitL n i).length = n * n
  | 0 => by simp [unitL]
  | i + 1 => by simp [unitL, unitL_length n i]
theorem Zcs.set {w w' : World} {ps : List (Value × Value)} {zs : List Int} {k t : Nat} {x y : Value} {z : Int} (h : Zcs w ps zs k) (hk : Wk w w') (hz : Zc w' (.agg #[x, y]) z k) : Zcs w' (ps.set t (x, y)) (zs.set t z) k := by
  refine ⟨by simp [h.1], fun j p q hp hq => ?_⟩
  by_cases e : j = t
  · subst e
    have h1 : j < ps.length := by simpa using (List.getElem?_eq_some_iff.1 hp).1
    rw [List.getElem?_set_self h1, Option.some.injEq] at hp
    rw [List.getElem?_set_self (by rw [← h.1]; exact h1), Option.some.injEq] at hq
    rw [← hp, ← hq]
    exact hz
  · rw [List.getElem?_set_ne (by omega)] at hp hq
    exact (h.2 j p q hp hq).wk hk
theorem zcs_zero (w : World) (n k : Nat) : Zcs w (List.replicate n zpair) (List.replicate n 0) k := by
  refine ⟨by simp, fun j p z hp hz => ?_⟩
  have e1 : p = zpair := List.eq_of_mem_replicate (List.mem_of_getElem? hp)
  have e2 : z = 0 := List.eq_of_mem_replicate (List.mem_of_getElem? hz)
  rw [e1, e2]
  exact ⟨false, [], none, 0, rfl, Sl.nil _, ⟨WF.nil, rfl⟩, fun _ => rfl, by simp [iv, val], Nat.zero_le _⟩
def UnitH (w : World) (g bu n : Nat) (gk : Nat) (s : Value) (wx : World) : Prop :=
  ∃ i : Nat, s = .int .i64 (i : Int) ∧ i ≤ n ∧ gk = n - i ∧ (∃ ps, Arr wx g ps ∧ ps.length = n * n ∧ Zcs wx ps (unitL n i) 1) ∧ Cel wx bu 35 (matc n n (.slice (some ⟨g, 0, none⟩) (n * n) (n * n))) ∧ Cel wx w.heap.size 35 [.int .i64 0, .int .i64 0, .slice none 0 0] ∧ Below w.heap.size w wx
set_option maxHeartbeats 1600000 in
set_option maxRecDepth 100000 in
theorem unit_any {w : World} {n : Nat} (hn : n ≤ 64) : Calls Tryz.prog 25 #[.int .i64 (n : Int)] w (GivesMO w n n (unitL n n) 1) := by
  obtain ⟨W0, hW⟩ : ∃ W0, w.alloc mbox = W0 := ⟨_, rfl⟩
  obtain ⟨b0, sz0⟩ := alo1 w mbox
  rw [hW] at b0 sz0
  have P2 := hid (mbox_new hW)
  have HS := hid (zero_any (w := W0) hn hn)
  have G0 := hid b0
  have EW := hid hW
  have SZ := hid sz0
  have hnn : n * n ≤ 64 * 64 := Nat.mul_le_mul hn hn
  obtain ⟨N, hN⟩ : ∃ N, n * n = N := ⟨_, rfl⟩
  have HNN := hid hN
  rw [hN] at HS hnn
  clear b0 hW sz0 hN
  go_enter Tryz.func25, Tryz.ntmps25
  go_wp2_with fail
  rw [EW.out]
  refine HS.out.mono ?_
  rintro e w1 ⟨g, rfl, hge, harr, b⟩
  obtain ⟨V1, hV⟩ : ∃ V1, w1.alloc (matO n n (.slice (some ⟨g, 0, none⟩) N N)) = V1 := ⟨_, rfl⟩
  obtain ⟨b1, sz1⟩ := alo1 w1 (matO n n (.slice (some ⟨g, 0, none⟩) N N))
  rw [hV] at b1 sz1
  have PU : Hid (Cel V1 w1.heap.size 35 (matc n n (.slice (some ⟨g, 0, none⟩) N N))) := by unfold Hid; rw [← hV]; exact Cel.new w1 _ _
  have x0 := PU.out.at (i := 0) rfl
  rw [← hV] at x0
  have HGW : Hid (w.heap.size < g ∧ g < w1.heap.size) := by unfold Hid; have h1 := SZ.out; have h2 := harr.1.blk; omega
  have H0 : Hid (UnitH w g w1.heap.size n n (.int .i64 0) V1) := by
    refine ⟨0, rfl, Nat.zero_le _, by omega, ⟨_, harr.step b1, by rw [HNN.out]; simp, ?_⟩, ?_, (P2.out.step b).step b1, below_step (below_step G0.out b) b1⟩
    · rw [unitL, HNN.out]; exact zcs_zero _ _ _
    · rw [HNN.out]; exact PU.out
  have HBU : Hid (w.heap.size < w1.heap.size) := by unfold Hid; have h1 := SZ.out; have h2 := (show Below _ _ _ from b).size; omega
  have EV := hid hV
  clear HS P2 G0 EW harr b b1 sz1 PU hV hge
  go_wp2_with fail
  rw [EV.out]
  clear x0 EV
  have HGB : Hid (g < w1.heap.size) := HGW.out.2
  generalize w1.heap.size = bu at *
  go_loopg [15] n (fun gk s15 wx => UnitH w g bu n gk s15 wx)
  case atStart => exact H0.out
  case round =>
    clear H0
    obtain ⟨i, rfl, hin, hg, ⟨ps, harr, hpl, hzc⟩, hbu, hre, hG⟩ := hrel
    rw [HNN.out] at hbu
    have AR := hid harr
    have PL := hid hpl
    have ZC := hid hzc
    have PU := hid hbu
    have PR := hid hre
    have G := hid hG
    have HG := hid hg
    clear harr hpl hzc hbu hre hG hg
    by_cases hlt : i < n
    · have hlt' : (i : Int) < (n : Int) := by omega
      have hw := wrapI9 (i := i) (by omega)
      have hm0 := wrapM9 (i := i) (c := n) (by omega) hn
      have hix : i * n + i < N := by
        rw [← HNN.out]
        have h1 : (i + 1) * n ≤ n * n := Nat.mul_le_mul_right n hlt
        have h2 : (i + 1) * n = i * n + n := by rw [Nat.add_mul, Nat.one_mul]
        omega
      have UL : Hid (unitL n (i + 1) = (unitL n i).set (i * n + i) 1) := rfl
      obtain ⟨lo, hlo⟩ : ∃ lo, i * n = lo := ⟨_, rfl⟩
      rw [hlo] at hm0 hix UL
      obtain ⟨ix, hix2⟩ : ∃ ix, lo + i = ix := ⟨_, rfl⟩
      rw [hix2] at hix UL
      have ha0 : IntKind.i64.wrap ((lo : Int) + (i : Int)) = (ix : Int) := by rw [wrap_is] <;> omega
      have ha1 := ha0
      have hm1 := hm0
      rw [IntKind.wrap_i64] at ha1 hm1
      have hixN : (ix : Int) < (N : Int) := by omega
      have PL2 : Hid (ix < ps.length) := by unfold Hid; rw [PL.out, HNN.out]; exact hix
      have x2 := PU.out.at (i := 2) rfl
      clear hlo hix2
      go_wp2_with fail
      have KB : Hid (∀ w', Below wr.heap.size wr w' → w'.cell? ⟨bu, 2, none⟩ = some (.slice (some ⟨g, 0, none⟩) N N)) := fun w' h => cnow h x2
      refine wp_region_tail (fun w' => w'.cell? ⟨bu, 2, none⟩ = some (.slice (some ⟨g, 0, none⟩) N N)) 9 (by kernel_rfl) ?_
      obtain ⟨D1, hD⟩ : ∃ D1, wr.drew = D1 := ⟨_, rfl⟩
      have GB : Hid (Below wr.heap.size wr D1) := by unfold Hid; rw [← hD]; exact (Below.refl _ _).drew
      rw [hD]
      clear hD
      refine wpAnyT_take (i := 0) (oi := { dst := some 18, op := Op.fieldAddr 35 (Operand.tmp 4) 2, type := 0, pos := "mat.go:52", after := #[], guard := none }) (v := (.pointer (some ⟨bu, 2, none⟩))) rfl (by kernel_rfl) (fun _ _ _ h => h) (Or.inl ⟨by rfl, ?_⟩) (KB.out _ GB.out) ?_
      · intro w hSw
        (try dsimp only at hSw)
        go_simp
      simp only [Act.put, List.setIfInBounds_toArray, List.set_cons_zero, List.set_cons_succ]
      refine wpAnyT_take (i := 1) (oi := { dst := some 19, op := Op.load 33 (Operand.tmp 18), type := 33, pos := "mat.go:52", after := #[{ on := 0, ground := Ground.data }], guard := none }) (v := (.slice (some ⟨g, 0, none⟩) N N)) rfl (by kernel_rfl) (fun _ _ _ h => h) (Or.inl ⟨by rfl, ?_⟩) (KB.out _ GB.out) ?_
      · intro w hSw
        (try dsimp only at hSw)
        go_simp
      simp only [Act.put, List.setIfInBounds_toArray, List.set_cons_zero, List.set_cons_succ]
      refine wpAnyT_take (i := 2) (oi := { dst := some 20, op := Op.move (Operand.tmp 6), type := 3, pos := "mat.go:52", after := #[], guard := none }) (v := (.int .i64 (i : Int))) rfl (by kernel_rfl) (fun _ _ _ h => h) (Or.inl ⟨by rfl, ?_⟩) (KB.out _ GB.out) ?_
      · intro w hSw
        (try dsimp only at hSw)
        go_simp
      simp only [Act.put, List.setIfInBounds_toArray, List.set_cons_zero, List.set_cons_succ]
      refine wpAnyT_take (i := 3) (oi := { dst := some 21, op := Op.move (Operand.tmp 0), type := 3, pos := "mat.go:52", after := #[], guard := none }) (v := (.int .i64 (n : Int))) rfl (by kernel_rfl) (fun _ _ _ h => h) (Or.inl ⟨by rfl, ?_⟩) (KB.out _ GB.out) ?_
      · intro w hSw
        (try dsimp only at hSw)
        go_simp
      simp only [Act.put, List.setIfInBounds_toArray, List.set_cons_zero, List.set_cons_succ]
      refine wpAnyT_take (i := 4) (oi := { dst := some 22, op := Op.binOp BinOp.mul 3 (Operand.tmp 20) (Operand.tmp 21) 3, type := 3, pos := "mat.go:52", after := #[{ on := 2, ground := Ground.data }, { on := 3, ground := Ground.data }], guard := none }) (v := (.int .i64 (lo : Int))) rfl (by kernel_rfl) (fun _ _ _ h => h) (Or.inl ⟨by rfl, ?_⟩) (KB.out _ GB.out) ?_
      · intro w hSw
        (try dsimp only at hSw)
        go_simp
      simp only [Act.put, List.setIfInBounds_toArray, List.set_cons_zero, List.set_cons_succ]
      refine wpAnyT_take (i := 5) (oi := { dst := some 23, op := Op.move (Operand.tmp 6), type := 3, pos := "mat.go:52", after := #[], guard := none }) (v := (.int .i64 (i : Int))) rfl (by kernel_rfl) (fun _ _ _ h => h) (Or.inl ⟨by rfl, ?_⟩) (KB.out _ GB.out) ?_
      · intro w hSw
        (try dsimp only at hSw)
        go_simp
      simp only [Act.put, List.setIfInBounds_toArray, List.set_cons_zero, List.set_cons_succ]
      refine wpAnyT_take (i := 6) (oi := { dst := some 24, op := Op.binOp BinOp.add 3 (Operand.tmp 22) (Operand.tmp 23) 3, type := 3, pos := "mat.go:52", after := #[{ on := 4, ground := Ground.data }, { on := 5, ground := Ground.data }], guard := none }) (v := (.int .i64 (ix : Int))) rfl (by kernel_rfl) (fun _ _ _ h => h) (Or.inl ⟨by rfl, ?_⟩) (KB.out _ GB.out) ?_
      · intro w hSw
        (try dsimp only at hSw)
        go_simp
      simp only [Act.put, List.setIfInBounds_toArray, List.set_cons_zero, List.set_cons_succ]
      refine wpAnyT_one (i := 7) (o := { dst := some 25, op := Op.call { callee := Callee.value (Operand.func 60), args := #[Operand.const (Value.int IntKind.i64 1)], argTypes := #[2] }, type := 45, pos := "mat.go:52", after := #[], guard := none }) (by kernel_rfl) rfl (fun K hK => ?_)
      go_simp
      go_at_call 60
      refine (of_z (n := 1) (by omega) (by omega) D1).mono ?_
      rintro e w2 ⟨r, rfl, m1, b⟩
      have lz2 := (show Below _ _ _ from b).size
      replace GB := hid (below_step GB.out b)
      have AR1 := hid (AR.out.step GB.out)
      have ZC1 := hid (ZC.out.now GB.out)
      have PU1 := hid (PU.out.step GB.out)
      have PR1 := hid (PR.out.step GB.out)
      have G1 := hid (below_step G.out GB.out)
      have M1 := hid m1.zc
      obtain ⟨nr, xr, ar, cr, rfl⟩ := m1.parts
      clear m1
      clear b
      refine hK.out _ _ (fun _ => KB.out _ GB.out) ?_
      clear hK
      refine wpAnyT_take (i := 8) (oi := { dst := some 26, op := Op.indexAddr 33 (Operand.tmp 19) (Operand.tmp 24), type := 0, pos := "mat.go:52", after := #[{ on := 1, ground := Ground.data }, { on := 6, ground := Ground.data }, { on := 0, ground := Ground.phase }, { on := 1, ground := Ground.phase }, { on := 2, ground := Ground.phase }, { on := 3, ground := Ground.phase }, { on := 4, ground := Ground.phase }, { on := 5, ground := Ground.phase }, { on := 6, ground := Ground.phase }, { on := 7, ground := Ground.phase }], guard := none }) (v := (.pointer (some ⟨g, ix * 2, none⟩))) rfl (by kernel_rfl) (fun _ _ _ h => h) (Or.inl ⟨by rfl, ?_⟩) (KB.out _ GB.out) ?_
      · intro w hSw
        (try dsimp only at hSw)
        go_simp
      simp only [Act.put, List.setIfInBounds_toArray, List.set_cons_zero, List.set_cons_succ]
      refine wpAnyT_one (i := 9) (o := { dst := none, op := Op.store 45 (Operand.tmp 26) (Operand.tmp 25), type := 0, pos := "mat.go:52", after := #[{ on := 8, ground := Ground.data }, { on := 7, ground := Ground.data }, { on := 7, ground := Ground.chain }, { on := 0, ground := Ground.phase }, { on := 1, ground := Ground.phase }, { on := 2, ground := Ground.phase }, { on := 3, ground := Ground.phase }, { on := 4, ground := Ground.phase }, { on := 5, ground := Ground.phase }, { on := 6, ground := Ground.phase }, { on := 7, ground := Ground.phase }], guard := none }) (by kernel_rfl) rfl (fun K hK => ?_)
      have hps : ps[ix]? = some (ps[ix]'PL2.out) := List.getElem?_eq_getElem PL2.out
      obtain ⟨e0, e1⟩ := AR1.out.at hps
      have e2 := AR1.out.1.fz (ix * 2)
      have e3 := AR1.out.1.fz (ix * 2 + 1)
      clear hps
      go_simp
      clear e0 e1 e2 e3
      obtain ⟨V3, hW⟩ : ∃ V3, ((w2.setCell ⟨g, ix * 2, none⟩ (.bool nr)).setCell ⟨g, ix * 2 + 1, none⟩ (.slice ar xr.length cr)) = V3 := ⟨_, rfl⟩
      have HN1 : Hid (UnitH w g bu n (n - (i + 1)) (.int .i64 ((i + 1 : Nat) : Int)) V3) := by
        unfold Hid
        rw [← hW]
        have hk := AR1.out.wk PL2.out (.bool nr) (.slice ar xr.length cr)
        refine ⟨i + 1, rfl, by omega, rfl, ⟨_, AR1.out.put PL2.out M1.out.zi.isI, by simpa using PL.out, ?_⟩, ?_, (PR1.out.ne (by have := HGW.out; omega)).ne (by have := HGW.out; omega), bset (bset G1.out (by have := HGW.out; omega)) (by have := HGW.out; omega)⟩
        · rw [UL.out]
          exact ZC1.out.set hk (M1.out.wk hk)
        · rw [HNN.out]
          exact (PU1.out.ne (by have := HGB.out; omega)).ne (by have := HGB.out; omega)
      rw [hW]
      clear hW
      refine hK.out _ _ (fun h => absurd h (by decide)) ?_
      clear hK
      try simp only [Act.put]
      refine wpAnyT_done (by kernel_rfl) ?_ _
      have HMM : Hid (n - (i + 1) < gk) := by unfold Hid; rw [HG.out]; omega
      clear AR PL ZC PU PR G HG AR1 ZC1 PU1 PR1 G1 M1 UL PL2 GB KB
      go_wp2_with fail
      go_roundg (n - (i + 1))
      case rel => exact HN1.out
      case measure => exact HMM.out
    · have hlt' : ¬ (i : Int) < (n : Int) := by omega
      obtain rfl : i = n := by omega
      have hpl : ps.length = N := by rw [PL.out]; exact HNN.out
      have q1 := AR.out.prs (B := 0) (Nat.zero_le _) (by omega) (Nat.le_refl _)
      rw [hpl] at q1
      have hmc : Mc wr (matv i i (.slice (some ⟨g, 0, none⟩) N N)) i i (unitL i i) 1 := ⟨_, ps, rfl, q1, ZC.out, unitL_length _ _, hn, hn⟩
      have FIN : Hid (GivesMO w i i (unitL i i) 1 (.returned (.tuple #[.agg #[.int .i64 (i : Int), .int .i64 (i : Int), .slice (some ⟨g, 0, none⟩) N N], .int .i64 0])) (put3 wr w.heap.size (.int .i64 (i : Int)) (.int .i64 (i : Int)) (.slice (some ⟨g, 0, none⟩) N N))) :=
        ⟨_, rfl, hmc.wk PR.out _ _ _, below_put3 G.out (Nat.le_refl _) _ _ _⟩
      have PF := hid (PR.out.put3 (.int .i64 (i : Int)) (.int .i64 (i : Int)) (.slice (some ⟨g, 0, none⟩) N N))
      have x0 := PU.out.at (i := 0) rfl
      have x1 := PU.out.at (i := 1) rfl
      have x2 := PU.out.at (i := 2) rfl
      have r0 := PR.out.at (i := 0) rfl
      have r1 := PR.out.at (i := 1) rfl
      have r2 := PR.out.at (i := 2) rfl
      have f0 := PR.out.fz 0
      have f1 := PR.out.fz 1
      have f2 := PR.out.fz 2
      clear AR PL ZC G HG hmc q1 hpl
      go_wp2
      exact bodyPost_ret (mback1 Tryz.results25 PF.out _ (by rfl) (by rfl)) rfl FIN.out
end Go.Proofs.YthpldhaolpmneaaGreat
