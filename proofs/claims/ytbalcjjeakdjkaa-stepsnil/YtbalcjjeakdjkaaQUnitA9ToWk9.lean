/-
  QUnitA9ToWk9: UnitA9, Wk9, joined.
-/
import Derived.Test.YtbalcjjeakdjkaaQUnit9
import Derived.Test.YtbalcjjeakdjkaaQAdd9ToPure9

/- UnitA9 -/
namespace Go.Proofs.Ytbalcjjeakdjkaa
open Go.RowKit
set_option linter.unusedVariables false

def UnitA (w : World) (n : Nat) (e : Ending) (w' : World) : Prop := ∃ g N ps, e = .returned (.tuple #[matv n n (.slice (some ⟨g, 0, none⟩) N N), .int .i64 0]) ∧ n * n = N ∧ w.heap.size ≤ g ∧ ps.length = N ∧ Arr w' g ps ∧ Zcs w' ps (unitL n n) 1 ∧ Below w.heap.size w w'
set_option maxHeartbeats 1600000 in
set_option maxRecDepth 100000 in
theorem unitA_any {w : World} {n : Nat} (hn : n ≤ 64) : Calls Try.prog 36 #[.int .i64 (n : Int)] w (UnitA w n) := by
  obtain ⟨W0, hW⟩ : ∃ W0, w.alloc mbox = W0 := ⟨_, rfl⟩
  obtain ⟨b0, sz0⟩ := alo1 w mbox
  rw [hW] at b0 sz0
  have P2 := hid (mbox_new hW)
  have HS := hid (zero_any (w := W0) hn hn)
  have G0 := hid b0
  have EW := hid hW
  have SZ := hid sz0
  have hnn : n * n ≤ 64 * 64 := Nat.mul_le_mul hn hn
  obtain ⟨N, hN⟩ : ∃ N, n * n = N := ⟨_, rfl⟩
  have HNN := hid hN
  rw [hN] at HS hnn
  clear b0 hW sz0 hN
  go_enter Try.func36, Try.ntmps36
  go_wp2_with fail
  rw [EW.out]
  refine HS.out.mono ?_
  rintro e w1 ⟨g, rfl, hge, harr, b⟩
  obtain ⟨V1, hV⟩ : ∃ V1, w1.alloc (matO n n (.slice (some ⟨g, 0, none⟩) N N)) = V1 := ⟨_, rfl⟩
  obtain ⟨b1, sz1⟩ := alo1 w1 (matO n n (.slice (some ⟨g, 0, none⟩) N N))
  rw [hV] at b1 sz1
  have PU : Hid (Cel V1 w1.heap.size 33 (matc n n (.slice (some ⟨g, 0, none⟩) N N))) := by unfold Hid; rw [← hV]; exact Cel.new w1 _ _
  have x0 := PU.out.at (i := 0) rfl
  rw [← hV] at x0
  have HGW : Hid (w.heap.size < g ∧ g < w1.heap.size) := by unfold Hid; have h1 := SZ.out; have h2 := harr.1.blk; omega
  have H0 : Hid (UnitH w g w1.heap.size n n (.int .i64 0) V1) := by
    refine ⟨0, rfl, Nat.zero_le _, by omega, ⟨_, harr.step b1, by rw [HNN.out]; simp, ?_⟩, ?_, (P2.out.step b).step b1, below_step (below_step G0.out b) b1⟩
    · rw [unitL, HNN.out]; exact zcs_zero _ _ _
    · rw [HNN.out]; exact PU.out
  have HBU : Hid (w.heap.size < w1.heap.size) := by unfold Hid; have h1 := SZ.out; have h2 := (show Below _ _ _ from b).size; omega
  have EV := hid hV
  clear HS P2 G0 EW harr b b1 sz1 PU hV hge
  go_wp2_with fail
  rw [EV.out]
  clear x0 EV
  have HGB : Hid (g < w1.heap.size) := HGW.out.2
  generalize w1.heap.size = bu at *
  go_loopg [15] n (fun gk s15 wx => UnitH w g bu n gk s15 wx)
  case atStart => exact H0.out
  case round =>
    clear H0
    obtain ⟨i, rfl, hin, hg, ⟨ps, harr, hpl, hzc⟩, hbu, hre, hG⟩ := hrel
    rw [HNN.out] at hbu
    have AR := hid harr
    have PL := hid hpl
    have ZC := hid hzc
    have PU := hid hbu
    have PR := hid hre
    have G := hid hG
    have HG := hid hg
    clear harr hpl hzc hbu hre hG hg
    by_cases hlt : i < n
    · have hlt' : (i : Int) < (n : Int) := by omega
      have hw := wrapI9 (i := i) (by omega)
      have hm0 := wrapM9 (i := i) (c := n) (by omega) hn
      have hix : i * n + i < N := by
        rw [← HNN.out]
        have h1 : (i + 1) * n ≤ n * n := Nat.mul_le_mul_right n hlt
        have h2 : (i + 1) * n = i * n + n := by rw [Nat.add_mul, Nat.one_mul]
        omega
      have UL : Hid (unitL n (i + 1) = (unitL n i).set (i * n + i) 1) := rfl
      obtain ⟨lo, hlo⟩ : ∃ lo, i * n = lo := ⟨_, rfl⟩
      rw [hlo] at hm0 hix UL
      obtain ⟨ix, hix2⟩ : ∃ ix, lo + i = ix := ⟨_, rfl⟩
      rw [hix2] at hix UL
      have ha0 : IntKind.i64.wrap ((lo : Int) + (i : Int)) = (ix : Int) := by rw [wrap_is] <;> omega
      have ha1 := ha0
      have hm1 := hm0
      rw [IntKind.wrap_i64] at ha1 hm1
      have hixN : (ix : Int) < (N : Int) := by omega
      have PL2 : Hid (ix < ps.length) := by unfold Hid; rw [PL.out, HNN.out]; exact hix
      have x2 := PU.out.at (i := 2) rfl
      clear hlo hix2
      go_wp2_with fail
      have KB : Hid (∀ w', Below wr.heap.size wr w' → w'.cell? ⟨bu, 2, none⟩ = some (.slice (some ⟨g, 0, none⟩) N N)) := fun w' h => cnow h x2
      refine wp_region_tail (fun w' => w'.cell? ⟨bu, 2, none⟩ = some (.slice (some ⟨g, 0, none⟩) N N)) 9 (by kernel_rfl) ?_
      obtain ⟨D1, hD⟩ : ∃ D1, wr.drew = D1 := ⟨_, rfl⟩
      have GB : Hid (Below wr.heap.size wr D1) := by unfold Hid; rw [← hD]; exact (Below.refl _ _).drew
      rw [hD]
      clear hD
      refine wpAnyT_take (i := 0) (oi := { dst := some 18, op := Op.fieldAddr 33 (Operand.tmp 4) 2, type := 0, pos := "mat.go:52", after := #[], guard := none }) (v := (.pointer (some ⟨bu, 2, none⟩))) rfl (by kernel_rfl) (fun _ _ _ h => h) (Or.inl ⟨by rfl, ?_⟩) (KB.out _ GB.out) ?_
      · intro w hSw
        (try dsimp only at hSw)
        go_simp
      simp only [Act.put, List.setIfInBounds_toArray, List.set_cons_zero, List.set_cons_succ]
      refine wpAnyT_take (i := 1) (oi := { dst := some 19, op := Op.load 31 (Operand.tmp 18), type := 31, pos := "mat.go:52", after := #[{ on := 0, ground := Ground.data }], guard := none }) (v := (.slice (some ⟨g, 0, none⟩) N N)) rfl (by kernel_rfl) (fun _ _ _ h => h) (Or.inl ⟨by rfl, ?_⟩) (KB.out _ GB.out) ?_
      · intro w hSw
        (try dsimp only at hSw)
        go_simp
      simp only [Act.put, List.setIfInBounds_toArray, List.set_cons_zero, List.set_cons_succ]
      refine wpAnyT_take (i := 2) (oi := { dst := some 20, op := Op.move (Operand.tmp 6), type := 3, pos := "mat.go:52", after := #[], guard := none }) (v := (.int .i64 (i : Int))) rfl (by kernel_rfl) (fun _ _ _ h => h) (Or.inl ⟨by rfl, ?_⟩) (KB.out _ GB.out) ?_
      · intro w hSw
        (try dsimp only at hSw)
        go_simp
      simp only [Act.put, List.setIfInBounds_toArray, List.set_cons_zero, List.set_cons_succ]
      refine wpAnyT_take (i := 3) (oi := { dst := some 21, op := Op.move (Operand.tmp 0), type := 3, pos := "mat.go:52", after := #[], guard := none }) (v := (.int .i64 (n : Int))) rfl (by kernel_rfl) (fun _ _ _ h => h) (Or.inl ⟨by rfl, ?_⟩) (KB.out _ GB.out) ?_
      · intro w hSw
        (try dsimp only at hSw)
        go_simp
      simp only [Act.put, List.setIfInBounds_toArray, List.set_cons_zero, List.set_cons_succ]
      refine wpAnyT_take (i := 4) (oi := { dst := some 22, op := Op.binOp BinOp.mul 3 (Operand.tmp 20) (Operand.tmp 21) 3, type := 3, pos := "mat.go:52", after := #[{ on := 2, ground := Ground.data }, { on := 3, ground := Ground.data }], guard := none }) (v := (.int .i64 (lo : Int))) rfl (by kernel_rfl) (fun _ _ _ h => h) (Or.inl ⟨by rfl, ?_⟩) (KB.out _ GB.out) ?_
      · intro w hSw
        (try dsimp only at hSw)
        go_simp
      simp only [Act.put, List.setIfInBounds_toArray, List.set_cons_zero, List.set_cons_succ]
      refine wpAnyT_take (i := 5) (oi := { dst := some 23, op := Op.move (Operand.tmp 6), type := 3, pos := "mat.go:52", after := #[], guard := none }) (v := (.int .i64 (i : Int))) rfl (by kernel_rfl) (fun _ _ _ h => h) (Or.inl ⟨by rfl, ?_⟩) (KB.out _ GB.out) ?_
      · intro w hSw
        (try dsimp only at hSw)
        go_simp
      simp only [Act.put, List.setIfInBounds_toArray, List.set_cons_zero, List.set_cons_succ]
      refine wpAnyT_take (i := 6) (oi := { dst := some 24, op := Op.binOp BinOp.add 3 (Operand.tmp 22) (Operand.tmp 23) 3, type := 3, pos := "mat.go:52", after := #[{ on := 4, ground := Ground.data }, { on := 5, ground := Ground.data }], guard := none }) (v := (.int .i64 (ix : Int))) rfl (by kernel_rfl) (fun _ _ _ h => h) (Or.inl ⟨by rfl, ?_⟩) (KB.out _ GB.out) ?_
      · intro w hSw
        (try dsimp only at hSw)
        go_simp
      simp only [Act.put, List.setIfInBounds_toArray, List.set_cons_zero, List.set_cons_succ]
      refine wpAnyT_one (i := 7) (o := { dst := some 25, op := Op.call { callee := Callee.value (Operand.func 53), args := #[Operand.const (Value.int IntKind.i64 1)], argTypes := #[2] }, type := 28, pos := "mat.go:52", after := #[], guard := none }) (by kernel_rfl) rfl (fun K hK => ?_)
      go_simp
      go_at_call 53
      refine (of_z (n := 1) (by omega) (by omega) D1).mono ?_
      rintro e w2 ⟨r, rfl, m1, b⟩
      have lz2 := (show Below _ _ _ from b).size
      replace GB := hid (below_step GB.out b)
      have AR1 := hid (AR.out.step GB.out)
      have ZC1 := hid (ZC.out.now GB.out)
      have PU1 := hid (PU.out.step GB.out)
      have PR1 := hid (PR.out.step GB.out)
      have G1 := hid (below_step G.out GB.out)
      have M1 := hid m1.zc
      obtain ⟨nr, xr, ar, cr, rfl⟩ := m1.parts
      clear m1
      clear b
      refine hK.out _ _ (fun _ => KB.out _ GB.out) ?_
      clear hK
      refine wpAnyT_take (i := 8) (oi := { dst := some 26, op := Op.indexAddr 31 (Operand.tmp 19) (Operand.tmp 24), type := 0, pos := "mat.go:52", after := #[{ on := 1, ground := Ground.data }, { on := 6, ground := Ground.data }, { on := 0, ground := Ground.phase }, { on := 1, ground := Ground.phase }, { on := 2, ground := Ground.phase }, { on := 3, ground := Ground.phase }, { on := 4, ground := Ground.phase }, { on := 5, ground := Ground.phase }, { on := 6, ground := Ground.phase }, { on := 7, ground := Ground.phase }], guard := none }) (v := (.pointer (some ⟨g, ix * 2, none⟩))) rfl (by kernel_rfl) (fun _ _ _ h => h) (Or.inl ⟨by rfl, ?_⟩) (KB.out _ GB.out) ?_
      · intro w hSw
        (try dsimp only at hSw)
        go_simp
      simp only [Act.put, List.setIfInBounds_toArray, List.set_cons_zero, List.set_cons_succ]
      refine wpAnyT_one (i := 9) (o := { dst := none, op := Op.store 28 (Operand.tmp 26) (Operand.tmp 25), type := 0, pos := "mat.go:52", after := #[{ on := 8, ground := Ground.data }, { on := 7, ground := Ground.data }, { on := 7, ground := Ground.chain }, { on := 0, ground := Ground.phase }, { on := 1, ground := Ground.phase }, { on := 2, ground := Ground.phase }, { on := 3, ground := Ground.phase }, { on := 4, ground := Ground.phase }, { on := 5, ground := Ground.phase }, { on := 6, ground := Ground.phase }, { on := 7, ground := Ground.phase }], guard := none }) (by kernel_rfl) rfl (fun K hK => ?_)
      have hps : ps[ix]? = some (ps[ix]'PL2.out) := List.getElem?_eq_getElem PL2.out
      obtain ⟨e0, e1⟩ := AR1.out.at hps
      have e2 := AR1.out.1.fz (ix * 2)
      have e3 := AR1.out.1.fz (ix * 2 + 1)
      clear hps
      go_simp
      clear e0 e1 e2 e3
      obtain ⟨V3, hW⟩ : ∃ V3, ((w2.setCell ⟨g, ix * 2, none⟩ (.bool nr)).setCell ⟨g, ix * 2 + 1, none⟩ (.slice ar xr.length cr)) = V3 := ⟨_, rfl⟩
      have HN1 : Hid (UnitH w g bu n (n - (i + 1)) (.int .i64 ((i + 1 : Nat) : Int)) V3) := by
        unfold Hid
        rw [← hW]
        have hk := AR1.out.wk PL2.out (.bool nr) (.slice ar xr.length cr)
        refine ⟨i + 1, rfl, by omega, rfl, ⟨_, AR1.out.put PL2.out M1.out.zi.isI, by simpa using PL.out, ?_⟩, ?_, (PR1.out.ne (by have := HGW.out; omega)).ne (by have := HGW.out; omega), bset (bset G1.out (by have := HGW.out; omega)) (by have := HGW.out; omega)⟩
        · rw [UL.out]
          exact ZC1.out.set hk (M1.out.wk hk)
        · rw [HNN.out]
          exact (PU1.out.ne (by have := HGB.out; omega)).ne (by have := HGB.out; omega)
      rw [hW]
      clear hW
      refine hK.out _ _ (fun h => absurd h (by decide)) ?_
      clear hK
      try simp only [Act.put]
      refine wpAnyT_done (by kernel_rfl) ?_ _
      have HMM : Hid (n - (i + 1) < gk) := by unfold Hid; rw [HG.out]; omega
      clear AR PL ZC PU PR G HG AR1 ZC1 PU1 PR1 G1 M1 UL PL2 GB KB
      go_wp2_with fail
      go_roundg (n - (i + 1))
      case rel => exact HN1.out
      case measure => exact HMM.out
    · have hlt' : ¬ (i : Int) < (n : Int) := by omega
      obtain rfl : i = n := by omega
      have hpl : ps.length = N := by rw [PL.out]; exact HNN.out
      have FIN : Hid (UnitA w i (.returned (.tuple #[.agg #[.int .i64 (i : Int), .int .i64 (i : Int), .slice (some ⟨g, 0, none⟩) N N], .int .i64 0])) (put3 wr w.heap.size (.int .i64 (i : Int)) (.int .i64 (i : Int)) (.slice (some ⟨g, 0, none⟩) N N))) :=
        ⟨g, N, ps, rfl, HNN.out, by have := HGW.out; omega, hpl, AR.out.put3 (by have := HGW.out; omega) _ _ _, ZC.out.wk (PR.out.wk3 _ _ _), below_put3 G.out (Nat.le_refl _) _ _ _⟩
      have PF := hid (PR.out.put3 (.int .i64 (i : Int)) (.int .i64 (i : Int)) (.slice (some ⟨g, 0, none⟩) N N))
      have x0 := PU.out.at (i := 0) rfl
      have x1 := PU.out.at (i := 1) rfl
      have x2 := PU.out.at (i := 2) rfl
      have r0 := PR.out.at (i := 0) rfl
      have r1 := PR.out.at (i := 1) rfl
      have r2 := PR.out.at (i := 2) rfl
      have f0 := PR.out.fz 0
      have f1 := PR.out.fz 1
      have f2 := PR.out.fz 2
      clear AR PL ZC G HG hpl
      go_wp2
      exact bodyPost_ret (mback1 Try.results36 PF.out _ (by rfl) (by rfl)) rfl FIN.out
end Go.Proofs.Ytbalcjjeakdjkaa

/- Wk9 -/
namespace Go.Proofs.Ytbalcjjeakdjkaa
open Go.RowKit
set_option linter.unusedVariables false

theorem Cel.away3 {w : World} {b b' : Nat} {T : TypeId} {L : List Value} (h : Cel w b T L) (hne : b' ≠ b) (y0 y1 y2 : Value) : Cel (Go.Proofs.Ytbalcjjeakdjkaa.put3 w b' y0 y1 y2) b T L := ((h.ne hne).ne hne).ne hne
theorem Mx.wk {w : World} {v : Value} {r c : Nat} {zs : List Int} {k b : Nat} (h : Mx w v r c zs k) {x0 x1 : Int} {a : Option Addr} {l n : Nat} (d : Cel w b 33 [.int .i64 x0, .int .i64 x1, .slice a l n]) (y0 y1 y2 : Value) : Mx (put3 w b y0 y1 y2) v r c zs k := by
  obtain ⟨at_, ps, h1, h2, h3, h4⟩ := h
  refine ⟨at_, ps, h1, ?_, h3.wk (d.wk3 _ _ _), h4⟩
  obtain ⟨a', c', e1, e2, e3, e4, e5⟩ := h2
  refine ⟨a', c', e1, e2, e3, e4, ?_⟩
  rcases e5 with e5 | ⟨b', off, e6, e7, e8, e9⟩
  · exact .inl e5
  · refine .inr ⟨b', off, e6, e7, by simpa using e8, fun j p hp => ?_⟩
    have hne : b ≠ b' := by
      intro e
      subst e
      obtain ⟨n1, a1, l1, c1, q⟩ := h3.isI p (List.mem_of_getElem? hp)
      have q1 := (e9 j p hp).1
      rw [show p.1 = .bool n1 by rw [q]] at q1
      have q2 : w.heap[b]? = some (.cells #[.int .i64 x0, .int .i64 x1, .slice a l n] 33 (0, 0)) := d
      simp only [World.cell?, q2] at q1
      simp at q1
      generalize off + j * 2 = o at q1
      match o, q1 with
      | 0, q1 => simp at q1
      | 1, q1 => simp at q1
      | 2, q1 => simp at q1
      | o + 3, q1 => simp at q1
    have e : ∀ o, (put3 w b y0 y1 y2).cell? ⟨b', o, none⟩ = w.cell? ⟨b', o, none⟩ := fun o => by
      rw [World.cell?_setCell_other _ _ _ _ (by simp <;> omega), World.cell?_setCell_other _ _ _ _ (by simp <;> omega), World.cell?_setCell_other _ _ _ _ (by simp <;> omega)]
    rw [e, e]
    exact e9 j p hp
theorem boxes3 {w W0 : World} {o1 o2 o3 : List Value} (hW : ((w.alloc (.cells o1.toArray 33)).alloc (.cells o2.toArray 33)).alloc (.cells o3.toArray 33) = W0) :
    Cel W0 w.heap.size 33 o1 ∧ Cel W0 (w.heap.size + 1) 33 o2 ∧ Cel W0 (w.heap.size + 1 + 1) 33 o3 := by
  refine ⟨?_, ?_, ?_⟩
  · rw [← hW]
    exact (((Cel.new w 33 o1).step ((Below.refl _ _).alloc (Nat.le_refl _) _)).step ((Below.refl _ _).alloc (Nat.le_refl _) _))
  · rw [← hW]
    have := ((Cel.new (w.alloc (.cells o1.toArray 33)) 33 o2).step ((Below.refl _ _).alloc (Nat.le_refl _) (.cells o3.toArray 33)))
    simpa using this
  · rw [← hW]
    have := Cel.new ((w.alloc (.cells o1.toArray 33)).alloc (.cells o2.toArray 33)) 33 o3
    simpa using this
abbrev rawO (r c : Int) (at_ : Value) : Obj := .cells #[.int .i64 r, .int .i64 c, at_] 33
end Go.Proofs.Ytbalcjjeakdjkaa
