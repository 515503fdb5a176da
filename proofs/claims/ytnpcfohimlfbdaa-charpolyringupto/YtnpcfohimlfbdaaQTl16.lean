/-
  Tl16: charpoly.tails, adjugateTimes.
-/
import Derived.Test.YtnpcfohimlfbdaaQTq16
import Derived.Test.YtnpcfohimlfbdaaQTy9ToTailL
import Derived.Deep.Cut
namespace Go.Proofs.Ytnpcfohimlfbdaa
open Go.RowKit
set_option linter.unusedVariables false
set_option linter.unusedSimpArgs false

/-- What tails holds between rounds. -/
def TlH (w w1 : World) (n d q ga : Nat) (A R P : List Int) (k0 kk gk : Nat) (s8 s9 : Value) (wx : World) : Prop :=
  ∃ (i t : Nat) (z : Int), s9 = .int .i64 z ∧ z = (i : Int) - 1 ∧ i ≤ d ∧ gk = i ∧ s8 = .slice (some ⟨t, 0, none⟩) n n ∧ AllZ wx t (tlS n A R (P.drop i)) (k0 + (d - i) * q) ∧ ga < t ∧
    Pts wx ga n d i (fun j => tlS n A R (P.drop j)) kk wx.heap.size ∧ Below w1.heap.size w1 wx
def TlI (w1 : World) (n d i g ga N : Nat) (c : Int) (A R P V : List Int) (kv kk gk : Nat) (s : Value) (wx : World) : Prop :=
  ∃ j : Nat, s = .int .i64 (j : Int) ∧ j ≤ n ∧ gk = n - j ∧ AllZ wx g (mid16 n j c R V) kv ∧ Pts wx ga n d (i + 1) (fun j => tlS n A R (P.drop j)) kk N ∧ Below w1.heap.size w1 wx
/-- What tails answers. -/
def Tailed (w : World) (n d : Nat) (A R P : List Int) (kk : Nat) (e : Ending) (w' : World) : Prop :=
  ∃ ga N, e = .returned (.slice (some ⟨ga, 0, none⟩) d d) ∧ w.heap.size ≤ ga ∧ Pts w' ga n d 0 (fun j => tlS n A R (P.drop j)) kk N ∧ Below w.heap.size w w'
set_option maxHeartbeats 6400000 in
set_option maxRecDepth 100000 in
theorem tails_any {w : World} {ar ap : Option Addr} {av : Value} {n d cr cp kr kp ka : Nat} {A R P : List Int} (hR : Zl w (.slice ar n cr) R kr) (hP : Zl w (.slice ap d cp) P kp) (hA : Mx w av n n A ka) (hd : d ≤ 64) (hk : kp + kr + d * (ka + n + 1) + ka + n + 1 < 35184372088832) :
    Calls Try.prog 73 #[.slice ar n cr, .slice ap d cp, av] w (Tailed w n d A R P (kp + kr + d * (ka + n + 1))) := by
  have M0 := hA
  obtain ⟨aa, ca, rfl, hn64, -⟩ := hA.form
  have LR : Hid (R.length = n) := by obtain ⟨_, _, e, _⟩ := hR.form9; simp only [Value.slice.injEq] at e; exact e.2.1.symm
  have LP : Hid (P.length = d) := by obtain ⟨_, _, e, _⟩ := hP.form9; simp only [Value.slice.injEq] at e; exact e.2.1.symm
  have hcr : n ≤ cr := by obtain ⟨_, _, e, h, _⟩ := hR.form9; simp only [Value.slice.injEq] at e; obtain ⟨-, rfl, rfl⟩ := e; exact h
  have hcp : d ≤ cp := by obtain ⟨_, _, e, h, _⟩ := hP.form9; simp only [Value.slice.injEq] at e; obtain ⟨-, rfl, rfl⟩ := e; exact h
  have FR : Hid (R ≠ [] → ∃ b off, ar = some ⟨b, off, none⟩) := fun h0 => by obtain ⟨_, _, e, _, _, h⟩ := hR.form9; simp only [Value.slice.injEq] at e; obtain ⟨rfl, -, -⟩ := e; exact h h0
  have FP : Hid (P ≠ [] → ∃ b off, ap = some ⟨b, off, none⟩) := fun h0 => by obtain ⟨_, _, e, _, _, h⟩ := hP.form9; simp only [Value.slice.injEq] at e; obtain ⟨rfl, -, -⟩ := e; exact h h0
  obtain ⟨la, hla⟩ : ∃ la, n * n = la := ⟨_, rfl⟩
  rw [hla] at M0 ⊢
  obtain ⟨q, hq⟩ : ∃ q, ka + n + 1 = q := ⟨_, rfl⟩
  rw [hq] at hk ⊢
  obtain ⟨k0, hk0⟩ : ∃ k0, kp + kr = k0 := ⟨_, rfl⟩
  rw [hk0] at hk ⊢
  obtain ⟨kk, hkk⟩ : ∃ kk, k0 + d * q = kk := ⟨_, rfl⟩
  rw [hkk] at hk ⊢
  have EQ := hid hq
  have EK0 := hid hk0
  have EKK := hid hkk
  have HK := hid hk
  obtain ⟨W0, hW⟩ : ∃ W0, w.alloc (matO n n (.slice aa la ca)) = W0 := ⟨_, rfl⟩
  obtain ⟨b0, sz0⟩ := alo1 w (matO n n (.slice aa la ca))
  rw [hW] at b0 sz0
  have PA : Hid (Cel W0 w.heap.size 39 (matc n n (.slice aa la ca))) := by unfold Hid; rw [← hW]; exact Cel.new w _ _
  replace M0 := hid (M0.now b0)
  have RR := hid (hR.now b0)
  have PP := hid (hP.now b0)
  have G := hid b0
  have EW := hid hW
  clear hA hR hP b0 sz0 hW hla hk hq hk0 hkk
  go_enter Try.func73, Try.ntmps73
  go_wp2_with (at_make; rw [EW.out]; refine wpList_make_rows _ rfl _ _ rfl _ _ d d rfl rfl rfl rfl (Nat.le_refl _) (by omega) ?_)
  intro w1 hrow hb1 hsz1
  have PA1 := hid (PA.out.step hb1)
  have x1 := PA1.out.at (i := 1) rfl
  have HR1 := hid hrow
  have HB1 := hid hb1
  clear hrow hb1 hsz1 EW
  go_wp2_with (at_make; refine wpList_make_pairs9 _ rfl _ _ rfl _ _ n n rfl rfl rfl rfl (Nat.le_refl _) (by omega) ?_)
  intro w2 hrow hb2 hsz2
  have B2 := hid (below_step HB1.out hb2)
  have HGT : Hid (W0.heap.size < w1.heap.size) := Cel.blk HR1.out
  have H0 : Hid (TlH w W0 n d q W0.heap.size A R P k0 kk d (.slice (some ⟨w1.heap.size, 0, none⟩) n n) (.int .i64 ((d : Int) - 1)) w2) := ⟨d, w1.heap.size, (d : Int) - 1, rfl, rfl, Nat.le_refl _, rfl, rfl, by
    have e : P.drop d = [] := List.drop_eq_nil_of_le (by rw [LP.out]; exact Nat.le_refl _)
    rw [e]
    exact AllZ.start hrow _, HGT.out, (Pts.start (k := kk) HR1.out _).step hb2, B2.out⟩
  have HGA : Hid (w.heap.size < W0.heap.size) := Cel.blk PA.out
  have hwd : IntKind.i64.wrap ((d : Int) - 1) = (d : Int) - 1 := by rw [wrap_is] <;> omega
  clear hrow hb2 hsz2 x1 PA1 HR1 HB1 B2 HGT
  generalize hga : W0.heap.size = ga at *
  have HGAW : Hid (W0.heap.size ≤ ga) := Nat.le_of_eq hga
  clear hga
  go_wp2_with fail
  go_loopg [8, 9] d (fun gk s8 s9 wx => TlH w W0 n d q ga A R P k0 kk gk s8 s9 wx)
  case atStart => exact H0.out
  case round =>
    clear H0
    obtain ⟨i, t, z, rfl, hz, hid', hg, rfl, haz, hgt, hpt, hB⟩ := hrel
    have AZ := hid haz
    have HGT := hid hgt
    have PT := hid hpt
    have B := hid hB
    have HG := hid hg
    have TL : Hid ((tlS n A R (P.drop i)).length = n) := tlS_length _
    clear haz hgt hpt hB hg
    by_cases h0 : i = 0
    · subst h0
      have hz' : z = -1 := by simpa using hz
      subst hz'
      have FIN : Hid (Tailed w n d A R P kk (.returned (.slice (some ⟨ga, 0, none⟩) d d)) wr) := ⟨ga, _, rfl, Nat.le_of_lt HGA.out, PT.out, below_step G.out B.out⟩
      clear AZ HGT PT B HG TL hz
      go_wp2
      go_ret
      exact FIN.out
    · obtain ⟨i, rfl⟩ : ∃ i', i = i' + 1 := ⟨i - 1, by omega⟩
      have hz' : z = (i : Int) := by rw [hz]; omega
      subst hz'
      have hge : (0 : Int) ≤ (i : Int) := by omega
      have hiP : i < P.length := by rw [LP.out]; omega
      have PA1 := hid (PA.out.step B.out)
      have x0 := PA1.out.at (i := 0) rfl
      have x1 := PA1.out.at (i := 1) rfl
      have x2 := PA1.out.at (i := 2) rfl
      have hqq : (d - (i + 1)) * q + q = (d - i) * q := by
        have : d - i = d - (i + 1) + 1 := by omega
        rw [this, Nat.add_mul, Nat.one_mul]
      have hle : (d - i) * q ≤ d * q := Nat.mul_le_mul_right _ (by omega)
      obtain ⟨ki, hki⟩ : ∃ ki, k0 + (d - (i + 1)) * q = ki := ⟨_, rfl⟩
      rw [hki] at AZ
      have EKI : Hid (k0 ≤ ki ∧ ki + q = k0 + (d - i) * q ∧ ki + q ≤ kk) := ⟨by omega, by omega, by have := EKK.out; omega⟩
      have HV := hid (vecMul_yes (AZ.out.zl (by rw [TL.out]; omega) TL.out) TL.out (M0.out.now B.out) (by have := EKI.out; have := HK.out; have := EQ.out; omega))
      have VL : Hid ((vecL n n (tlS n A R (P.drop (i + 1))) A).length = n) := vecL_length
      have ETD : Hid (tlS n A R (P.drop i) = adc n (P.getD i 0) R (vecL n n (tlS n A R (P.drop (i + 1))) A)) := tlS_drop hiP
      have HMM : Hid (i < gk) := by unfold Hid; rw [HG.out]; omega
      have hwi : IntKind.i64.wrap ((i : Int) - 1) = (i : Int) - 1 := by rw [wrap_is] <;> omega
      clear hqq hle hki hz h0 HG PA1
      go_wp2_with fail
      clear x0 x1 x2
      refine HV.out.mono ?_
      rintro e w3 ⟨g, rfl, hgg, hzz, b⟩
      generalize vecL n n (tlS n A R (P.drop (i + 1))) A = V at *
      have BV : Hid (∀ x ∈ V, (x.natAbs : Int) < pw (ki + ka + n)) := zl_lt (hzz.zl (by rw [VL.out]; omega) VL.out)
      have HGG : Hid (wr.heap.size ≤ g) := hgg
      have HGB : Hid (g < w3.heap.size) := hzz.blk
      have H1 : Hid (TlI W0 n d i g ga wr.heap.size (P.getD i 0) A R P V (ki + q) kk n (.int .i64 0) w3) := ⟨0, rfl, Nat.zero_le _, by omega, by
        rw [mid16_start VL.out]
        exact hzz.more (by have := EQ.out; omega), PT.out.step b, below_step B.out b⟩
      have HGGA : Hid (ga < g) := Nat.lt_of_lt_of_le PT.out.blk hgg
      have HW0G : Hid (W0.heap.size ≤ g) := Nat.le_trans B.out.size hgg
      clear hgg hzz b HV AZ PT B TL HGT
      generalize wr.heap.size = N at *
      go_wp2_with fail
      go_loopg [32] n (fun gk2 s32 wx => TlI W0 n d i g ga N (P.getD i 0) A R P V (ki + q) kk gk2 s32 wx)
      case atStart => exact H1.out
      case round =>
        clear H1
        obtain ⟨j, rfl, hjn, hg, haz, hpt, hB⟩ := hrel
        have AZ := hid haz
        have PT := hid hpt
        have B := hid hB
        have HG := hid hg
        clear haz hpt hB hg
        by_cases hjt : j < n
        · have hjt' : (j : Int) < (n : Int) := by omega
          have hjR : j < R.length := by rw [LR.out]; exact hjt
          obtain ⟨b1, o1, rfl⟩ := FP.out (fun e => by rw [e] at hiP; simp at hiP)
          obtain ⟨b2, o2, rfl⟩ := FR.out (fun e => by rw [e] at hjR; simp at hjR)
          obtain ⟨nf, xf, adf, qf, c0, c1, zf⟩ := (PP.out.now B.out).at9 (i := i) hiP
          rw [getD_at hiP] at zf
          obtain ⟨ng, xg, adg, qg, c2, c3, zg⟩ := (RR.out.now B.out).at9 (i := j) hjR
          rw [getD_at hjR] at zg
          obtain ⟨nx, xx, adx, qx, c4, c5, -, -, zx⟩ := AZ.out.at (i := j) (by rw [mid16_length]; exact hjt)
          rw [mid16_at hjt] at zx
          obtain ⟨lf, hlf⟩ : ∃ lf, xf.length = lf := ⟨_, rfl⟩
          obtain ⟨lg, hlg⟩ : ∃ lg, xg.length = lg := ⟨_, rfl⟩
          obtain ⟨lx, hlx⟩ : ∃ lx, xx.length = lx := ⟨_, rfl⟩
          rw [hlf] at c1 zf
          rw [hlg] at c3 zg
          rw [hlx] at c5 zx
          have ZF := hid zf
          have ZG := hid zg
          have ZX := hid zx
          have hwj := wrapI9 (i := j) (by omega)
          have HM2 : Hid (n - (j + 1) < gk) := by unfold Hid; rw [HG.out]; omega
          have hip : (i : Int) < (d : Int) := by omega
          clear zf zg zx hlf hlg hlx HG
          go_upto_region 10 with fail
          have KB : Hid (∀ w', Below wr.heap.size wr w' → w'.cell? ⟨b1, o1 + i * 2, none⟩ = some (.bool nf) ∧ w'.cell? ⟨b1, o1 + i * 2 + 1, none⟩ = some (.slice adf lf qf) ∧ w'.cell? ⟨b2, o2 + j * 2, none⟩ = some (.bool ng) ∧ w'.cell? ⟨b2, o2 + j * 2 + 1, none⟩ = some (.slice adg lg qg) ∧ w'.cell? ⟨g, j * 2, none⟩ = some (.bool nx) ∧ w'.cell? ⟨g, j * 2 + 1, none⟩ = some (.slice adx lx qx)) := fun w' h => ⟨cnow h c0, cnow h c1, cnow h c2, cnow h c3, cnow h c4, cnow h c5⟩
          refine wp_region_tail (fun w' => w'.cell? ⟨b1, o1 + i * 2, none⟩ = some (.bool nf) ∧ w'.cell? ⟨b1, o1 + i * 2 + 1, none⟩ = some (.slice adf lf qf) ∧ w'.cell? ⟨b2, o2 + j * 2, none⟩ = some (.bool ng) ∧ w'.cell? ⟨b2, o2 + j * 2 + 1, none⟩ = some (.slice adg lg qg) ∧ w'.cell? ⟨g, j * 2, none⟩ = some (.bool nx) ∧ w'.cell? ⟨g, j * 2 + 1, none⟩ = some (.slice adx lx qx)) 16 (by kernel_rfl) ?_
          obtain ⟨D61, hD⟩ : ∃ D61, wr.drew = D61 := ⟨_, rfl⟩
          have GB : Hid (Below wr.heap.size wr D61) := by unfold Hid; rw [← hD]; exact (Below.refl _ _).drew
          rw [hD]
          clear hD
          refine wpAnyT_list [(0, (.slice (some ⟨g, 0, none⟩) n n)), (1, (.int .i64 (j : Int))), (2, (.slice (some ⟨b1, o1, none⟩) d cp)), (3, (.int .i64 (i : Int))), (4, (.pointer (some ⟨b1, o1 + i * 2, none⟩))), (5, (.agg #[.bool nf, .slice adf lf qf])), (6, (.slice (some ⟨b2, o2, none⟩) n cr)), (7, (.int .i64 (j : Int))), (8, (.pointer (some ⟨b2, o2 + j * 2, none⟩))), (9, (.agg #[.bool ng, .slice adg lg qg])), (10, (.slice (some ⟨g, 0, none⟩) n n)), (11, (.int .i64 (j : Int))), (12, (.pointer (some ⟨g, j * 2, none⟩))), (13, (.agg #[.bool nx, .slice adx lx qx]))] 14 ?_ (KB.out _ GB.out) ?_
          · simp only [TakesV, gA9, g09, g19, Act.put, sI9, s09, s19]
            (repeat' (first | exact trivial | refine And.intro (Or.inl ⟨by rfl, ?_⟩) ?_)) <;> (intro w hSw; (try dsimp only at hSw); go_simp)
          simp only [actV, gA9, g09, g19, Act.put, sI9, s09, s19]
          refine wpAnyT_one (i := 14) (o := { dst := some 49, op := Op.call { callee := Callee.value (Operand.func 26), args := #[Operand.tmp 40, Operand.tmp 44, Operand.tmp 48], argTypes := #[25, 25, 25] }, type := 25, pos := "char.go:48", after := #[{ on := 5, ground := Ground.data }, { on := 9, ground := Ground.data }, { on := 13, ground := Ground.data }], guard := none }) (by kernel_rfl) rfl (fun K hK => ?_)
          go_simp
          go_at_call 26
          refine (mulAdd_z (ZF.out.now GB.out) (ZG.out.now GB.out) (ZX.out.zi.now GB.out) (by have := HK.out; have := EKI.out; have := EK0.out; omega) (by have := HK.out; have := EKI.out; omega)).mono ?_
          rintro e w62 ⟨r1, rfl, m1, b⟩
          have lz62 := (show Below _ _ _ from b).size
          replace GB := hid (below_step GB.out b)
          have AZ1 := hid (AZ.out.step GB.out)
          have PT1 := hid (PT.out.step GB.out)
          have B1 := hid (below_step B.out GB.out)
          have M0x := hid m1.zc
          obtain ⟨nr, xr, ar1, cr1, rfl⟩ := m1.parts
          have M1 : Hid (Zc w62 (.agg #[.bool nr, .slice ar1 xr.length cr1]) (P.getD i 0 * R.getD j 0 + V.getD j 0) (ki + q)) := Zc.fit16 M0x.out (by
            have e : ki + q = ki + ka + n + 1 := by have := EQ.out; omega
            rw [e]
            exact sum_lt (mul_abs ZF.out.lt ZG.out.lt) (lt_getD BV.out j) (by have := EKI.out; have := EK0.out; omega))
          obtain ⟨lr, hlr⟩ : ∃ lr, xr.length = lr := ⟨_, rfl⟩
          rw [hlr] at M1 ⊢
          clear m1 M0x hlr
          clear b
          refine hK.out _ _ (fun _ => KB.out _ GB.out) ?_
          clear hK
          refine wpAnyT_list [(15, (.pointer (some ⟨g, j * 2, none⟩)))] 1 ?_ (KB.out _ GB.out) ?_
          · simp only [TakesV, gA9, g09, g19, Act.put, sI9, s09, s19]
            (repeat' (first | exact trivial | refine And.intro (Or.inl ⟨by rfl, ?_⟩) ?_)) <;> (intro w hSw; (try dsimp only at hSw); go_simp)
          simp only [actV, gA9, g09, g19, Act.put, sI9, s09, s19]
          refine wpAnyT_one (i := 16) (o := { dst := none, op := Op.store 25 (Operand.tmp 50) (Operand.tmp 49), type := 0, pos := "char.go:48", after := #[{ on := 15, ground := Ground.data }, { on := 14, ground := Ground.data }, { on := 14, ground := Ground.chain }, { on := 0, ground := Ground.phase }, { on := 1, ground := Ground.phase }, { on := 2, ground := Ground.phase }, { on := 3, ground := Ground.phase }, { on := 4, ground := Ground.phase }, { on := 5, ground := Ground.phase }, { on := 6, ground := Ground.phase }, { on := 7, ground := Ground.phase }, { on := 8, ground := Ground.phase }, { on := 9, ground := Ground.phase }, { on := 10, ground := Ground.phase }, { on := 11, ground := Ground.phase }, { on := 12, ground := Ground.phase }, { on := 13, ground := Ground.phase }, { on := 14, ground := Ground.phase }], guard := none }) (by kernel_rfl) rfl (fun K hK => ?_)
          obtain ⟨ny, xy, ady, qy, e0, e1, e2, e3, -⟩ := AZ1.out.at (i := j) (by rw [mid16_length]; exact hjt)
          go_simp
          clear e0 e1 e2 e3
          obtain ⟨V63, hW⟩ : ∃ V63, ((w62.setCell ⟨g, j * 2, none⟩ (.bool nr)).setCell ⟨g, j * 2 + 1, none⟩ (.slice ar1 lr cr1)) = V63 := ⟨_, rfl⟩
          have HN1 : Hid (TlI W0 n d i g ga N (P.getD i 0) A R P V (ki + q) kk (n - (j + 1)) (.int .i64 ((j + 1 : Nat) : Int)) V63) := by
            unfold Hid
            rw [← hW]
            refine ⟨j + 1, rfl, by omega, rfl, ?_, PT1.out.off AZ1.out (by rw [mid16_length]; exact hjt) (.inl HGG.out) (by have := HGGA.out; omega) _ _, bset (bset B1.out HW0G.out) HW0G.out⟩
            rw [mid16_step hjt]
            exact AZ1.out.put (by rw [mid16_length]; exact hjt) M1.out
          rw [hW]
          clear hW
          refine hK.out _ _ (fun h => absurd h (by decide)) ?_
          clear hK
          try simp only [Act.put]
          refine wpAnyT_done (by kernel_rfl) ?_ _
          clear AZ PT B AZ1 PT1 B1 M1 GB KB ZF ZG ZX
          go_wp2_with fail
          go_roundg (n - (j + 1))
          case rel => exact HN1.out
          case measure => exact HM2.out
        · have hjt' : ¬ (j : Int) < (n : Int) := by omega
          obtain rfl : j = n := by omega
          obtain ⟨a5, l5, q5, y0, y1⟩ := PT.out.cell (j := i) (by omega)
          have hip : (i : Int) < (d : Int) := by omega
          have HN1 : Hid (TlH w W0 j d q ga A R P k0 kk i (.slice (some ⟨g, 0, none⟩) j j) (.int .i64 ((i : Int) - 1)) (wr.setCell ⟨ga, i, none⟩ (.slice (some ⟨g, 0, none⟩) j j))) := by
            have az := AZ.out
            rw [mid16_done, ← ETD.out] at az
            have hs : (wr.setCell ⟨ga, i, none⟩ (.slice (some ⟨g, 0, none⟩) j j)).heap.size = wr.heap.size := by simp
            have hgw := az.blk
            refine ⟨i, g, (i : Int) - 1, rfl, rfl, by omega, rfl, rfl, ?_, HGGA.out, ?_, bset B.out HGAW.out⟩
            · have wk : Wk wr (wr.setCell ⟨ga, i, none⟩ (.slice (some ⟨g, 0, none⟩) j j)) := Wk.set y0 (fun x e => by cases e)
              have := az.ne wk (Below.heap_setCell wr _ _ g (fun e => by have := HGGA.out; subst e; exact absurd this (Nat.lt_irrefl _)))
              exact this.more (by have := EKI.out; omega)
            · rw [hs]
              exact PT.out.put (az.more (by have := EKI.out; omega)) (by omega) (by have := HGG.out; omega) HGGA.out hgw
          clear AZ PT B HG
          go_wp2_with fail
          go_roundg i
          case rel => exact HN1.out
          case measure => exact HMM.out
end Go.Proofs.Ytnpcfohimlfbdaa
