/-
 Nw16: the walk of WholeNewton.
-/
import Derived.Test.YtnpcfohimlfbdaaGreatQWake16ToVa16
import Derived.Test.YtnpcfohimlfbdaaGreatQCt16
import Derived.Deep.CutRange
set_option maxRecDepth 100000
set_option maxHeartbeats 6400000
set_option linter.unusedVariables false
set_option linter.unusedSimpArgs false
namespace Go.Proofs.YtnpcfohimlfbdaaGreat
open Go.RowKit

theorem su_head : ∀ (m : Nat) (f : Nat → Int), su (m + 1) f = f 0 + su m (fun i => f (i + 1))
 | 0, f => by simp [su]
 | m + 1, f => by
  have := su_head m f
  show su (m + 1) f + f (m + 1) = f 0 + (su m (fun i => f (i + 1)) + f (m + 1))
  omega
theorem su_rev : ∀ (m : Nat) (f : Nat → Int), su m (fun i => f (m - (i + 1))) = su m f
 | 0, f => rfl
 | m + 1, f => by
  rw [su_head]
  have h := su_rev m f
  have e : su m (fun i => f (m + 1 - (i + 1 + 1))) = su m (fun i => f (m - (i + 1))) := su_congr fun i _ => by rw [show m + 1 - (i + 1 + 1) = m - (i + 1) by omega]
  rw [e, h, show m + 1 - (0 + 1) = m by omega]
  show _ = su m f + f m
  omega
theorem trL_prefix {n : Nat} {P : List Int} {j : Nat} : ∀ m, j < m → (trL n P m).getD j 0 = (trL n P (j + 1)).getD j 0
 | 0, h => by omega
 | m + 1, h => by
  by_cases q : j = m
  ·subst q; rfl
  ·have ih := trL_prefix (n := n) (P := P) (j := j) m (by omega)
   rw [← ih]
   have hl := trL_length (n := n) (P := P) m
   show (trL n P m ++ [_]).getD j 0 = _
   rw [List.getD_eq_getElem?_getD, List.getElem?_append_left (by omega), ← List.getD_eq_getElem?_getD]
theorem trL_at {n : Nat} {P : List Int} {j m : Nat} (h : j < m) : (trL n P m).getD j 0 = -(nwS n P (trL n P j) j j) := by
 rw [trL_prefix m h]
 have hl := trL_length (n := n) (P := P) j
 show (trL n P j ++ [_]).getD j 0 = _
 rw [List.getD_eq_getElem?_getD, List.getElem?_append_right (by omega), hl]
 simp
/-- The law's sum for the number c + 1, with m of its products. -/
def lwS (n : Nat) (P T : List Int) (c m : Nat) : Int := ((c + 1 : Nat) : Int) * P.getD (n - (c + 1)) 0 + su m (fun j => P.getD (n - (c + 1) + (j + 1)) 0 * T.getD j 0)
theorem lwS_step {n c m : Nat} {P T : List Int} : lwS n P T c m + P.getD (n - (c + 1) + (m + 1)) 0 * T.getD m 0 = lwS n P T c (m + 1) := by
 unfold lwS
 rw [show su (m + 1) (fun j => P.getD (n - (c + 1) + (j + 1)) 0 * T.getD j 0) = su m (fun j => P.getD (n - (c + 1) + (j + 1)) 0 * T.getD j 0) + P.getD (n - (c + 1) + (m + 1)) 0 * T.getD m 0 from rfl]
 omega
/-- Newton's identity. -/
theorem newton16 {n c : Nat} {P : List Int} (hP : P.getD n 0 = 1) (hc : c < n) : lwS n P (trL n P n) c (c + 1) = 0 := by
 rw [← lwS_step, show n - (c + 1) + (c + 1) = n by omega, hP, Int.one_mul, trL_at hc]
 unfold lwS nwS
 have e : su c (fun j => P.getD (n - (c + 1) + (j + 1)) 0 * (trL n P n).getD j 0) = su c (fun i => P.getD (n - (i + 1)) 0 * (trL n P c).getD (c - (i + 1)) 0) := by
  rw [← su_rev]
  refine su_congr fun i hi => ?_
  rw [show n - (c + 1) + (c - (i + 1) + 1) = n - (i + 1) by omega, trL_prefix n (by omega), trL_prefix c (by omega)]
 rw [e]
 omega
def NwO (wT : World) (n gk : Nat) (s8 : Value) (wx : World) : Prop := ∃ c : Nat, s8 = .int .i64 ((c + 1 : Nat) : Int) ∧ c ≤ n ∧ gk = n - c ∧ Below wT.heap.size wT wx
def NwC (W wx : World) (s9 : Value) (z : Int) (k : Nat) : Prop := ∃ b x y, s9 = .pointer (some ⟨b, 0, none⟩) ∧ W.heap.size ≤ b ∧ Duo wx b x y ∧ Zm W.heap.size wx (.agg #[x, y]) z k ∧ Below W.heap.size W wx
def NwI (wT : World) (n b9 : Nat) (P T : List Int) (c ks gk : Nat) (s10 : Value) (wx : World) : Prop :=
 ∃ (m : Nat) (x y : Value), s10 = .int .i64 ((m + 1 : Nat) : Int) ∧ m ≤ c + 1 ∧ gk = c + 1 - m ∧ Duo wx b9 x y ∧ Zm wT.heap.size wx (.agg #[x, y]) (lwS n P T c m) (ks + m) ∧ Below wT.heap.size wT wx
theorem nwc_put {W w : World} {b k : Nat} {x y x' y' : Value} {z : Int} (d : Duo w b x' y') (m : Zm W.heap.size w (.agg #[x, y]) z k) (hb : Below W.heap.size W w) (hs : W.heap.size ≤ b) : NwC W ((w.setCell ⟨b, 0, none⟩ x).setCell ⟨b, 1, none⟩ y) (.pointer (some ⟨b, 0, none⟩)) z k :=
 ⟨b, x, y, rfl, hs, d.set _ _, m.box d _ _, bset (bset hb hs) hs⟩
theorem wholeNewton_any {w : World} {va : Value} {ra ca : Int} {la : Nat} {xs : List Int} (ha : Raw w va ra ca la xs) :
  Calls Tryz.prog 4 #[va] w (Tru w) := by
 have RA := hid ha
 obtain ⟨aa, qa, -, rfl, -, -, -, hla⟩ := ha
 have HLA := hid hla
 obtain ⟨W0, hV⟩ : ∃ W0, w.alloc (.cells #[.int .i64 ra, .int .i64 ca, .slice aa la qa] 24) = W0 := ⟨_, rfl⟩
 obtain ⟨b0, sz0⟩ := alo1 w (.cells #[.int .i64 ra, .int .i64 ca, .slice aa la qa] 24)
 rw [hV] at b0 sz0
 have PA : Hid (Cel W0 w.heap.size 24 [.int .i64 ra, .int .i64 ca, .slice aa la qa]) := by unfold Hid; rw [← hV]; exact Cel.new w _ _
 replace RA := hid (RA.out.now b0)
 have G := hid b0
 have EV := hid hV
 clear b0 sz0 hV hla
 go_enter Tryz.func4, Tryz.ntmps4
 go_wp2_with fail
 rw [EV.out]
 clear EV
 refine (detWakes16 _).mono ?_
 rintro e w1 ⟨rfl, b⟩
 replace PA := hid (PA.out.step b)
 replace RA := hid (RA.out.now b)
 replace G := hid (below_step G.out b)
 clear b
 have cA0 := PA.out.at (i := 0) rfl
 have cA1 := PA.out.at (i := 1) rfl
 have cA2 := PA.out.at (i := 2) rfl
 go_wp2_with fail
 clear cA0 cA1 cA2
 refine (copyMat_any RA.out).mono ?_
 rintro e w2 ⟨a1, q1, rfl, m, b⟩
 replace PA := hid (PA.out.step b)
 replace RA := hid (RA.out.now b)
 replace G := hid (below_step G.out b)
 have R1 := hid m
 clear m
 clear b
 go_wp2_with fail
 by_cases hsa : Snd ra ca la
 ·obtain ⟨r, c, rfl, rfl⟩ := snd13 hsa
  obtain ⟨ma, -⟩ := R1.out.mx13 hsa
  have ES : Hid (decide (Snd (r : Int) (c : Int) la) = true) := decide_eq_true hsa
  have HSA := hid hsa
  have hr64 : r ≤ 64 := by obtain ⟨_, _, _, _, _, _, h, _⟩ := ma; exact h
  clear hsa
  by_cases hrc : r = c
  ·subst hrc
   have HCH := hid (char_yes ma (by decide) (by decide))
   clear ma
   refine (HCH.out).mono ?_
   rintro e w3 ⟨gc, rfl, hgc, hzc, b⟩
   replace PA := hid (PA.out.step b)
   replace RA := hid (RA.out.now b)
   replace R1 := hid (R1.out.now b)
   replace G := hid (below_step G.out b)
   have ZC := hid (hzc.zl (by rw [chL_length]; omega) (chL_length r))
   clear hgc hzc HCH
   clear b
   clear R1
   have cA0 := PA.out.at (i := 0) rfl
   have cA1 := PA.out.at (i := 1) rfl
   have cA2 := PA.out.at (i := 2) rfl
   go_wp2_with fail
   clear cA0 cA1 cA2
   refine (tsound_any HLA.out).mono ?_
   rintro e w4 ⟨rfl, b⟩
   replace PA := hid (PA.out.step b)
   replace RA := hid (RA.out.now b)
   replace ZC := hid (ZC.out.now b)
   replace G := hid (below_step G.out b)
   clear b
   rw [ES.out]
   have hrr : ((r : Int) != (r : Int)) = false := by simp
   have cA0 := PA.out.at (i := 0) rfl
   have cA1 := PA.out.at (i := 1) rfl
   have cA2 := PA.out.at (i := 2) rfl
   go_wp2_with fail
   clear cA0 cA1 cA2
   refine (copyMat_any RA.out).mono ?_
   rintro e w5 ⟨a2, q2, rfl, m, b⟩
   replace PA := hid (PA.out.step b)
   replace RA := hid (RA.out.now b)
   replace ZC := hid (ZC.out.now b)
   replace G := hid (below_step G.out b)
   have R2 := hid m
   clear m
   clear b
   go_wp2_with fail
   obtain ⟨m2, -⟩ := R2.out.mx13 HSA.out
   have HTR := hid (traces_yes m2 (by decide) (by decide) (Nat.le_refl r))
   clear m2
   refine (HTR.out).mono ?_
   rintro e w6 ⟨at1, qt, rfl, hzt, b⟩
   replace PA := hid (PA.out.step b)
   replace RA := hid (RA.out.now b)
   replace ZC := hid (ZC.out.now b)
   replace R2 := hid (R2.out.now b)
   replace G := hid (below_step G.out b)
   have ZT := hid hzt
   clear hzt HTR
   clear b
   clear R2
   have LASTP : Hid ((chL r xs r).getD r 0 = 1) := chL_last r
   have LC : Hid ((chL r xs r).length = r + 1) := chL_length r
   have LT : Hid ((trL r (chL r xs r) r).length = r) := trL_length r
   have NEW : Hid (∀ c, c < r → lwS r (chL r xs r) (trL r (chL r xs r) r) c (c + 1) = 0) := fun c hc => newton16 LASTP.out hc
   obtain ⟨kc, hkc⟩ : ∃ kc, 1 + r * (66 * (1048576 + 65)) = kc := ⟨_, rfl⟩
   have HKC : Hid (kc ≤ 4500000000) := by
    have h2 : r * (66 * (1048576 + 65)) ≤ 64 * (66 * (1048576 + 65)) := Nat.mul_le_mul_right _ hr64
    unfold Hid
    omega
   rw [hkc] at ZC ZT
   obtain ⟨kt, hkt⟩ : ∃ kt, 1 + r * (kc + 300) = kt := ⟨_, rfl⟩
   have HKT : Hid (kt ≤ 300000000000) := by
    have h2 : r * (kc + 300) ≤ 64 * (kc + 300) := Nat.mul_le_mul_right _ hr64
    have := HKC.out
    unfold Hid
    omega
   rw [hkt] at ZT
   generalize trL r (chL r xs r) r = T at *
   generalize chL r xs r = P at *
   clear hkc hkt
   obtain ⟨R1_, hR1⟩ : ∃ R1_, r + 1 = R1_ := ⟨_, rfl⟩
   have ER1 := hid hR1
   have hwr : IntKind.i64.wrap ((r : Int) + 1) = (R1_ : Int) := by rw [wrap_is] <;> omega
   have hqq : ((R1_ : Int) != (R1_ : Int)) = false := by simp
   rw [hR1] at ZC ⊢
   have H0 : Hid (NwO w6 r r (.int .i64 1) w6) := ⟨0, rfl, Nat.zero_le _, by omega, Below.refl _ _⟩
   clear hR1
   go_wp2_with fail
   clear hwr hqq
   go_loopg [8] r (fun gk s8 wx => NwO w6 r gk s8 wx)
   case atStart => exact H0.out
   case round =>
    clear H0
    obtain ⟨c, rfl, hcr, hg, hB⟩ := hrel
    have B := hid hB
    have HG := hid hg
    clear hB hg
    obtain ⟨C1, hC1⟩ : ∃ C1, c + 1 = C1 := ⟨_, rfl⟩
    have EC1 := hid hC1
    rw [hC1]
    by_cases hlt : c < r
    ·have hlt' : (C1 : Int) ≤ (r : Int) := by omega
     have hws : IntKind.i64.wrap ((r : Int) - (C1 : Int)) = ((r - C1 : Nat) : Int) := by rw [wrap_is] <;> omega
     have hiP : r - C1 < P.length := by rw [LC.out]; omega
     obtain ⟨pi, hpi⟩ : ∃ pi, r - C1 = pi := ⟨_, rfl⟩
     rw [hpi] at hiP hws
     have EPI := hid hpi
     have hpiN : (pi : Int) < (R1_ : Int) := by have := ER1.out; omega
     have HMM : Hid (r - C1 < gk) := by unfold Hid; rw [HG.out]; omega
     have hwc := wrapI9 (i := C1) (by omega)
     clear HG hC1 hpi
     go_upto_region 13 with fail
     go_cut [9] from 59 to 96 (fun s9 wx => NwC wr wx s9 (lwS r P T c 0) (kc + 1))
     case first =>
      obtain ⟨nf, xf, adf, qf, k0, k1, zf⟩ := (ZC.out.now B.out).at9 (i := pi) hiP
      rw [Nat.zero_add] at k0 k1
      rw [getD_at hiP] at zf
      obtain ⟨lf, hlf⟩ : ∃ lf, xf.length = lf := ⟨_, rfl⟩
      rw [hlf] at k1 zf
      have ZF := hid zf
      clear zf hlf
      have KB : Hid (∀ w', Below wr.heap.size wr w' → w'.cell? ⟨gc, pi * 2, none⟩ = some (.bool nf) ∧ w'.cell? ⟨gc, pi * 2 + 1, none⟩ = some (.slice adf lf qf)) := fun w' h => ⟨cnow h k0, cnow h k1⟩
      refine wp_region_tail (fun w' => w'.cell? ⟨gc, pi * 2, none⟩ = some (.bool nf) ∧ w'.cell? ⟨gc, pi * 2 + 1, none⟩ = some (.slice adf lf qf)) 10 (by kernel_rfl) ?_
      obtain ⟨D61, hD⟩ : ∃ D61, wr.drew = D61 := ⟨_, rfl⟩
      have GB : Hid (Below wr.heap.size wr D61) := by unfold Hid; rw [← hD]; exact (Below.refl _ _).drew
      rw [hD]
      clear hD
      have GZ : Hid (wr.heap.size ≤ D61.heap.size) := GB.out.size
      refine wpAnyT_list [(0, (.int .i64 (C1 : Int))), (2, (.slice (some ⟨gc, 0, none⟩) R1_ R1_)), (3, (.int .i64 (r : Int))), (4, (.int .i64 (C1 : Int))), (5, (.int .i64 (pi : Int))), (6, (.pointer (some ⟨gc, pi * 2, none⟩))), (7, (.agg #[.bool nf, .slice adf lf qf]))] 7 ?_ (KB.out _ GB.out) ?_
      ·simp only [TakesV, gA9, g09, g19, Act.put, sI9, s09, s19]
       (repeat' (first | exact trivial | refine And.intro (Or.inl ⟨by rfl, ?_⟩) ?_)) <;> (intro w hSw; (try dsimp only at hSw); go_simp)
      simp only [actV, gA9, g09, g19, Act.put, sI9, s09, s19]
      refine wpAnyT_two (i := 1) (j := 9) (oi := { dst := some 65, op := Op.call { callee := Callee.value (Operand.func 14), args := #[Operand.tmp 64], argTypes := #[2] }, type := 29, pos := "top16.go:146", after := #[{ on := 0, ground := Ground.data }], guard := none }) (oj := { dst := some 9, op := Op.alloc 29, type := 0, pos := "top16.go:146", after := #[], guard := none }) (by kernel_rfl) rfl rfl (fun K hK => ?_) (fun K hK => ?_)
      ·skip
       replace GZ : Hid (wr.heap.size ≤ D61.heap.size) := GB.out.size
       go_simp
       go_at_call 14
       refine (of_z (by omega) (by omega) _).mono ?_
       rintro e w62 ⟨r1, rfl, m1, b⟩
       have lz62 := (show Below _ _ _ from b).size
       replace GB := hid (below_step GB.out b)
       have ZO := hid m1.zi
       obtain ⟨no, xo, ao, co, rfl⟩ := m1.parts
       clear m1
       clear b
       refine hK.out _ _ (fun _ => KB.out _ GB.out) ?_
       clear hK
       refine wpAnyT_two (i := 8) (j := 9) (oi := { dst := some 72, op := Op.call { callee := Callee.value (Operand.func 13), args := #[Operand.tmp 65, Operand.tmp 71], argTypes := #[29, 29] }, type := 29, pos := "top16.go:146", after := #[{ on := 1, ground := Ground.data }, { on := 7, ground := Ground.data }, { on := 1, ground := Ground.chain }], guard := none }) (oj := { dst := some 9, op := Op.alloc 29, type := 0, pos := "top16.go:146", after := #[], guard := none }) (by kernel_rfl) rfl rfl (fun K hK => ?_) (fun K hK => ?_)
       ·skip
        replace GZ : Hid (wr.heap.size ≤ w62.heap.size) := GB.out.size
        go_simp
        go_at_call 13
        refine (mul_z ZO.out (ZF.out.now GB.out) (by have := HKC.out; omega)).mono ?_
        rintro e w63 ⟨r1, rfl, m1, b⟩
        have lz63 := (show Below _ _ _ from b).size
        replace GB := hid (below_step GB.out b)
        replace ZO := hid (ZO.out.now b)
        have MS := hid (m1.mono GZ.out)
        obtain ⟨ns, xs1, as1, cs1, rfl⟩ := m1.parts
        obtain ⟨ls, hls⟩ : ∃ ls, xs1.length = ls := ⟨_, rfl⟩
        rw [hls] at MS ⊢
        clear m1 hls ZO
        clear b
        refine hK.out _ _ (fun _ => KB.out _ GB.out) ?_
        clear hK
        refine wpAnyT_one (i := 9) (o := { dst := some 9, op := Op.alloc 29, type := 0, pos := "top16.go:146", after := #[], guard := none }) (by kernel_rfl) rfl (fun K hK => ?_)
        replace GZ : Hid (wr.heap.size ≤ w63.heap.size) := GB.out.size
        go_simp
        obtain ⟨V64, hW⟩ : ∃ V64, w63.alloc zbox = V64 := ⟨_, rfl⟩
        obtain ⟨b, sz64⟩ := alo1 w63 zbox
        rw [hW] at b sz64
        replace GB := hid (below_step GB.out b)
        have DB : Hid (Duo V64 w63.heap.size (.bool false) (.slice none 0 0)) := by unfold Hid; rw [← hW]; exact Duo.new w63 _ _
        clear sz64
        have SB := hid (show wr.heap.size ≤ w63.heap.size from GZ.out)
        replace MS := hid (MS.out.now b)
        rw [hW]
        clear hW b
        refine hK.out _ _ (fun _ => KB.out _ GB.out) ?_
        clear hK
        try simp only [Act.put]
        refine wpAnyT_one (i := 10) (o := { dst := none, op := Op.store 29 (Operand.tmp 9) (Operand.tmp 72), type := 0, pos := "top16.go:146", after := #[{ on := 9, ground := Ground.data }, { on := 8, ground := Ground.data }, { on := 8, ground := Ground.chain }, { on := 0, ground := Ground.phase }, { on := 1, ground := Ground.phase }, { on := 2, ground := Ground.phase }, { on := 3, ground := Ground.phase }, { on := 4, ground := Ground.phase }, { on := 5, ground := Ground.phase }, { on := 6, ground := Ground.phase }, { on := 7, ground := Ground.phase }, { on := 8, ground := Ground.phase }, { on := 9, ground := Ground.phase }], guard := none }) (by kernel_rfl) rfl (fun K hK => ?_)
        have e0 := DB.out.c0
        have e1 := DB.out.c1
        have e2 := DB.out.fz 0
        have e3 := DB.out.fz 1
        go_simp
        clear e0 e1 e2 e3
        obtain ⟨V65, hW⟩ : ∃ V65, ((V64.setCell ⟨w63.heap.size, 0, none⟩ (.bool ns)).setCell ⟨w63.heap.size, 1, none⟩ (.slice as1 ls cs1)) = V65 := ⟨_, rfl⟩
        have FP : Hid (NwC wr V65 (.pointer (some ⟨w63.heap.size, 0, none⟩)) (lwS r P T c 0) (kc + 1)) := by
         unfold Hid; rw [← hW]
         have e : lwS r P T c 0 = (C1 : Int) * P.getD pi 0 := by unfold lwS; rw [EC1.out, EPI.out]; simp [su]
         rw [e]
         exact nwc_put DB.out (MS.out.more (by omega)) GB.out SB.out
        replace GB : Hid (Below wr.heap.size wr V65) := by unfold Hid; rw [← hW]; exact bset (bset GB.out SB.out) SB.out
        rw [hW]
        clear hW
        refine hK.out _ _ (fun h => absurd h (by decide)) ?_
        clear hK
        try simp only [Act.put]
        refine wpAnyT_done (by kernel_rfl) ?_ _
        clear DB SB MS GB GZ ZF KB
        go_wp2_with fail
        go_meet
        exact FP.out
       ·skip
        replace GZ : Hid (wr.heap.size ≤ w62.heap.size) := GB.out.size
        go_simp
        obtain ⟨V66, hW⟩ : ∃ V66, w62.alloc zbox = V66 := ⟨_, rfl⟩
        obtain ⟨b, sz66⟩ := alo1 w62 zbox
        rw [hW] at b sz66
        replace GB := hid (below_step GB.out b)
        have DB : Hid (Duo V66 w62.heap.size (.bool false) (.slice none 0 0)) := by unfold Hid; rw [← hW]; exact Duo.new w62 _ _
        clear sz66
        have SB := hid (show wr.heap.size ≤ w62.heap.size from GZ.out)
        replace ZO := hid (ZO.out.now b)
        rw [hW]
        clear hW b
        refine hK.out _ _ (fun _ => KB.out _ GB.out) ?_
        clear hK
        try simp only [Act.put]
        refine wpAnyT_one (i := 8) (o := { dst := some 72, op := Op.call { callee := Callee.value (Operand.func 13), args := #[Operand.tmp 65, Operand.tmp 71], argTypes := #[29, 29] }, type := 29, pos := "top16.go:146", after := #[{ on := 1, ground := Ground.data }, { on := 7, ground := Ground.data }, { on := 1, ground := Ground.chain }], guard := none }) (by kernel_rfl) rfl (fun K hK => ?_)
        replace GZ : Hid (wr.heap.size ≤ V66.heap.size) := GB.out.size
        go_simp
        go_at_call 13
        refine (mul_z ZO.out (ZF.out.now GB.out) (by have := HKC.out; omega)).mono ?_
        rintro e w67 ⟨r1, rfl, m1, b⟩
        have lz67 := (show Below _ _ _ from b).size
        replace GB := hid (below_step GB.out b)
        replace ZO := hid (ZO.out.now b)
        replace DB := hid (DB.out.step b)
        have MS := hid (m1.mono GZ.out)
        obtain ⟨ns, xs1, as1, cs1, rfl⟩ := m1.parts
        obtain ⟨ls, hls⟩ : ∃ ls, xs1.length = ls := ⟨_, rfl⟩
        rw [hls] at MS ⊢
        clear m1 hls ZO
        clear b
        refine hK.out _ _ (fun _ => KB.out _ GB.out) ?_
        clear hK
        refine wpAnyT_one (i := 10) (o := { dst := none, op := Op.store 29 (Operand.tmp 9) (Operand.tmp 72), type := 0, pos := "top16.go:146", after := #[{ on := 9, ground := Ground.data }, { on := 8, ground := Ground.data }, { on := 8, ground := Ground.chain }, { on := 0, ground := Ground.phase }, { on := 1, ground := Ground.phase }, { on := 2, ground := Ground.phase }, { on := 3, ground := Ground.phase }, { on := 4, ground := Ground.phase }, { on := 5, ground := Ground.phase }, { on := 6, ground := Ground.phase }, { on := 7, ground := Ground.phase }, { on := 8, ground := Ground.phase }, { on := 9, ground := Ground.phase }], guard := none }) (by kernel_rfl) rfl (fun K hK => ?_)
        have e0 := DB.out.c0
        have e1 := DB.out.c1
        have e2 := DB.out.fz 0
        have e3 := DB.out.fz 1
        go_simp
        clear e0 e1 e2 e3
        obtain ⟨V68, hW⟩ : ∃ V68, ((w67.setCell ⟨w62.heap.size, 0, none⟩ (.bool ns)).setCell ⟨w62.heap.size, 1, none⟩ (.slice as1 ls cs1)) = V68 := ⟨_, rfl⟩
        have FP : Hid (NwC wr V68 (.pointer (some ⟨w62.heap.size, 0, none⟩)) (lwS r P T c 0) (kc + 1)) := by
         unfold Hid; rw [← hW]
         have e : lwS r P T c 0 = (C1 : Int) * P.getD pi 0 := by unfold lwS; rw [EC1.out, EPI.out]; simp [su]
         rw [e]
         exact nwc_put DB.out (MS.out.more (by omega)) GB.out SB.out
        replace GB : Hid (Below wr.heap.size wr V68) := by unfold Hid; rw [← hW]; exact bset (bset GB.out SB.out) SB.out
        rw [hW]
        clear hW
        refine hK.out _ _ (fun h => absurd h (by decide)) ?_
        clear hK
        try simp only [Act.put]
        refine wpAnyT_done (by kernel_rfl) ?_ _
        clear DB SB MS GB GZ ZF KB
        go_wp2_with fail
        go_meet
        exact FP.out
      ·skip
       replace GZ : Hid (wr.heap.size ≤ D61.heap.size) := GB.out.size
       go_simp
       obtain ⟨V69, hW⟩ : ∃ V69, D61.alloc zbox = V69 := ⟨_, rfl⟩
       obtain ⟨b, sz69⟩ := alo1 D61 zbox
       rw [hW] at b sz69
       replace GB := hid (below_step GB.out b)
       have DB : Hid (Duo V69 D61.heap.size (.bool false) (.slice none 0 0)) := by unfold Hid; rw [← hW]; exact Duo.new D61 _ _
       clear sz69
       have SB := hid (show wr.heap.size ≤ D61.heap.size from GZ.out)
       rw [hW]
       clear hW b
       refine hK.out _ _ (fun _ => KB.out _ GB.out) ?_
       clear hK
       try simp only [Act.put]
       refine wpAnyT_one (i := 1) (o := { dst := some 65, op := Op.call { callee := Callee.value (Operand.func 14), args := #[Operand.tmp 64], argTypes := #[2] }, type := 29, pos := "top16.go:146", after := #[{ on := 0, ground := Ground.data }], guard := none }) (by kernel_rfl) rfl (fun K hK => ?_)
       replace GZ : Hid (wr.heap.size ≤ V69.heap.size) := GB.out.size
       go_simp
       go_at_call 14
       refine (of_z (by omega) (by omega) _).mono ?_
       rintro e w70 ⟨r1, rfl, m1, b⟩
       have lz70 := (show Below _ _ _ from b).size
       replace GB := hid (below_step GB.out b)
       replace DB := hid (DB.out.step b)
       have ZO := hid m1.zi
       obtain ⟨no, xo, ao, co, rfl⟩ := m1.parts
       clear m1
       clear b
       refine hK.out _ _ (fun _ => KB.out _ GB.out) ?_
       clear hK
       refine wpAnyT_one (i := 8) (o := { dst := some 72, op := Op.call { callee := Callee.value (Operand.func 13), args := #[Operand.tmp 65, Operand.tmp 71], argTypes := #[29, 29] }, type := 29, pos := "top16.go:146", after := #[{ on := 1, ground := Ground.data }, { on := 7, ground := Ground.data }, { on := 1, ground := Ground.chain }], guard := none }) (by kernel_rfl) rfl (fun K hK => ?_)
       replace GZ : Hid (wr.heap.size ≤ w70.heap.size) := GB.out.size
       go_simp
       go_at_call 13
       refine (mul_z ZO.out (ZF.out.now GB.out) (by have := HKC.out; omega)).mono ?_
       rintro e w71 ⟨r1, rfl, m1, b⟩
       have lz71 := (show Below _ _ _ from b).size
       replace GB := hid (below_step GB.out b)
       replace ZO := hid (ZO.out.now b)
       replace DB := hid (DB.out.step b)
       have MS := hid (m1.mono GZ.out)
       obtain ⟨ns, xs1, as1, cs1, rfl⟩ := m1.parts
       obtain ⟨ls, hls⟩ : ∃ ls, xs1.length = ls := ⟨_, rfl⟩
       rw [hls] at MS ⊢
       clear m1 hls ZO
       clear b
       refine hK.out _ _ (fun _ => KB.out _ GB.out) ?_
       clear hK
       refine wpAnyT_one (i := 10) (o := { dst := none, op := Op.store 29 (Operand.tmp 9) (Operand.tmp 72), type := 0, pos := "top16.go:146", after := #[{ on := 9, ground := Ground.data }, { on := 8, ground := Ground.data }, { on := 8, ground := Ground.chain }, { on := 0, ground := Ground.phase }, { on := 1, ground := Ground.phase }, { on := 2, ground := Ground.phase }, { on := 3, ground := Ground.phase }, { on := 4, ground := Ground.phase }, { on := 5, ground := Ground.phase }, { on := 6, ground := Ground.phase }, { on := 7, ground := Ground.phase }, { on := 8, ground := Ground.phase }, { on := 9, ground := Ground.phase }], guard := none }) (by kernel_rfl) rfl (fun K hK => ?_)
       have e0 := DB.out.c0
       have e1 := DB.out.c1
       have e2 := DB.out.fz 0
       have e3 := DB.out.fz 1
       go_simp
       clear e0 e1 e2 e3
       obtain ⟨V72, hW⟩ : ∃ V72, ((w71.setCell ⟨D61.heap.size, 0, none⟩ (.bool ns)).setCell ⟨D61.heap.size, 1, none⟩ (.slice as1 ls cs1)) = V72 := ⟨_, rfl⟩
       have FP : Hid (NwC wr V72 (.pointer (some ⟨D61.heap.size, 0, none⟩)) (lwS r P T c 0) (kc + 1)) := by
        unfold Hid; rw [← hW]
        have e : lwS r P T c 0 = (C1 : Int) * P.getD pi 0 := by unfold lwS; rw [EC1.out, EPI.out]; simp [su]
        rw [e]
        exact nwc_put DB.out (MS.out.more (by omega)) GB.out SB.out
       replace GB : Hid (Below wr.heap.size wr V72) := by unfold Hid; rw [← hW]; exact bset (bset GB.out SB.out) SB.out
       rw [hW]
       clear hW
       refine hK.out _ _ (fun h => absurd h (by decide)) ?_
       clear hK
       try simp only [Act.put]
       refine wpAnyT_done (by kernel_rfl) ?_ _
       clear DB SB MS GB GZ ZF KB
       go_wp2_with fail
       go_meet
       exact FP.out
     case rest =>
      rename World => Wc
      obtain ⟨b9, x9, y9, rfl, hb9, d9, z9, bc⟩ := hcut
      have H1 : Hid (NwI w6 r b9 P T c (kc + kt + 2) C1 (.int .i64 1) Wc) := ⟨0, x9, y9, rfl, Nat.zero_le _, by have := EC1.out; omega, d9, (z9.mono B.out.size).more (by omega), below_step B.out bc⟩
      have HB9 : Hid (w6.heap.size ≤ b9) := Nat.le_trans B.out.size hb9
      clear hb9 d9 z9 bc B
      go_wp2_with fail
      go_loopg [10] C1 (fun gk2 s10 wx => NwI w6 r b9 P T c (kc + kt + 2) gk2 s10 wx)
      case atStart => exact H1.out
      case round =>
       clear H1
       obtain ⟨m, x8, y8, rfl, hmc, hg, hd8, hz8, hB⟩ := hrel
       have D8 := hid hd8
       have Z8 := hid hz8
       have B := hid hB
       have HG := hid hg
       obtain ⟨n8, x8', a8, c8, e8⟩ := hz8.parts
       simp only [Value.agg.injEq, Array.mk.injEq, List.cons.injEq, and_true] at e8
       obtain ⟨rfl, rfl⟩ := e8
       obtain ⟨l8, hl8⟩ : ∃ l8, x8'.length = l8 := ⟨_, rfl⟩
       rw [hl8] at D8 Z8
       clear hd8 hz8 hB hg hl8
       obtain ⟨M1, hM1⟩ : ∃ M1, m + 1 = M1 := ⟨_, rfl⟩
       have EM1 := hid hM1
       rw [hM1]
       by_cases hmt : m < C1
       ·have hmt' : (M1 : Int) ≤ (C1 : Int) := by omega
        have hpm : pi + M1 < P.length := by rw [LC.out]; have := EPI.out; have := EC1.out; omega
        have hw2 : IntKind.i64.wrap ((pi : Int) + (M1 : Int)) = ((pi + M1 : Nat) : Int) := by have := EPI.out; have := EC1.out; rw [wrap_is] <;> omega
        obtain ⟨pj, hpj⟩ : ∃ pj, pi + M1 = pj := ⟨_, rfl⟩
        rw [hpj] at hpm hw2
        have hw3 : IntKind.i64.wrap ((M1 : Int) - 1) = (m : Int) := by rw [wrap_is] <;> omega
        have hwm := wrapI9 (i := M1) (by have := EC1.out; omega)
        have EPJ := hid hpj
        have hpjN : (pj : Int) < (R1_ : Int) := by have := ER1.out; have := LC.out; omega
        have hmr : (m : Int) < (r : Int) := by have := EC1.out; omega
        have HM2 : Hid (C1 - M1 < gk) := by unfold Hid; rw [HG.out]; have := EC1.out; omega
        obtain ⟨nf, xf, adf, qf, k0, k1, zf⟩ := (ZC.out.now B.out).at9 (i := pj) hpm
        rw [Nat.zero_add] at k0 k1
        rw [getD_at hpm] at zf
        have htl : m < T.length := by rw [LT.out]; omega
        obtain ⟨bt, ot, hat⟩ : ∃ bt ot, at1 = some ⟨bt, ot, none⟩ := by
         obtain ⟨a2, c2, e, _, _, h⟩ := ZT.out.form9
         simp only [Value.slice.injEq] at e
         obtain ⟨b2, o2, q2⟩ := h (fun q => by rw [q] at htl; simp at htl)
         exact ⟨b2, o2, by rw [e.1]; exact q2⟩
        subst hat
        obtain ⟨ng, xg, adg, qg, k2, k3, zg⟩ := (ZT.out.now B.out).at9 (i := m) htl
        rw [getD_at htl] at zg
        obtain ⟨lf, hlf⟩ : ∃ lf, xf.length = lf := ⟨_, rfl⟩
        obtain ⟨lg, hlg⟩ : ∃ lg, xg.length = lg := ⟨_, rfl⟩
        rw [hlf] at k1 zf
        rw [hlg] at k3 zg
        have ZF := hid zf
        have ZG := hid zg
        clear zf zg hlf hlg HG hpj hM1
        go_upto_region 17 with fail
        have d0 := D8.out.c0
        have d1 := D8.out.c1
        have KB : Hid (∀ w', Below wr.heap.size wr w' → w'.cell? ⟨b9, 0, none⟩ = some (.bool n8) ∧ w'.cell? ⟨b9, 1, none⟩ = some (.slice a8 l8 c8) ∧ w'.cell? ⟨gc, pj * 2, none⟩ = some (.bool nf) ∧ w'.cell? ⟨gc, pj * 2 + 1, none⟩ = some (.slice adf lf qf) ∧ w'.cell? ⟨bt, ot + m * 2, none⟩ = some (.bool ng) ∧ w'.cell? ⟨bt, ot + m * 2 + 1, none⟩ = some (.slice adg lg qg)) := fun w' h => ⟨cnow h d0, cnow h d1, cnow h k0, cnow h k1, cnow h k2, cnow h k3⟩
        refine wp_region_tail (fun w' => w'.cell? ⟨b9, 0, none⟩ = some (.bool n8) ∧ w'.cell? ⟨b9, 1, none⟩ = some (.slice a8 l8 c8) ∧ w'.cell? ⟨gc, pj * 2, none⟩ = some (.bool nf) ∧ w'.cell? ⟨gc, pj * 2 + 1, none⟩ = some (.slice adf lf qf) ∧ w'.cell? ⟨bt, ot + m * 2, none⟩ = some (.bool ng) ∧ w'.cell? ⟨bt, ot + m * 2 + 1, none⟩ = some (.slice adg lg qg)) 16 (by kernel_rfl) ?_
        obtain ⟨D81, hD⟩ : ∃ D81, wr.drew = D81 := ⟨_, rfl⟩
        have GB : Hid (Below wr.heap.size wr D81) := by unfold Hid; rw [← hD]; exact (Below.refl _ _).drew
        rw [hD]
        clear hD
        refine wpAnyT_list [(0, (.agg #[.bool n8, .slice a8 l8 c8])), (1, (.slice (some ⟨gc, 0, none⟩) R1_ R1_)), (2, (.int .i64 (r : Int))), (3, (.int .i64 (C1 : Int))), (4, (.int .i64 (pi : Int))), (5, (.int .i64 (M1 : Int))), (6, (.int .i64 (pj : Int))), (7, (.pointer (some ⟨gc, pj * 2, none⟩))), (8, (.agg #[.bool nf, .slice adf lf qf])), (9, (.slice (some ⟨bt, ot, none⟩) r qt)), (10, (.int .i64 (M1 : Int))), (11, (.int .i64 (m : Int))), (12, (.pointer (some ⟨bt, ot + m * 2, none⟩))), (13, (.agg #[.bool ng, .slice adg lg qg]))] 14 ?_ (KB.out _ GB.out) ?_
        ·simp only [TakesV, gA9, g09, g19, Act.put, sI9, s09, s19]
         (repeat' (first | exact trivial | refine And.intro (Or.inl ⟨by rfl, ?_⟩) ?_)) <;> (intro w hSw; (try dsimp only at hSw); go_simp)
        simp only [actV, gA9, g09, g19, Act.put, sI9, s09, s19]
        refine wpAnyT_one (i := 14) (o := { dst := some 92, op := Op.call { callee := Callee.value (Operand.func 13), args := #[Operand.tmp 86, Operand.tmp 91], argTypes := #[29, 29] }, type := 29, pos := "top16.go:148", after := #[{ on := 8, ground := Ground.data }, { on := 13, ground := Ground.data }], guard := none }) (by kernel_rfl) rfl (fun K hK => ?_)
        go_simp
        go_at_call 13
        refine (mul_z (ZF.out.now GB.out) (ZG.out.now GB.out) (by have := HKC.out; have := HKT.out; omega)).mono ?_
        rintro e w82 ⟨r1, rfl, m1, b⟩
        have lz82 := (show Below _ _ _ from b).size
        replace GB := hid (below_step GB.out b)
        have ZP := hid m1.zi
        obtain ⟨np, xp, ap, cp, rfl⟩ := m1.parts
        clear m1
        clear b
        refine hK.out _ _ (fun _ => KB.out _ GB.out) ?_
        clear hK
        refine wpAnyT_one (i := 15) (o := { dst := some 93, op := Op.call { callee := Callee.value (Operand.func 18), args := #[Operand.tmp 78, Operand.tmp 92], argTypes := #[29, 29] }, type := 29, pos := "top16.go:148", after := #[{ on := 0, ground := Ground.data }, { on := 14, ground := Ground.data }, { on := 14, ground := Ground.chain }], guard := none }) (by kernel_rfl) rfl (fun K hK => ?_)
        have lzh : Hid (wr.heap.size ≤ w82.heap.size) := GB.out.size
        go_simp
        go_at_call 18
        refine (add_z (Z8.out.zi.now GB.out) ZP.out (by have := HKC.out; have := HKT.out; omega) (by have := HKC.out; have := HKT.out; omega)).mono ?_
        rintro e w83 ⟨r1, rfl, m1, b⟩
        have lz83 := (show Below _ _ _ from b).size
        replace GB := hid (below_step GB.out b)
        have B1 := hid (below_step B.out GB.out)
        have D81 := hid (D8.out.step GB.out)
        have MS := hid (m1.mono (Nat.le_trans B.out.size lzh.out))
        obtain ⟨ns, xs1, as1, cs1, rfl⟩ := m1.parts
        obtain ⟨ls, hls⟩ : ∃ ls, xs1.length = ls := ⟨_, rfl⟩
        rw [hls] at MS ⊢
        clear m1 hls
        clear b
        refine hK.out _ _ (fun _ => KB.out _ GB.out) ?_
        clear hK
        refine wpAnyT_one (i := 16) (o := { dst := none, op := Op.store 29 (Operand.tmp 9) (Operand.tmp 93), type := 0, pos := "top16.go:148", after := #[{ on := 15, ground := Ground.data }, { on := 15, ground := Ground.chain }, { on := 0, ground := Ground.phase }, { on := 1, ground := Ground.phase }, { on := 2, ground := Ground.phase }, { on := 3, ground := Ground.phase }, { on := 4, ground := Ground.phase }, { on := 5, ground := Ground.phase }, { on := 6, ground := Ground.phase }, { on := 7, ground := Ground.phase }, { on := 8, ground := Ground.phase }, { on := 9, ground := Ground.phase }, { on := 10, ground := Ground.phase }, { on := 11, ground := Ground.phase }, { on := 12, ground := Ground.phase }, { on := 13, ground := Ground.phase }, { on := 14, ground := Ground.phase }, { on := 15, ground := Ground.phase }], guard := none }) (by kernel_rfl) rfl (fun K hK => ?_)
        have e0 := D81.out.c0
        have e1 := D81.out.c1
        have e2 := D81.out.fz 0
        have e3 := D81.out.fz 1
        go_simp
        clear e0 e1 e2 e3
        obtain ⟨V84, hW⟩ : ∃ V84, ((w83.setCell ⟨b9, 0, none⟩ (.bool ns)).setCell ⟨b9, 1, none⟩ (.slice as1 ls cs1)) = V84 := ⟨_, rfl⟩
        have HN1 : Hid (NwI w6 r b9 P T c (kc + kt + 2) (C1 - M1) (.int .i64 ((M1 + 1 : Nat) : Int)) V84) := by
         unfold Hid
         rw [← hW]
         refine ⟨m + 1, .bool ns, .slice as1 ls cs1, by rw [EM1.out], by have := EC1.out; omega, by rw [EM1.out, EC1.out], D81.out.set _ _, ?_, bset (bset B1.out HB9.out) HB9.out⟩
         have e : lwS r P T c m + P.getD pj 0 * T.getD m 0 = lwS r P T c (m + 1) := by rw [← EPJ.out, ← EPI.out, ← EM1.out, ← EC1.out]; exact lwS_step
         rw [← e]
         exact (MS.out.box D81.out _ _).more (by omega)
        rw [hW]
        clear hW
        refine hK.out _ _ (fun h => absurd h (by decide)) ?_
        clear hK
        try simp only [Act.put]
        refine wpAnyT_done (by kernel_rfl) ?_ _
        clear B B1 D8 D81 MS GB KB ZF ZG Z8 ZP lzh
        go_wp2_with fail
        go_roundg (C1 - M1)
        case rel => exact HN1.out
        case measure => exact HM2.out
       ·have hmt' : ¬ (M1 : Int) ≤ (C1 : Int) := by omega
        obtain rfl : m = C1 := by have := EC1.out; omega
        have ZZ := hid Z8.out.zc
        rw [← EC1.out, NEW.out c hlt] at ZZ
        have HZ := hid (tzero_yes ZZ.out)
        have c0 := D8.out.c0
        have c1 := D8.out.c1
        clear HG Z8 ZZ hM1
        go_wp2_with fail
        clear c0 c1
        refine HZ.out.mono ?_
        rintro e w9 ⟨rfl, b⟩
        have HN1 : Hid (NwO w6 r (r - m) (.int .i64 ((m + 1 : Nat) : Int)) w9) := ⟨m, rfl, by omega, rfl, below_step B.out b⟩
        clear HZ b B D8
        go_wp2_with fail
        go_roundg (r - m)
        case rel => exact HN1.out
        case measure => exact HMM.out
    ·have hlt' : ¬ (C1 : Int) ≤ (r : Int) := by omega
     have FIN : Hid (Tru w (.returned (.bool true)) wr) := ⟨rfl, below_step G.out B.out⟩
     clear B HG hC1
     go_wp2
     go_ret
     exact FIN.out
  ·skip
   have hnb : ((r : Int) != (c : Int)) = true := by simp; omega
   have hne : ¬ (r : Int) = (c : Int) := by omega
   have HD := hid (char_fit ma hrc)
   clear ma hrc
   refine (HD.out).mono ?_
   rintro e w7 ⟨rfl, b⟩
   replace PA := hid (PA.out.step b)
   replace RA := hid (RA.out.now b)
   replace R1 := hid (R1.out.now b)
   replace G := hid (below_step G.out b)
   clear HD
   clear b
   have cA0 := PA.out.at (i := 0) rfl
   have cA1 := PA.out.at (i := 1) rfl
   have cA2 := PA.out.at (i := 2) rfl
   go_wp2_with fail
   clear cA0 cA1 cA2
   refine (tsound_any HLA.out).mono ?_
   rintro e w8 ⟨rfl, b⟩
   replace PA := hid (PA.out.step b)
   replace RA := hid (RA.out.now b)
   replace R1 := hid (R1.out.now b)
   replace G := hid (below_step G.out b)
   clear b
   rw [ES.out]
   have cA0 := PA.out.at (i := 0) rfl
   have cA1 := PA.out.at (i := 1) rfl
   have cA2 := PA.out.at (i := 2) rfl
   go_wp2
   go_ret
   exact ⟨rfl, G.out⟩
 ·have ES : Hid (decide (Snd ra ca la) = false) := decide_eq_false hsa
  have HD := hid (char_un (w := w2) (a := a1) (cap := q1) hsa)
  clear hsa
  refine (HD.out).mono ?_
  rintro e w9 ⟨rfl, b⟩
  replace PA := hid (PA.out.step b)
  replace RA := hid (RA.out.now b)
  replace R1 := hid (R1.out.now b)
  replace G := hid (below_step G.out b)
  clear HD
  clear b
  have cA0 := PA.out.at (i := 0) rfl
  have cA1 := PA.out.at (i := 1) rfl
  have cA2 := PA.out.at (i := 2) rfl
  go_wp2_with fail
  clear cA0 cA1 cA2
  refine (tsound_any HLA.out).mono ?_
  rintro e w10 ⟨rfl, b⟩
  replace PA := hid (PA.out.step b)
  replace RA := hid (RA.out.now b)
  replace R1 := hid (R1.out.now b)
  replace G := hid (below_step G.out b)
  clear b
  rw [ES.out]
  have cA0 := PA.out.at (i := 0) rfl
  have cA1 := PA.out.at (i := 1) rfl
  have cA2 := PA.out.at (i := 2) rfl
  go_wp2
  go_ret
  exact ⟨rfl, G.out⟩
end Go.Proofs.YtnpcfohimlfbdaaGreat
