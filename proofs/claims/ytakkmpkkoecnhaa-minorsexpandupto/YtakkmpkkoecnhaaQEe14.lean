/-
  Ee14: the walk of MinorsExpand.
-/
import Derived.Test.YtakkmpkkoecnhaaQAw14
import Derived.Test.YtakkmpkkoecnhaaQEr13ToRs13
import Derived.Test.YtakkmpkkoecnhaaQUnit9ToMWord
import Derived.Deep.CutRange
namespace Go.Proofs.Ytakkmpkkoecnhaa
open Go.RowKit
set_option linter.unusedVariables false

/-- The sum so far. -/
def ExH (W0 : World) (bs n nn row : Nat) (zs : List Int) (kw gk : Nat) (s : Value) (wx : World) : Prop :=
  ∃ (j : Nat) (ns : Bool) (as_ : Option Addr) (ls cs : Nat), s = .int .i64 (j : Int) ∧ j ≤ n ∧ gk = n - j ∧ Duo wx bs (.bool ns) (.slice as_ ls cs) ∧ Zm 0 wx (.agg #[.bool ns, .slice as_ ls cs]) (su j (exT (en n zs) nn row)) kw ∧ Below W0.heap.size W0 wx
/-- The two lists of places so far. -/
def PlH (W1 : World) (n : Nat) (PR PJ : Nat → Bool) (gk : Nat) (s1 s2 s3 : Value) (wx : World) : Prop :=
  ∃ t : Nat, s3 = .int .i64 (t : Int) ∧ t ≤ n ∧ gk = n - t ∧ R15 W1 W1 W1 wx s1 s2 ((List.range t).filter PR) ((List.range t).filter PJ)
theorem r15_nil (W : World) : R15 W W W W (.slice none 0 0) (.slice none 0 0) [] [] := ⟨Ty.of (Below.refl _ _), Below.refl _ _, Below.refl _ _, Ivs.nil _ _, Ivs.nil _ _, fun b h => by cases h⟩
/-- A number in a box made since. -/
def ZBx (W wx : World) (s : Value) (z : Int) (k : Nat) : Prop := ∃ bk n a l c, s = .pointer (some ⟨bk, 0, none⟩) ∧ W.heap.size ≤ bk ∧ Below W.heap.size W wx ∧ Duo wx bk (.bool n) (.slice a l c) ∧ Zm 0 wx (.agg #[.bool n, .slice a l c]) z k
theorem places_det {n r j : Nat} {zs : List Int} (hr : r ≤ n) (hj : j ≤ n) : det n (fun a b => en (n + 1) zs (((List.range (n + 1)).filter fun t => t != r).getD a 0) (((List.range (n + 1)).filter fun t => t != j).getD b 0)) = det n fun a b => en (n + 1) zs (skd r a) (skd j b) :=
  det_congr fun a b ha hb => by rw [without_at hr ha, without_at hj hb]
set_option maxHeartbeats 6400000 in
set_option maxRecDepth 100000 in
theorem minorsExpand_any {w : World} {va : Value} {ra ca : Int} {la : Nat} {xs : List Int} {k : Int} (ha : Raw w va ra ca la xs) :
    Calls Try.prog 3 #[va, .int .i64 k] w (Tru w) := by
  have RA := hid ha
  obtain ⟨aa, qa, -, rfl, -, -, -, hla⟩ := ha
  obtain ⟨W0, hV⟩ : ∃ W0, w.alloc (.cells #[.int .i64 ra, .int .i64 ca, .slice aa la qa] 24) = W0 := ⟨_, rfl⟩
  obtain ⟨b0, sz0⟩ := alo1 w (.cells #[.int .i64 ra, .int .i64 ca, .slice aa la qa] 24)
  rw [hV] at b0 sz0
  have PA : Hid (Cel W0 w.heap.size 24 [.int .i64 ra, .int .i64 ca, .slice aa la qa]) := by unfold Hid; rw [← hV]; exact Cel.new w _ _
  replace RA := hid (RA.out.now b0)
  have G := hid b0
  clear b0 sz0
  have EV := hid hV
  clear hV
  go_enter Try.func3, Try.ntmps3
  go_wp2_with fail
  rw [EV.out]
  clear EV
  refine (awake14 _).mono ?_
  rintro e w1 ⟨rfl, b⟩
  replace PA := hid (PA.out.step b)
  replace RA := hid (RA.out.now b)
  replace G := hid (below_step G.out b)
  clear b
  by_cases hsa : Snd ra ca la
  · obtain ⟨n, c, rfl, rfl⟩ := snd13 hsa
    obtain ⟨ma, -⟩ := RA.out.mx13 hsa
    have MA := hid ma
    clear ma hsa
    by_cases hrc : n = c
    · subst hrc
      clear RA
      have hn64 : n ≤ 64 := by obtain ⟨_, _, _, _, _, _, h, _⟩ := MA.out; exact h
      have HZA : Hid (∀ z ∈ xs, (z.natAbs : Int) < pw 1048576) := by obtain ⟨_, _, _, _, h, _⟩ := MA.out; exact h.lt
      have cA0 := PA.out.at (i := 0) rfl
      have cA1 := PA.out.at (i := 1) rfl
      have cA2 := PA.out.at (i := 2) rfl
      go_wp2_with fail
      clear cA0 cA1 cA2
      refine (det_sq MA.out (by decide)).mono ?_
      rintro e w2 ⟨r0, rfl, m, b⟩
      replace PA := hid (PA.out.step b)
      replace MA := hid (MA.out.now b)
      replace G := hid (below_step G.out b)
      have Zd := hid (m.mono (Nat.zero_le _))
      obtain ⟨nd, xd, ad, cd, rfl⟩ := m.parts
      obtain ⟨ld, hld⟩ : ∃ ld, xd.length = ld := ⟨_, rfl⟩
      rw [hld] at Zd ⊢
      clear m hld
      clear b
      obtain ⟨V3, hV⟩ : ∃ V3, w2.alloc (duo (.bool nd) (.slice ad ld cd)) = V3 := ⟨_, rfl⟩
      obtain ⟨b, sz3⟩ := alo1 w2 (duo (.bool nd) (.slice ad ld cd))
      rw [hV] at b sz3
      replace PA := hid (PA.out.step b)
      replace MA := hid (MA.out.now b)
      replace Zd := hid (Zd.out.now b)
      replace G := hid (below_step G.out b)
      clear b sz3
      have Dd : Hid (Duo V3 w2.heap.size (.bool nd) (.slice ad ld cd)) := by unfold Hid; rw [← hV]; exact Duo.new w2 _ _
      by_cases hn0 : n = 0
      · have hni : ((n : Int) == 0) = true := by subst hn0; rfl
        have Z1 : Hid (Zm 0 V3 (.agg #[.bool nd, .slice ad ld cd]) 1 (64 * 1048576 + 7)) := by
          have := Zd.out
          rw [show det n (en n xs) = 1 by subst hn0; rfl] at this
          exact this
        clear hn0
        have cA0 := PA.out.at (i := 0) rfl
        rw [← hV] at cA0
        have EV : Hid (w2.alloc (duo (.bool nd) (.slice ad ld cd)) = V3) := hV
        clear hV
        go_upto_region 9 with fail
        rw [EV.out]
        clear EV cA0
        have cd0 := Dd.out.c0
        have cd1 := Dd.out.c1
        have KB : Hid (∀ w', Below V3.heap.size V3 w' → w'.cell? ⟨w2.heap.size, 0, none⟩ = some (.bool nd) ∧ w'.cell? ⟨w2.heap.size, 1, none⟩ = some (.slice ad ld cd)) := fun w' h => ⟨cnow h cd0, cnow h cd1⟩
        refine wp_region_tail (fun w' => w'.cell? ⟨w2.heap.size, 0, none⟩ = some (.bool nd) ∧ w'.cell? ⟨w2.heap.size, 1, none⟩ = some (.slice ad ld cd)) 3 (by kernel_rfl) ?_
        obtain ⟨D61, hD⟩ : ∃ D61, V3.drew = D61 := ⟨_, rfl⟩
        have GB : Hid (Below V3.heap.size V3 D61) := by unfold Hid; rw [← hD]; exact (Below.refl _ _).drew
        rw [hD]
        clear hD
        refine wpAnyT_take (i := 0) (oi := { dst := some 39, op := Op.load 28 (Operand.tmp 5), type := 28, pos := "outright.go:29", after := #[], guard := none }) (v := (.agg #[.bool nd, .slice ad ld cd])) rfl (by kernel_rfl) (fun _ _ _ h => h) (Or.inl ⟨by rfl, ?_⟩) (KB.out _ GB.out) ?_
        · intro w hSw
          (try dsimp only at hSw)
          go_simp
        simp only [Act.put, List.setIfInBounds_toArray, List.set_cons_zero, List.set_cons_succ]
        refine wpAnyT_one (i := 1) (o := { dst := some 40, op := Op.call { callee := Callee.value (Operand.func 8), args := #[Operand.const (Value.int IntKind.i64 1)], argTypes := #[2] }, type := 28, pos := "outright.go:29", after := #[], guard := none }) (by kernel_rfl) rfl (fun K hK => ?_)
        go_simp
        go_at_call 8
        refine (of_z (n := 1) (by decide) (by decide) _).mono ?_
        rintro e w62 ⟨r1, rfl, m1, b⟩
        have lz62 := (show Below _ _ _ from b).size
        replace GB := hid (below_step GB.out b)
        have MO := hid (m1.mono (Nat.zero_le _))
        obtain ⟨nm, xm, am, cm, rfl⟩ := m1.parts
        clear m1
        clear b
        refine hK.out _ _ (fun _ => KB.out _ GB.out) ?_
        clear hK
        refine wpAnyT_one (i := 2) (o := { dst := some 41, op := Op.call { callee := Callee.value (Operand.func 7), args := #[Operand.tmp 39, Operand.tmp 40], argTypes := #[28, 28] }, type := 4, pos := "outright.go:29", after := #[{ on := 0, ground := Ground.data }, { on := 1, ground := Ground.data }, { on := 1, ground := Ground.chain }], guard := none }) (by kernel_rfl) rfl (fun K hK => ?_)
        go_simp
        go_at_call 7
        refine (like_yes (Z1.out.now GB.out).zc MO.out.zc rfl).mono ?_
        rintro e w63 ⟨rfl, b⟩
        have lz63 := (show Below _ _ _ from b).size
        replace GB := hid (below_step GB.out b)
        clear b
        refine hK.out _ _ (fun _ => KB.out _ GB.out) ?_
        clear hK
        refine wpAnyT_one (i := 3) (o := { dst := some 4, op := Op.assign (Operand.tmp 41), type := 4, pos := "outright.go:29", after := #[{ on := 2, ground := Ground.data }, { on := 2, ground := Ground.chain }, { on := 0, ground := Ground.phase }, { on := 1, ground := Ground.phase }, { on := 2, ground := Ground.phase }], guard := none }) (by kernel_rfl) rfl (fun K hK => ?_)
        go_simp
        refine hK.out _ _ (fun h => absurd h (by decide)) ?_
        clear hK
        try simp only [Act.put]
        refine wpAnyT_done (by kernel_rfl) ?_ _
        have FIN : Hid (Tru w (.returned (.bool true)) w63) := ⟨rfl, below_step G.out GB.out⟩
        clear GB KB
        go_wp2
        go_ret
        exact FIN.out
      obtain ⟨nn, hnn⟩ : ∃ nn, n = nn + 1 := ⟨n - 1, by omega⟩
      have HNN := hid hnn
      have hni : ((n : Int) == 0) = false := by simp; omega
      have hnz : ¬ (n : Int) = 0 := by omega
      clear hnn hn0
      have cA0 := PA.out.at (i := 0) rfl
      rw [← hV] at cA0
      have EV : Hid (w2.alloc (duo (.bool nd) (.slice ad ld cd)) = V3) := hV
      clear hV
      go_upto_region 10 with fail
      rw [EV.out]
      clear EV cA0
      go_cut [48] from 42 (fun s1 wx => s1 = .bool (decide (k < 0 ∨ (n : Int) ≤ k)) ∧ wx = V3)
      case first =>
        by_cases hk0 : k < 0
        · go_wp2_with fail
          go_meet
          exact ⟨congrArg Value.bool (decide_eq_true (p := k < 0 ∨ (n : Int) ≤ k) (.inl hk0)).symm, rfl⟩
        · by_cases hk1 : (n : Int) ≤ k
          · go_wp2_with fail
            go_meet
            exact ⟨congrArg Value.bool (decide_eq_true (p := k < 0 ∨ (n : Int) ≤ k) (.inr hk1)).symm, rfl⟩
          · go_wp2_with fail
            go_meet
            exact ⟨congrArg Value.bool (decide_eq_false (p := k < 0 ∨ (n : Int) ≤ k) (by omega)).symm, rfl⟩
      case rest =>
      obtain ⟨rfl, hwc⟩ := hcut
      rw [hwc]
      clear hwc wc
      go_upto_if 48 with fail
      go_cut [1] from 42 (fun s1 wx => (∃ row : Nat, s1 = .int .i64 (row : Int) ∧ row < n) ∧ wx = V3)
      case first =>
        by_cases hbad : k < 0 ∨ (n : Int) ≤ k
        · have hd : decide (k < 0 ∨ (n : Int) ≤ k) = true := decide_eq_true hbad
          rw [hd]
          go_wp2_with fail
          go_meet
          exact ⟨⟨0, rfl, by have := HNN.out; omega⟩, rfl⟩
        · have hd : decide (k < 0 ∨ (n : Int) ≤ k) = false := decide_eq_false hbad
          rw [hd]
          obtain ⟨kk, rfl⟩ : ∃ kk : Nat, k = (kk : Int) := ⟨k.toNat, by omega⟩
          go_wp2_with fail
          go_meet
          exact ⟨⟨kk, rfl, by omega⟩, rfl⟩
      case rest =>
      obtain ⟨⟨row, rfl, hrow⟩, hwc⟩ := hcut
      rw [hwc]
      clear hwc wc
      have HRN := hid hrow
      clear hrow
      go_wp2_with fail
      refine (of_z (n := 0) (by decide) (by decide) _).mono ?_
      rintro e w4 ⟨r0, rfl, m, b⟩
      replace PA := hid (PA.out.step b)
      replace MA := hid (MA.out.now b)
      replace Zd := hid (Zd.out.now b)
      replace Dd := hid (Dd.out.step b)
      replace G := hid (below_step G.out b)
      obtain ⟨nz, xz, az, cz, rfl⟩ := m.parts
      have Zz := hid (m.mono (Nat.zero_le _))
      clear m
      clear b
      have lzd := Dd.out.blk
      have lzg := G.out.size
      obtain ⟨V, hV⟩ : ∃ V, w4.alloc (duo (.bool nz) (.slice az xz.length cz)) = V := ⟨_, rfl⟩
      obtain ⟨b, sz⟩ := alo1 w4 (duo (.bool nz) (.slice az xz.length cz))
      rw [hV] at b sz
      have H0 : Hid (ExH w4 w4.heap.size n nn row xs (64 * 1048576 + 7) n (.int .i64 0) V) := ⟨0, nz, az, xz.length, cz, rfl, Nat.zero_le _, by omega, by rw [← hV]; exact Duo.new w4 _ _, (Zz.out.now b).more (by decide), b⟩
      have EV := hid hV
      clear hV b sz Zz
      obtain ⟨bs, hbs⟩ : ∃ bs, w4.heap.size = bs := ⟨_, rfl⟩
      have EBS := hid hbs
      rw [hbs] at H0
      clear hbs
      go_wp2_with fail
      rw [EV.out, EBS.out]
      clear EV
      go_loopg [11] n (fun gk s11 wx => ExH w4 bs n nn row xs (64 * 1048576 + 7) gk s11 wx)
      case atStart => exact H0.out
      case round =>
        clear H0
        obtain ⟨j, ns, as_, ls, cs, rfl, hjn, hgk, hds, hzs, hbw⟩ := hrel
        have DS := hid hds
        have ZS := hid hzs
        have BW := hid hbw
        have HG := hid hgk
        have PA1 := hid (PA.out.step hbw)
        have MA1 := hid (MA.out.now hbw)
        have Dd1 := hid (Dd.out.step hbw)
        have Zd1 := hid (Zd.out.now hbw)
        have GW := hid (below_step G.out hbw)
        clear hds hzs hbw hgk
        by_cases hlt : j < n
        · have hlt' : (j : Int) < (n : Int) := by omega
          have hjn2 : j ≤ nn := by have := HNN.out; omega
          have hwj := wrapI9 (i := j) (by omega)
          have HMM : Hid (n - (j + 1) < gk) := by unfold Hid; rw [HG.out]; omega
          clear HG
          obtain ⟨Wj, hWj⟩ : ∃ Wj, Wj = wr := ⟨_, rfl⟩
          subst hWj
          obtain ⟨PR, hPR⟩ : ∃ P : Nat → Bool, P = fun t => t != row := ⟨_, rfl⟩
          obtain ⟨PJ, hPJ⟩ : ∃ P : Nat → Bool, P = fun t => t != j := ⟨_, rfl⟩
          have HPR := hid hPR
          have HPJ := hid hPJ
          have HFL : Hid (∀ (P : Nat → Bool) t, ((List.range t).filter P).length ≤ t) := fun P t => by
            have := List.length_filter_le P (List.range t)
            simpa using this
          clear hPR hPJ
          have H1 : Hid (PlH Wj n PR PJ n (.slice none 0 0) (.slice none 0 0) (.int .i64 0) Wj) := ⟨0, rfl, Nat.zero_le _, rfl, r15_nil _⟩
          go_wp2_with fail
          go_loopg [12, 13, 14] n (fun gk s12 s13 s14 wx => PlH Wj n PR PJ gk s12 s13 s14 wx)
          case atStart => exact H1.out
          case round =>
            clear H1
            obtain ⟨t, rfl, htn, hgk, hr⟩ := hrel
            have RR := hid hr
            have HG := hid hgk
            clear hr hgk
            by_cases hlt2 : t < n
            · have hlt2' : (t : Int) < (n : Int) := by omega
              have hwt := wrapI9 (i := t) (by omega)
              have HM2 : Hid (n - (t + 1) < gk) := by unfold Hid; rw [HG.out]; omega
              clear HG
              by_cases hq1 : t ≠ row
              · by_cases hq2 : t ≠ j
                · skip
                  obtain ⟨ar, cr, hvr, -, -⟩ := RR.out.r.form
                  obtain ⟨ac, cc, hvc, -, -⟩ := RR.out.c.form
                  subst hvr hvc
                  have HL1 : Hid (((List.range t).filter PR).length ≤ 1000000) := by unfold Hid; have := HFL.out PR t; omega
                  have HL2 : Hid (((List.range t).filter PJ).length ≤ 1000000) := by unfold Hid; have := HFL.out PJ t; omega
                  have q1 : ((t : Int) != (row : Int)) = true := by simp; omega
                  have q1n : ¬ (t : Int) = (row : Int) := by omega
                  have HP1 : Hid (PR t = true) := by unfold Hid; rw [HPR.out]; simp [hq1]
                  have q2 : ((t : Int) != (j : Int)) = true := by simp; omega
                  have q2n : ¬ (t : Int) = (j : Int) := by omega
                  have HP2 : Hid (PJ t = true) := by unfold Hid; rw [HPJ.out]; simp [hq2]
                  clear hq1 hq2
                  obtain ⟨V101, hV101⟩ : ∃ V101, wr.alloc (.cells #[.int .i64 (t : Int)] 3) = V101 := ⟨_, rfl⟩
                  obtain ⟨bv101, szv101⟩ := alo1 wr (.cells #[.int .i64 (t : Int)] 3)
                  rw [hV101] at bv101 szv101
                  have CV101 : Hid (V101.cell? ⟨wr.heap.size, 0, none⟩ = some (.int .i64 (t : Int))) := by unfold Hid; rw [← hV101]; exact (Cel.new wr 3 [.int .i64 (t : Int)]).at (i := 0) rfl
                  have RV101 := hid (RR.out.now bv101)
                  have EV101 := hid hV101
                  clear bv101 szv101 hV101 RR
                  go_wp2_with (at_builtin; rw [EV101.out]; refine wpList_append_ivs V101 rfl (.tmp 63) (.tmp 65) rfl Wj.heap.size _ _ t rfl RV101.out.r wr.heap.size rfl CV101.out HL1.out RV101.out.b0.size ?_)
                  intro g101 cap101 w101 hI hg hb
                  have RW101 := hid (RV101.out.addR (Nat.le_refl _) hI.out hg.out hb.out)
                  clear hI hg hb RV101 CV101 EV101
                  obtain ⟨V102, hV102⟩ : ∃ V102, w101.alloc (.cells #[.int .i64 (t : Int)] 3) = V102 := ⟨_, rfl⟩
                  obtain ⟨bv102, szv102⟩ := alo1 w101 (.cells #[.int .i64 (t : Int)] 3)
                  rw [hV102] at bv102 szv102
                  have CV102 : Hid (V102.cell? ⟨w101.heap.size, 0, none⟩ = some (.int .i64 (t : Int))) := by unfold Hid; rw [← hV102]; exact (Cel.new w101 3 [.int .i64 (t : Int)]).at (i := 0) rfl
                  have RV102 := hid (RW101.out.now bv102)
                  have EV102 := hid hV102
                  clear bv102 szv102 hV102 RW101
                  go_wp2_with (at_builtin; rw [EV102.out]; refine wpList_append_ivs V102 rfl (.tmp 70) (.tmp 72) rfl Wj.heap.size _ _ t rfl RV102.out.c w101.heap.size rfl CV102.out HL2.out RV102.out.b0.size ?_)
                  intro g102 cap102 w102 hI hg hb
                  have RW102 := hid (RV102.out.addC (Nat.le_refl _) hI.out hg.out hb.out)
                  clear hI hg hb RV102 CV102 EV102
                  have HN1 : Hid (PlH Wj n PR PJ (n - (t + 1)) (.slice (some ⟨g101, 0, none⟩) (((List.range t).filter PR).length + 1) cap101) (.slice (some ⟨g102, 0, none⟩) (((List.range t).filter PJ).length + 1) cap102) (.int .i64 ((t + 1 : Nat) : Int)) w102) := ⟨t + 1, rfl, by omega, rfl, by
                    rw [← UpH.more HP1.out, ← UpH.more HP2.out]
                    exact RW102.out⟩
                  clear RW102
                  generalize ((List.range t).filter PR).length = fr at *
                  generalize ((List.range t).filter PJ).length = fc at *
                  go_wp2_with fail
                  go_roundg (n - (t + 1))
                  case rel => exact HN1.out
                  case measure => exact HM2.out
                · skip
                  obtain ⟨ar, cr, hvr, -, -⟩ := RR.out.r.form
                  obtain ⟨ac, cc, hvc, -, -⟩ := RR.out.c.form
                  subst hvr hvc
                  have HL1 : Hid (((List.range t).filter PR).length ≤ 1000000) := by unfold Hid; have := HFL.out PR t; omega
                  have HL2 : Hid (((List.range t).filter PJ).length ≤ 1000000) := by unfold Hid; have := HFL.out PJ t; omega
                  have q1 : ((t : Int) != (row : Int)) = true := by simp; omega
                  have q1n : ¬ (t : Int) = (row : Int) := by omega
                  have HP1 : Hid (PR t = true) := by unfold Hid; rw [HPR.out]; simp [hq1]
                  have q2 : ((t : Int) != (j : Int)) = false := by simp; omega
                  have HP2 : Hid (PJ t = false) := by unfold Hid; rw [HPJ.out, show t = j by omega]; simp
                  clear hq1 hq2
                  obtain ⟨V101, hV101⟩ : ∃ V101, wr.alloc (.cells #[.int .i64 (t : Int)] 3) = V101 := ⟨_, rfl⟩
                  obtain ⟨bv101, szv101⟩ := alo1 wr (.cells #[.int .i64 (t : Int)] 3)
                  rw [hV101] at bv101 szv101
                  have CV101 : Hid (V101.cell? ⟨wr.heap.size, 0, none⟩ = some (.int .i64 (t : Int))) := by unfold Hid; rw [← hV101]; exact (Cel.new wr 3 [.int .i64 (t : Int)]).at (i := 0) rfl
                  have RV101 := hid (RR.out.now bv101)
                  have EV101 := hid hV101
                  clear bv101 szv101 hV101 RR
                  go_wp2_with (at_builtin; rw [EV101.out]; refine wpList_append_ivs V101 rfl (.tmp 63) (.tmp 65) rfl Wj.heap.size _ _ t rfl RV101.out.r wr.heap.size rfl CV101.out HL1.out RV101.out.b0.size ?_)
                  intro g101 cap101 w101 hI hg hb
                  have RW101 := hid (RV101.out.addR (Nat.le_refl _) hI.out hg.out hb.out)
                  clear hI hg hb RV101 CV101 EV101
                  have HN1 : Hid (PlH Wj n PR PJ (n - (t + 1)) (.slice (some ⟨g101, 0, none⟩) (((List.range t).filter PR).length + 1) cap101) (.slice ac ((List.range t).filter PJ).length cc) (.int .i64 ((t + 1 : Nat) : Int)) w101) := ⟨t + 1, rfl, by omega, rfl, by
                    rw [← UpH.more HP1.out, ← UpH.skip HP2.out]
                    exact RW101.out⟩
                  clear RW101
                  generalize ((List.range t).filter PR).length = fr at *
                  generalize ((List.range t).filter PJ).length = fc at *
                  go_wp2_with fail
                  go_roundg (n - (t + 1))
                  case rel => exact HN1.out
                  case measure => exact HM2.out
              · by_cases hq2 : t ≠ j
                · skip
                  obtain ⟨ar, cr, hvr, -, -⟩ := RR.out.r.form
                  obtain ⟨ac, cc, hvc, -, -⟩ := RR.out.c.form
                  subst hvr hvc
                  have HL1 : Hid (((List.range t).filter PR).length ≤ 1000000) := by unfold Hid; have := HFL.out PR t; omega
                  have HL2 : Hid (((List.range t).filter PJ).length ≤ 1000000) := by unfold Hid; have := HFL.out PJ t; omega
                  have q1 : ((t : Int) != (row : Int)) = false := by simp; omega
                  have HP1 : Hid (PR t = false) := by unfold Hid; rw [HPR.out, show t = row by omega]; simp
                  have q2 : ((t : Int) != (j : Int)) = true := by simp; omega
                  have q2n : ¬ (t : Int) = (j : Int) := by omega
                  have HP2 : Hid (PJ t = true) := by unfold Hid; rw [HPJ.out]; simp [hq2]
                  clear hq1 hq2
                  obtain ⟨V102, hV102⟩ : ∃ V102, wr.alloc (.cells #[.int .i64 (t : Int)] 3) = V102 := ⟨_, rfl⟩
                  obtain ⟨bv102, szv102⟩ := alo1 wr (.cells #[.int .i64 (t : Int)] 3)
                  rw [hV102] at bv102 szv102
                  have CV102 : Hid (V102.cell? ⟨wr.heap.size, 0, none⟩ = some (.int .i64 (t : Int))) := by unfold Hid; rw [← hV102]; exact (Cel.new wr 3 [.int .i64 (t : Int)]).at (i := 0) rfl
                  have RV102 := hid (RR.out.now bv102)
                  have EV102 := hid hV102
                  clear bv102 szv102 hV102 RR
                  go_wp2_with (at_builtin; rw [EV102.out]; refine wpList_append_ivs V102 rfl (.tmp 70) (.tmp 72) rfl Wj.heap.size _ _ t rfl RV102.out.c wr.heap.size rfl CV102.out HL2.out RV102.out.b0.size ?_)
                  intro g102 cap102 w102 hI hg hb
                  have RW102 := hid (RV102.out.addC (Nat.le_refl _) hI.out hg.out hb.out)
                  clear hI hg hb RV102 CV102 EV102
                  have HN1 : Hid (PlH Wj n PR PJ (n - (t + 1)) (.slice ar ((List.range t).filter PR).length cr) (.slice (some ⟨g102, 0, none⟩) (((List.range t).filter PJ).length + 1) cap102) (.int .i64 ((t + 1 : Nat) : Int)) w102) := ⟨t + 1, rfl, by omega, rfl, by
                    rw [← UpH.skip HP1.out, ← UpH.more HP2.out]
                    exact RW102.out⟩
                  clear RW102
                  generalize ((List.range t).filter PR).length = fr at *
                  generalize ((List.range t).filter PJ).length = fc at *
                  go_wp2_with fail
                  go_roundg (n - (t + 1))
                  case rel => exact HN1.out
                  case measure => exact HM2.out
                · skip
                  obtain ⟨ar, cr, hvr, -, -⟩ := RR.out.r.form
                  obtain ⟨ac, cc, hvc, -, -⟩ := RR.out.c.form
                  subst hvr hvc
                  have HL1 : Hid (((List.range t).filter PR).length ≤ 1000000) := by unfold Hid; have := HFL.out PR t; omega
                  have HL2 : Hid (((List.range t).filter PJ).length ≤ 1000000) := by unfold Hid; have := HFL.out PJ t; omega
                  have q1 : ((t : Int) != (row : Int)) = false := by simp; omega
                  have HP1 : Hid (PR t = false) := by unfold Hid; rw [HPR.out, show t = row by omega]; simp
                  have q2 : ((t : Int) != (j : Int)) = false := by simp; omega
                  have HP2 : Hid (PJ t = false) := by unfold Hid; rw [HPJ.out, show t = j by omega]; simp
                  clear hq1 hq2
                  have HN1 : Hid (PlH Wj n PR PJ (n - (t + 1)) (.slice ar ((List.range t).filter PR).length cr) (.slice ac ((List.range t).filter PJ).length cc) (.int .i64 ((t + 1 : Nat) : Int)) wr) := ⟨t + 1, rfl, by omega, rfl, by
                    rw [← UpH.skip HP1.out, ← UpH.skip HP2.out]
                    exact RR.out⟩
                  clear RR
                  generalize ((List.range t).filter PR).length = fr at *
                  generalize ((List.range t).filter PJ).length = fc at *
                  go_wp2_with fail
                  go_roundg (n - (t + 1))
                  case rel => exact HN1.out
                  case measure => exact HM2.out
            · have hlt2' : ¬ (t : Int) < (n : Int) := by omega
              obtain rfl : t = n := by omega
              rw [HPR.out, HPJ.out] at RR
              clear HG
              have HW1 : Hid (((List.range t).filter fun x => x != row).length = nn) := by unfold Hid; rw [HNN.out]; exact without_len (by have := HNN.out; have := HRN.out; omega)
              have HW2 : Hid (((List.range t).filter fun x => x != j).length = nn) := by unfold Hid; rw [HNN.out]; exact without_len (by omega)
              obtain ⟨ar, cr, hvr, -, -⟩ := RR.out.r.form
              obtain ⟨ac, cc, hvc, -, -⟩ := RR.out.c.form
              rw [HW1.out] at hvr
              rw [HW2.out] at hvc
              subst hvr hvc
              have hnn64 : nn ≤ 64 := by have := HNN.out; omega
              have b := RR.out.b0
              have PA2 := hid (PA1.out.step b)
              have MA2 := hid (MA1.out.now b)
              have Dd2 := hid (Dd1.out.step b)
              have Zd2 := hid (Zd1.out.now b)
              have GW2 := hid (below_step GW.out b)
              have DS2 := hid (DS.out.step b)
              have ZS2 := hid (ZS.out.now b)
              have BW2 := hid (below_step BW.out b)
              have HLD := hid (minor_yes MA2.out (RR.out.r.in9 (by rw [HW1.out]; omega)) (RR.out.c.in9 (by rw [HW2.out]; omega)) (fun i hi => by
                  have := (List.mem_filter.1 hi).1
                  simpa using this) (fun i hi => by
                  have := (List.mem_filter.1 hi).1
                  simpa using this) HW1.out HW2.out hnn64 (by decide))
              have EPD : Hid (det nn (fun a b => en t xs (((List.range t).filter fun x => x != row).getD a 0) (((List.range t).filter fun x => x != j).getD b 0)) = det nn fun a b => en t xs (skd row a) (skd j b)) := by
                unfold Hid
                have hrn := HRN.out
                have e := HNN.out
                subst e
                exact places_det (by omega) (by omega)
              rw [EPD.out] at HLD
              obtain ⟨pd, hpd⟩ : ∃ pd, det nn (fun a b => en t xs (skd row a) (skd j b)) = pd := ⟨_, rfl⟩
              rw [hpd] at HLD
              have EPD2 := hid hpd
              clear b hpd EPD RR PA1 MA1 Dd1 Zd1 GW DS ZS BW HW1 HW2
              have cA0 := PA2.out.at (i := 0) rfl
              have cA1 := PA2.out.at (i := 1) rfl
              have cA2 := PA2.out.at (i := 2) rfl
              go_wp2_with fail
              clear cA0 cA1 cA2
              refine HLD.out.mono ?_
              rintro e w20 ⟨re, rfl, m, b⟩
              obtain ⟨ne, xe, ae, ce, rfl⟩ := m.parts
              obtain ⟨le, hle⟩ : ∃ le, xe.length = le := ⟨_, rfl⟩
              rw [hle] at m ⊢
              obtain ⟨V2, hV2⟩ : ∃ V2, w20.alloc (duo (.bool ne) (.slice ae le ce)) = V2 := ⟨_, rfl⟩
              obtain ⟨b2, sz2⟩ := alo1 w20 (duo (.bool ne) (.slice ae le ce))
              rw [hV2] at b2 sz2
              have DE : Hid (Duo V2 w20.heap.size (.bool ne) (.slice ae le ce)) := by unfold Hid; rw [← hV2]; exact Duo.new w20 _ _
              have ZE := hid ((m.mono (Nat.zero_le _)).now b2)
              have BV := hid (below_step b b2)
              have EV := hid hV2
              have PA3 := hid (PA2.out.step BV.out)
              have MA3 := hid (MA2.out.now BV.out)
              have Dd3 := hid (Dd2.out.step BV.out)
              have Zd3 := hid (Zd2.out.now BV.out)
              have GW3 := hid (below_step GW2.out BV.out)
              have DS3 := hid (DS2.out.step BV.out)
              have ZS3 := hid (ZS2.out.now BV.out)
              have BW3 := hid (below_step BW2.out BV.out)
              clear m b b2 sz2 hV2 HLD hle PA2 MA2 Dd2 Zd2 GW2 DS2 ZS2 BW2 BV
              have hpl : row * t + j < t * t := by
                have := HRN.out
                have h2 := Nat.mul_le_mul_right t (show row + 1 ≤ t from this)
                rw [Nat.succ_mul] at h2
                omega
              have hwm : IntKind.i64.wrap ((row : Int) * (t : Int)) = ((row * t : Nat) : Int) := by
                have h2 : row * t ≤ 64 * 64 := Nat.mul_le_mul (by have := HRN.out; omega) hn64
                have h3 : ((row * t : Nat) : Int) = (row : Int) * (t : Int) := by simp
                rw [← h3, wrap_is] <;> omega
              obtain ⟨rn, hrn⟩ : ∃ rn, row * t = rn := ⟨_, rfl⟩
              rw [hrn] at hwm hpl
              have hrn64 : rn ≤ 4096 := by
                have h2 : row * t ≤ 64 * 64 := Nat.mul_le_mul (by have := HRN.out; omega) hn64
                omega
              have hwp : IntKind.i64.wrap ((rn : Int) + (j : Int)) = ((rn + j : Nat) : Int) := by rw [wrap_is] <;> omega
              have ERN : Hid (row * t = rn) := hrn
              obtain ⟨pp, hpp⟩ : ∃ pp, rn + j = pp := ⟨_, rfl⟩
              rw [hpp] at hwp hpl
              obtain ⟨ba, off, nx, ax, lx, cx, haa, hpla, x0, x1, zx⟩ := MA3.out.ent13 hpl
              have ZX : Hid (Zi V2 (.agg #[.bool nx, .slice ax lx cx]) (en t xs row j) 1048576) := by
                unfold Hid en
                rw [ERN.out, hpp]
                exact zx
              have hpli : (pp : Int) < (la : Int) := by omega
              subst haa
              have i2 := PA3.out.at (i := 2) rfl
              have i5 := DE.out.c0
              have i6 := DE.out.c1
              have XS : Hid (su (j + 1) (exT (en t xs) nn row) = su j (exT (en t xs) nn row) + en t xs row j * (if (row + j) % 2 = 1 then -pd else pd)) := by
                unfold Hid
                show su j _ + exT (en t xs) nn row j = _
                unfold exT
                rw [EPD2.out, sgd_par]
                by_cases q : (row + j) % 2 = 1
                · rw [if_pos q, if_pos q]; grind
                · rw [if_neg q, if_neg q]; grind
              clear zx hpp hrn hpl MA3
              have hws : IntKind.i64.wrap ((row : Int) + (j : Int)) = ((row + j : Nat) : Int) := by rw [wrap_is] <;> (have := HRN.out; omega)
              go_upto_region 27 with fail
              rw [EV.out]
              clear EV
              go_cut [17] from 50 to 103 (fun s wx => ZBx V2 wx s (en t xs row j * pd) (1048576 + (64 * 1048576 + 7)))
              case first =>
                have KB : Hid (∀ w', Below V2.heap.size V2 w' → w'.cell? ⟨w.heap.size, 2, none⟩ = some (.slice (some ⟨ba, off, none⟩) la qa) ∧ w'.cell? ⟨ba, off + pp * 2, none⟩ = some (.bool nx) ∧ w'.cell? ⟨ba, off + pp * 2 + 1, none⟩ = some (.slice ax lx cx) ∧ w'.cell? ⟨w20.heap.size, 0, none⟩ = some (.bool ne) ∧ w'.cell? ⟨w20.heap.size, 1, none⟩ = some (.slice ae le ce)) := fun w' h => ⟨cnow h i2, cnow h x0, cnow h x1, cnow h i5, cnow h i6⟩
                refine wp_region_tail (fun w' => w'.cell? ⟨w.heap.size, 2, none⟩ = some (.slice (some ⟨ba, off, none⟩) la qa) ∧ w'.cell? ⟨ba, off + pp * 2, none⟩ = some (.bool nx) ∧ w'.cell? ⟨ba, off + pp * 2 + 1, none⟩ = some (.slice ax lx cx) ∧ w'.cell? ⟨w20.heap.size, 0, none⟩ = some (.bool ne) ∧ w'.cell? ⟨w20.heap.size, 1, none⟩ = some (.slice ae le ce)) 12 (by kernel_rfl) ?_
                obtain ⟨D81, hD⟩ : ∃ D81, V2.drew = D81 := ⟨_, rfl⟩
                have GB : Hid (Below V2.heap.size V2 D81) := by unfold Hid; rw [← hD]; exact (Below.refl _ _).drew
                rw [hD]
                clear hD
                have GZ : Hid (V2.heap.size ≤ D81.heap.size) := GB.out.size
                refine wpAnyT_take (i := 0) (oi := { dst := some 83, op := Op.fieldAddr 24 (Operand.tmp 2) 2, type := 0, pos := "outright.go:49", after := #[], guard := none }) (v := (.pointer (some ⟨w.heap.size, 2, none⟩))) rfl (by kernel_rfl) (fun _ _ _ h => h) (Or.inl ⟨by rfl, ?_⟩) (KB.out _ GB.out) ?_
                · intro w hSw
                  (try dsimp only at hSw)
                  go_simp
                simp only [Act.put, List.setIfInBounds_toArray, List.set_cons_zero, List.set_cons_succ]
                refine wpAnyT_take (i := 1) (oi := { dst := some 84, op := Op.load 22 (Operand.tmp 83), type := 22, pos := "outright.go:49", after := #[{ on := 0, ground := Ground.data }], guard := none }) (v := (.slice (some ⟨ba, off, none⟩) la qa)) rfl (by kernel_rfl) (fun _ _ _ h => h) (Or.inl ⟨by rfl, ?_⟩) (KB.out _ GB.out) ?_
                · intro w hSw
                  (try dsimp only at hSw)
                  go_simp
                simp only [Act.put, List.setIfInBounds_toArray, List.set_cons_zero, List.set_cons_succ]
                refine wpAnyT_take (i := 2) (oi := { dst := some 85, op := Op.move (Operand.tmp 1), type := 3, pos := "outright.go:49", after := #[], guard := none }) (v := (.int .i64 (row : Int))) rfl (by kernel_rfl) (fun _ _ _ h => h) (Or.inl ⟨by rfl, ?_⟩) (KB.out _ GB.out) ?_
                · intro w hSw
                  (try dsimp only at hSw)
                  go_simp
                simp only [Act.put, List.setIfInBounds_toArray, List.set_cons_zero, List.set_cons_succ]
                refine wpAnyT_take (i := 3) (oi := { dst := some 86, op := Op.move (Operand.tmp 9), type := 3, pos := "outright.go:49", after := #[], guard := none }) (v := (.int .i64 (t : Int))) rfl (by kernel_rfl) (fun _ _ _ h => h) (Or.inl ⟨by rfl, ?_⟩) (KB.out _ GB.out) ?_
                · intro w hSw
                  (try dsimp only at hSw)
                  go_simp
                simp only [Act.put, List.setIfInBounds_toArray, List.set_cons_zero, List.set_cons_succ]
                refine wpAnyT_take (i := 4) (oi := { dst := some 87, op := Op.binOp BinOp.mul 3 (Operand.tmp 85) (Operand.tmp 86) 3, type := 3, pos := "outright.go:49", after := #[{ on := 2, ground := Ground.data }, { on := 3, ground := Ground.data }], guard := none }) (v := (.int .i64 (rn : Int))) rfl (by kernel_rfl) (fun _ _ _ h => h) (Or.inl ⟨by rfl, ?_⟩) (KB.out _ GB.out) ?_
                · intro w hSw
                  (try dsimp only at hSw)
                  go_simp
                simp only [Act.put, List.setIfInBounds_toArray, List.set_cons_zero, List.set_cons_succ]
                refine wpAnyT_take (i := 5) (oi := { dst := some 88, op := Op.move (Operand.tmp 11), type := 3, pos := "outright.go:49", after := #[], guard := none }) (v := (.int .i64 (j : Int))) rfl (by kernel_rfl) (fun _ _ _ h => h) (Or.inl ⟨by rfl, ?_⟩) (KB.out _ GB.out) ?_
                · intro w hSw
                  (try dsimp only at hSw)
                  go_simp
                simp only [Act.put, List.setIfInBounds_toArray, List.set_cons_zero, List.set_cons_succ]
                refine wpAnyT_take (i := 6) (oi := { dst := some 89, op := Op.binOp BinOp.add 3 (Operand.tmp 87) (Operand.tmp 88) 3, type := 3, pos := "outright.go:49", after := #[{ on := 4, ground := Ground.data }, { on := 5, ground := Ground.data }], guard := none }) (v := (.int .i64 (pp : Int))) rfl (by kernel_rfl) (fun _ _ _ h => h) (Or.inl ⟨by rfl, ?_⟩) (KB.out _ GB.out) ?_
                · intro w hSw
                  (try dsimp only at hSw)
                  go_simp
                simp only [Act.put, List.setIfInBounds_toArray, List.set_cons_zero, List.set_cons_succ]
                refine wpAnyT_take (i := 7) (oi := { dst := some 90, op := Op.indexAddr 22 (Operand.tmp 84) (Operand.tmp 89), type := 0, pos := "outright.go:49", after := #[{ on := 1, ground := Ground.data }, { on := 6, ground := Ground.data }], guard := none }) (v := (.pointer (some ⟨ba, off + pp * 2, none⟩))) rfl (by kernel_rfl) (fun _ _ _ h => h) (Or.inl ⟨by rfl, ?_⟩) (KB.out _ GB.out) ?_
                · intro w hSw
                  (try dsimp only at hSw)
                  go_simp
                simp only [Act.put, List.setIfInBounds_toArray, List.set_cons_zero, List.set_cons_succ]
                refine wpAnyT_take (i := 8) (oi := { dst := some 91, op := Op.load 28 (Operand.tmp 90), type := 28, pos := "outright.go:49", after := #[{ on := 7, ground := Ground.data }], guard := none }) (v := (.agg #[.bool nx, .slice ax lx cx])) rfl (by kernel_rfl) (fun _ _ _ h => h) (Or.inl ⟨by rfl, ?_⟩) (KB.out _ GB.out) ?_
                · intro w hSw
                  (try dsimp only at hSw)
                  go_simp
                simp only [Act.put, List.setIfInBounds_toArray, List.set_cons_zero, List.set_cons_succ]
                refine wpAnyT_take (i := 9) (oi := { dst := some 92, op := Op.load 28 (Operand.tmp 15), type := 28, pos := "outright.go:49", after := #[], guard := none }) (v := (.agg #[.bool ne, .slice ae le ce])) rfl (by kernel_rfl) (fun _ _ _ h => h) (Or.inl ⟨by rfl, ?_⟩) (KB.out _ GB.out) ?_
                · intro w hSw
                  (try dsimp only at hSw)
                  go_simp
                simp only [Act.put, List.setIfInBounds_toArray, List.set_cons_zero, List.set_cons_succ]
                refine wpAnyT_two (i := 10) (j := 11) (oi := { dst := some 93, op := Op.call { callee := Callee.value (Operand.func 10), args := #[Operand.tmp 91, Operand.tmp 92], argTypes := #[28, 28] }, type := 28, pos := "outright.go:49", after := #[{ on := 8, ground := Ground.data }, { on := 9, ground := Ground.data }], guard := none }) (oj := { dst := some 17, op := Op.alloc 28, type := 0, pos := "outright.go:49", after := #[], guard := none }) (by kernel_rfl) rfl rfl (fun K hK => ?_) (fun K hK => ?_)
                · skip
                  replace GZ : Hid (V2.heap.size ≤ D81.heap.size) := GB.out.size
                  go_simp
                  go_at_call 10
                  refine (mul_z (ZX.out.now GB.out) (ZE.out.now GB.out).zi (by decide)).mono ?_
                  rintro e w82 ⟨r1, rfl, m1, b⟩
                  have lz82 := (show Below _ _ _ from b).size
                  replace GB := hid (below_step GB.out b)
                  have MM := hid (m1.mono (Nat.zero_le _))
                  obtain ⟨nm, xm, am, cm, rfl⟩ := m1.parts
                  obtain ⟨lm, hlm⟩ : ∃ lm, xm.length = lm := ⟨_, rfl⟩
                  rw [hlm] at MM ⊢
                  clear m1 hlm
                  clear b
                  refine hK.out _ _ (fun _ => KB.out _ GB.out) ?_
                  clear hK
                  refine wpAnyT_one (i := 11) (o := { dst := some 17, op := Op.alloc 28, type := 0, pos := "outright.go:49", after := #[], guard := none }) (by kernel_rfl) rfl (fun K hK => ?_)
                  replace GZ : Hid (V2.heap.size ≤ w82.heap.size) := GB.out.size
                  go_simp
                  obtain ⟨V83, hW⟩ : ∃ V83, w82.alloc zbox = V83 := ⟨_, rfl⟩
                  obtain ⟨b, sz83⟩ := alo1 w82 zbox
                  rw [hW] at b sz83
                  replace GB := hid (below_step GB.out b)
                  have DB : Hid (Duo V83 w82.heap.size (.bool false) (.slice none 0 0)) := by unfold Hid; rw [← hW]; exact Duo.new w82 _ _
                  clear sz83
                  have SB := hid (show V2.heap.size ≤ w82.heap.size from GZ.out)
                  replace MM := hid (MM.out.now b)
                  rw [hW]
                  clear hW b
                  refine hK.out _ _ (fun _ => KB.out _ GB.out) ?_
                  clear hK
                  try simp only [Act.put]
                  refine wpAnyT_one (i := 12) (o := { dst := none, op := Op.store 28 (Operand.tmp 17) (Operand.tmp 93), type := 0, pos := "outright.go:49", after := #[{ on := 11, ground := Ground.data }, { on := 10, ground := Ground.data }, { on := 10, ground := Ground.chain }, { on := 0, ground := Ground.phase }, { on := 1, ground := Ground.phase }, { on := 2, ground := Ground.phase }, { on := 3, ground := Ground.phase }, { on := 4, ground := Ground.phase }, { on := 5, ground := Ground.phase }, { on := 6, ground := Ground.phase }, { on := 7, ground := Ground.phase }, { on := 8, ground := Ground.phase }, { on := 9, ground := Ground.phase }, { on := 10, ground := Ground.phase }, { on := 11, ground := Ground.phase }], guard := none }) (by kernel_rfl) rfl (fun K hK => ?_)
                  have e0 := DB.out.c0
                  have e1 := DB.out.c1
                  have e2 := DB.out.fz 0
                  have e3 := DB.out.fz 1
                  go_simp
                  clear e0 e1 e2 e3
                  obtain ⟨V84, hW⟩ : ∃ V84, ((V83.setCell ⟨w82.heap.size, 0, none⟩ (.bool nm)).setCell ⟨w82.heap.size, 1, none⟩ (.slice am lm cm)) = V84 := ⟨_, rfl⟩
                  have FP : Hid (ZBx V2 V84 (.pointer (some ⟨w82.heap.size, 0, none⟩)) (en t xs row j * pd) (1048576 + (64 * 1048576 + 7))) := by
                    unfold Hid; rw [← hW]
                    exact ⟨_, _, _, _, _, rfl, SB.out, bset (bset GB.out SB.out) SB.out, DB.out.set _ _, MM.out.ty (DB.out.ty13 _ _) (by decide)⟩
                  replace GB : Hid (Below V2.heap.size V2 V84) := by unfold Hid; rw [← hW]; exact bset (bset GB.out SB.out) SB.out
                  rw [hW]
                  clear hW
                  refine hK.out _ _ (fun h => absurd h (by decide)) ?_
                  clear hK
                  try simp only [Act.put]
                  refine wpAnyT_done (by kernel_rfl) ?_ _
                  clear DB SB MM GB GZ
                  go_wp2_with fail
                  go_meet
                  exact FP.out
                · skip
                  replace GZ : Hid (V2.heap.size ≤ D81.heap.size) := GB.out.size
                  go_simp
                  obtain ⟨V85, hW⟩ : ∃ V85, D81.alloc zbox = V85 := ⟨_, rfl⟩
                  obtain ⟨b, sz85⟩ := alo1 D81 zbox
                  rw [hW] at b sz85
                  replace GB := hid (below_step GB.out b)
                  have DB : Hid (Duo V85 D81.heap.size (.bool false) (.slice none 0 0)) := by unfold Hid; rw [← hW]; exact Duo.new D81 _ _
                  clear sz85
                  have SB := hid (show V2.heap.size ≤ D81.heap.size from GZ.out)
                  rw [hW]
                  clear hW b
                  refine hK.out _ _ (fun _ => KB.out _ GB.out) ?_
                  clear hK
                  try simp only [Act.put]
                  refine wpAnyT_one (i := 10) (o := { dst := some 93, op := Op.call { callee := Callee.value (Operand.func 10), args := #[Operand.tmp 91, Operand.tmp 92], argTypes := #[28, 28] }, type := 28, pos := "outright.go:49", after := #[{ on := 8, ground := Ground.data }, { on := 9, ground := Ground.data }], guard := none }) (by kernel_rfl) rfl (fun K hK => ?_)
                  replace GZ : Hid (V2.heap.size ≤ V85.heap.size) := GB.out.size
                  go_simp
                  go_at_call 10
                  refine (mul_z (ZX.out.now GB.out) (ZE.out.now GB.out).zi (by decide)).mono ?_
                  rintro e w86 ⟨r1, rfl, m1, b⟩
                  have lz86 := (show Below _ _ _ from b).size
                  replace GB := hid (below_step GB.out b)
                  have MM := hid (m1.mono (Nat.zero_le _))
                  obtain ⟨nm, xm, am, cm, rfl⟩ := m1.parts
                  obtain ⟨lm, hlm⟩ : ∃ lm, xm.length = lm := ⟨_, rfl⟩
                  rw [hlm] at MM ⊢
                  clear m1 hlm
                  replace DB := hid (DB.out.step b)
                  clear b
                  refine hK.out _ _ (fun _ => KB.out _ GB.out) ?_
                  clear hK
                  refine wpAnyT_one (i := 12) (o := { dst := none, op := Op.store 28 (Operand.tmp 17) (Operand.tmp 93), type := 0, pos := "outright.go:49", after := #[{ on := 11, ground := Ground.data }, { on := 10, ground := Ground.data }, { on := 10, ground := Ground.chain }, { on := 0, ground := Ground.phase }, { on := 1, ground := Ground.phase }, { on := 2, ground := Ground.phase }, { on := 3, ground := Ground.phase }, { on := 4, ground := Ground.phase }, { on := 5, ground := Ground.phase }, { on := 6, ground := Ground.phase }, { on := 7, ground := Ground.phase }, { on := 8, ground := Ground.phase }, { on := 9, ground := Ground.phase }, { on := 10, ground := Ground.phase }, { on := 11, ground := Ground.phase }], guard := none }) (by kernel_rfl) rfl (fun K hK => ?_)
                  have e0 := DB.out.c0
                  have e1 := DB.out.c1
                  have e2 := DB.out.fz 0
                  have e3 := DB.out.fz 1
                  go_simp
                  clear e0 e1 e2 e3
                  obtain ⟨V87, hW⟩ : ∃ V87, ((w86.setCell ⟨D81.heap.size, 0, none⟩ (.bool nm)).setCell ⟨D81.heap.size, 1, none⟩ (.slice am lm cm)) = V87 := ⟨_, rfl⟩
                  have FP : Hid (ZBx V2 V87 (.pointer (some ⟨D81.heap.size, 0, none⟩)) (en t xs row j * pd) (1048576 + (64 * 1048576 + 7))) := by
                    unfold Hid; rw [← hW]
                    exact ⟨_, _, _, _, _, rfl, SB.out, bset (bset GB.out SB.out) SB.out, DB.out.set _ _, MM.out.ty (DB.out.ty13 _ _) (by decide)⟩
                  replace GB : Hid (Below V2.heap.size V2 V87) := by unfold Hid; rw [← hW]; exact bset (bset GB.out SB.out) SB.out
                  rw [hW]
                  clear hW
                  refine hK.out _ _ (fun h => absurd h (by decide)) ?_
                  clear hK
                  try simp only [Act.put]
                  refine wpAnyT_done (by kernel_rfl) ?_ _
                  clear DB SB MM GB GZ
                  go_wp2_with fail
                  go_meet
                  exact FP.out
              case rest =>
              rename World => Wc
              obtain ⟨bk, nk, ak, lk, ck, rfl, hbk, b, dk, zk⟩ := hcut
              have DK := hid dk
              have ZK := hid zk
              have PA4 := hid (PA3.out.step b)
              have GW4 := hid (below_step GW3.out b)
              have DS4 := hid (DS3.out.step b)
              have ZS4 := hid (ZS3.out.now b)
              have BW4 := hid (below_step BW3.out b)
              have lzbs := DS3.out.blk
              have HNE : Hid (bk ≠ bs) := by
                unfold Hid
                have h1 := DS3.out.blk
                intro e
                subst e
                omega
              clear b dk zk i2 i5 i6 x0 x1 hwm hwp PA3 GW3 DS3 ZS3 BW3 ZX ZE DE
              have EXT : Hid (∀ z : Int, z = en t xs row j * (if (row + j) % 2 = 1 then -pd else pd) → su j (exT (en t xs) nn row) + z = su (j + 1) (exT (en t xs) nn row)) := by
                intro z hz
                rw [XS.out, hz]
              clear XS
              have HFT : Hid (((su (j + 1) (exT (en t xs) nn row)).natAbs : Int) < pw (64 * 1048576 + 7)) := exT_fit HZA.out (by have := HNN.out; omega) (by omega)
              by_cases hodd : (row + j) % 2 = 1
              · have HOD := hid hodd
                have hm1 : ((row + j : Nat) : Int) % 2 = 1 := by omega
                have hm2 : ((row + j : Nat) : Int).tmod 2 = 1 := by rw [Int.tmod_eq_emod_of_nonneg (by omega)]; exact hm1
                have HNG := hid (neg_z ZK.out.zi)
                have y0 := DK.out.c0
                have y1 := DK.out.c1
                clear hodd
                generalize hrj : (row + j : Nat) = rj at hws hm1 hm2
                have HRJ := hid hrj
                clear hrj
                go_wp2_with fail
                clear y0 y1 hm1 hm2 hws
                refine HNG.out.mono ?_
                rintro e w30 ⟨rf, rfl, m, b⟩
                obtain ⟨nf, xf, af, cf, rfl⟩ := m.parts
                obtain ⟨lf, hlf⟩ : ∃ lf, xf.length = lf := ⟨_, rfl⟩
                rw [hlf] at m ⊢
                have DK3 := hid (DK.out.step b)
                have y0 := DK3.out.c0
                have y1 := DK3.out.c1
                have f0 := DK3.out.fz 0
                have f1 := DK3.out.fz 1
                obtain ⟨V3, hV3⟩ : ∃ V3, (w30.setCell ⟨bk, 0, none⟩ (.bool nf)).setCell ⟨bk, 1, none⟩ (.slice af lf cf) = V3 := ⟨_, rfl⟩
                have ty3 := DK3.out.ty13 (.bool nf) (.slice af lf cf)
                rw [hV3] at ty3
                have DF : Hid (Duo V3 bk (.bool nf) (.slice af lf cf)) := by unfold Hid; rw [← hV3]; exact DK3.out.set _ _
                have ZF := hid ((m.mono (Nat.zero_le _)).ty ty3 (by decide))
                have DS5 : Hid (Duo V3 bs (.bool ns) (.slice as_ ls cs)) := by unfold Hid; rw [← hV3]; exact ((DS4.out.step b).ne HNE.out).ne HNE.out
                have ZS5 := hid ((ZS4.out.now b).ty ty3 (by decide))
                have BW5 : Hid (Below w4.heap.size w4 V3) := by unfold Hid; rw [← hV3]; exact bset (bset (below_step BW4.out b) (by have := hbk; have := EBS.out; omega)) (by have := hbk; have := EBS.out; omega)
                have HEZ : Hid (-(en t xs row j * pd) = en t xs row j * (if (row + j) % 2 = 1 then -pd else pd)) := by unfold Hid; rw [if_pos HOD.out]; grind
                have i5 := DF.out.c0
                have i6 := DF.out.c1
                have EV := hid hV3
                rw [← hV3] at i5 i6
                clear hV3 ty3 m b HNG DK3 DK
                have i0 := DS5.out.c0
                have i1 := DS5.out.c1
                rw [← EV.out] at i0 i1
                have HAD := hid (add_z ZS5.out.zi ZF.out.zi (by decide) (by decide))
                go_wp2_with fail
                rw [EV.out]
                clear EV
                refine HAD.out.mono ?_
                rintro e w40 ⟨rs_, rfl, m, b⟩
                have m2 := m.mono (Nat.zero_le _)
                rw [EXT.out _ HEZ.out] at m2
                have MS := hid (m2.fit HFT.out)
                obtain ⟨nm, xm, am, cm, rfl⟩ := m.parts
                obtain ⟨lm, hlm⟩ : ∃ lm, xm.length = lm := ⟨_, rfl⟩
                rw [hlm] at MS ⊢
                have DS6 := hid (DS5.out.step b)
                have BW6 := hid (below_step BW5.out b)
                have e0 := DS6.out.c0
                have e1 := DS6.out.c1
                have e2 := DS6.out.fz 0
                have e3 := DS6.out.fz 1
                obtain ⟨V6, hV6⟩ : ∃ V6, (w40.setCell ⟨bs, 0, none⟩ (.bool nm)).setCell ⟨bs, 1, none⟩ (.slice am lm cm) = V6 := ⟨_, rfl⟩
                have HN1 : Hid (ExH w4 bs t nn row xs (64 * 1048576 + 7) (t - (j + 1)) (.int .i64 ((j + 1 : Nat) : Int)) V6) := by
                  unfold Hid
                  rw [← hV6]
                  exact ⟨j + 1, _, _, _, _, rfl, by omega, rfl, DS6.out.set _ _, MS.out.ty (DS6.out.ty13 _ _) (by decide), bset (bset BW6.out (by have := EBS.out; omega)) (by have := EBS.out; omega)⟩
                have EV := hid hV6
                clear HAD m m2 b hV6 hlm MS DS5 ZS5 BW5 i0 i1
                go_wp2_with fail
                rw [EV.out]
                clear EV
                go_roundg (t - (j + 1))
                case rel => exact HN1.out
                case measure => exact HMM.out
              · have HOD := hid hodd
                have hm1 : ((row + j : Nat) : Int) % 2 = 0 := by omega
                have hm2 : ((row + j : Nat) : Int).tmod 2 = 0 := by rw [Int.tmod_eq_emod_of_nonneg (by omega)]; exact hm1
                have HEZ : Hid (en t xs row j * pd = en t xs row j * (if (row + j) % 2 = 1 then -pd else pd)) := by unfold Hid; rw [if_neg HOD.out]
                have i5 := DK.out.c0
                have i6 := DK.out.c1
                have DS5 := DS4
                have ZS5 := ZS4
                have BW5 := BW4
                clear hodd
                generalize hrj : (row + j : Nat) = rj at hws hm1 hm2
                have HRJ := hid hrj
                clear hrj
                have i0 := DS5.out.c0
                have i1 := DS5.out.c1
                have HAD := hid (add_z ZS5.out.zi ZK.out.zi (by decide) (by decide))
                go_wp2_with fail
                refine HAD.out.mono ?_
                rintro e w40 ⟨rs_, rfl, m, b⟩
                have m2 := m.mono (Nat.zero_le _)
                rw [EXT.out _ HEZ.out] at m2
                have MS := hid (m2.fit HFT.out)
                obtain ⟨nm, xm, am, cm, rfl⟩ := m.parts
                obtain ⟨lm, hlm⟩ : ∃ lm, xm.length = lm := ⟨_, rfl⟩
                rw [hlm] at MS ⊢
                have DS6 := hid (DS5.out.step b)
                have BW6 := hid (below_step BW5.out b)
                have e0 := DS6.out.c0
                have e1 := DS6.out.c1
                have e2 := DS6.out.fz 0
                have e3 := DS6.out.fz 1
                obtain ⟨V6, hV6⟩ : ∃ V6, (w40.setCell ⟨bs, 0, none⟩ (.bool nm)).setCell ⟨bs, 1, none⟩ (.slice am lm cm) = V6 := ⟨_, rfl⟩
                have HN1 : Hid (ExH w4 bs t nn row xs (64 * 1048576 + 7) (t - (j + 1)) (.int .i64 ((j + 1 : Nat) : Int)) V6) := by
                  unfold Hid
                  rw [← hV6]
                  exact ⟨j + 1, _, _, _, _, rfl, by omega, rfl, DS6.out.set _ _, MS.out.ty (DS6.out.ty13 _ _) (by decide), bset (bset BW6.out (by have := EBS.out; omega)) (by have := EBS.out; omega)⟩
                have EV := hid hV6
                clear HAD m m2 b hV6 hlm MS DS5 ZS5 BW5 i0 i1
                go_wp2_with fail
                rw [EV.out]
                clear EV
                go_roundg (t - (j + 1))
                case rel => exact HN1.out
                case measure => exact HMM.out
        · have hlt' : ¬ (j : Int) < (n : Int) := by omega
          obtain rfl : j = n := by omega
          have ES : Hid (su j (exT (en j xs) nn row) = det j (en j xs)) := by
            unfold Hid
            have hrn := HRN.out
            have e := HNN.out
            subst e
            exact (det_any nn row (en (nn + 1) xs) (by omega)).symm
          rw [ES.out] at ZS
          have HCM := hid (like_yes ZS.out.zc Zd1.out.zc rfl)
          have i0 := DS.out.c0
          have i1 := DS.out.c1
          have i2 := Dd1.out.c0
          have i3 := Dd1.out.c1
          go_wp2_with fail
          refine HCM.out.mono ?_
          rintro e w40 ⟨rfl, b⟩
          have FIN : Hid (Tru w (.returned (.bool true)) w40) := ⟨rfl, below_step GW.out b⟩
          clear HCM b
          go_wp2
          go_ret
          exact FIN.out
    · have hrc2 := hid hrc
      have cA0 := PA.out.at (i := 0) rfl
      have cA1 := PA.out.at (i := 1) rfl
      have cA2 := PA.out.at (i := 2) rfl
      go_wp2_with fail
      clear cA0 cA1 cA2
      refine (det_fit MA.out hrc).mono ?_
      rintro e w5 ⟨r0, rfl, m, b⟩
      replace PA := hid (PA.out.step b)
      replace RA := hid (RA.out.now b)
      replace MA := hid (MA.out.now b)
      replace G := hid (below_step G.out b)
      obtain ⟨nd, xd, ad, cd, rfl⟩ := m.parts
      obtain ⟨ld, hld⟩ : ∃ ld, xd.length = ld := ⟨_, rfl⟩
      rw [hld]
      clear m hld
      clear b
      obtain ⟨V6, hV⟩ : ∃ V6, w5.alloc (duo (.bool nd) (.slice ad ld cd)) = V6 := ⟨_, rfl⟩
      obtain ⟨b, sz6⟩ := alo1 w5 (duo (.bool nd) (.slice ad ld cd))
      rw [hV] at b sz6
      replace PA := hid (PA.out.step b)
      replace RA := hid (RA.out.now b)
      replace MA := hid (MA.out.now b)
      replace G := hid (below_step G.out b)
      clear b sz6
      have Dd : Hid (Duo V6 w5.heap.size (.bool nd) (.slice ad ld cd)) := by unfold Hid; rw [← hV]; exact Duo.new w5 _ _
      have cA0 := PA.out.at (i := 0) rfl
      have cA1 := PA.out.at (i := 1) rfl
      have cA2 := PA.out.at (i := 2) rfl
      rw [← hV] at cA0 cA1 cA2
      have EV : Hid (w5.alloc (duo (.bool nd) (.slice ad ld cd)) = V6) := hV
      clear hV
      go_wp2_with fail
      rw [EV.out]
      clear EV
      clear cA0 cA1 cA2
      refine (adj_fit MA.out hrc).mono ?_
      rintro e w7 ⟨rfl, b⟩
      replace PA := hid (PA.out.step b)
      replace RA := hid (RA.out.now b)
      replace MA := hid (MA.out.now b)
      replace Dd := hid (Dd.out.step b)
      replace G := hid (below_step G.out b)
      clear b
      obtain ⟨V8, hV⟩ : ∃ V8, w7.alloc mbox = V8 := ⟨_, rfl⟩
      obtain ⟨b, sz8⟩ := alo1 w7 mbox
      rw [hV] at b sz8
      replace PA := hid (PA.out.step b)
      replace RA := hid (RA.out.now b)
      replace MA := hid (MA.out.now b)
      replace Dd := hid (Dd.out.step b)
      replace G := hid (below_step G.out b)
      clear b sz8
      have EV : Hid (w7.alloc mbox = V8) := hV
      clear hV
      go_wp2
      go_ret
      rw [EV.out]
      exact ⟨rfl, G.out⟩
  · have hsa2 := hid hsa
    have cA0 := PA.out.at (i := 0) rfl
    have cA1 := PA.out.at (i := 1) rfl
    have cA2 := PA.out.at (i := 2) rfl
    go_wp2_with fail
    clear cA0 cA1 cA2
    refine (det_un hsa).mono ?_
    rintro e w9 ⟨r0, rfl, m, b⟩
    replace PA := hid (PA.out.step b)
    replace RA := hid (RA.out.now b)
    replace G := hid (below_step G.out b)
    obtain ⟨nd, xd, ad, cd, rfl⟩ := m.parts
    obtain ⟨ld, hld⟩ : ∃ ld, xd.length = ld := ⟨_, rfl⟩
    rw [hld]
    clear m hld
    clear b
    obtain ⟨V10, hV⟩ : ∃ V10, w9.alloc (duo (.bool nd) (.slice ad ld cd)) = V10 := ⟨_, rfl⟩
    obtain ⟨b, sz10⟩ := alo1 w9 (duo (.bool nd) (.slice ad ld cd))
    rw [hV] at b sz10
    replace PA := hid (PA.out.step b)
    replace RA := hid (RA.out.now b)
    replace G := hid (below_step G.out b)
    clear b sz10
    have Dd : Hid (Duo V10 w9.heap.size (.bool nd) (.slice ad ld cd)) := by unfold Hid; rw [← hV]; exact Duo.new w9 _ _
    have cA0 := PA.out.at (i := 0) rfl
    have cA1 := PA.out.at (i := 1) rfl
    have cA2 := PA.out.at (i := 2) rfl
    rw [← hV] at cA0 cA1 cA2
    have EV : Hid (w9.alloc (duo (.bool nd) (.slice ad ld cd)) = V10) := hV
    clear hV
    go_wp2_with fail
    rw [EV.out]
    clear EV
    clear cA0 cA1 cA2
    refine (adj_un hsa).mono ?_
    rintro e w11 ⟨rfl, b⟩
    replace PA := hid (PA.out.step b)
    replace RA := hid (RA.out.now b)
    replace Dd := hid (Dd.out.step b)
    replace G := hid (below_step G.out b)
    clear b
    obtain ⟨V12, hV⟩ : ∃ V12, w11.alloc mbox = V12 := ⟨_, rfl⟩
    obtain ⟨b, sz12⟩ := alo1 w11 mbox
    rw [hV] at b sz12
    replace PA := hid (PA.out.step b)
    replace RA := hid (RA.out.now b)
    replace Dd := hid (Dd.out.step b)
    replace G := hid (below_step G.out b)
    clear b sz12
    have EV : Hid (w11.alloc mbox = V12) := hV
    clear hV
    go_wp2
    go_ret
    rw [EV.out]
    exact ⟨rfl, G.out⟩
end Go.Proofs.Ytakkmpkkoecnhaa
