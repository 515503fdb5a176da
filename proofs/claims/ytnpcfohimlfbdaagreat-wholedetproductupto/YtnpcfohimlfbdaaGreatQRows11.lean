/-
 Rows11: Rows.
-/
import Derived.Test.YtnpcfohimlfbdaaGreatQCk11
set_option maxRecDepth 100000
set_option maxHeartbeats 6400000
set_option linter.unusedVariables false
set_option linter.unusedSimpArgs false
namespace Go.Proofs.YtnpcfohimlfbdaaGreat
open Go.RowKit

def sts (rs : List Rs) : List St := rs.map Rs.st
theorem sts_take {rs : List Rs} {i : Nat} {s : Rs} (hs : rs[i]? = some s) : sts (rs.take (i + 1)) = sts (rs.take i) ++ [s.st] := by
 obtain ⟨q1, q2⟩ := List.getElem?_eq_some_iff.1 hs
 rw [List.take_succ_eq_append_getElem q1, q2]
 simp [sts]
/-- Within Rows' loop: W1 the world ahead of the sheet, V the one behind its box. -/
def RwH (W1 V : World) (lv : Value) (c : Nat) (rs : List Rs) (m : List (List Int)) (k l : Nat) (gk : Nat) (s : Value) (wx : World) : Prop :=
 ∃ (i : Nat) (gs : List Nat), s = .int .i64 (i : Int) ∧ i ≤ rs.length ∧ gk = rs.length - i ∧ Sht W1.heap.size wx lv c gs (runs (sts (rs.take i)) m) (k + i * (l + 1)) ∧ Below W1.heap.size W1 wx ∧ Kw V wx
/-- What Rows answers. -/
def Rowsed (w : World) (r c : Nat) (rs : List Rs) (zs : List Int) (k : Nat) (e : Ending) (w' : World) : Prop :=
 ((∀ s ∈ rs, s.fit r) ∧ GivesMO w r c (rowsT (sts rs) r c zs) k e w') ∨ (¬ (∀ s ∈ rs, s.fit r) ∧ GivesME w 3 e w')
theorem Sht.okay {B c k : Nat} {w : World} {lv : Value} {gs : List Nat} {m m' : List (List Int)} {k' : Nat} (h : Sht B w lv c gs m k) (e : m = m') (hk : k ≤ k') : Sht B w lv c gs m' k' := by subst e; exact h.more hk
theorem rows_yes {w : World} {v sv : Value} {r c k l : Nat} {zs : List Int} {rs : List Rs} (h : Mx w v r c zs k) (hs : Raws w sv rs l) (hk : k + rs.length * (l + 1) < 35184372088832) :
  Calls Tryz.prog 12 #[v, sv] w (Rowsed w r c rs zs (k + rs.length * (l + 1))) := by
 have M0 := hid h
 obtain ⟨aa, ca, rfl, hr, hc⟩ := h.form
 have HZL : Hid (zs.length = r * c) := by obtain ⟨_, _, _, _, _, h, _⟩ := h; exact h
 obtain ⟨la, hla⟩ : ∃ la, r * c = la := ⟨_, rfl⟩
 rw [hla] at M0 ⊢
 obtain ⟨W0, hW⟩ : ∃ W0, (w.alloc (matO r c (.slice aa la ca))).alloc mbox = W0 := ⟨_, rfl⟩
 obtain ⟨b0, sz0⟩ := alloc2 w (matO r c (.slice aa la ca)) mbox
 rw [hW] at b0 sz0
 obtain ⟨pa, pr⟩ := two_boxes (o1 := matc r c (.slice aa la ca)) hW
 have HCK := hid (check_yes (M0.out.now b0))
 have x0 := pa.at (i := 0) rfl
 have x1 := pa.at (i := 1) rfl
 have x2 := pa.at (i := 2) rfl
 rw [← hW] at x0 x1 x2
 have PA := hid pa
 have PR := hid pr
 have G0 := hid b0
 have EW := hid hW
 have SZ := hid sz0
 replace M0 := hid (M0.out.now b0)
 have RS := hid (hs.now b0)
 obtain ⟨asv, csv, rfl, hsl, -⟩ := hs.form
 have HK := hid hk
 obtain ⟨L, hL⟩ : ∃ L, rs.length = L := ⟨_, rfl⟩
 have HL := hid hL
 rw [hL] at RS HK hsl ⊢
 clear h hs hla b0 sz0 hW pa pr hk hL
 go_enter Tryz.func12, Tryz.ntmps12
 go_wp2_with fail
 rw [EW.out]
 refine HCK.out.mono ?_
 rintro e w1 ⟨rfl, b⟩
 have HIN := hid (inner_any (RS.out.now b) hr)
 replace PA := hid (PA.out.step b)
 replace PR := hid (PR.out.step b)
 replace G0 := hid (below_step G0.out b)
 replace M0 := hid (M0.out.now b)
 replace SZ := hid (show w.heap.size + 1 < w1.heap.size by have := SZ.out; have := b.size; omega)
 have z0 := PA.out.at (i := 0) rfl
 clear HCK b x0 x1 x2 EW RS
 go_wp2_with fail
 refine HIN.out.mono ?_
 rintro e w2 ⟨ho, b⟩
 replace PA := hid (PA.out.step b)
 replace PR := hid (PR.out.step b)
 replace G0 := hid (below_step G0.out b)
 replace M0 := hid (M0.out.now b)
 replace SZ := hid (Nat.lt_of_lt_of_le SZ.out b.size)
 clear HIN b z0
 rcases ho with ⟨hfit, lst, rfl, hst⟩ | ⟨hnf, rfl⟩
 ·have HF := hid hfit
  obtain ⟨al, cl, rfl, hal⟩ := hst.form
  have AL := hid hal
  have ST := hid hst
  rw [HL.out] at ST ⊢
  have HSO := hid (sheetOf_any M0.out)
  have y0 := PA.out.at (i := 0) rfl
  have y1 := PA.out.at (i := 1) rfl
  have y2 := PA.out.at (i := 2) rfl
  clear hfit hst hal
  go_wp2_with fail
  refine HSO.out.mono ?_
  rintro e w3 ⟨lv, gs, rfl, hS, b⟩
  obtain ⟨av, cv, rfl, -, -⟩ := hS.form
  have HML : Hid ((rowsL r c zs).length = r) := rowsL_length
  rw [HML.out] at hS ⊢
  obtain ⟨V, hV⟩ : ∃ V, w3.alloc (.cells #[.int .i64 (c : Int), .slice av r cv] 65) = V := ⟨_, rfl⟩
  obtain ⟨bv, szv⟩ := alo1 w3 (.cells #[.int .i64 (c : Int), .slice av r cv] 65)
  rw [hV] at bv szv
  have PW : Hid (Cel V w3.heap.size 65 [.int .i64 (c : Int), .slice av r cv]) := by unfold Hid; rw [← hV]; exact Cel.new _ _ _
  have H0 : Hid (RwH w2 V (.slice av r cv) c rs (rowsL r c zs) k l L (.int .i64 0) V) := ⟨0, gs, rfl, Nat.zero_le _, by rw [HL.out]; omega, by simpa [sts, runs_nil] using (hS.now bv), below_step b bv, Kw.refl _⟩
  have BV := hid (below_step b bv)
  have EV := hid hV
  clear hS b bv szv hV HSO y0 y1 y2 M0 PA
  go_wp2_with fail
  rw [EV.out]
  clear EV
  go_loopg [33] L (fun gk s33 wx => RwH w2 V (.slice av r cv) c rs (rowsL r c zs) k l gk s33 wx)
  case atStart => exact H0.out
  case round =>
   clear H0
   obtain ⟨i, gs, rfl, hin, hg, hS, hB, hK⟩ := hrel
   rw [HL.out] at hin hg
   have SS := hid hS
   have BB := hid hB
   have KK := hid hK
   have HG := hid hg
   clear hS hB hK hg
   by_cases hlt : i < L
   ·have hlt' : (i : Int) < (L : Int) := by omega
    obtain ⟨g1, rfl⟩ := AL.out (by rw [HL.out]; omega)
    obtain ⟨s, hs⟩ : ∃ s, rs[i]? = some s := ⟨_, List.getElem?_eq_getElem (by rw [HL.out]; exact hlt)⟩
    have hf := HF.out s (List.mem_of_getElem? hs)
    obtain ⟨u, c0, hu⟩ := (ST.out.now BB.out).at hs
    have d0 := KK.out.cel PW.out (by decide) (by decide)
    have c1 := d0.at (i := 1) rfl
    have hw := wrapI9 (i := i) (by omega)
    have hml : (runs (sts (rs.take i)) (rowsL r c zs)).length = r := by rw [runs_length, HML.out]
    have hmx : k + i * (l + 1) + (l + 1) = k + (i + 1) * (l + 1) := by rw [Nat.add_mul i 1, Nat.one_mul, Nat.add_assoc]
    have hle : (i + 1) * (l + 1) ≤ L * (l + 1) := Nat.mul_le_mul_right _ hlt
    have HMM : Hid (L - (i + 1) < gk) := by unfold Hid; rw [HG.out]; omega
    have NXT : Hid (∀ m' k' w', Dn w2.heap.size wr (.slice av r cv) c m' k' (.returned (.tuple #[])) w' → m' = s.st.run (runs (sts (rs.take i)) (rowsL r c zs)) → k' ≤ k + (i + 1) * (l + 1) → RwH w2 V (.slice av r cv) c rs (rowsL r c zs) k l (L - (i + 1)) (.int .i64 ((i + 1 : Nat) : Int)) w') := by
     rintro m' k' w' ⟨gs', -, q1, q2, q3⟩ e1 e2
     refine ⟨i + 1, gs', rfl, by rw [HL.out]; omega, by rw [HL.out], q1.okay ?_ e2, BB.out.trans q2, KK.out.trans q3⟩
     rw [e1, sts_take hs, runs_snoc]
    have HS := hid hs
    have HMX := hid hmx
    have HLE := hid hle
    unfold Rs.fit at hf
    unfold Ofd at hu
    rcases hu with ⟨hk1, rfl⟩ | ⟨hk1, rfl⟩ | ⟨hk1, nv, av1, lv1, cv1, rfl, hz⟩ | ⟨hk1, rfl⟩
    ·obtain ⟨hi1, hj1⟩ : (0 ≤ s.i ∧ s.i < r) ∧ (0 ≤ s.j ∧ s.j < r) := by omega
     obtain ⟨i', hi'⟩ := Int.eq_ofNat_of_zero_le hi1.1
     obtain ⟨j', hj'⟩ := Int.eq_ofNat_of_zero_le hj1.1
     have est : s.st = .swap i' j' := by unfold Rs.st; rw [if_pos hk1, hi', hj']; rfl
     have HD := hid (do_swap SS.out (i := i') (j := j') (by rw [hml]; omega) (by rw [hml]; omega))
     rw [hi', hj'] at c0
     have HN := hid (fun w' (q : Dn w2.heap.size wr (.slice av r cv) c ((St.swap i' j').run (runs (sts (rs.take i)) (rowsL r c zs))) (k + i * (l + 1)) (.returned (.tuple #[])) w') => NXT.out _ _ w' q (by rw [est]) (by rw [← HMX.out]; omega))
     clear hf hk1 hi1 hj1 hi' hj' est NXT SS d0 hml hmx hle hs HMX HLE HG HS
     go_wp2_with fail
     refine HD.out.mono ?_
     rintro e w5 hd
     obtain ⟨gs', rfl, q1, q2, q3⟩ := hd
     have HN1 := hid (HN.out w5 ⟨gs', rfl, q1, q2, q3⟩)
     clear HN HD q1 q2 q3 c0 c1 BB KK
     go_wp2_with fail
     go_roundg (L - (i + 1))
     case rel => exact HN1.out
     case measure => exact HMM.out
    ·obtain ⟨hi1⟩ : PLift (0 ≤ s.i ∧ s.i < r) := ⟨by omega⟩
     obtain ⟨i', hi'⟩ := Int.eq_ofNat_of_zero_le hi1.1
     have est : s.st = .neg i' := by unfold Rs.st; rw [if_neg (by omega), if_pos hk1, hi']; rfl
     have HD := hid (do_neg SS.out (i := i') (by rw [hml]; omega) hc)
     rw [hi'] at c0
     have HN := hid (fun w' (q : Dn w2.heap.size wr (.slice av r cv) c ((St.neg i').run (runs (sts (rs.take i)) (rowsL r c zs))) (k + i * (l + 1)) (.returned (.tuple #[])) w') => NXT.out _ _ w' q (by rw [est]) (by rw [← HMX.out]; omega))
     clear hf hk1 hi1 hi' est NXT SS d0 hml hmx hle hs HMX HLE HG HS
     go_wp2_with fail
     refine HD.out.mono ?_
     rintro e w5 hd
     obtain ⟨gs', rfl, q1, q2, q3⟩ := hd
     have HN1 := hid (HN.out w5 ⟨gs', rfl, q1, q2, q3⟩)
     clear HN HD q1 q2 q3 c0 c1 BB KK
     go_wp2_with fail
     go_roundg (L - (i + 1))
     case rel => exact HN1.out
     case measure => exact HMM.out
    ·obtain ⟨hi1, hj1, hij⟩ : (0 ≤ s.i ∧ s.i < r) ∧ (0 ≤ s.j ∧ s.j < r) ∧ s.i ≠ s.j := by omega
     obtain ⟨i', hi'⟩ := Int.eq_ofNat_of_zero_le hi1.1
     obtain ⟨j', hj'⟩ := Int.eq_ofNat_of_zero_le hj1.1
     have est : s.st = .add i' j' s.z := by unfold Rs.st; rw [if_neg (by omega), if_neg (by omega), hi', hj']; rfl
     have HD := hid (do_add SS.out (i := i') (j := j') (by rw [hml]; omega) (by rw [hml]; omega) (by omega) hc hz.zi (by have := HK.out; have := HLE.out; have := HMX.out; omega))
     rw [hi', hj'] at c0
     have HN := hid (fun w' (q : Dn w2.heap.size wr (.slice av r cv) c ((St.add i' j' s.z).run (runs (sts (rs.take i)) (rowsL r c zs))) (l + (k + i * (l + 1)) + 1) (.returned (.tuple #[])) w') => NXT.out _ _ w' q (by rw [est]) (by rw [← HMX.out]; omega))
     clear hf hk1 hi1 hj1 hij hi' hj' est NXT SS d0 hml hmx hle hs HMX HLE HG HS hz
     go_wp2_with fail
     refine HD.out.mono ?_
     rintro e w5 hd
     obtain ⟨gs', rfl, q1, q2, q3⟩ := hd
     have HN1 := hid (HN.out w5 ⟨gs', rfl, q1, q2, q3⟩)
     clear HN HD q1 q2 q3 c0 c1 BB KK
     go_wp2_with fail
     go_roundg (L - (i + 1))
     case rel => exact HN1.out
     case measure => exact HMM.out
    ·omega
   ·have hlt' : ¬ (i : Int) < (L : Int) := by omega
    obtain rfl : i = L := by omega
    have d0 := KK.out.cel PW.out (by decide) (by decide)
    have c0 := d0.at (i := 0) rfl
    have c1 := d0.at (i := 1) rfl
    have HM := hid (matrix_any SS.out (r := r) (by rw [runs_length, HML.out]) hr hc)
    have etk : rs.take i = rs := List.take_of_length_le (by rw [HL.out]; exact Nat.le_refl _)
    rw [etk] at HM
    replace PR := hid (PR.out.step BB.out)
    replace G0 := hid (below_step G0.out BB.out)
    replace SZ := hid (Nat.lt_of_lt_of_le SZ.out BB.out.size)
    clear SS BB KK HG d0 etk
    go_wp2_with fail
    refine HM.out.mono ?_
    rintro e w5 ⟨v5, rfl, hm5, b⟩
    obtain ⟨a5, q5, rfl, -, -⟩ := hm5.mx.form
    obtain ⟨L5, hL5⟩ : ∃ L5, r * c = L5 := ⟨_, rfl⟩
    rw [hL5] at hm5 ⊢
    replace PR := hid (PR.out.step b)
    replace G0 := hid (below_step G0.out b)
    have FIN : Hid (Rowsed w r c rs zs (k + i * (l + 1)) (.returned (.tuple #[.agg #[.int .i64 (r : Int), .int .i64 (c : Int), .slice a5 L5 q5], .int .i64 0])) (put3 w5 (w.heap.size + 1) (.int .i64 (r : Int)) (.int .i64 (c : Int)) (.slice a5 L5 q5))) :=
     .inl ⟨HF.out, _, rfl, hm5.wk PR.out _ _ _, below_put3 G0.out (by omega) _ _ _⟩
    have PF := hid (PR.out.put3 (.int .i64 (r : Int)) (.int .i64 (c : Int)) (.slice a5 L5 q5))
    have r0 := PR.out.at (i := 0) rfl
    have r1 := PR.out.at (i := 1) rfl
    have r2 := PR.out.at (i := 2) rfl
    have f0 := PR.out.fz 0
    have f1 := PR.out.fz 1
    have f2 := PR.out.fz 2
    clear HM hm5 b c0 c1 hL5 G0
    go_wp2
    exact bodyPost_ret (mback1 Tryz.results12 PF.out _ (by rfl) (by rfl)) rfl FIN.out
 ·have FIN : Hid (Rowsed w r c rs zs (k + L * (l + 1)) (.returned (.tuple #[mzero, .int .i64 3])) (put3 w2 (w.heap.size + 1) (.int .i64 0) (.int .i64 0) (.slice none 0 0))) := .inr ⟨hnf, rfl, below_put3 G0.out (by omega) _ _ _⟩
  have PF := hid (PR.out.put3 (.int .i64 0) (.int .i64 0) (.slice none 0 0))
  have r0 := PR.out.at (i := 0) rfl
  have r1 := PR.out.at (i := 1) rfl
  have r2 := PR.out.at (i := 2) rfl
  have f0 := PR.out.fz 0
  have f1 := PR.out.fz 1
  have f2 := PR.out.fz 2
  clear hnf G0 PR PA M0
  go_wp2
  exact bodyPost_ret (mback1 Tryz.results12 PF.out _ (by rfl) (by rfl)) rfl FIN.out
end Go.Proofs.YtnpcfohimlfbdaaGreat
