/-
 QSgn16ToOpenSt11: Sgn16, Sn11, OpenSt11, joined.
-/
import Derived.Test.YtnpcfohimlfbdaaGreatQZFloorToTy9
import Derived.Test.YtnpcfohimlfbdaaGreatQDu12ToBz13
import Derived.Test.YtnpcfohimlfbdaaGreatQSo13ToInts9
import Derived.Test.YtnpcfohimlfbdaaGreatQCk11
import Derived.Test.YtnpcfohimlfbdaaGreatQRows11
import Derived.Handy
import Derived.Test.YtnpcfohimlfbdaaGreatRows
import Derived.Test.YtnpcfohimlfbdaaGreatQAlikeToOpenV8
import Derived.Test.YtnpcfohimlfbdaaGreatQWordsToBulk
import Derived.Lib.SmallJoins

set_option maxRecDepth 100000
set_option maxHeartbeats 6400000
set_option linter.unusedVariables false
set_option linter.unusedSimpArgs false
namespace Go.Proofs.YtnpcfohimlfbdaaGreat

/-- The sign of a step: what it makes of a determinant. -/
def St.sgn : St → Int
 | .swap i j => if i = j then 1 else -1
 | .neg _ => -1
 | .add _ _ _ => 1
def sgns : List St → Int
 | [] => 1
 | s :: r => s.sgn * sgns r
theorem sgns_snoc (s : St) : ∀ ss : List St, sgns (ss ++ [s]) = sgns ss * s.sgn
 | [] => by simp [sgns]
 | t :: r => by
  show t.sgn * sgns (r ++ [s]) = t.sgn * sgns r * s.sgn
  rw [sgns_snoc s r, Int.mul_assoc]
theorem St.sgn_abs (s : St) : s.sgn = 1 ∨ s.sgn = -1 := by
 cases s with
 | swap i j => by_cases h : i = j <;> simp [St.sgn, h]
 | neg i => exact .inr rfl
 | add i j z => exact .inl rfl
theorem sgns_abs : ∀ ss : List St, sgns ss = 1 ∨ sgns ss = -1
 | [] => .inl rfl
 | s :: r => by
  rcases sgns_abs r with h | h <;> rcases s.sgn_abs with q | q <;> simp [sgns, h, q]
/-- The matrix of rows. -/
def mtx (m : List (List Int)) : Nat → Nat → Int := fun i j => (rowAt m i).getD j 0
theorem rowAt_set16 {m : List (List Int)} {i k : Nat} {r : List Int} (hi : i < m.length) : rowAt (m.set i r) k = if k = i then r else rowAt m k := by
 by_cases h : k = i
 ·subst h; simp [rowAt, hi]
 ·simp only [rowAt, List.getD_eq_getElem?_getD, if_neg h]
  rw [List.getElem?_set_ne (by omega)]
theorem mtx_set {m : List (List Int)} {i : Nat} {r : List Int} (hi : i < m.length) : mtx (m.set i r) = stR (mtx m) i (fun j => r.getD j 0) := by
 funext k j
 unfold mtx stR
 rw [rowAt_set16 hi]
 by_cases h : k = i
 ·rw [if_pos h, if_pos h]
 ·rw [if_neg h, if_neg h]
theorem det_run {n : Nat} {s : St} {m : List (List Int)} (hl : m.length = n) (hw : Wide n m) (hf : s.fit n) : det n (mtx (s.run m)) = s.sgn * det n (mtx m) := by
 have A := det_alt n
 cases s with
 | swap i j =>
  obtain ⟨hi, hj⟩ := hf
  simp only [St.run, St.sgn]
  rw [mtx_set (by simp; omega), mtx_set (by omega)]
  by_cases h : i = j
  ·subst h
   rw [if_pos rfl, Int.one_mul, stR_over]
   exact congrArg _ (stR_self (mtx m) i)
  ·rw [if_neg h]
   have := A.swap (A := mtx m) hi hj h
   rw [Int.neg_mul, Int.one_mul]
   exact this
 | neg i =>
  have hi : i < n := hf
  simp only [St.run, St.sgn]
  rw [mtx_set (by omega)]
  have e : det n (stR (mtx m) i fun j => (negRow (rowAt m i)).getD j 0) = det n (stR (mtx m) i fun j => (-1) * mtx m i j) := det_congr fun r c hr hc => by
   unfold stR
   by_cases h : r = i
   ·rw [if_pos h, if_pos h]
    have h2 : c < (rowAt m i).length := by rw [hw.at (by omega)]; exact hc
    simp [negRow, mtx, h2]
   ·rw [if_neg h, if_neg h]
  rw [e, A.mul hi, stR_self]
 | add i j z =>
  obtain ⟨hi, hj, hij⟩ := hf
  simp only [St.run, St.sgn]
  rw [mtx_set (by omega), Int.one_mul, ← A.plus hi hj hij z (A := mtx m)]
  refine det_congr fun r c hr hc => ?_
  unfold stR
  by_cases h : r = i
  ·rw [if_pos h, if_pos h]
   have h2 : c < (rowAt m i).length := by rw [hw.at (by omega)]; exact hc
   have h3 : c < (rowAt m j).length := by rw [hw.at (by omega)]; exact hc
   have h4 : c < (addRow z (rowAt m i) (rowAt m j)).length := by simp [addRow]; omega
   show (addRow z (rowAt m i) (rowAt m j)).getD c 0 = (rowAt m i).getD c 0 + z * (rowAt m j).getD c 0
   rw [List.getD_eq_getElem?_getD, List.getElem?_eq_getElem h4]
   simp [addRow, h2, h3]
   omega
  ·rw [if_neg h, if_neg h]
theorem det_runs {n : Nat} : ∀ {ss : List St} {m : List (List Int)}, m.length = n → Wide n m → (∀ s ∈ ss, s.fit n) → det n (mtx (runs ss m)) = sgns ss * det n (mtx m)
 | [], m, _, _, _ => by show det n (mtx m) = 1 * det n (mtx m); omega
 | s :: r, m, hl, hw, hf => by
  show det n (mtx (runs r (s.run m))) = s.sgn * sgns r * det n (mtx m)
  rw [det_runs (by rw [s.run_length]; exact hl) (St.run_wide hw (by rw [hl]; exact hf s (by simp))) fun t ht => hf t (by simp [ht]), det_run hl hw (hf s (by simp))]
  grind
theorem mtx_en {n i j : Nat} {zs : List Int} (hl : zs.length = n * n) (hi : i < n) (hj : j < n) : mtx (rowsL n n zs) i j = en n zs i j := by
 unfold mtx
 rw [en_row hl hi]
 simp [hj]
/-- The determinant of what steps make of a matrix. -/
theorem det_steps {n : Nat} {zs : List Int} {ss : List St} (hl : zs.length = n * n) (hf : ∀ s ∈ ss, s.fit n) : det n (en n (rowsT ss n n zs)) = sgns ss * det n (en n zs) := by
 have h1 : (rowsL n n zs).length = n := rowsL_length
 have hw := rows_wide hl
 have e1 : det n (en n zs) = det n (mtx (rowsL n n zs)) := det_congr fun i j hi hj => (mtx_en hl hi hj).symm
 have hl2 := rowsT_length (ss := ss) hl hf
 have e2 : rowsL n n (rowsT ss n n zs) = runs ss (rowsL n n zs) := by
  have := rowsL_flatten (c := n) (L := runs ss (rowsL n n zs)) (runs_wide hw (fun s hs => by rw [h1]; exact hf s hs))
  rw [runs_length, h1] at this
  exact this
 have e3 : det n (en n (rowsT ss n n zs)) = det n (mtx (runs ss (rowsL n n zs))) := by
  rw [← e2]
  exact det_congr fun i j hi hj => (mtx_en hl2 hi hj).symm
 rw [e3, e1, det_runs h1 hw hf]
open Go.RowKit

theorem swap_sign {w : World} {i j : Nat} : Calls Tryz.prog 140 #[.agg #[.int .i64 (i : Int), .int .i64 (j : Int)]] w fun e w' => e = .returned (.int .i64 (St.swap i j).sgn) ∧ Below w.heap.size w w' := by
 have b := (alo1 w (.cells #[.int .i64 (i : Int), .int .i64 (j : Int)] 115)).1
 have HB := hid b
 clear b
 by_cases h : i = j
 ·subst h
  have e : (St.swap i i).sgn = 1 := by simp [St.sgn]
  have hq : ((i : Int) == (i : Int)) = true := by simp
  rw [e]
  clear e
  go_enter Tryz.func140, Tryz.ntmps140
  go_wp2
  go_ret
  exact ⟨rfl, HB.out⟩
 ·have e : (St.swap i j).sgn = -1 := by simp [St.sgn, h]
  have hq : ((i : Int) == (j : Int)) = false := by simp; omega
  have hq2 : ¬ (i : Int) = (j : Int) := by omega
  rw [e]
  clear e h
  go_enter Tryz.func140, Tryz.ntmps140
  go_wp2
  go_ret
  exact ⟨rfl, HB.out⟩
theorem neg_sign {w : World} {i : Nat} : Calls Tryz.prog 145 #[.agg #[.int .i64 (i : Int)]] w fun e w' => e = .returned (.int .i64 (-1)) ∧ Below w.heap.size w w' := by
 have HB := hid (alo1 w (.cells #[.int .i64 (i : Int)] 117)).1
 have HR := hid (Below.refl w.heap.size w)
 go_enter Tryz.func145, Tryz.ntmps145
 go_wp2
 go_ret
 first | exact ⟨rfl, HB.out⟩ | exact ⟨rfl, HR.out⟩
theorem add_sign {w : World} {i j : Nat} {nv : Bool} {av : Option Addr} {lv cv : Nat} : Calls Tryz.prog 149 #[.agg #[.int .i64 (i : Int), .int .i64 (j : Int), .bool nv, .slice av lv cv]] w fun e w' => e = .returned (.int .i64 1) ∧ Below w.heap.size w w' := by
 have HB := hid (alo1 w (.cells #[.int .i64 (i : Int), .int .i64 (j : Int), .bool nv, .slice av lv cv] 119)).1
 have HR := hid (Below.refl w.heap.size w)
 go_enter Tryz.func149, Tryz.ntmps149
 go_wp2
 go_ret
 first | exact ⟨rfl, HB.out⟩ | exact ⟨rfl, HR.out⟩
def SgH (w2 : World) (rs : List Rs) (gk : Nat) (s8 s22 : Value) (wx : World) : Prop :=
 ∃ i : Nat, s22 = .int .i64 (i : Int) ∧ s8 = .int .i64 (sgns (sts (rs.take i))) ∧ i ≤ rs.length ∧ gk = rs.length - i ∧ Below w2.heap.size w2 wx
/-- What Sign answers. -/
def Signed11 (w : World) (n : Nat) (rs : List Rs) (e : Ending) (w' : World) : Prop :=
 (((∀ s ∈ rs, s.fit n) ∧ e = .returned (.tuple #[.int .i64 (sgns (sts rs)), .int .i64 0])) ∨ (¬ (∀ s ∈ rs, s.fit n) ∧ e = .returned (.tuple #[.int .i64 0, .int .i64 3]))) ∧ Below w.heap.size w w'
theorem wrapS {x y : Int} (h : x = 1 ∨ x = -1) (h' : y = 1 ∨ y = -1) : IntKind.i64.wrap (x * y) = x * y := by
 rcases h with rfl | rfl <;> rcases h' with rfl | rfl <;> decide
theorem sign_any {w : World} {sv : Value} {n l : Nat} {rs : List Rs} (hs : Raws w sv rs l) (hn : n ≤ 64) :
  Calls Tryz.prog 11 #[.int .i64 (n : Int), sv] w (Signed11 w n rs) := by
 have HIN := hid (inner_any hs hn)
 obtain ⟨asv, csv, rfl, hsl, -⟩ := hs.form
 obtain ⟨L, hL⟩ : ∃ L, rs.length = L := ⟨_, rfl⟩
 have HL := hid hL
 rw [hL] at HIN hsl ⊢
 clear hs hL
 go_enter Tryz.func11, Tryz.ntmps11
 go_wp2_with fail
 refine HIN.out.mono ?_
 rintro e w2 ⟨ho, b⟩
 have G0 := hid b
 clear HIN b
 rcases ho with ⟨hfit, lst, rfl, hst⟩ | ⟨hnf, rfl⟩
 ·have HF := hid hfit
  obtain ⟨al, cl, rfl, hal⟩ := hst.form
  have AL := hid hal
  have ST := hid hst
  rw [HL.out] at ST ⊢
  have H0 : Hid (SgH w2 rs L (.int .i64 1) (.int .i64 0) w2) := ⟨0, rfl, by simp [sts, sgns], Nat.zero_le _, by rw [HL.out]; omega, Below.refl _ _⟩
  clear hfit hst hal
  go_wp2_with fail
  go_loopg [8, 22] L (fun gk s8 s22 wx => SgH w2 rs gk s8 s22 wx)
  case atStart => exact H0.out
  case round =>
   clear H0
   obtain ⟨i, rfl, rfl, hin, hg, hB⟩ := hrel
   rw [HL.out] at hin hg
   have BB := hid hB
   have HG := hid hg
   clear hB hg
   have SA := hid (sgns_abs (sts (rs.take i)))
   by_cases hlt : i < L
   ·have hlt' : (i : Int) < (L : Int) := by omega
    obtain ⟨g1, rfl⟩ := AL.out (by rw [HL.out]; omega)
    obtain ⟨s, hs⟩ : ∃ s, rs[i]? = some s := ⟨_, List.getElem?_eq_getElem (by rw [HL.out]; exact hlt)⟩
    have hf := HF.out s (List.mem_of_getElem? hs)
    obtain ⟨u, c0, hu⟩ := (ST.out.now BB.out).at hs
    have hw := wrapI9 (i := i) (by omega)
    have HMM : Hid (L - (i + 1) < gk) := by unfold Hid; rw [HG.out]; omega
    have NXT : Hid (∀ w' y, Below wr.heap.size wr w' → y = s.st.sgn → SgH w2 rs (L - (i + 1)) (.int .i64 (sgns (sts (rs.take i)) * y)) (.int .i64 ((i + 1 : Nat) : Int)) w') := by
     intro w' y hb hy
     refine ⟨i + 1, rfl, ?_, by rw [HL.out]; omega, by rw [HL.out], below_step BB.out hb⟩
     rw [sts_take hs, sgns_snoc, hy]
    have ABS : Hid (∀ y, y = s.st.sgn → IntKind.i64.wrap (sgns (sts (rs.take i)) * y) = sgns (sts (rs.take i)) * y) := fun y hy => wrapS SA.out (by rw [hy]; exact s.st.sgn_abs)
    generalize sgns (sts (rs.take i)) = X at *
    unfold Rs.fit at hf
    unfold Ofd at hu
    rcases hu with ⟨hk1, rfl⟩ | ⟨hk1, rfl⟩ | ⟨hk1, nv, av1, lv1, cv1, rfl, hz⟩ | ⟨hk1, rfl⟩
    ·obtain ⟨hi1, hj1⟩ : (0 ≤ s.i ∧ s.i < n) ∧ (0 ≤ s.j ∧ s.j < n) := by omega
     obtain ⟨i', hi'⟩ := Int.eq_ofNat_of_zero_le hi1.1
     obtain ⟨j', hj'⟩ := Int.eq_ofNat_of_zero_le hj1.1
     have est : s.st = .swap i' j' := by unfold Rs.st; rw [if_pos hk1, hi', hj']; rfl
     rw [hi', hj'] at c0
     rw [est] at NXT ABS
     have HD := hid (swap_sign (w := wr) (i := i') (j := j'))
     obtain ⟨Y, hY⟩ : ∃ Y, (St.swap i' j').sgn = Y := ⟨_, rfl⟩
     rw [hY] at HD NXT ABS
     have hwy := ABS.out Y rfl
     clear hf hk1 hi1 hj1 hi' hj' est hs HG hY ABS SA
     go_wp2_with fail
     refine HD.out.mono ?_
     rintro e w5 ⟨rfl, b⟩
     have HN1 := hid (NXT.out w5 Y b rfl)
     clear NXT HD b c0 BB
     go_wp2_with fail
     go_roundg (L - (i + 1))
     case rel => exact HN1.out
     case measure => exact HMM.out
    ·obtain ⟨hi1⟩ : PLift (0 ≤ s.i ∧ s.i < n) := ⟨by omega⟩
     obtain ⟨i', hi'⟩ := Int.eq_ofNat_of_zero_le hi1.1
     have est : s.st = .neg i' := by unfold Rs.st; rw [if_neg (by omega), if_pos hk1, hi']; rfl
     rw [hi'] at c0
     rw [est] at NXT ABS
     have HD := hid (neg_sign (w := wr) (i := i'))
     obtain ⟨Y, hY⟩ : ∃ Y : Int, ((-1) : Int) = Y := ⟨_, rfl⟩
     rw [hY] at HD
     have hwy := ABS.out Y hY.symm
     have NX : Hid (∀ w', Below wr.heap.size wr w' → SgH w2 rs (L - (i + 1)) (.int .i64 (X * Y)) (.int .i64 ((i + 1 : Nat) : Int)) w') := fun w' b => NXT.out w' Y b hY.symm
     clear hf hk1 hi1 hi' est hs HG ABS SA hY
     go_wp2_with fail
     refine HD.out.mono ?_
     rintro e w5 ⟨rfl, b⟩
     have HN1 := hid (NX.out w5 b)
     clear NXT NX HD b c0 BB
     go_wp2_with fail
     go_roundg (L - (i + 1))
     case rel => exact HN1.out
     case measure => exact HMM.out
    ·obtain ⟨hi1, hj1, hij⟩ : (0 ≤ s.i ∧ s.i < n) ∧ (0 ≤ s.j ∧ s.j < n) ∧ s.i ≠ s.j := by omega
     obtain ⟨i', hi'⟩ := Int.eq_ofNat_of_zero_le hi1.1
     obtain ⟨j', hj'⟩ := Int.eq_ofNat_of_zero_le hj1.1
     have est : s.st = .add i' j' s.z := by unfold Rs.st; rw [if_neg (by omega), if_neg (by omega), hi', hj']; rfl
     rw [hi', hj'] at c0
     rw [est] at NXT ABS
     have HD := hid (add_sign (w := wr) (i := i') (j := j') (nv := nv) (av := av1) (lv := lv1) (cv := cv1))
     obtain ⟨Y, hY⟩ : ∃ Y : Int, (1 : Int) = Y := ⟨_, rfl⟩
     rw [hY] at HD
     have hwy := ABS.out Y hY.symm
     have NX : Hid (∀ w', Below wr.heap.size wr w' → SgH w2 rs (L - (i + 1)) (.int .i64 (X * Y)) (.int .i64 ((i + 1 : Nat) : Int)) w') := fun w' b => NXT.out w' Y b hY.symm
     clear hf hk1 hi1 hj1 hij hi' hj' est hs HG ABS SA hz hY
     go_wp2_with fail
     refine HD.out.mono ?_
     rintro e w5 ⟨rfl, b⟩
     have HN1 := hid (NX.out w5 b)
     clear NXT NX HD b c0 BB
     go_wp2_with fail
     go_roundg (L - (i + 1))
     case rel => exact HN1.out
     case measure => exact HMM.out
    ·omega
   ·have hlt' : ¬ (i : Int) < (L : Int) := by omega
    obtain rfl : i = L := by omega
    have etk : rs.take i = rs := List.take_of_length_le (by rw [HL.out]; exact Nat.le_refl _)
    rw [etk]
    have FIN : Hid (Signed11 w n rs (.returned (.tuple #[.int .i64 (sgns (sts rs)), .int .i64 0])) wr) := ⟨.inl ⟨HF.out, rfl⟩, below_step G0.out BB.out⟩
    clear BB HG etk SA
    generalize sgns (sts rs) = X at *
    go_wp2
    go_ret2
    exact FIN.out
 ·have FIN : Hid (Signed11 w n rs (.returned (.tuple #[.int .i64 0, .int .i64 3])) w2) := ⟨.inr ⟨hnf, rfl⟩, G0.out⟩
  clear hnf
  go_wp2
  go_ret2
  exact FIN.out
open Go.ChangeShapes Go.WideShapes Go.ChangeAt Go.RowKit

instance rsInh : Inhabited Rs := ⟨⟨0, 0, 0, 0⟩⟩
theorem Tryz.cellsSt11 : Tryz.prog.cellsOf 94 = 5 := by kernel_rfl
theorem Tryz.cellsInt11 : Tryz.prog.cellsOf 3 = 1 := by kernel_rfl
theorem Zi.parts11 {w : World} {x y : Value} {z : Int} {k : Nat} (h : Zi w (.agg #[x, y]) z k) : ∃ nv av lv cv, x = .bool nv ∧ y = .slice av lv cv := by
 obtain ⟨n, a, l, c, e⟩ := h.isI
 rw [Prod.mk.injEq] at e
 exact ⟨n, a, l, c, e.1, e.2⟩
theorem open_st11 {H : Type} {enc : TypeId × Value → H} {W : World} {fuel : Nat} {cs : List Value} {x : DataW H × List MemPlace}
  (hf : DataW.trod enc Tryz.prog W 0 (fun _ => true) true fuel 94 cs = some x) (hb : Rows.uptoBulk x.1 ≤ 1048576) :
  ∃ (kind I J : Int) (nv : Bool) (av : Option Addr) (lv cv : Nat) (z : Int), cs = [.int .i64 kind, .int .i64 I, .int .i64 J, .bool nv, .slice av lv cv] ∧ Zi W (.agg #[.bool nv, .slice av lv cv]) z 1048576 := by
 obtain ⟨y0, y1, y2, y3, n, rfl, hl, t0, t1, t2, t3⟩ := Joins.trod_struct4 Tryz.underlying94 hf
 rw [Tryz.cellsSt11] at hl
 simp only [Rows.uptoBulk, Rows.uptoBulkAll] at hb
 match cs, hl with
 | [c0, c1, c2, c3, c4], _ =>
  simp only [Tryz.cellsInt11, Tryz.cellsZ, List.drop_zero, List.drop_succ_cons, List.take_succ_cons, List.take_zero] at t0 t1 t2 t3
  obtain ⟨k, e0, _, _⟩ := DataW.trod_int Tryz.underlying3 t0
  obtain ⟨i, e1, _, _⟩ := DataW.trod_int Tryz.underlying3 t1
  obtain ⟨j, e2, _, _⟩ := DataW.trod_int Tryz.underlying3 t2
  obtain ⟨x0, x1, z, kz, e3, hz, hkz⟩ := open_int3 t3 (by omega)
  simp only [List.cons.injEq, and_true] at e0 e1 e2 e3
  obtain ⟨nv, av, lv, cv, q1, q2⟩ := hz.parts11
  obtain ⟨e3, e4⟩ := e3
  subst e0 e1 e2 e3 e4 q1 q2
  exact ⟨k, i, j, nv, av, lv, cv, z, rfl, hz.more (by omega)⟩
end Go.Proofs.YtnpcfohimlfbdaaGreat
