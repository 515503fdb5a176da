/-
  Whole8: the walk of FracWhole.
-/
import Derived.Test.YtaoammmnpfbdfaaQRc8
import Derived.Test.YtaoammmnpfbdfaaQAwake8
import Derived.Test.YtaoammmnpfbdfaaQFl8
import Derived.Test.YtaoammmnpfbdfaaQZModToZlaw0
import Derived.Test.YtaoammmnpfbdfaaQRq8ToMWord
namespace Go.Proofs.Ytaoammmnpfbdfaa
open Go.RowKit
set_option linter.unusedVariables false

def MetFi (W wx : World) (s1 : Value) (N D : Int) (k : Nat) : Prop :=
  ∃ bk n m, ∃ x y : List Int, ∃ a c b d, s1 = .pointer (some ⟨bk, 0, none⟩) ∧ Below W.heap.size W wx ∧ W.heap.size ≤ bk ∧ bk < wx.heap.size ∧ Cel wx bk 26 [.bool n, .slice a x.length c, .bool m, .slice b y.length d] ∧ Zi wx (.agg #[.bool n, .slice a x.length c]) N k ∧ Zi wx (.agg #[.bool m, .slice b y.length d]) D k
theorem sub_one {N D m : Int} : N * 1 + -m * D = N - m * D := by rw [Int.mul_one, Int.neg_mul]; omega
theorem divInt_one_right (K : Int) : Rat.divInt K 1 = Rat.divInt K 1 := rfl
set_option maxHeartbeats 6400000 in
set_option maxRecDepth 100000 in
theorem whole_zero {w : World} {a0 a1 a2 a3 vk : Value} {AN AD J : Int} (han : Zi w (.agg #[a0, a1]) AN 1048576) (had : Zi w (.agg #[a2, a3]) AD 1048576) (hk : Zi w vk J 1048576) (hD : AD = 0) :
    Calls Try.prog 5 #[.agg #[a0, a1, a2, a3], vk] w fun e w' => e = .returned (.bool true) ∧ Below w.heap.size w w' := by
  have HD := hid hD
  clear hD
  have zan0 := han
  obtain ⟨nan, xan, adan, can, ev, -, -, -⟩ := han
  simp only [Value.agg.injEq] at ev
  obtain ⟨rfl, rfl⟩ := pair_eq ev
  have zad0 := had
  obtain ⟨nad, xad, adad, cad, ev, -, -, -⟩ := had
  simp only [Value.agg.injEq] at ev
  obtain ⟨rfl, rfl⟩ := pair_eq ev
  have zk0 := hk
  obtain ⟨nk, xk, adk, ck, rfl, -, -, -⟩ := hk
  obtain ⟨W0, hW⟩ : ∃ W0, (w.alloc (.cells #[(.bool nan), (.slice adan xan.length can), (.bool nad), (.slice adad xad.length cad)] 26)).alloc (duo (.bool nk) (.slice adk xk.length ck)) = W0 := ⟨_, rfl⟩
  obtain ⟨b0, sz0⟩ := alloc2 w (.cells #[(.bool nan), (.slice adan xan.length can), (.bool nad), (.slice adad xad.length cad)] 26) (duo (.bool nk) (.slice adk xk.length ck))
  rw [hW] at b0 sz0
  have Pa : Hid (Cel W0 (w.heap.size) 26 [(.bool nan), (.slice adan xan.length can), (.bool nad), (.slice adad xad.length cad)]) := by unfold Hid; rw [← hW]; exact cel_late (cel_at (by simp)) _
  have Pk : Hid (Duo W0 (w.heap.size + 1) (.bool nk) (.slice adk xk.length ck)) := by unfold Hid; rw [← hW]; exact duo_at (by simp)
  have Zan := hid (zan0.now b0)
  clear zan0
  have Zad := hid (zad0.now b0)
  clear zad0
  have Zk := hid (zk0.now b0)
  clear zk0
  have G := hid b0
  clear b0
  have EW := hid hW
  clear hW
  go_enter Try.func5, Try.ntmps5
  skip
  go_wp2_with fail
  rw [EW.out]
  clear EW
  refine (awake8 _).mono ?_
  rintro e w1 ⟨rfl, b⟩
  replace Zan := hid (Zan.out.now b)
  replace Zad := hid (Zad.out.now b)
  replace Zk := hid (Zk.out.now b)
  replace Pa := hid (Pa.out.step b)
  replace Pk := hid (Pk.out.step b)
  replace G := hid (below_step G.out b)
  have lz2 := (show Below _ _ _ from b).size
  clear b 
  have ca0 := (Pa.out.at (i := 0) rfl)
  have ca1 := (Pa.out.at (i := 1) rfl)
  have ca2 := (Pa.out.at (i := 2) rfl)
  have ca3 := (Pa.out.at (i := 3) rfl)
  go_wp2_with fail
  clear ca0 ca1 ca2 ca3
  refine (ffloor_zero Zan.out Zad.out HD.out).mono ?_
  rintro e w3 ⟨r0, rfl, m0, b⟩
  obtain ⟨ng, xg, adg, qg, rfl, -, -, -, -, -⟩ := id m0
  replace Zan := hid (Zan.out.now b)
  replace Zad := hid (Zad.out.now b)
  replace Zk := hid (Zk.out.now b)
  replace Pa := hid (Pa.out.step b)
  replace Pk := hid (Pk.out.step b)
  replace G := hid (below_step G.out b)
  have lz4 := (show Below _ _ _ from b).size
  have Zg := hid m0
  clear b m0
  obtain ⟨V5, hW⟩ : ∃ V5, w3.alloc (duo (.bool ng) (.slice adg xg.length qg)) = V5 := ⟨_, rfl⟩
  obtain ⟨kW, sz5⟩ := alloc1 w3 (duo (.bool ng) (.slice adg xg.length qg))
  rw [hW] at kW sz5
  replace Zan := hid (Zan.out.now kW)
  replace Zad := hid (Zad.out.now kW)
  replace Zk := hid (Zk.out.now kW)
  replace Zg := hid (Zg.out.now kW)
  replace Pa := hid (Pa.out.step kW)
  replace Pk := hid (Pk.out.step kW)
  replace G := hid (below_step G.out kW)
  have lz6 := (show Below _ _ _ from kW).size
  have PG : Hid (Duo V5 (w3.heap.size) (.bool ng) (.slice adg xg.length qg)) := by unfold Hid; rw [← hW]; exact duo_at (by simp)
  clear kW
  have ca0 := (Pa.out.at (i := 0) rfl)
  have ca1 := (Pa.out.at (i := 1) rfl)
  have ca2 := (Pa.out.at (i := 2) rfl)
  have ca3 := (Pa.out.at (i := 3) rfl)
  rw [← hW] at ca0 ca1 ca2 ca3
  have EW := hid hW
  clear hW
  go_wp2_with fail
  rw [EW.out]
  clear EW
  clear ca0 ca1 ca2 ca3
  refine (fnear_zero Zan.out Zad.out (by decide) HD.out).mono ?_
  rintro e w7 ⟨r0, rfl, m0, b⟩
  obtain ⟨nh, xh, adh, qh, rfl, -, -, -, -, -⟩ := id m0
  replace Zan := hid (Zan.out.now b)
  replace Zad := hid (Zad.out.now b)
  replace Zk := hid (Zk.out.now b)
  replace Zg := hid (Zg.out.now b)
  replace Pa := hid (Pa.out.step b)
  replace Pk := hid (Pk.out.step b)
  replace PG := hid (PG.out.step b)
  replace G := hid (below_step G.out b)
  have lz8 := (show Below _ _ _ from b).size
  have Zh := hid m0
  clear b m0
  obtain ⟨V9, hW⟩ : ∃ V9, w7.alloc (duo (.bool nh) (.slice adh xh.length qh)) = V9 := ⟨_, rfl⟩
  obtain ⟨kW, sz9⟩ := alloc1 w7 (duo (.bool nh) (.slice adh xh.length qh))
  rw [hW] at kW sz9
  replace Zan := hid (Zan.out.now kW)
  replace Zad := hid (Zad.out.now kW)
  replace Zk := hid (Zk.out.now kW)
  replace Zg := hid (Zg.out.now kW)
  replace Zh := hid (Zh.out.now kW)
  replace Pa := hid (Pa.out.step kW)
  replace Pk := hid (Pk.out.step kW)
  replace PG := hid (PG.out.step kW)
  replace G := hid (below_step G.out kW)
  have lz10 := (show Below _ _ _ from kW).size
  have PH : Hid (Duo V9 (w7.heap.size) (.bool nh) (.slice adh xh.length qh)) := by unfold Hid; rw [← hW]; exact duo_at (by simp)
  clear kW
  have ca0 := (Pa.out.at (i := 0) rfl)
  have ca1 := (Pa.out.at (i := 1) rfl)
  have ca2 := (Pa.out.at (i := 2) rfl)
  have ca3 := (Pa.out.at (i := 3) rfl)
  rw [← hW] at ca0 ca1 ca2 ca3
  have EW := hid hW
  clear hW
  go_wp2_with fail
  rw [EW.out]
  clear EW
  clear ca0 ca1 ca2 ca3
  refine (is8_no Zan.out Zad.out HD.out).mono ?_
  rintro e w11 ⟨rfl, b⟩
  replace Zan := hid (Zan.out.now b)
  replace Zad := hid (Zad.out.now b)
  replace Zk := hid (Zk.out.now b)
  replace Zg := hid (Zg.out.now b)
  replace Zh := hid (Zh.out.now b)
  replace Pa := hid (Pa.out.step b)
  replace Pk := hid (Pk.out.step b)
  replace PG := hid (PG.out.step b)
  replace PH := hid (PH.out.step b)
  replace G := hid (below_step G.out b)
  have lz12 := (show Below _ _ _ from b).size
  clear b 
  go_wp2
  go_ret
  exact ⟨rfl, G.out⟩

set_option maxHeartbeats 6400000 in
set_option maxRecDepth 100000 in
theorem whole_some {w : World} {a0 a1 a2 a3 vk : Value} {AN AD J : Int} (han : Zi w (.agg #[a0, a1]) AN 1048576) (had : Zi w (.agg #[a2, a3]) AD 1048576) (hk : Zi w vk J 1048576) (hD : AD ≠ 0) :
    Calls Try.prog 5 #[.agg #[a0, a1, a2, a3], vk] w fun e w' => e = .returned (.bool true) ∧ Below w.heap.size w w' := by
  have HD := hid hD
  clear hD
  obtain ⟨C1, e1⟩ : ∃ c, c = cmpI 1 0 * cmpI AD 0 * cmpI (fdv AN AD * AD) (AN * 1) := ⟨_, rfl⟩
  obtain ⟨C2, e2⟩ : ∃ c, c = cmpI 1 0 * cmpI AD 0 * cmpI ((fdv AN AD + 1) * AD) (AN * 1) := ⟨_, rfl⟩
  have c1 : ¬ 0 < C1 := by rw [e1]; exact cmp_floor HD.out
  have c2 : ¬ C2 ≤ 0 := by rw [e2]; have := cmp_above (N := AN) HD.out; omega
  have E1 := hid e1
  have E2 := hid e2
  clear e1 e2
  have zan0 := han
  obtain ⟨nan, xan, adan, can, ev, -, -, -⟩ := han
  simp only [Value.agg.injEq] at ev
  obtain ⟨rfl, rfl⟩ := pair_eq ev
  have zad0 := had
  obtain ⟨nad, xad, adad, cad, ev, -, -, -⟩ := had
  simp only [Value.agg.injEq] at ev
  obtain ⟨rfl, rfl⟩ := pair_eq ev
  have zk0 := hk
  obtain ⟨nk, xk, adk, ck, rfl, -, -, -⟩ := hk
  obtain ⟨W0, hW⟩ : ∃ W0, (w.alloc (.cells #[(.bool nan), (.slice adan xan.length can), (.bool nad), (.slice adad xad.length cad)] 26)).alloc (duo (.bool nk) (.slice adk xk.length ck)) = W0 := ⟨_, rfl⟩
  obtain ⟨b0, sz0⟩ := alloc2 w (.cells #[(.bool nan), (.slice adan xan.length can), (.bool nad), (.slice adad xad.length cad)] 26) (duo (.bool nk) (.slice adk xk.length ck))
  rw [hW] at b0 sz0
  have Pa : Hid (Cel W0 (w.heap.size) 26 [(.bool nan), (.slice adan xan.length can), (.bool nad), (.slice adad xad.length cad)]) := by unfold Hid; rw [← hW]; exact cel_late (cel_at (by simp)) _
  have Pk : Hid (Duo W0 (w.heap.size + 1) (.bool nk) (.slice adk xk.length ck)) := by unfold Hid; rw [← hW]; exact duo_at (by simp)
  have Zan := hid (zan0.now b0)
  clear zan0
  have Zad := hid (zad0.now b0)
  clear zad0
  have Zk := hid (zk0.now b0)
  clear zk0
  have G := hid b0
  clear b0
  have EW := hid hW
  clear hW
  go_enter Try.func5, Try.ntmps5
  skip
  go_wp2_with fail
  rw [EW.out]
  clear EW
  refine (awake8 _).mono ?_
  rintro e w1 ⟨rfl, b⟩
  replace Zan := hid (Zan.out.now b)
  replace Zad := hid (Zad.out.now b)
  replace Zk := hid (Zk.out.now b)
  replace Pa := hid (Pa.out.step b)
  replace Pk := hid (Pk.out.step b)
  replace G := hid (below_step G.out b)
  have lz2 := (show Below _ _ _ from b).size
  clear b 
  have ca0 := (Pa.out.at (i := 0) rfl)
  have ca1 := (Pa.out.at (i := 1) rfl)
  have ca2 := (Pa.out.at (i := 2) rfl)
  have ca3 := (Pa.out.at (i := 3) rfl)
  go_wp2_with fail
  clear ca0 ca1 ca2 ca3
  refine (ffloor_z Zan.out Zad.out (by decide) HD.out).mono ?_
  rintro e w3 ⟨r0, rfl, m0, b⟩
  obtain ⟨ng, xg, adg, qg, rfl, -, -, -, -, -⟩ := id m0
  replace Zan := hid (Zan.out.now b)
  replace Zad := hid (Zad.out.now b)
  replace Zk := hid (Zk.out.now b)
  replace Pa := hid (Pa.out.step b)
  replace Pk := hid (Pk.out.step b)
  replace G := hid (below_step G.out b)
  have lz4 := (show Below _ _ _ from b).size
  have Zg := hid m0
  clear b m0
  obtain ⟨V5, hW⟩ : ∃ V5, w3.alloc (duo (.bool ng) (.slice adg xg.length qg)) = V5 := ⟨_, rfl⟩
  obtain ⟨kW, sz5⟩ := alloc1 w3 (duo (.bool ng) (.slice adg xg.length qg))
  rw [hW] at kW sz5
  replace Zan := hid (Zan.out.now kW)
  replace Zad := hid (Zad.out.now kW)
  replace Zk := hid (Zk.out.now kW)
  replace Zg := hid (Zg.out.now kW)
  replace Pa := hid (Pa.out.step kW)
  replace Pk := hid (Pk.out.step kW)
  replace G := hid (below_step G.out kW)
  have lz6 := (show Below _ _ _ from kW).size
  have PGf : Hid (Duo V5 (w3.heap.size) (.bool ng) (.slice adg xg.length qg)) := by unfold Hid; rw [← hW]; exact duo_at (by simp)
  clear kW
  have ca0 := (Pa.out.at (i := 0) rfl)
  have ca1 := (Pa.out.at (i := 1) rfl)
  have ca2 := (Pa.out.at (i := 2) rfl)
  have ca3 := (Pa.out.at (i := 3) rfl)
  rw [← hW] at ca0 ca1 ca2 ca3
  have EW := hid hW
  clear hW
  go_wp2_with fail
  rw [EW.out]
  clear EW
  clear ca0 ca1 ca2 ca3
  refine (fnear_z Zan.out Zad.out (by decide) HD.out).mono ?_
  rintro e w7 ⟨vm, nr, r0, rfl, m0, b⟩
  obtain ⟨nh, xh, adh, qh, rfl, -, -, -, -, -⟩ := id m0
  have NR := hid nr
  clear nr
  replace Zan := hid (Zan.out.now b)
  replace Zad := hid (Zad.out.now b)
  replace Zk := hid (Zk.out.now b)
  replace Zg := hid (Zg.out.now b)
  replace Pa := hid (Pa.out.step b)
  replace Pk := hid (Pk.out.step b)
  replace PGf := hid (PGf.out.step b)
  replace G := hid (below_step G.out b)
  have lz8 := (show Below _ _ _ from b).size
  have Zh := hid m0
  clear b m0
  obtain ⟨V9, hW⟩ : ∃ V9, w7.alloc (duo (.bool nh) (.slice adh xh.length qh)) = V9 := ⟨_, rfl⟩
  obtain ⟨kW, sz9⟩ := alloc1 w7 (duo (.bool nh) (.slice adh xh.length qh))
  rw [hW] at kW sz9
  replace Zan := hid (Zan.out.now kW)
  replace Zad := hid (Zad.out.now kW)
  replace Zk := hid (Zk.out.now kW)
  replace Zg := hid (Zg.out.now kW)
  replace Zh := hid (Zh.out.now kW)
  replace Pa := hid (Pa.out.step kW)
  replace Pk := hid (Pk.out.step kW)
  replace PGf := hid (PGf.out.step kW)
  replace G := hid (below_step G.out kW)
  have lz10 := (show Below _ _ _ from kW).size
  have PHf : Hid (Duo V9 (w7.heap.size) (.bool nh) (.slice adh xh.length qh)) := by unfold Hid; rw [← hW]; exact duo_at (by simp)
  clear kW
  have ca0 := (Pa.out.at (i := 0) rfl)
  have ca1 := (Pa.out.at (i := 1) rfl)
  have ca2 := (Pa.out.at (i := 2) rfl)
  have ca3 := (Pa.out.at (i := 3) rfl)
  rw [← hW] at ca0 ca1 ca2 ca3
  have EW := hid hW
  clear hW
  go_wp2_with fail
  rw [EW.out]
  clear EW
  clear ca0 ca1 ca2 ca3
  refine (is8_yes Zan.out Zad.out HD.out).mono ?_
  rintro e w11 ⟨rfl, b⟩
  replace Zan := hid (Zan.out.now b)
  replace Zad := hid (Zad.out.now b)
  replace Zk := hid (Zk.out.now b)
  replace Zg := hid (Zg.out.now b)
  replace Zh := hid (Zh.out.now b)
  replace Pa := hid (Pa.out.step b)
  replace Pk := hid (Pk.out.step b)
  replace PGf := hid (PGf.out.step b)
  replace PHf := hid (PHf.out.step b)
  replace G := hid (below_step G.out b)
  have lz12 := (show Below _ _ _ from b).size
  clear b 
  go_wp2_with fail
  refine (of_z (n := 1) (by decide) (by decide) _).mono ?_
  rintro e w13 ⟨r0, rfl, m0, b⟩
  obtain ⟨no, xo, ado, qo, rfl, -, -, -, -, -⟩ := id m0
  replace Zan := hid (Zan.out.now b)
  replace Zad := hid (Zad.out.now b)
  replace Zk := hid (Zk.out.now b)
  replace Zg := hid (Zg.out.now b)
  replace Zh := hid (Zh.out.now b)
  replace Pa := hid (Pa.out.step b)
  replace Pk := hid (Pk.out.step b)
  replace PGf := hid (PGf.out.step b)
  replace PHf := hid (PHf.out.step b)
  replace G := hid (below_step G.out b)
  have lz14 := (show Below _ _ _ from b).size
  have Zo := hid m0
  clear b m0
  obtain ⟨V15, hW⟩ : ∃ V15, w13.alloc (duo (.bool no) (.slice ado xo.length qo)) = V15 := ⟨_, rfl⟩
  obtain ⟨kW, sz15⟩ := alloc1 w13 (duo (.bool no) (.slice ado xo.length qo))
  rw [hW] at kW sz15
  replace Zan := hid (Zan.out.now kW)
  replace Zad := hid (Zad.out.now kW)
  replace Zk := hid (Zk.out.now kW)
  replace Zg := hid (Zg.out.now kW)
  replace Zh := hid (Zh.out.now kW)
  replace Zo := hid (Zo.out.now kW)
  replace Pa := hid (Pa.out.step kW)
  replace Pk := hid (Pk.out.step kW)
  replace PGf := hid (PGf.out.step kW)
  replace PHf := hid (PHf.out.step kW)
  replace G := hid (below_step G.out kW)
  have lz16 := (show Below _ _ _ from kW).size
  have PO : Hid (Duo V15 (w13.heap.size) (.bool no) (.slice ado xo.length qo)) := by unfold Hid; rw [← hW]; exact duo_at (by simp)
  clear kW
  have cGf0 := PGf.out.c0
  have cGf1 := PGf.out.c1
  have cO0 := PO.out.c0
  have cO1 := PO.out.c1
  have ca0 := (Pa.out.at (i := 0) rfl)
  have ca1 := (Pa.out.at (i := 1) rfl)
  have ca2 := (Pa.out.at (i := 2) rfl)
  have ca3 := (Pa.out.at (i := 3) rfl)
  rw [← hW] at cGf0 cGf1 cO0 cO1 ca0 ca1 ca2 ca3
  have EW := hid hW
  clear hW
  go_wp2_with fail
  rw [EW.out]
  clear EW
  clear cGf0 cGf1 cO0 cO1 ca0 ca1 ca2 ca3
  refine (fcmp_z (k := 1048580) (Zg.out.zi.more (by decide)) (Zo.out.zi.more (by decide)) (Zan.out.more (by decide)) (Zad.out.more (by decide)) (by decide) (by decide) HD.out E1.out).mono ?_
  rintro e w17 ⟨rfl, b⟩
  replace Zan := hid (Zan.out.now b)
  replace Zad := hid (Zad.out.now b)
  replace Zk := hid (Zk.out.now b)
  replace Zg := hid (Zg.out.now b)
  replace Zh := hid (Zh.out.now b)
  replace Zo := hid (Zo.out.now b)
  replace Pa := hid (Pa.out.step b)
  replace Pk := hid (Pk.out.step b)
  replace PGf := hid (PGf.out.step b)
  replace PHf := hid (PHf.out.step b)
  replace PO := hid (PO.out.step b)
  replace G := hid (below_step G.out b)
  have lz18 := (show Below _ _ _ from b).size
  clear b 
  go_wp2_with fail
  refine wp_region_tail (fun w' => w'.cell? ⟨w3.heap.size, 0, none⟩ = some (.bool ng) ∧ w'.cell? ⟨w3.heap.size, 1, none⟩ = some (.slice adg xg.length qg) ∧ w'.cell? ⟨w13.heap.size, 0, none⟩ = some (.bool no) ∧ w'.cell? ⟨w13.heap.size, 1, none⟩ = some (.slice ado xo.length qo) ∧ w'.cell? ⟨w.heap.size, 0, none⟩ = some (.bool nan) ∧ w'.cell? ⟨w.heap.size, 1, none⟩ = some (.slice adan xan.length can) ∧ w'.cell? ⟨w.heap.size, 2, none⟩ = some (.bool nad) ∧ w'.cell? ⟨w.heap.size, 3, none⟩ = some (.slice adad xad.length cad)) 11 (by kernel_rfl) ?_
  obtain ⟨D19, hD⟩ : ∃ D19, w17.drew = D19 := ⟨_, rfl⟩
  have b : Below w17.heap.size w17 D19 := by rw [← hD]; exact (Below.refl _ _).drew
  rw [hD]
  clear hD
  replace Zan := hid (Zan.out.now b)
  replace Zad := hid (Zad.out.now b)
  replace Zk := hid (Zk.out.now b)
  replace Zg := hid (Zg.out.now b)
  replace Zh := hid (Zh.out.now b)
  replace Zo := hid (Zo.out.now b)
  replace Pa := hid (Pa.out.step b)
  replace Pk := hid (Pk.out.step b)
  replace PGf := hid (PGf.out.step b)
  replace PHf := hid (PHf.out.step b)
  replace PO := hid (PO.out.step b)
  replace G := hid (below_step G.out b)
  have lz20 := (show Below _ _ _ from b).size
  clear b
  refine wpAnyT_take (i := 0) (oi := { dst := some 56, op := Op.load 24 (Operand.tmp 5), type := 24, pos := "outright.go:108", after := #[], guard := none }) (v := (.agg #[(.bool ng), (.slice adg xg.length qg)])) rfl (by kernel_rfl) (fun _ _ _ h => h) (Or.inl ⟨by rfl, ?_⟩) ⟨PGf.out.c0, PGf.out.c1, PO.out.c0, PO.out.c1, (Pa.out.at (i := 0) rfl), (Pa.out.at (i := 1) rfl), (Pa.out.at (i := 2) rfl), (Pa.out.at (i := 3) rfl)⟩ ?_
  · intro w hSw
    (try dsimp only at hSw)
    go_simp
  simp only [Act.put, List.setIfInBounds_toArray, List.set_cons_zero, List.set_cons_succ]
  refine wpAnyT_take (i := 1) (oi := { dst := some 57, op := Op.load 24 (Operand.tmp 9), type := 24, pos := "outright.go:108", after := #[], guard := none }) (v := (.agg #[(.bool no), (.slice ado xo.length qo)])) rfl (by kernel_rfl) (fun _ _ _ h => h) (Or.inl ⟨by rfl, ?_⟩) ⟨PGf.out.c0, PGf.out.c1, PO.out.c0, PO.out.c1, (Pa.out.at (i := 0) rfl), (Pa.out.at (i := 1) rfl), (Pa.out.at (i := 2) rfl), (Pa.out.at (i := 3) rfl)⟩ ?_
  · intro w hSw
    (try dsimp only at hSw)
    go_simp
  simp only [Act.put, List.setIfInBounds_toArray, List.set_cons_zero, List.set_cons_succ]
  refine wpAnyT_take (i := 3) (oi := { dst := some 59, op := Op.load 24 (Operand.tmp 9), type := 24, pos := "outright.go:108", after := #[], guard := none }) (v := (.agg #[(.bool no), (.slice ado xo.length qo)])) rfl (by kernel_rfl) (fun _ _ _ h => h) (Or.inl ⟨by rfl, ?_⟩) ⟨PGf.out.c0, PGf.out.c1, PO.out.c0, PO.out.c1, (Pa.out.at (i := 0) rfl), (Pa.out.at (i := 1) rfl), (Pa.out.at (i := 2) rfl), (Pa.out.at (i := 3) rfl)⟩ ?_
  · intro w hSw
    (try dsimp only at hSw)
    go_simp
  simp only [Act.put, List.setIfInBounds_toArray, List.set_cons_zero, List.set_cons_succ]
  refine wpAnyT_take (i := 5) (oi := { dst := some 61, op := Op.load 26 (Operand.tmp 2), type := 26, pos := "outright.go:108", after := #[], guard := none }) (v := (.agg #[(.bool nan), (.slice adan xan.length can), (.bool nad), (.slice adad xad.length cad)])) rfl (by kernel_rfl) (fun _ _ _ h => h) (Or.inl ⟨by rfl, ?_⟩) ⟨PGf.out.c0, PGf.out.c1, PO.out.c0, PO.out.c1, (Pa.out.at (i := 0) rfl), (Pa.out.at (i := 1) rfl), (Pa.out.at (i := 2) rfl), (Pa.out.at (i := 3) rfl)⟩ ?_
  · intro w hSw
    (try dsimp only at hSw)
    go_simp
  simp only [Act.put, List.setIfInBounds_toArray, List.set_cons_zero, List.set_cons_succ]
  refine wpAnyT_one (i := 2) (o := { dst := some 58, op := Op.call { callee := Callee.value (Operand.func 17), args := #[Operand.tmp 56, Operand.tmp 57], argTypes := #[24, 24] }, type := 24, pos := "outright.go:108", after := #[{ on := 0, ground := Ground.data }, { on := 1, ground := Ground.data }], guard := none }) (by kernel_rfl) rfl (fun K hK => ?_)
  go_simp
  go_at_call 17
  refine (add_z Zg.out.zi Zo.out.zi (by decide) (by decide)).mono ?_
  rintro e w21 ⟨r0, rfl, m0, b⟩
  obtain ⟨nu, xu, adu, qu, rfl, -, -, -, -, -⟩ := id m0
  replace Zan := hid (Zan.out.now b)
  replace Zad := hid (Zad.out.now b)
  replace Zk := hid (Zk.out.now b)
  replace Zg := hid (Zg.out.now b)
  replace Zh := hid (Zh.out.now b)
  replace Zo := hid (Zo.out.now b)
  replace Pa := hid (Pa.out.step b)
  replace Pk := hid (Pk.out.step b)
  replace PGf := hid (PGf.out.step b)
  replace PHf := hid (PHf.out.step b)
  replace PO := hid (PO.out.step b)
  replace G := hid (below_step G.out b)
  have lz22 := (show Below _ _ _ from b).size
  have Zu := hid m0
  clear b m0
  refine hK.out _ _ (fun _ => ⟨PGf.out.c0, PGf.out.c1, PO.out.c0, PO.out.c1, (Pa.out.at (i := 0) rfl), (Pa.out.at (i := 1) rfl), (Pa.out.at (i := 2) rfl), (Pa.out.at (i := 3) rfl)⟩) ?_
  clear hK
  refine wpAnyT_take (i := 4) (oi := { dst := some 60, op := Op.build 26 #[(0, Operand.tmp 58), (1, Operand.tmp 59)], type := 26, pos := "outright.go:108", after := #[{ on := 2, ground := Ground.data }, { on := 3, ground := Ground.data }], guard := none }) (v := (.agg #[.bool nu, .slice adu xu.length qu, (.bool no), (.slice ado xo.length qo)])) rfl (by kernel_rfl) (fun _ _ _ h => h) (Or.inl ⟨by rfl, ?_⟩) ⟨PGf.out.c0, PGf.out.c1, PO.out.c0, PO.out.c1, (Pa.out.at (i := 0) rfl), (Pa.out.at (i := 1) rfl), (Pa.out.at (i := 2) rfl), (Pa.out.at (i := 3) rfl)⟩ ?_
  · intro w hSw
    (try dsimp only at hSw)
    go_simp
  simp only [Act.put, List.setIfInBounds_toArray, List.set_cons_zero, List.set_cons_succ]
  refine wpAnyT_one (i := 6) (o := { dst := some 62, op := Op.call { callee := Callee.value (Operand.func 24), args := #[Operand.tmp 60, Operand.tmp 61], argTypes := #[26, 26] }, type := 41, pos := "outright.go:108", after := #[{ on := 4, ground := Ground.data }, { on := 5, ground := Ground.data }, { on := 2, ground := Ground.chain }], guard := none }) (by kernel_rfl) rfl (fun K hK => ?_)
  go_simp
  go_at_call 24
  refine (fcmp_z (k := 1048580) (Zu.out.zi.more (by decide)) (Zo.out.zi.more (by decide)) (Zan.out.more (by decide)) (Zad.out.more (by decide)) (by decide) (by decide) HD.out E2.out).mono ?_
  rintro e w23 ⟨rfl, b⟩
  replace Zan := hid (Zan.out.now b)
  replace Zad := hid (Zad.out.now b)
  replace Zk := hid (Zk.out.now b)
  replace Zg := hid (Zg.out.now b)
  replace Zh := hid (Zh.out.now b)
  replace Zo := hid (Zo.out.now b)
  replace Zu := hid (Zu.out.now b)
  replace Pa := hid (Pa.out.step b)
  replace Pk := hid (Pk.out.step b)
  replace PGf := hid (PGf.out.step b)
  replace PHf := hid (PHf.out.step b)
  replace PO := hid (PO.out.step b)
  replace G := hid (below_step G.out b)
  have lz24 := (show Below _ _ _ from b).size
  clear b 
  refine hK.out _ _ (fun _ => ⟨PGf.out.c0, PGf.out.c1, PO.out.c0, PO.out.c1, (Pa.out.at (i := 0) rfl), (Pa.out.at (i := 1) rfl), (Pa.out.at (i := 2) rfl), (Pa.out.at (i := 3) rfl)⟩) ?_
  clear hK
  refine wpAnyT_take (i := 7) (oi := { dst := some 55, op := Op.move (Operand.tmp 62), type := 41, pos := "outright.go:108", after := #[{ on := 6, ground := Ground.data }], guard := none }) (v := (.tuple #[(.int .i64 C2), (.int .i64 0)])) rfl (by kernel_rfl) (fun _ _ _ h => h) (Or.inl ⟨by rfl, ?_⟩) ⟨PGf.out.c0, PGf.out.c1, PO.out.c0, PO.out.c1, (Pa.out.at (i := 0) rfl), (Pa.out.at (i := 1) rfl), (Pa.out.at (i := 2) rfl), (Pa.out.at (i := 3) rfl)⟩ ?_
  · intro w hSw
    (try dsimp only at hSw)
    go_simp
  simp only [Act.put, List.setIfInBounds_toArray, List.set_cons_zero, List.set_cons_succ]
  refine wpAnyT_take (i := 8) (oi := { dst := some 63, op := Op.extract (Operand.tmp 55) 0, type := 3, pos := "outright.go:108", after := #[{ on := 7, ground := Ground.data }], guard := none }) (v := (.int .i64 C2)) rfl (by kernel_rfl) (fun _ _ _ h => h) (Or.inl ⟨by rfl, ?_⟩) ⟨PGf.out.c0, PGf.out.c1, PO.out.c0, PO.out.c1, (Pa.out.at (i := 0) rfl), (Pa.out.at (i := 1) rfl), (Pa.out.at (i := 2) rfl), (Pa.out.at (i := 3) rfl)⟩ ?_
  · intro w hSw
    (try dsimp only at hSw)
    go_simp
  simp only [Act.put, List.setIfInBounds_toArray, List.set_cons_zero, List.set_cons_succ]
  refine wpAnyT_take (i := 9) (oi := { dst := some 64, op := Op.extract (Operand.tmp 55) 1, type := 28, pos := "outright.go:108", after := #[{ on := 7, ground := Ground.data }, { on := 10, ground := Ground.gcOnly Departure.lateStores }], guard := none }) (v := (.int .i64 0)) rfl (by kernel_rfl) (fun _ _ _ h => h) (Or.inl ⟨by rfl, ?_⟩) ⟨PGf.out.c0, PGf.out.c1, PO.out.c0, PO.out.c1, (Pa.out.at (i := 0) rfl), (Pa.out.at (i := 1) rfl), (Pa.out.at (i := 2) rfl), (Pa.out.at (i := 3) rfl)⟩ ?_
  · intro w hSw
    (try dsimp only at hSw)
    go_simp
  simp only [Act.put, List.setIfInBounds_toArray, List.set_cons_zero, List.set_cons_succ]
  refine wpAnyT_take (i := 10) (oi := { dst := some 12, op := Op.assign (Operand.tmp 63), type := 3, pos := "outright.go:108", after := #[{ on := 8, ground := Ground.data }, { on := 6, ground := Ground.chain }, { on := 0, ground := Ground.phase }, { on := 1, ground := Ground.phase }, { on := 2, ground := Ground.phase }, { on := 3, ground := Ground.phase }, { on := 4, ground := Ground.phase }, { on := 5, ground := Ground.phase }, { on := 6, ground := Ground.phase }, { on := 7, ground := Ground.phase }, { on := 8, ground := Ground.phase }, { on := 9, ground := Ground.textOnly Departure.lateStores }], guard := none }) (v := (.int .i64 C2)) rfl (by kernel_rfl) (fun _ _ _ h => h) (Or.inl ⟨by rfl, ?_⟩) ⟨PGf.out.c0, PGf.out.c1, PO.out.c0, PO.out.c1, (Pa.out.at (i := 0) rfl), (Pa.out.at (i := 1) rfl), (Pa.out.at (i := 2) rfl), (Pa.out.at (i := 3) rfl)⟩ ?_
  · intro w hSw
    (try dsimp only at hSw)
    go_simp
  simp only [Act.put, List.setIfInBounds_toArray, List.set_cons_zero, List.set_cons_succ]
  refine wpAnyT_one (i := 11) (o := { dst := some 13, op := Op.assign (Operand.tmp 64), type := 28, pos := "outright.go:108", after := #[{ on := 9, ground := Ground.data }, { on := 10, ground := Ground.chain }, { on := 0, ground := Ground.phase }, { on := 1, ground := Ground.phase }, { on := 2, ground := Ground.phase }, { on := 3, ground := Ground.phase }, { on := 4, ground := Ground.phase }, { on := 5, ground := Ground.phase }, { on := 6, ground := Ground.phase }, { on := 7, ground := Ground.phase }, { on := 8, ground := Ground.phase }, { on := 9, ground := Ground.phase }, { on := 10, ground := Ground.phase }], guard := none }) (by kernel_rfl) rfl (fun K hK => ?_)
  go_simp
  refine hK.out _ _ (fun h => absurd h (by decide)) ?_
  clear hK
  try simp only [Act.put]
  refine wpAnyT_done (by kernel_rfl) ?_ _
  clear Zu
  have ca0 := (Pa.out.at (i := 0) rfl)
  have ca1 := (Pa.out.at (i := 1) rfl)
  have ca2 := (Pa.out.at (i := 2) rfl)
  have ca3 := (Pa.out.at (i := 3) rfl)
  have cHf0 := PHf.out.c0
  have cHf1 := PHf.out.c1
  have cO0 := PO.out.c0
  have cO1 := PO.out.c1
  go_wp2_with fail
  clear ca0 ca1 ca2 ca3 cHf0 cHf1 cO0 cO1
  obtain ⟨tg, eqg⟩ : ∃ q, q = Rat.divInt AN AD - Rat.divInt vm 1 := ⟨_, rfl⟩
  have EQg := hid eqg
  clear eqg
  refine (fsubq (k := 1048580) (l := 2097161) (Zan.out.more (by decide)) (Zad.out.more (by decide)) (Zh.out.zi.more (by decide)) (Zo.out.zi.more (by decide)) HD.out (by decide) rfl rfl EQg.out (by decide) (by decide)).mono ?_
  rintro e w25 ⟨r0, r1, r2, r3, rfl, m0, m1, b⟩
  obtain ⟨npn, xpn, adpn, qpn, rfl, rfl⟩ := m0.zi.comp
  obtain ⟨npd, xpd, adpd, qpd, rfl, rfl⟩ := m1.zi.comp
  replace Zan := hid (Zan.out.now b)
  replace Zad := hid (Zad.out.now b)
  replace Zk := hid (Zk.out.now b)
  replace Zg := hid (Zg.out.now b)
  replace Zh := hid (Zh.out.now b)
  replace Zo := hid (Zo.out.now b)
  replace Pa := hid (Pa.out.step b)
  replace Pk := hid (Pk.out.step b)
  replace PGf := hid (PGf.out.step b)
  replace PHf := hid (PHf.out.step b)
  replace PO := hid (PO.out.step b)
  replace G := hid (below_step G.out b)
  have lz26 := (show Below _ _ _ from b).size
  have Zpn := hid m0
  have Zpd := hid m1
  clear b m0 m1
  obtain ⟨V27, hW⟩ : ∃ V27, w25.alloc (.cells #[(.bool npn), (.slice adpn xpn.length qpn), (.bool npd), (.slice adpd xpd.length qpd)] 26) = V27 := ⟨_, rfl⟩
  obtain ⟨kW, sz27⟩ := alloc1 w25 (.cells #[(.bool npn), (.slice adpn xpn.length qpn), (.bool npd), (.slice adpd xpd.length qpd)] 26)
  rw [hW] at kW sz27
  replace Zan := hid (Zan.out.now kW)
  replace Zad := hid (Zad.out.now kW)
  replace Zk := hid (Zk.out.now kW)
  replace Zg := hid (Zg.out.now kW)
  replace Zh := hid (Zh.out.now kW)
  replace Zo := hid (Zo.out.now kW)
  replace Zpn := hid (Zpn.out.now kW)
  replace Zpd := hid (Zpd.out.now kW)
  replace Pa := hid (Pa.out.step kW)
  replace Pk := hid (Pk.out.step kW)
  replace PGf := hid (PGf.out.step kW)
  replace PHf := hid (PHf.out.step kW)
  replace PO := hid (PO.out.step kW)
  replace G := hid (below_step G.out kW)
  have lz28 := (show Below _ _ _ from kW).size
  have PP : Hid (Cel V27 (w25.heap.size) 26 [(.bool npn), (.slice adpn xpn.length qpn), (.bool npd), (.slice adpd xpd.length qpd)]) := by unfold Hid; rw [← hW]; exact cel_at (by simp)
  clear kW
  have CG : Hid (tg.num * AD = (AN - vm * AD) * (tg.den : Int)) := by
    have h := cross_q (q := tg) (N := AN * 1 + -vm * AD) (D := AD * 1) (by rw [Int.mul_one]; exact HD.out) (by rw [EQg.out, ← sub_as HD.out (by decide) rfl rfl])
    rw [sub_one, Int.mul_one] at h
    exact h
  obtain ⟨C3, e3⟩ : ∃ c, c = cmpI (tg.den : Int) 0 * cmpI 2 0 * cmpI ((tg.num.natAbs : Int) * 2) (1 * (tg.den : Int)) := ⟨_, rfl⟩
  have c3 : ¬ 0 < C3 := by rw [e3]; exact (cmp_gap HD.out NR.out CG.out).1
  have C0 : Hid (C3 = 0 → vm % 2 = 0) := by unfold Hid; rw [e3]; exact (cmp_gap HD.out NR.out CG.out).2
  have E3 := hid e3
  clear e3
  have EW := hid hW
  clear hW
  go_wp2_with fail
  rw [EW.out]
  clear EW
  go_cut [16] from 25 (fun s1 wx => MetFi V27 wx s1 ((tg.num.natAbs : Int)) ((tg.den : Int)) (2097161))
  case first =>
    have GR : Hid (Below V27.heap.size V27 V27) := Below.refl _ _
    refine wp_region_tail (fun w' => w'.cell? ⟨w25.heap.size, 0, none⟩ = some (.bool npn) ∧ w'.cell? ⟨w25.heap.size, 1, none⟩ = some (.slice adpn xpn.length qpn) ∧ w'.cell? ⟨w25.heap.size, 2, none⟩ = some (.bool npd) ∧ w'.cell? ⟨w25.heap.size, 3, none⟩ = some (.slice adpd xpd.length qpd)) 7 (by kernel_rfl) ?_
    obtain ⟨D29, hD⟩ : ∃ D29, V27.drew = D29 := ⟨_, rfl⟩
    have b : Below V27.heap.size V27 D29 := by rw [← hD]; exact (Below.refl _ _).drew
    rw [hD]
    clear hD
    replace Zan := hid (Zan.out.now b)
    replace Zad := hid (Zad.out.now b)
    replace Zk := hid (Zk.out.now b)
    replace Zg := hid (Zg.out.now b)
    replace Zh := hid (Zh.out.now b)
    replace Zo := hid (Zo.out.now b)
    replace Zpn := hid (Zpn.out.now b)
    replace Zpd := hid (Zpd.out.now b)
    replace Pa := hid (Pa.out.step b)
    replace Pk := hid (Pk.out.step b)
    replace PGf := hid (PGf.out.step b)
    replace PHf := hid (PHf.out.step b)
    replace PO := hid (PO.out.step b)
    replace PP := hid (PP.out.step b)
    replace G := hid (below_step G.out b)
    replace GR := hid (below_step GR.out b)
    have lz30 := (show Below _ _ _ from b).size
    clear b
    refine wpAnyT_take (i := 0) (oi := { dst := some 87, op := Op.fieldAddr 26 (Operand.tmp 14) 0, type := 0, pos := "outright.go:113", after := #[], guard := none }) (v := (.pointer (some ⟨w25.heap.size, 0, none⟩))) rfl (by kernel_rfl) (fun _ _ _ h => h) (Or.inl ⟨by rfl, ?_⟩) ⟨(PP.out.at (i := 0) rfl), (PP.out.at (i := 1) rfl), (PP.out.at (i := 2) rfl), (PP.out.at (i := 3) rfl)⟩ ?_
    · intro w hSw
      (try dsimp only at hSw)
      go_simp
    simp only [Act.put, List.setIfInBounds_toArray, List.set_cons_zero, List.set_cons_succ]
    refine wpAnyT_take (i := 1) (oi := { dst := some 88, op := Op.load 24 (Operand.tmp 87), type := 24, pos := "outright.go:113", after := #[{ on := 0, ground := Ground.data }], guard := none }) (v := (.agg #[(.bool npn), (.slice adpn xpn.length qpn)])) rfl (by kernel_rfl) (fun _ _ _ h => h) (Or.inl ⟨by rfl, ?_⟩) ⟨(PP.out.at (i := 0) rfl), (PP.out.at (i := 1) rfl), (PP.out.at (i := 2) rfl), (PP.out.at (i := 3) rfl)⟩ ?_
    · intro w hSw
      (try dsimp only at hSw)
      go_simp
    simp only [Act.put, List.setIfInBounds_toArray, List.set_cons_zero, List.set_cons_succ]
    refine wpAnyT_take (i := 3) (oi := { dst := some 90, op := Op.fieldAddr 26 (Operand.tmp 14) 1, type := 0, pos := "outright.go:113", after := #[], guard := none }) (v := (.pointer (some ⟨w25.heap.size, 2, none⟩))) rfl (by kernel_rfl) (fun _ _ _ h => h) (Or.inl ⟨by rfl, ?_⟩) ⟨(PP.out.at (i := 0) rfl), (PP.out.at (i := 1) rfl), (PP.out.at (i := 2) rfl), (PP.out.at (i := 3) rfl)⟩ ?_
    · intro w hSw
      (try dsimp only at hSw)
      go_simp
    simp only [Act.put, List.setIfInBounds_toArray, List.set_cons_zero, List.set_cons_succ]
    refine wpAnyT_take (i := 4) (oi := { dst := some 91, op := Op.load 24 (Operand.tmp 90), type := 24, pos := "outright.go:113", after := #[{ on := 3, ground := Ground.data }], guard := none }) (v := (.agg #[(.bool npd), (.slice adpd xpd.length qpd)])) rfl (by kernel_rfl) (fun _ _ _ h => h) (Or.inl ⟨by rfl, ?_⟩) ⟨(PP.out.at (i := 0) rfl), (PP.out.at (i := 1) rfl), (PP.out.at (i := 2) rfl), (PP.out.at (i := 3) rfl)⟩ ?_
    · intro w hSw
      (try dsimp only at hSw)
      go_simp
    simp only [Act.put, List.setIfInBounds_toArray, List.set_cons_zero, List.set_cons_succ]
    refine wpAnyT_two (i := 2) (j := 6) (oi := { dst := some 89, op := Op.call { callee := Callee.value (Operand.func 25), args := #[Operand.tmp 88], argTypes := #[24] }, type := 24, pos := "outright.go:113", after := #[{ on := 1, ground := Ground.data }], guard := none }) (oj := { dst := some 16, op := Op.alloc 26, type := 0, pos := "outright.go:113", after := #[], guard := none }) (by kernel_rfl) rfl rfl (fun K hK => ?_) (fun K hK => ?_)
    · skip
      go_simp
      go_at_call 25
      refine (abs_z Zpn.out.zi).mono ?_
      rintro e w31 ⟨r0, rfl, m0, b⟩
      obtain ⟨ny, xy, ady, qy, rfl, -, -, -, -, -⟩ := id m0
      replace Zan := hid (Zan.out.now b)
      replace Zad := hid (Zad.out.now b)
      replace Zk := hid (Zk.out.now b)
      replace Zg := hid (Zg.out.now b)
      replace Zh := hid (Zh.out.now b)
      replace Zo := hid (Zo.out.now b)
      replace Zpn := hid (Zpn.out.now b)
      replace Zpd := hid (Zpd.out.now b)
      replace Pa := hid (Pa.out.step b)
      replace Pk := hid (Pk.out.step b)
      replace PGf := hid (PGf.out.step b)
      replace PHf := hid (PHf.out.step b)
      replace PO := hid (PO.out.step b)
      replace PP := hid (PP.out.step b)
      replace G := hid (below_step G.out b)
      replace GR := hid (below_step GR.out b)
      have lz32 := (show Below _ _ _ from b).size
      have Zy := hid m0
      clear b m0
      refine hK.out _ _ (fun _ => ⟨(PP.out.at (i := 0) rfl), (PP.out.at (i := 1) rfl), (PP.out.at (i := 2) rfl), (PP.out.at (i := 3) rfl)⟩) ?_
      clear hK
      refine wpAnyT_take (i := 5) (oi := { dst := some 92, op := Op.build 26 #[(0, Operand.tmp 89), (1, Operand.tmp 91)], type := 26, pos := "outright.go:113", after := #[{ on := 2, ground := Ground.data }, { on := 4, ground := Ground.data }], guard := none }) (v := (.agg #[.bool ny, .slice ady xy.length qy, (.bool npd), (.slice adpd xpd.length qpd)])) rfl (by kernel_rfl) (fun _ _ _ h => h) (Or.inl ⟨by rfl, ?_⟩) ⟨(PP.out.at (i := 0) rfl), (PP.out.at (i := 1) rfl), (PP.out.at (i := 2) rfl), (PP.out.at (i := 3) rfl)⟩ ?_
      · intro w hSw
        (try dsimp only at hSw)
        go_simp
      simp only [Act.put, List.setIfInBounds_toArray, List.set_cons_zero, List.set_cons_succ]
      refine wpAnyT_one (i := 6) (o := { dst := some 16, op := Op.alloc 26, type := 0, pos := "outright.go:113", after := #[], guard := none }) (by kernel_rfl) rfl (fun K hK => ?_)
      go_simp
      obtain ⟨V33, hW⟩ : ∃ V33, w31.alloc (.cells #[(.bool false), (.slice none 0 0), (.bool false), (.slice none 0 0)] 26) = V33 := ⟨_, rfl⟩
      obtain ⟨kW, sz33⟩ := alloc1 w31 (.cells #[(.bool false), (.slice none 0 0), (.bool false), (.slice none 0 0)] 26)
      rw [hW] at kW sz33
      replace sz33 : w31.heap.size < V33.heap.size := by omega
      replace Zan := hid (Zan.out.now kW)
      replace Zad := hid (Zad.out.now kW)
      replace Zk := hid (Zk.out.now kW)
      replace Zg := hid (Zg.out.now kW)
      replace Zh := hid (Zh.out.now kW)
      replace Zo := hid (Zo.out.now kW)
      replace Zpn := hid (Zpn.out.now kW)
      replace Zpd := hid (Zpd.out.now kW)
      replace Zy := hid (Zy.out.now kW)
      replace Pa := hid (Pa.out.step kW)
      replace Pk := hid (Pk.out.step kW)
      replace PGf := hid (PGf.out.step kW)
      replace PHf := hid (PHf.out.step kW)
      replace PO := hid (PO.out.step kW)
      replace PP := hid (PP.out.step kW)
      replace G := hid (below_step G.out kW)
      replace GR := hid (below_step GR.out kW)
      have lz34 := (show Below _ _ _ from kW).size
      have PN16 : Hid (Cel V33 (w31.heap.size) 26 [(.bool false), (.slice none 0 0), (.bool false), (.slice none 0 0)]) := by unfold Hid; rw [← hW]; exact cel_at rfl
      rw [hW]
      clear hW kW
      refine hK.out _ _ (fun _ => ⟨(PP.out.at (i := 0) rfl), (PP.out.at (i := 1) rfl), (PP.out.at (i := 2) rfl), (PP.out.at (i := 3) rfl)⟩) ?_
      clear hK
      try simp only [Act.put]
      refine wpAnyT_one (i := 7) (o := { dst := none, op := Op.store 26 (Operand.tmp 16) (Operand.tmp 92), type := 0, pos := "outright.go:113", after := #[{ on := 6, ground := Ground.data }, { on := 5, ground := Ground.data }, { on := 2, ground := Ground.chain }, { on := 0, ground := Ground.phase }, { on := 1, ground := Ground.phase }, { on := 2, ground := Ground.phase }, { on := 3, ground := Ground.phase }, { on := 4, ground := Ground.phase }, { on := 5, ground := Ground.phase }, { on := 6, ground := Ground.phase }], guard := none }) (by kernel_rfl) rfl (fun K hK => ?_)
      have cN160 := (PN16.out.at (i := 0) rfl)
      have cN161 := (PN16.out.at (i := 1) rfl)
      have cN162 := (PN16.out.at (i := 2) rfl)
      have cN163 := (PN16.out.at (i := 3) rfl)
      have fN160 := PN16.out.fz 0
      have fN161 := PN16.out.fz 1
      have fN162 := PN16.out.fz 2
      have fN163 := PN16.out.fz 3
      go_simp
      clear cN160 cN161 cN162 cN163 fN160 fN161 fN162 fN163
      obtain ⟨V35, hW⟩ : ∃ V35, (((V33.setCell ⟨w31.heap.size, 0, none⟩ (.bool ny)).setCell ⟨w31.heap.size, 1, none⟩ (.slice ady xy.length qy)).setCell ⟨w31.heap.size, 2, none⟩ (.bool npd)).setCell ⟨w31.heap.size, 3, none⟩ (.slice adpd xpd.length qpd) = V35 := ⟨_, rfl⟩
      replace Zan := hid ((Zan.out).wk ((PN16.out).wk4 (.bool ny) (.slice ady xy.length qy) (.bool npd) (.slice adpd xpd.length qpd)))
      replace Zad := hid ((Zad.out).wk ((PN16.out).wk4 (.bool ny) (.slice ady xy.length qy) (.bool npd) (.slice adpd xpd.length qpd)))
      replace Zk := hid ((Zk.out).wk ((PN16.out).wk4 (.bool ny) (.slice ady xy.length qy) (.bool npd) (.slice adpd xpd.length qpd)))
      replace Zg := hid ((Zg.out).put4f (PN16.out) (.bool ny) (.slice ady xy.length qy) (.bool npd) (.slice adpd xpd.length qpd))
      replace Zh := hid ((Zh.out).put4f (PN16.out) (.bool ny) (.slice ady xy.length qy) (.bool npd) (.slice adpd xpd.length qpd))
      replace Zo := hid ((Zo.out).put4f (PN16.out) (.bool ny) (.slice ady xy.length qy) (.bool npd) (.slice adpd xpd.length qpd))
      replace Zpn := hid ((Zpn.out).put4f (PN16.out) (.bool ny) (.slice ady xy.length qy) (.bool npd) (.slice adpd xpd.length qpd))
      replace Zpd := hid ((Zpd.out).put4f (PN16.out) (.bool ny) (.slice ady xy.length qy) (.bool npd) (.slice adpd xpd.length qpd))
      replace Zy := hid ((Zy.out).put4f (PN16.out) (.bool ny) (.slice ady xy.length qy) (.bool npd) (.slice adpd xpd.length qpd))
      replace Pa := hid ((Pa.out).away4 (b' := w31.heap.size) (by omega) (.bool ny) (.slice ady xy.length qy) (.bool npd) (.slice adpd xpd.length qpd))
      replace Pk := hid ((Pk.out).away4 (b' := w31.heap.size) (by omega) (.bool ny) (.slice ady xy.length qy) (.bool npd) (.slice adpd xpd.length qpd))
      replace PGf := hid ((PGf.out).away4 (b' := w31.heap.size) (by omega) (.bool ny) (.slice ady xy.length qy) (.bool npd) (.slice adpd xpd.length qpd))
      replace PHf := hid ((PHf.out).away4 (b' := w31.heap.size) (by omega) (.bool ny) (.slice ady xy.length qy) (.bool npd) (.slice adpd xpd.length qpd))
      replace PO := hid ((PO.out).away4 (b' := w31.heap.size) (by omega) (.bool ny) (.slice ady xy.length qy) (.bool npd) (.slice adpd xpd.length qpd))
      replace PP := hid ((PP.out).away4 (b' := w31.heap.size) (by omega) (.bool ny) (.slice ady xy.length qy) (.bool npd) (.slice adpd xpd.length qpd))
      replace PN16 := hid ((PN16.out).put4 (.bool ny) (.slice ady xy.length qy) (.bool npd) (.slice adpd xpd.length qpd))
      replace G : Hid (Below w.heap.size w (((((V33.setCell ⟨w31.heap.size, 0, none⟩ (.bool ny)).setCell ⟨w31.heap.size, 1, none⟩ (.slice ady xy.length qy)).setCell ⟨w31.heap.size, 2, none⟩ (.bool npd)).setCell ⟨w31.heap.size, 3, none⟩ (.slice adpd xpd.length qpd)))) := bset (bset (bset (bset (G.out) (by omega)) (by omega)) (by omega)) (by omega)
      replace GR : Hid (Below V27.heap.size V27 (((((V33.setCell ⟨w31.heap.size, 0, none⟩ (.bool ny)).setCell ⟨w31.heap.size, 1, none⟩ (.slice ady xy.length qy)).setCell ⟨w31.heap.size, 2, none⟩ (.bool npd)).setCell ⟨w31.heap.size, 3, none⟩ (.slice adpd xpd.length qpd)))) := bset (bset (bset (bset (GR.out) (by omega)) (by omega)) (by omega)) (by omega)
      have sz35 : V35.heap.size = V33.heap.size := by rw [← hW]; simp
      dsimp only [put4] at Zan Zad Zk Zg Zh Zo Zpn Zpd Zy Pa Pk PGf PHf PO PP PN16
      rw [hW] at Zan Zad Zk Zg Zh Zo Zpn Zpd Zy Pa Pk PGf PHf PO PP PN16 G GR
      rw [hW]
      clear hW
      refine hK.out _ _ (fun h => absurd h (by decide)) ?_
      clear hK
      try simp only [Act.put]
      refine wpAnyT_done (by kernel_rfl) ?_ _
      go_wp2_with fail
      go_meet
      exact ⟨_, _, _, _, _, _, _, _, _, rfl, GR.out, by omega, PN16.out.blk, PN16.out, Zy.out.zi.more (by omega), Zpd.out.zi.more (by omega)⟩
    · skip
      go_simp
      obtain ⟨V36, hW⟩ : ∃ V36, D29.alloc (.cells #[(.bool false), (.slice none 0 0), (.bool false), (.slice none 0 0)] 26) = V36 := ⟨_, rfl⟩
      obtain ⟨kW, sz36⟩ := alloc1 D29 (.cells #[(.bool false), (.slice none 0 0), (.bool false), (.slice none 0 0)] 26)
      rw [hW] at kW sz36
      replace sz36 : D29.heap.size < V36.heap.size := by omega
      replace Zan := hid (Zan.out.now kW)
      replace Zad := hid (Zad.out.now kW)
      replace Zk := hid (Zk.out.now kW)
      replace Zg := hid (Zg.out.now kW)
      replace Zh := hid (Zh.out.now kW)
      replace Zo := hid (Zo.out.now kW)
      replace Zpn := hid (Zpn.out.now kW)
      replace Zpd := hid (Zpd.out.now kW)
      replace Pa := hid (Pa.out.step kW)
      replace Pk := hid (Pk.out.step kW)
      replace PGf := hid (PGf.out.step kW)
      replace PHf := hid (PHf.out.step kW)
      replace PO := hid (PO.out.step kW)
      replace PP := hid (PP.out.step kW)
      replace G := hid (below_step G.out kW)
      replace GR := hid (below_step GR.out kW)
      have lz37 := (show Below _ _ _ from kW).size
      have PN16 : Hid (Cel V36 (D29.heap.size) 26 [(.bool false), (.slice none 0 0), (.bool false), (.slice none 0 0)]) := by unfold Hid; rw [← hW]; exact cel_at rfl
      rw [hW]
      clear hW kW
      refine hK.out _ _ (fun _ => ⟨(PP.out.at (i := 0) rfl), (PP.out.at (i := 1) rfl), (PP.out.at (i := 2) rfl), (PP.out.at (i := 3) rfl)⟩) ?_
      clear hK
      try simp only [Act.put]
      refine wpAnyT_one (i := 2) (o := { dst := some 89, op := Op.call { callee := Callee.value (Operand.func 25), args := #[Operand.tmp 88], argTypes := #[24] }, type := 24, pos := "outright.go:113", after := #[{ on := 1, ground := Ground.data }], guard := none }) (by kernel_rfl) rfl (fun K hK => ?_)
      go_simp
      go_at_call 25
      refine (abs_z Zpn.out.zi).mono ?_
      rintro e w38 ⟨r0, rfl, m0, b⟩
      obtain ⟨ny, xy, ady, qy, rfl, -, -, -, -, -⟩ := id m0
      replace Zan := hid (Zan.out.now b)
      replace Zad := hid (Zad.out.now b)
      replace Zk := hid (Zk.out.now b)
      replace Zg := hid (Zg.out.now b)
      replace Zh := hid (Zh.out.now b)
      replace Zo := hid (Zo.out.now b)
      replace Zpn := hid (Zpn.out.now b)
      replace Zpd := hid (Zpd.out.now b)
      replace Pa := hid (Pa.out.step b)
      replace Pk := hid (Pk.out.step b)
      replace PGf := hid (PGf.out.step b)
      replace PHf := hid (PHf.out.step b)
      replace PO := hid (PO.out.step b)
      replace PP := hid (PP.out.step b)
      replace PN16 := hid (PN16.out.step b)
      replace G := hid (below_step G.out b)
      replace GR := hid (below_step GR.out b)
      have lz39 := (show Below _ _ _ from b).size
      have Zy := hid m0
      clear b m0
      refine hK.out _ _ (fun _ => ⟨(PP.out.at (i := 0) rfl), (PP.out.at (i := 1) rfl), (PP.out.at (i := 2) rfl), (PP.out.at (i := 3) rfl)⟩) ?_
      clear hK
      refine wpAnyT_take (i := 5) (oi := { dst := some 92, op := Op.build 26 #[(0, Operand.tmp 89), (1, Operand.tmp 91)], type := 26, pos := "outright.go:113", after := #[{ on := 2, ground := Ground.data }, { on := 4, ground := Ground.data }], guard := none }) (v := (.agg #[.bool ny, .slice ady xy.length qy, (.bool npd), (.slice adpd xpd.length qpd)])) rfl (by kernel_rfl) (fun _ _ _ h => h) (Or.inl ⟨by rfl, ?_⟩) ⟨(PP.out.at (i := 0) rfl), (PP.out.at (i := 1) rfl), (PP.out.at (i := 2) rfl), (PP.out.at (i := 3) rfl)⟩ ?_
      · intro w hSw
        (try dsimp only at hSw)
        go_simp
      simp only [Act.put, List.setIfInBounds_toArray, List.set_cons_zero, List.set_cons_succ]
      refine wpAnyT_one (i := 7) (o := { dst := none, op := Op.store 26 (Operand.tmp 16) (Operand.tmp 92), type := 0, pos := "outright.go:113", after := #[{ on := 6, ground := Ground.data }, { on := 5, ground := Ground.data }, { on := 2, ground := Ground.chain }, { on := 0, ground := Ground.phase }, { on := 1, ground := Ground.phase }, { on := 2, ground := Ground.phase }, { on := 3, ground := Ground.phase }, { on := 4, ground := Ground.phase }, { on := 5, ground := Ground.phase }, { on := 6, ground := Ground.phase }], guard := none }) (by kernel_rfl) rfl (fun K hK => ?_)
      have cN160 := (PN16.out.at (i := 0) rfl)
      have cN161 := (PN16.out.at (i := 1) rfl)
      have cN162 := (PN16.out.at (i := 2) rfl)
      have cN163 := (PN16.out.at (i := 3) rfl)
      have fN160 := PN16.out.fz 0
      have fN161 := PN16.out.fz 1
      have fN162 := PN16.out.fz 2
      have fN163 := PN16.out.fz 3
      go_simp
      clear cN160 cN161 cN162 cN163 fN160 fN161 fN162 fN163
      obtain ⟨V40, hW⟩ : ∃ V40, (((w38.setCell ⟨D29.heap.size, 0, none⟩ (.bool ny)).setCell ⟨D29.heap.size, 1, none⟩ (.slice ady xy.length qy)).setCell ⟨D29.heap.size, 2, none⟩ (.bool npd)).setCell ⟨D29.heap.size, 3, none⟩ (.slice adpd xpd.length qpd) = V40 := ⟨_, rfl⟩
      replace Zan := hid ((Zan.out).wk ((PN16.out).wk4 (.bool ny) (.slice ady xy.length qy) (.bool npd) (.slice adpd xpd.length qpd)))
      replace Zad := hid ((Zad.out).wk ((PN16.out).wk4 (.bool ny) (.slice ady xy.length qy) (.bool npd) (.slice adpd xpd.length qpd)))
      replace Zk := hid ((Zk.out).wk ((PN16.out).wk4 (.bool ny) (.slice ady xy.length qy) (.bool npd) (.slice adpd xpd.length qpd)))
      replace Zg := hid ((Zg.out).put4f (PN16.out) (.bool ny) (.slice ady xy.length qy) (.bool npd) (.slice adpd xpd.length qpd))
      replace Zh := hid ((Zh.out).put4f (PN16.out) (.bool ny) (.slice ady xy.length qy) (.bool npd) (.slice adpd xpd.length qpd))
      replace Zo := hid ((Zo.out).put4f (PN16.out) (.bool ny) (.slice ady xy.length qy) (.bool npd) (.slice adpd xpd.length qpd))
      replace Zpn := hid ((Zpn.out).put4f (PN16.out) (.bool ny) (.slice ady xy.length qy) (.bool npd) (.slice adpd xpd.length qpd))
      replace Zpd := hid ((Zpd.out).put4f (PN16.out) (.bool ny) (.slice ady xy.length qy) (.bool npd) (.slice adpd xpd.length qpd))
      replace Zy := hid ((Zy.out).put4f (PN16.out) (.bool ny) (.slice ady xy.length qy) (.bool npd) (.slice adpd xpd.length qpd))
      replace Pa := hid ((Pa.out).away4 (b' := D29.heap.size) (by omega) (.bool ny) (.slice ady xy.length qy) (.bool npd) (.slice adpd xpd.length qpd))
      replace Pk := hid ((Pk.out).away4 (b' := D29.heap.size) (by omega) (.bool ny) (.slice ady xy.length qy) (.bool npd) (.slice adpd xpd.length qpd))
      replace PGf := hid ((PGf.out).away4 (b' := D29.heap.size) (by omega) (.bool ny) (.slice ady xy.length qy) (.bool npd) (.slice adpd xpd.length qpd))
      replace PHf := hid ((PHf.out).away4 (b' := D29.heap.size) (by omega) (.bool ny) (.slice ady xy.length qy) (.bool npd) (.slice adpd xpd.length qpd))
      replace PO := hid ((PO.out).away4 (b' := D29.heap.size) (by omega) (.bool ny) (.slice ady xy.length qy) (.bool npd) (.slice adpd xpd.length qpd))
      replace PP := hid ((PP.out).away4 (b' := D29.heap.size) (by omega) (.bool ny) (.slice ady xy.length qy) (.bool npd) (.slice adpd xpd.length qpd))
      replace PN16 := hid ((PN16.out).put4 (.bool ny) (.slice ady xy.length qy) (.bool npd) (.slice adpd xpd.length qpd))
      replace G : Hid (Below w.heap.size w (((((w38.setCell ⟨D29.heap.size, 0, none⟩ (.bool ny)).setCell ⟨D29.heap.size, 1, none⟩ (.slice ady xy.length qy)).setCell ⟨D29.heap.size, 2, none⟩ (.bool npd)).setCell ⟨D29.heap.size, 3, none⟩ (.slice adpd xpd.length qpd)))) := bset (bset (bset (bset (G.out) (by omega)) (by omega)) (by omega)) (by omega)
      replace GR : Hid (Below V27.heap.size V27 (((((w38.setCell ⟨D29.heap.size, 0, none⟩ (.bool ny)).setCell ⟨D29.heap.size, 1, none⟩ (.slice ady xy.length qy)).setCell ⟨D29.heap.size, 2, none⟩ (.bool npd)).setCell ⟨D29.heap.size, 3, none⟩ (.slice adpd xpd.length qpd)))) := bset (bset (bset (bset (GR.out) (by omega)) (by omega)) (by omega)) (by omega)
      have sz40 : V40.heap.size = w38.heap.size := by rw [← hW]; simp
      dsimp only [put4] at Zan Zad Zk Zg Zh Zo Zpn Zpd Zy Pa Pk PGf PHf PO PP PN16
      rw [hW] at Zan Zad Zk Zg Zh Zo Zpn Zpd Zy Pa Pk PGf PHf PO PP PN16 G GR
      rw [hW]
      clear hW
      refine hK.out _ _ (fun h => absurd h (by decide)) ?_
      clear hK
      try simp only [Act.put]
      refine wpAnyT_done (by kernel_rfl) ?_ _
      go_wp2_with fail
      go_meet
      exact ⟨_, _, _, _, _, _, _, _, _, rfl, GR.out, by omega, PN16.out.blk, PN16.out, Zy.out.zi.more (by omega), Zpd.out.zi.more (by omega)⟩
  case rest =>
  obtain ⟨bkz, nzn, nzd, xzn, xzd, adzn, qzn, adzd, qzd, rfl, b, gez, ltz, p, m, m2⟩ := hcut
  replace Zan := hid (Zan.out.now b)
  replace Zad := hid (Zad.out.now b)
  replace Zk := hid (Zk.out.now b)
  replace Zg := hid (Zg.out.now b)
  replace Zh := hid (Zh.out.now b)
  replace Zo := hid (Zo.out.now b)
  replace Zpn := hid (Zpn.out.now b)
  replace Zpd := hid (Zpd.out.now b)
  replace Pa := hid (Pa.out.step b)
  replace Pk := hid (Pk.out.step b)
  replace PGf := hid (PGf.out.step b)
  replace PHf := hid (PHf.out.step b)
  replace PO := hid (PO.out.step b)
  replace PP := hid (PP.out.step b)
  replace G := hid (below_step G.out b)
  have lz42 := (show Below _ _ _ from b).size
  have Zzn := hid m
  have Zzd := hid m2
  have Pz := hid p
  clear b p m m2
  generalize wc = C42 at *
  go_wp2_with fail
  refine wp_region_tail (fun w' => w'.cell? ⟨bkz, 0, none⟩ = some (.bool nzn) ∧ w'.cell? ⟨bkz, 1, none⟩ = some (.slice adzn xzn.length qzn) ∧ w'.cell? ⟨bkz, 2, none⟩ = some (.bool nzd) ∧ w'.cell? ⟨bkz, 3, none⟩ = some (.slice adzd xzd.length qzd) ∧ w'.cell? ⟨w13.heap.size, 0, none⟩ = some (.bool no) ∧ w'.cell? ⟨w13.heap.size, 1, none⟩ = some (.slice ado xo.length qo)) 9 (by kernel_rfl) ?_
  obtain ⟨D43, hD⟩ : ∃ D43, C42.drew = D43 := ⟨_, rfl⟩
  have b : Below C42.heap.size C42 D43 := by rw [← hD]; exact (Below.refl _ _).drew
  rw [hD]
  clear hD
  replace Zan := hid (Zan.out.now b)
  replace Zad := hid (Zad.out.now b)
  replace Zk := hid (Zk.out.now b)
  replace Zg := hid (Zg.out.now b)
  replace Zh := hid (Zh.out.now b)
  replace Zo := hid (Zo.out.now b)
  replace Zpn := hid (Zpn.out.now b)
  replace Zpd := hid (Zpd.out.now b)
  replace Zzn := hid (Zzn.out.now b)
  replace Zzd := hid (Zzd.out.now b)
  replace Pa := hid (Pa.out.step b)
  replace Pk := hid (Pk.out.step b)
  replace PGf := hid (PGf.out.step b)
  replace PHf := hid (PHf.out.step b)
  replace PO := hid (PO.out.step b)
  replace PP := hid (PP.out.step b)
  replace Pz := hid (Pz.out.step b)
  replace G := hid (below_step G.out b)
  have lz44 := (show Below _ _ _ from b).size
  clear b
  refine wpAnyT_take (i := 0) (oi := { dst := some 94, op := Op.load 26 (Operand.tmp 16), type := 26, pos := "outright.go:114", after := #[], guard := none }) (v := (.agg #[(.bool nzn), (.slice adzn xzn.length qzn), (.bool nzd), (.slice adzd xzd.length qzd)])) rfl (by kernel_rfl) (fun _ _ _ h => h) (Or.inl ⟨by rfl, ?_⟩) ⟨(Pz.out.at (i := 0) rfl), (Pz.out.at (i := 1) rfl), (Pz.out.at (i := 2) rfl), (Pz.out.at (i := 3) rfl), PO.out.c0, PO.out.c1⟩ ?_
  · intro w hSw
    (try dsimp only at hSw)
    go_simp
  simp only [Act.put, List.setIfInBounds_toArray, List.set_cons_zero, List.set_cons_succ]
  refine wpAnyT_take (i := 1) (oi := { dst := some 95, op := Op.load 24 (Operand.tmp 9), type := 24, pos := "outright.go:114", after := #[], guard := none }) (v := (.agg #[(.bool no), (.slice ado xo.length qo)])) rfl (by kernel_rfl) (fun _ _ _ h => h) (Or.inl ⟨by rfl, ?_⟩) ⟨(Pz.out.at (i := 0) rfl), (Pz.out.at (i := 1) rfl), (Pz.out.at (i := 2) rfl), (Pz.out.at (i := 3) rfl), PO.out.c0, PO.out.c1⟩ ?_
  · intro w hSw
    (try dsimp only at hSw)
    go_simp
  simp only [Act.put, List.setIfInBounds_toArray, List.set_cons_zero, List.set_cons_succ]
  refine wpAnyT_one (i := 2) (o := { dst := some 96, op := Op.call { callee := Callee.value (Operand.func 20), args := #[Operand.const (Value.int IntKind.i64 2)], argTypes := #[2] }, type := 24, pos := "outright.go:114", after := #[], guard := none }) (by kernel_rfl) rfl (fun K hK => ?_)
  go_simp
  go_at_call 20
  refine (of_z (n := 2) (by decide) (by decide) _).mono ?_
  rintro e w45 ⟨r0, rfl, m0, b⟩
  obtain ⟨nt, xt, adt, qt, rfl, -, -, -, -, -⟩ := id m0
  replace Zan := hid (Zan.out.now b)
  replace Zad := hid (Zad.out.now b)
  replace Zk := hid (Zk.out.now b)
  replace Zg := hid (Zg.out.now b)
  replace Zh := hid (Zh.out.now b)
  replace Zo := hid (Zo.out.now b)
  replace Zpn := hid (Zpn.out.now b)
  replace Zpd := hid (Zpd.out.now b)
  replace Zzn := hid (Zzn.out.now b)
  replace Zzd := hid (Zzd.out.now b)
  replace Pa := hid (Pa.out.step b)
  replace Pk := hid (Pk.out.step b)
  replace PGf := hid (PGf.out.step b)
  replace PHf := hid (PHf.out.step b)
  replace PO := hid (PO.out.step b)
  replace PP := hid (PP.out.step b)
  replace Pz := hid (Pz.out.step b)
  replace G := hid (below_step G.out b)
  have lz46 := (show Below _ _ _ from b).size
  have Zt := hid m0
  clear b m0
  refine hK.out _ _ (fun _ => ⟨(Pz.out.at (i := 0) rfl), (Pz.out.at (i := 1) rfl), (Pz.out.at (i := 2) rfl), (Pz.out.at (i := 3) rfl), PO.out.c0, PO.out.c1⟩) ?_
  clear hK
  refine wpAnyT_take (i := 3) (oi := { dst := some 97, op := Op.build 26 #[(0, Operand.tmp 95), (1, Operand.tmp 96)], type := 26, pos := "outright.go:114", after := #[{ on := 1, ground := Ground.data }, { on := 2, ground := Ground.data }], guard := none }) (v := (.agg #[(.bool no), (.slice ado xo.length qo), .bool nt, .slice adt xt.length qt])) rfl (by kernel_rfl) (fun _ _ _ h => h) (Or.inl ⟨by rfl, ?_⟩) ⟨(Pz.out.at (i := 0) rfl), (Pz.out.at (i := 1) rfl), (Pz.out.at (i := 2) rfl), (Pz.out.at (i := 3) rfl), PO.out.c0, PO.out.c1⟩ ?_
  · intro w hSw
    (try dsimp only at hSw)
    go_simp
  simp only [Act.put, List.setIfInBounds_toArray, List.set_cons_zero, List.set_cons_succ]
  refine wpAnyT_one (i := 4) (o := { dst := some 98, op := Op.call { callee := Callee.value (Operand.func 24), args := #[Operand.tmp 94, Operand.tmp 97], argTypes := #[26, 26] }, type := 41, pos := "outright.go:114", after := #[{ on := 0, ground := Ground.data }, { on := 3, ground := Ground.data }, { on := 2, ground := Ground.chain }], guard := none }) (by kernel_rfl) rfl (fun K hK => ?_)
  go_simp
  go_at_call 24
  refine (fcmp_z (k := 2097161) Zzn.out Zzd.out (Zo.out.zi.more (by decide)) (Zt.out.zi.more (by decide)) (by decide) (den_ne _) (by decide) E3.out).mono ?_
  rintro e w47 ⟨rfl, b⟩
  replace Zan := hid (Zan.out.now b)
  replace Zad := hid (Zad.out.now b)
  replace Zk := hid (Zk.out.now b)
  replace Zg := hid (Zg.out.now b)
  replace Zh := hid (Zh.out.now b)
  replace Zo := hid (Zo.out.now b)
  replace Zpn := hid (Zpn.out.now b)
  replace Zpd := hid (Zpd.out.now b)
  replace Zzn := hid (Zzn.out.now b)
  replace Zzd := hid (Zzd.out.now b)
  replace Zt := hid (Zt.out.now b)
  replace Pa := hid (Pa.out.step b)
  replace Pk := hid (Pk.out.step b)
  replace PGf := hid (PGf.out.step b)
  replace PHf := hid (PHf.out.step b)
  replace PO := hid (PO.out.step b)
  replace PP := hid (PP.out.step b)
  replace Pz := hid (Pz.out.step b)
  replace G := hid (below_step G.out b)
  have lz48 := (show Below _ _ _ from b).size
  clear b 
  refine hK.out _ _ (fun _ => ⟨(Pz.out.at (i := 0) rfl), (Pz.out.at (i := 1) rfl), (Pz.out.at (i := 2) rfl), (Pz.out.at (i := 3) rfl), PO.out.c0, PO.out.c1⟩) ?_
  clear hK
  refine wpAnyT_take (i := 5) (oi := { dst := some 93, op := Op.move (Operand.tmp 98), type := 41, pos := "outright.go:114", after := #[{ on := 4, ground := Ground.data }], guard := none }) (v := (.tuple #[(.int .i64 C3), (.int .i64 0)])) rfl (by kernel_rfl) (fun _ _ _ h => h) (Or.inl ⟨by rfl, ?_⟩) ⟨(Pz.out.at (i := 0) rfl), (Pz.out.at (i := 1) rfl), (Pz.out.at (i := 2) rfl), (Pz.out.at (i := 3) rfl), PO.out.c0, PO.out.c1⟩ ?_
  · intro w hSw
    (try dsimp only at hSw)
    go_simp
  simp only [Act.put, List.setIfInBounds_toArray, List.set_cons_zero, List.set_cons_succ]
  refine wpAnyT_take (i := 6) (oi := { dst := some 99, op := Op.extract (Operand.tmp 93) 0, type := 3, pos := "outright.go:114", after := #[{ on := 5, ground := Ground.data }], guard := none }) (v := (.int .i64 C3)) rfl (by kernel_rfl) (fun _ _ _ h => h) (Or.inl ⟨by rfl, ?_⟩) ⟨(Pz.out.at (i := 0) rfl), (Pz.out.at (i := 1) rfl), (Pz.out.at (i := 2) rfl), (Pz.out.at (i := 3) rfl), PO.out.c0, PO.out.c1⟩ ?_
  · intro w hSw
    (try dsimp only at hSw)
    go_simp
  simp only [Act.put, List.setIfInBounds_toArray, List.set_cons_zero, List.set_cons_succ]
  refine wpAnyT_take (i := 7) (oi := { dst := some 100, op := Op.extract (Operand.tmp 93) 1, type := 28, pos := "outright.go:114", after := #[{ on := 5, ground := Ground.data }, { on := 8, ground := Ground.gcOnly Departure.lateStores }], guard := none }) (v := (.int .i64 0)) rfl (by kernel_rfl) (fun _ _ _ h => h) (Or.inl ⟨by rfl, ?_⟩) ⟨(Pz.out.at (i := 0) rfl), (Pz.out.at (i := 1) rfl), (Pz.out.at (i := 2) rfl), (Pz.out.at (i := 3) rfl), PO.out.c0, PO.out.c1⟩ ?_
  · intro w hSw
    (try dsimp only at hSw)
    go_simp
  simp only [Act.put, List.setIfInBounds_toArray, List.set_cons_zero, List.set_cons_succ]
  refine wpAnyT_take (i := 8) (oi := { dst := some 17, op := Op.assign (Operand.tmp 99), type := 3, pos := "outright.go:114", after := #[{ on := 6, ground := Ground.data }, { on := 4, ground := Ground.chain }, { on := 0, ground := Ground.phase }, { on := 1, ground := Ground.phase }, { on := 2, ground := Ground.phase }, { on := 3, ground := Ground.phase }, { on := 4, ground := Ground.phase }, { on := 5, ground := Ground.phase }, { on := 6, ground := Ground.phase }, { on := 7, ground := Ground.textOnly Departure.lateStores }], guard := none }) (v := (.int .i64 C3)) rfl (by kernel_rfl) (fun _ _ _ h => h) (Or.inl ⟨by rfl, ?_⟩) ⟨(Pz.out.at (i := 0) rfl), (Pz.out.at (i := 1) rfl), (Pz.out.at (i := 2) rfl), (Pz.out.at (i := 3) rfl), PO.out.c0, PO.out.c1⟩ ?_
  · intro w hSw
    (try dsimp only at hSw)
    go_simp
  simp only [Act.put, List.setIfInBounds_toArray, List.set_cons_zero, List.set_cons_succ]
  refine wpAnyT_one (i := 9) (o := { dst := some 18, op := Op.assign (Operand.tmp 100), type := 28, pos := "outright.go:114", after := #[{ on := 7, ground := Ground.data }, { on := 8, ground := Ground.chain }, { on := 0, ground := Ground.phase }, { on := 1, ground := Ground.phase }, { on := 2, ground := Ground.phase }, { on := 3, ground := Ground.phase }, { on := 4, ground := Ground.phase }, { on := 5, ground := Ground.phase }, { on := 6, ground := Ground.phase }, { on := 7, ground := Ground.phase }, { on := 8, ground := Ground.phase }], guard := none }) (by kernel_rfl) rfl (fun K hK => ?_)
  go_simp
  refine hK.out _ _ (fun h => absurd h (by decide)) ?_
  clear hK
  try simp only [Act.put]
  refine wpAnyT_done (by kernel_rfl) ?_ _
  clear Zt
  go_wp2_with fail
  go_cut [19, 20] from 25 (fun s1 s2 wx => MetB w47 wx s1 (vm % 2) (max (1048576 + 3) 1 + 1) ∧ s2 = .int .i64 0)
  case first =>
    have GR : Hid (Below w47.heap.size w47 w47) := Below.refl _ _
    refine wp_region_tail (fun w' => w'.cell? ⟨w7.heap.size, 0, none⟩ = some (.bool nh) ∧ w'.cell? ⟨w7.heap.size, 1, none⟩ = some (.slice adh xh.length qh)) 8 (by kernel_rfl) ?_
    obtain ⟨D49, hD⟩ : ∃ D49, w47.drew = D49 := ⟨_, rfl⟩
    have b : Below w47.heap.size w47 D49 := by rw [← hD]; exact (Below.refl _ _).drew
    rw [hD]
    clear hD
    replace Zan := hid (Zan.out.now b)
    replace Zad := hid (Zad.out.now b)
    replace Zk := hid (Zk.out.now b)
    replace Zg := hid (Zg.out.now b)
    replace Zh := hid (Zh.out.now b)
    replace Zo := hid (Zo.out.now b)
    replace Zpn := hid (Zpn.out.now b)
    replace Zpd := hid (Zpd.out.now b)
    replace Zzn := hid (Zzn.out.now b)
    replace Zzd := hid (Zzd.out.now b)
    replace Pa := hid (Pa.out.step b)
    replace Pk := hid (Pk.out.step b)
    replace PGf := hid (PGf.out.step b)
    replace PHf := hid (PHf.out.step b)
    replace PO := hid (PO.out.step b)
    replace PP := hid (PP.out.step b)
    replace Pz := hid (Pz.out.step b)
    replace G := hid (below_step G.out b)
    replace GR := hid (below_step GR.out b)
    have lz50 := (show Below _ _ _ from b).size
    clear b
    refine wpAnyT_take (i := 0) (oi := { dst := some 102, op := Op.load 24 (Operand.tmp 7), type := 24, pos := "outright.go:115", after := #[], guard := none }) (v := (.agg #[(.bool nh), (.slice adh xh.length qh)])) rfl (by kernel_rfl) (fun _ _ _ h => h) (Or.inl ⟨by rfl, ?_⟩) ⟨PHf.out.c0, PHf.out.c1⟩ ?_
    · intro w hSw
      (try dsimp only at hSw)
      go_simp
    simp only [Act.put, List.setIfInBounds_toArray, List.set_cons_zero, List.set_cons_succ]
    refine wpAnyT_two (i := 1) (j := 6) (oi := { dst := some 103, op := Op.call { callee := Callee.value (Operand.func 20), args := #[Operand.const (Value.int IntKind.i64 2)], argTypes := #[2] }, type := 24, pos := "outright.go:115", after := #[], guard := none }) (oj := { dst := some 19, op := Op.alloc 24, type := 0, pos := "outright.go:115", after := #[], guard := none }) (by kernel_rfl) rfl rfl (fun K hK => ?_) (fun K hK => ?_)
    · skip
      go_simp
      go_at_call 20
      refine (of_z (n := 2) (by decide) (by decide) _).mono ?_
      rintro e w51 ⟨r0, rfl, m0, b⟩
      obtain ⟨nt, xt, adt, qt, rfl, -, -, -, -, -⟩ := id m0
      replace Zan := hid (Zan.out.now b)
      replace Zad := hid (Zad.out.now b)
      replace Zk := hid (Zk.out.now b)
      replace Zg := hid (Zg.out.now b)
      replace Zh := hid (Zh.out.now b)
      replace Zo := hid (Zo.out.now b)
      replace Zpn := hid (Zpn.out.now b)
      replace Zpd := hid (Zpd.out.now b)
      replace Zzn := hid (Zzn.out.now b)
      replace Zzd := hid (Zzd.out.now b)
      replace Pa := hid (Pa.out.step b)
      replace Pk := hid (Pk.out.step b)
      replace PGf := hid (PGf.out.step b)
      replace PHf := hid (PHf.out.step b)
      replace PO := hid (PO.out.step b)
      replace PP := hid (PP.out.step b)
      replace Pz := hid (Pz.out.step b)
      replace G := hid (below_step G.out b)
      replace GR := hid (below_step GR.out b)
      have lz52 := (show Below _ _ _ from b).size
      have Zt := hid m0
      clear b m0
      refine hK.out _ _ (fun _ => ⟨PHf.out.c0, PHf.out.c1⟩) ?_
      clear hK
      refine wpAnyT_two (i := 2) (j := 6) (oi := { dst := some 104, op := Op.call { callee := Callee.value (Operand.func 26), args := #[Operand.tmp 102, Operand.tmp 103], argTypes := #[24, 24] }, type := 39, pos := "outright.go:115", after := #[{ on := 0, ground := Ground.data }, { on := 1, ground := Ground.data }, { on := 1, ground := Ground.chain }], guard := none }) (oj := { dst := some 19, op := Op.alloc 24, type := 0, pos := "outright.go:115", after := #[], guard := none }) (by kernel_rfl) rfl rfl (fun K hK => ?_) (fun K hK => ?_)
      · skip
        go_simp
        go_at_call 26
        refine (mod_z Zh.out.zi Zt.out.zi (by decide) (by decide) (by decide)).mono ?_
        rintro e w53 ⟨r0, rfl, m0, b⟩
        obtain ⟨nd, xd, add, qd, rfl, -, -, -, -, -⟩ := id m0
        replace Zan := hid (Zan.out.now b)
        replace Zad := hid (Zad.out.now b)
        replace Zk := hid (Zk.out.now b)
        replace Zg := hid (Zg.out.now b)
        replace Zh := hid (Zh.out.now b)
        replace Zo := hid (Zo.out.now b)
        replace Zpn := hid (Zpn.out.now b)
        replace Zpd := hid (Zpd.out.now b)
        replace Zzn := hid (Zzn.out.now b)
        replace Zzd := hid (Zzd.out.now b)
        replace Zt := hid (Zt.out.now b)
        replace Pa := hid (Pa.out.step b)
        replace Pk := hid (Pk.out.step b)
        replace PGf := hid (PGf.out.step b)
        replace PHf := hid (PHf.out.step b)
        replace PO := hid (PO.out.step b)
        replace PP := hid (PP.out.step b)
        replace Pz := hid (Pz.out.step b)
        replace G := hid (below_step G.out b)
        replace GR := hid (below_step GR.out b)
        have lz54 := (show Below _ _ _ from b).size
        have Zd := hid m0
        clear b m0
        refine hK.out _ _ (fun _ => ⟨PHf.out.c0, PHf.out.c1⟩) ?_
        clear hK
        refine wpAnyT_take (i := 3) (oi := { dst := some 101, op := Op.move (Operand.tmp 104), type := 39, pos := "outright.go:115", after := #[{ on := 2, ground := Ground.data }], guard := none }) (v := (.tuple #[(.agg #[.bool nd, .slice add xd.length qd]), (.int .i64 0)])) rfl (by kernel_rfl) (fun _ _ _ h => h) (Or.inl ⟨by rfl, ?_⟩) ⟨PHf.out.c0, PHf.out.c1⟩ ?_
        · intro w hSw
          (try dsimp only at hSw)
          go_simp
        simp only [Act.put, List.setIfInBounds_toArray, List.set_cons_zero, List.set_cons_succ]
        refine wpAnyT_take (i := 4) (oi := { dst := some 105, op := Op.extract (Operand.tmp 101) 0, type := 24, pos := "outright.go:115", after := #[{ on := 3, ground := Ground.data }], guard := none }) (v := (.agg #[.bool nd, .slice add xd.length qd])) rfl (by kernel_rfl) (fun _ _ _ h => h) (Or.inl ⟨by rfl, ?_⟩) ⟨PHf.out.c0, PHf.out.c1⟩ ?_
        · intro w hSw
          (try dsimp only at hSw)
          go_simp
        simp only [Act.put, List.setIfInBounds_toArray, List.set_cons_zero, List.set_cons_succ]
        refine wpAnyT_take (i := 5) (oi := { dst := some 106, op := Op.extract (Operand.tmp 101) 1, type := 28, pos := "outright.go:115", after := #[{ on := 3, ground := Ground.data }, { on := 7, ground := Ground.gcOnly Departure.lateStores }], guard := none }) (v := (.int .i64 0)) rfl (by kernel_rfl) (fun _ _ _ h => h) (Or.inl ⟨by rfl, ?_⟩) ⟨PHf.out.c0, PHf.out.c1⟩ ?_
        · intro w hSw
          (try dsimp only at hSw)
          go_simp
        simp only [Act.put, List.setIfInBounds_toArray, List.set_cons_zero, List.set_cons_succ]
        refine wpAnyT_one (i := 6) (o := { dst := some 19, op := Op.alloc 24, type := 0, pos := "outright.go:115", after := #[], guard := none }) (by kernel_rfl) rfl (fun K hK => ?_)
        go_simp
        obtain ⟨V55, hW⟩ : ∃ V55, w53.alloc zbox = V55 := ⟨_, rfl⟩
        obtain ⟨kW, sz55⟩ := alloc1 w53 zbox
        rw [hW] at kW sz55
        replace sz55 : w53.heap.size < V55.heap.size := by omega
        replace Zan := hid (Zan.out.now kW)
        replace Zad := hid (Zad.out.now kW)
        replace Zk := hid (Zk.out.now kW)
        replace Zg := hid (Zg.out.now kW)
        replace Zh := hid (Zh.out.now kW)
        replace Zo := hid (Zo.out.now kW)
        replace Zpn := hid (Zpn.out.now kW)
        replace Zpd := hid (Zpd.out.now kW)
        replace Zzn := hid (Zzn.out.now kW)
        replace Zzd := hid (Zzd.out.now kW)
        replace Zt := hid (Zt.out.now kW)
        replace Zd := hid (Zd.out.now kW)
        replace Pa := hid (Pa.out.step kW)
        replace Pk := hid (Pk.out.step kW)
        replace PGf := hid (PGf.out.step kW)
        replace PHf := hid (PHf.out.step kW)
        replace PO := hid (PO.out.step kW)
        replace PP := hid (PP.out.step kW)
        replace Pz := hid (Pz.out.step kW)
        replace G := hid (below_step G.out kW)
        replace GR := hid (below_step GR.out kW)
        have lz56 := (show Below _ _ _ from kW).size
        have PN19 : Hid (Duo V55 (w53.heap.size) (.bool false) (.slice none 0 0)) := by unfold Hid; rw [← hW]; exact duo_at rfl
        rw [hW]
        clear hW kW
        refine hK.out _ _ (fun _ => ⟨PHf.out.c0, PHf.out.c1⟩) ?_
        clear hK
        try simp only [Act.put]
        refine wpAnyT_one (i := 7) (o := { dst := none, op := Op.store 24 (Operand.tmp 19) (Operand.tmp 105), type := 0, pos := "outright.go:115", after := #[{ on := 6, ground := Ground.data }, { on := 4, ground := Ground.data }, { on := 2, ground := Ground.chain }, { on := 0, ground := Ground.phase }, { on := 1, ground := Ground.phase }, { on := 2, ground := Ground.phase }, { on := 3, ground := Ground.phase }, { on := 4, ground := Ground.phase }, { on := 5, ground := Ground.textOnly Departure.lateStores }, { on := 6, ground := Ground.phase }], guard := none }) (by kernel_rfl) rfl (fun K hK => ?_)
        have cN190 := PN19.out.c0
        have cN191 := PN19.out.c1
        have fN190 := PN19.out.fz 0
        have fN191 := PN19.out.fz 1
        go_simp
        clear cN190 cN191 fN190 fN191
        obtain ⟨V57, hW⟩ : ∃ V57, (V55.setCell ⟨w53.heap.size, 0, none⟩ (.bool nd)).setCell ⟨w53.heap.size, 1, none⟩ (.slice add xd.length qd) = V57 := ⟨_, rfl⟩
        replace Zan := hid ((Zan.out).wk ((PN19.out).wk (.bool nd) (.slice add xd.length qd)))
        replace Zad := hid ((Zad.out).wk ((PN19.out).wk (.bool nd) (.slice add xd.length qd)))
        replace Zk := hid ((Zk.out).wk ((PN19.out).wk (.bool nd) (.slice add xd.length qd)))
        replace Zg := hid ((Zg.out).box (PN19.out) (.bool nd) (.slice add xd.length qd))
        replace Zh := hid ((Zh.out).box (PN19.out) (.bool nd) (.slice add xd.length qd))
        replace Zo := hid ((Zo.out).box (PN19.out) (.bool nd) (.slice add xd.length qd))
        replace Zpn := hid ((Zpn.out).box (PN19.out) (.bool nd) (.slice add xd.length qd))
        replace Zpd := hid ((Zpd.out).box (PN19.out) (.bool nd) (.slice add xd.length qd))
        replace Zzn := hid ((Zzn.out).wk ((PN19.out).wk (.bool nd) (.slice add xd.length qd)))
        replace Zzd := hid ((Zzd.out).wk ((PN19.out).wk (.bool nd) (.slice add xd.length qd)))
        replace Zt := hid ((Zt.out).box (PN19.out) (.bool nd) (.slice add xd.length qd))
        replace Zd := hid ((Zd.out).box (PN19.out) (.bool nd) (.slice add xd.length qd))
        replace Pa := hid ((Pa.out).away2 (b' := w53.heap.size) (by omega) (.bool nd) (.slice add xd.length qd))
        replace Pk := hid ((Pk.out).box (b' := w53.heap.size) (by omega) (.bool nd) (.slice add xd.length qd))
        replace PGf := hid ((PGf.out).box (b' := w53.heap.size) (by omega) (.bool nd) (.slice add xd.length qd))
        replace PHf := hid ((PHf.out).box (b' := w53.heap.size) (by omega) (.bool nd) (.slice add xd.length qd))
        replace PO := hid ((PO.out).box (b' := w53.heap.size) (by omega) (.bool nd) (.slice add xd.length qd))
        replace PP := hid ((PP.out).away2 (b' := w53.heap.size) (by omega) (.bool nd) (.slice add xd.length qd))
        replace Pz := hid ((Pz.out).away2 (b' := w53.heap.size) (by omega) (.bool nd) (.slice add xd.length qd))
        replace PN19 := hid ((PN19.out).set (.bool nd) (.slice add xd.length qd))
        replace G : Hid (Below w.heap.size w (((V55.setCell ⟨w53.heap.size, 0, none⟩ (.bool nd)).setCell ⟨w53.heap.size, 1, none⟩ (.slice add xd.length qd)))) := bset (bset (G.out) (by omega)) (by omega)
        replace GR : Hid (Below w47.heap.size w47 (((V55.setCell ⟨w53.heap.size, 0, none⟩ (.bool nd)).setCell ⟨w53.heap.size, 1, none⟩ (.slice add xd.length qd)))) := bset (bset (GR.out) (by omega)) (by omega)
        have sz57 : V57.heap.size = V55.heap.size := by rw [← hW]; simp
        rw [hW] at Zan Zad Zk Zg Zh Zo Zpn Zpd Zzn Zzd Zt Zd Pa Pk PGf PHf PO PP Pz PN19 G GR
        rw [hW]
        clear hW
        refine hK.out _ _ (fun _ => ⟨PHf.out.c0, PHf.out.c1⟩) ?_
        clear hK
        try simp only [Act.put]
        refine wpAnyT_one (i := 8) (o := { dst := some 20, op := Op.assign (Operand.tmp 106), type := 28, pos := "outright.go:115", after := #[{ on := 5, ground := Ground.data }, { on := 7, ground := Ground.chain }, { on := 0, ground := Ground.phase }, { on := 1, ground := Ground.phase }, { on := 2, ground := Ground.phase }, { on := 3, ground := Ground.phase }, { on := 4, ground := Ground.phase }, { on := 5, ground := Ground.phase }, { on := 6, ground := Ground.phase }, { on := 7, ground := Ground.phase }], guard := none }) (by kernel_rfl) rfl (fun K hK => ?_)
        go_simp
        refine hK.out _ _ (fun h => absurd h (by decide)) ?_
        clear hK
        try simp only [Act.put]
        refine wpAnyT_done (by kernel_rfl) ?_ _
        go_wp2_with fail
        go_meet
        exact ⟨⟨_, _, _, _, _, rfl, GR.out, by omega, PN19.out.blk, PN19.out, Zd.out.mono (by omega)⟩, rfl⟩
      · skip
        go_simp
        obtain ⟨V58, hW⟩ : ∃ V58, w51.alloc zbox = V58 := ⟨_, rfl⟩
        obtain ⟨kW, sz58⟩ := alloc1 w51 zbox
        rw [hW] at kW sz58
        replace sz58 : w51.heap.size < V58.heap.size := by omega
        replace Zan := hid (Zan.out.now kW)
        replace Zad := hid (Zad.out.now kW)
        replace Zk := hid (Zk.out.now kW)
        replace Zg := hid (Zg.out.now kW)
        replace Zh := hid (Zh.out.now kW)
        replace Zo := hid (Zo.out.now kW)
        replace Zpn := hid (Zpn.out.now kW)
        replace Zpd := hid (Zpd.out.now kW)
        replace Zzn := hid (Zzn.out.now kW)
        replace Zzd := hid (Zzd.out.now kW)
        replace Zt := hid (Zt.out.now kW)
        replace Pa := hid (Pa.out.step kW)
        replace Pk := hid (Pk.out.step kW)
        replace PGf := hid (PGf.out.step kW)
        replace PHf := hid (PHf.out.step kW)
        replace PO := hid (PO.out.step kW)
        replace PP := hid (PP.out.step kW)
        replace Pz := hid (Pz.out.step kW)
        replace G := hid (below_step G.out kW)
        replace GR := hid (below_step GR.out kW)
        have lz59 := (show Below _ _ _ from kW).size
        have PN19 : Hid (Duo V58 (w51.heap.size) (.bool false) (.slice none 0 0)) := by unfold Hid; rw [← hW]; exact duo_at rfl
        rw [hW]
        clear hW kW
        refine hK.out _ _ (fun _ => ⟨PHf.out.c0, PHf.out.c1⟩) ?_
        clear hK
        try simp only [Act.put]
        refine wpAnyT_one (i := 2) (o := { dst := some 104, op := Op.call { callee := Callee.value (Operand.func 26), args := #[Operand.tmp 102, Operand.tmp 103], argTypes := #[24, 24] }, type := 39, pos := "outright.go:115", after := #[{ on := 0, ground := Ground.data }, { on := 1, ground := Ground.data }, { on := 1, ground := Ground.chain }], guard := none }) (by kernel_rfl) rfl (fun K hK => ?_)
        go_simp
        go_at_call 26
        refine (mod_z Zh.out.zi Zt.out.zi (by decide) (by decide) (by decide)).mono ?_
        rintro e w60 ⟨r0, rfl, m0, b⟩
        obtain ⟨nd, xd, add, qd, rfl, -, -, -, -, -⟩ := id m0
        replace Zan := hid (Zan.out.now b)
        replace Zad := hid (Zad.out.now b)
        replace Zk := hid (Zk.out.now b)
        replace Zg := hid (Zg.out.now b)
        replace Zh := hid (Zh.out.now b)
        replace Zo := hid (Zo.out.now b)
        replace Zpn := hid (Zpn.out.now b)
        replace Zpd := hid (Zpd.out.now b)
        replace Zzn := hid (Zzn.out.now b)
        replace Zzd := hid (Zzd.out.now b)
        replace Zt := hid (Zt.out.now b)
        replace Pa := hid (Pa.out.step b)
        replace Pk := hid (Pk.out.step b)
        replace PGf := hid (PGf.out.step b)
        replace PHf := hid (PHf.out.step b)
        replace PO := hid (PO.out.step b)
        replace PP := hid (PP.out.step b)
        replace Pz := hid (Pz.out.step b)
        replace PN19 := hid (PN19.out.step b)
        replace G := hid (below_step G.out b)
        replace GR := hid (below_step GR.out b)
        have lz61 := (show Below _ _ _ from b).size
        have Zd := hid m0
        clear b m0
        refine hK.out _ _ (fun _ => ⟨PHf.out.c0, PHf.out.c1⟩) ?_
        clear hK
        refine wpAnyT_take (i := 3) (oi := { dst := some 101, op := Op.move (Operand.tmp 104), type := 39, pos := "outright.go:115", after := #[{ on := 2, ground := Ground.data }], guard := none }) (v := (.tuple #[(.agg #[.bool nd, .slice add xd.length qd]), (.int .i64 0)])) rfl (by kernel_rfl) (fun _ _ _ h => h) (Or.inl ⟨by rfl, ?_⟩) ⟨PHf.out.c0, PHf.out.c1⟩ ?_
        · intro w hSw
          (try dsimp only at hSw)
          go_simp
        simp only [Act.put, List.setIfInBounds_toArray, List.set_cons_zero, List.set_cons_succ]
        refine wpAnyT_take (i := 4) (oi := { dst := some 105, op := Op.extract (Operand.tmp 101) 0, type := 24, pos := "outright.go:115", after := #[{ on := 3, ground := Ground.data }], guard := none }) (v := (.agg #[.bool nd, .slice add xd.length qd])) rfl (by kernel_rfl) (fun _ _ _ h => h) (Or.inl ⟨by rfl, ?_⟩) ⟨PHf.out.c0, PHf.out.c1⟩ ?_
        · intro w hSw
          (try dsimp only at hSw)
          go_simp
        simp only [Act.put, List.setIfInBounds_toArray, List.set_cons_zero, List.set_cons_succ]
        refine wpAnyT_take (i := 5) (oi := { dst := some 106, op := Op.extract (Operand.tmp 101) 1, type := 28, pos := "outright.go:115", after := #[{ on := 3, ground := Ground.data }, { on := 7, ground := Ground.gcOnly Departure.lateStores }], guard := none }) (v := (.int .i64 0)) rfl (by kernel_rfl) (fun _ _ _ h => h) (Or.inl ⟨by rfl, ?_⟩) ⟨PHf.out.c0, PHf.out.c1⟩ ?_
        · intro w hSw
          (try dsimp only at hSw)
          go_simp
        simp only [Act.put, List.setIfInBounds_toArray, List.set_cons_zero, List.set_cons_succ]
        refine wpAnyT_one (i := 7) (o := { dst := none, op := Op.store 24 (Operand.tmp 19) (Operand.tmp 105), type := 0, pos := "outright.go:115", after := #[{ on := 6, ground := Ground.data }, { on := 4, ground := Ground.data }, { on := 2, ground := Ground.chain }, { on := 0, ground := Ground.phase }, { on := 1, ground := Ground.phase }, { on := 2, ground := Ground.phase }, { on := 3, ground := Ground.phase }, { on := 4, ground := Ground.phase }, { on := 5, ground := Ground.textOnly Departure.lateStores }, { on := 6, ground := Ground.phase }], guard := none }) (by kernel_rfl) rfl (fun K hK => ?_)
        have cN190 := PN19.out.c0
        have cN191 := PN19.out.c1
        have fN190 := PN19.out.fz 0
        have fN191 := PN19.out.fz 1
        go_simp
        clear cN190 cN191 fN190 fN191
        obtain ⟨V62, hW⟩ : ∃ V62, (w60.setCell ⟨w51.heap.size, 0, none⟩ (.bool nd)).setCell ⟨w51.heap.size, 1, none⟩ (.slice add xd.length qd) = V62 := ⟨_, rfl⟩
        replace Zan := hid ((Zan.out).wk ((PN19.out).wk (.bool nd) (.slice add xd.length qd)))
        replace Zad := hid ((Zad.out).wk ((PN19.out).wk (.bool nd) (.slice add xd.length qd)))
        replace Zk := hid ((Zk.out).wk ((PN19.out).wk (.bool nd) (.slice add xd.length qd)))
        replace Zg := hid ((Zg.out).box (PN19.out) (.bool nd) (.slice add xd.length qd))
        replace Zh := hid ((Zh.out).box (PN19.out) (.bool nd) (.slice add xd.length qd))
        replace Zo := hid ((Zo.out).box (PN19.out) (.bool nd) (.slice add xd.length qd))
        replace Zpn := hid ((Zpn.out).box (PN19.out) (.bool nd) (.slice add xd.length qd))
        replace Zpd := hid ((Zpd.out).box (PN19.out) (.bool nd) (.slice add xd.length qd))
        replace Zzn := hid ((Zzn.out).wk ((PN19.out).wk (.bool nd) (.slice add xd.length qd)))
        replace Zzd := hid ((Zzd.out).wk ((PN19.out).wk (.bool nd) (.slice add xd.length qd)))
        replace Zt := hid ((Zt.out).box (PN19.out) (.bool nd) (.slice add xd.length qd))
        replace Zd := hid ((Zd.out).box (PN19.out) (.bool nd) (.slice add xd.length qd))
        replace Pa := hid ((Pa.out).away2 (b' := w51.heap.size) (by omega) (.bool nd) (.slice add xd.length qd))
        replace Pk := hid ((Pk.out).box (b' := w51.heap.size) (by omega) (.bool nd) (.slice add xd.length qd))
        replace PGf := hid ((PGf.out).box (b' := w51.heap.size) (by omega) (.bool nd) (.slice add xd.length qd))
        replace PHf := hid ((PHf.out).box (b' := w51.heap.size) (by omega) (.bool nd) (.slice add xd.length qd))
        replace PO := hid ((PO.out).box (b' := w51.heap.size) (by omega) (.bool nd) (.slice add xd.length qd))
        replace PP := hid ((PP.out).away2 (b' := w51.heap.size) (by omega) (.bool nd) (.slice add xd.length qd))
        replace Pz := hid ((Pz.out).away2 (b' := w51.heap.size) (by omega) (.bool nd) (.slice add xd.length qd))
        replace PN19 := hid ((PN19.out).set (.bool nd) (.slice add xd.length qd))
        replace G : Hid (Below w.heap.size w (((w60.setCell ⟨w51.heap.size, 0, none⟩ (.bool nd)).setCell ⟨w51.heap.size, 1, none⟩ (.slice add xd.length qd)))) := bset (bset (G.out) (by omega)) (by omega)
        replace GR : Hid (Below w47.heap.size w47 (((w60.setCell ⟨w51.heap.size, 0, none⟩ (.bool nd)).setCell ⟨w51.heap.size, 1, none⟩ (.slice add xd.length qd)))) := bset (bset (GR.out) (by omega)) (by omega)
        have sz62 : V62.heap.size = w60.heap.size := by rw [← hW]; simp
        rw [hW] at Zan Zad Zk Zg Zh Zo Zpn Zpd Zzn Zzd Zt Zd Pa Pk PGf PHf PO PP Pz PN19 G GR
        rw [hW]
        clear hW
        refine hK.out _ _ (fun _ => ⟨PHf.out.c0, PHf.out.c1⟩) ?_
        clear hK
        try simp only [Act.put]
        refine wpAnyT_one (i := 8) (o := { dst := some 20, op := Op.assign (Operand.tmp 106), type := 28, pos := "outright.go:115", after := #[{ on := 5, ground := Ground.data }, { on := 7, ground := Ground.chain }, { on := 0, ground := Ground.phase }, { on := 1, ground := Ground.phase }, { on := 2, ground := Ground.phase }, { on := 3, ground := Ground.phase }, { on := 4, ground := Ground.phase }, { on := 5, ground := Ground.phase }, { on := 6, ground := Ground.phase }, { on := 7, ground := Ground.phase }], guard := none }) (by kernel_rfl) rfl (fun K hK => ?_)
        go_simp
        refine hK.out _ _ (fun h => absurd h (by decide)) ?_
        clear hK
        try simp only [Act.put]
        refine wpAnyT_done (by kernel_rfl) ?_ _
        go_wp2_with fail
        go_meet
        exact ⟨⟨_, _, _, _, _, rfl, GR.out, by omega, PN19.out.blk, PN19.out, Zd.out.mono (by omega)⟩, rfl⟩
    · skip
      go_simp
      obtain ⟨V63, hW⟩ : ∃ V63, D49.alloc zbox = V63 := ⟨_, rfl⟩
      obtain ⟨kW, sz63⟩ := alloc1 D49 zbox
      rw [hW] at kW sz63
      replace sz63 : D49.heap.size < V63.heap.size := by omega
      replace Zan := hid (Zan.out.now kW)
      replace Zad := hid (Zad.out.now kW)
      replace Zk := hid (Zk.out.now kW)
      replace Zg := hid (Zg.out.now kW)
      replace Zh := hid (Zh.out.now kW)
      replace Zo := hid (Zo.out.now kW)
      replace Zpn := hid (Zpn.out.now kW)
      replace Zpd := hid (Zpd.out.now kW)
      replace Zzn := hid (Zzn.out.now kW)
      replace Zzd := hid (Zzd.out.now kW)
      replace Pa := hid (Pa.out.step kW)
      replace Pk := hid (Pk.out.step kW)
      replace PGf := hid (PGf.out.step kW)
      replace PHf := hid (PHf.out.step kW)
      replace PO := hid (PO.out.step kW)
      replace PP := hid (PP.out.step kW)
      replace Pz := hid (Pz.out.step kW)
      replace G := hid (below_step G.out kW)
      replace GR := hid (below_step GR.out kW)
      have lz64 := (show Below _ _ _ from kW).size
      have PN19 : Hid (Duo V63 (D49.heap.size) (.bool false) (.slice none 0 0)) := by unfold Hid; rw [← hW]; exact duo_at rfl
      rw [hW]
      clear hW kW
      refine hK.out _ _ (fun _ => ⟨PHf.out.c0, PHf.out.c1⟩) ?_
      clear hK
      try simp only [Act.put]
      refine wpAnyT_one (i := 1) (o := { dst := some 103, op := Op.call { callee := Callee.value (Operand.func 20), args := #[Operand.const (Value.int IntKind.i64 2)], argTypes := #[2] }, type := 24, pos := "outright.go:115", after := #[], guard := none }) (by kernel_rfl) rfl (fun K hK => ?_)
      go_simp
      go_at_call 20
      refine (of_z (n := 2) (by decide) (by decide) _).mono ?_
      rintro e w65 ⟨r0, rfl, m0, b⟩
      obtain ⟨nt, xt, adt, qt, rfl, -, -, -, -, -⟩ := id m0
      replace Zan := hid (Zan.out.now b)
      replace Zad := hid (Zad.out.now b)
      replace Zk := hid (Zk.out.now b)
      replace Zg := hid (Zg.out.now b)
      replace Zh := hid (Zh.out.now b)
      replace Zo := hid (Zo.out.now b)
      replace Zpn := hid (Zpn.out.now b)
      replace Zpd := hid (Zpd.out.now b)
      replace Zzn := hid (Zzn.out.now b)
      replace Zzd := hid (Zzd.out.now b)
      replace Pa := hid (Pa.out.step b)
      replace Pk := hid (Pk.out.step b)
      replace PGf := hid (PGf.out.step b)
      replace PHf := hid (PHf.out.step b)
      replace PO := hid (PO.out.step b)
      replace PP := hid (PP.out.step b)
      replace Pz := hid (Pz.out.step b)
      replace PN19 := hid (PN19.out.step b)
      replace G := hid (below_step G.out b)
      replace GR := hid (below_step GR.out b)
      have lz66 := (show Below _ _ _ from b).size
      have Zt := hid m0
      clear b m0
      refine hK.out _ _ (fun _ => ⟨PHf.out.c0, PHf.out.c1⟩) ?_
      clear hK
      refine wpAnyT_one (i := 2) (o := { dst := some 104, op := Op.call { callee := Callee.value (Operand.func 26), args := #[Operand.tmp 102, Operand.tmp 103], argTypes := #[24, 24] }, type := 39, pos := "outright.go:115", after := #[{ on := 0, ground := Ground.data }, { on := 1, ground := Ground.data }, { on := 1, ground := Ground.chain }], guard := none }) (by kernel_rfl) rfl (fun K hK => ?_)
      go_simp
      go_at_call 26
      refine (mod_z Zh.out.zi Zt.out.zi (by decide) (by decide) (by decide)).mono ?_
      rintro e w67 ⟨r0, rfl, m0, b⟩
      obtain ⟨nd, xd, add, qd, rfl, -, -, -, -, -⟩ := id m0
      replace Zan := hid (Zan.out.now b)
      replace Zad := hid (Zad.out.now b)
      replace Zk := hid (Zk.out.now b)
      replace Zg := hid (Zg.out.now b)
      replace Zh := hid (Zh.out.now b)
      replace Zo := hid (Zo.out.now b)
      replace Zpn := hid (Zpn.out.now b)
      replace Zpd := hid (Zpd.out.now b)
      replace Zzn := hid (Zzn.out.now b)
      replace Zzd := hid (Zzd.out.now b)
      replace Zt := hid (Zt.out.now b)
      replace Pa := hid (Pa.out.step b)
      replace Pk := hid (Pk.out.step b)
      replace PGf := hid (PGf.out.step b)
      replace PHf := hid (PHf.out.step b)
      replace PO := hid (PO.out.step b)
      replace PP := hid (PP.out.step b)
      replace Pz := hid (Pz.out.step b)
      replace PN19 := hid (PN19.out.step b)
      replace G := hid (below_step G.out b)
      replace GR := hid (below_step GR.out b)
      have lz68 := (show Below _ _ _ from b).size
      have Zd := hid m0
      clear b m0
      refine hK.out _ _ (fun _ => ⟨PHf.out.c0, PHf.out.c1⟩) ?_
      clear hK
      refine wpAnyT_take (i := 3) (oi := { dst := some 101, op := Op.move (Operand.tmp 104), type := 39, pos := "outright.go:115", after := #[{ on := 2, ground := Ground.data }], guard := none }) (v := (.tuple #[(.agg #[.bool nd, .slice add xd.length qd]), (.int .i64 0)])) rfl (by kernel_rfl) (fun _ _ _ h => h) (Or.inl ⟨by rfl, ?_⟩) ⟨PHf.out.c0, PHf.out.c1⟩ ?_
      · intro w hSw
        (try dsimp only at hSw)
        go_simp
      simp only [Act.put, List.setIfInBounds_toArray, List.set_cons_zero, List.set_cons_succ]
      refine wpAnyT_take (i := 4) (oi := { dst := some 105, op := Op.extract (Operand.tmp 101) 0, type := 24, pos := "outright.go:115", after := #[{ on := 3, ground := Ground.data }], guard := none }) (v := (.agg #[.bool nd, .slice add xd.length qd])) rfl (by kernel_rfl) (fun _ _ _ h => h) (Or.inl ⟨by rfl, ?_⟩) ⟨PHf.out.c0, PHf.out.c1⟩ ?_
      · intro w hSw
        (try dsimp only at hSw)
        go_simp
      simp only [Act.put, List.setIfInBounds_toArray, List.set_cons_zero, List.set_cons_succ]
      refine wpAnyT_take (i := 5) (oi := { dst := some 106, op := Op.extract (Operand.tmp 101) 1, type := 28, pos := "outright.go:115", after := #[{ on := 3, ground := Ground.data }, { on := 7, ground := Ground.gcOnly Departure.lateStores }], guard := none }) (v := (.int .i64 0)) rfl (by kernel_rfl) (fun _ _ _ h => h) (Or.inl ⟨by rfl, ?_⟩) ⟨PHf.out.c0, PHf.out.c1⟩ ?_
      · intro w hSw
        (try dsimp only at hSw)
        go_simp
      simp only [Act.put, List.setIfInBounds_toArray, List.set_cons_zero, List.set_cons_succ]
      refine wpAnyT_one (i := 7) (o := { dst := none, op := Op.store 24 (Operand.tmp 19) (Operand.tmp 105), type := 0, pos := "outright.go:115", after := #[{ on := 6, ground := Ground.data }, { on := 4, ground := Ground.data }, { on := 2, ground := Ground.chain }, { on := 0, ground := Ground.phase }, { on := 1, ground := Ground.phase }, { on := 2, ground := Ground.phase }, { on := 3, ground := Ground.phase }, { on := 4, ground := Ground.phase }, { on := 5, ground := Ground.textOnly Departure.lateStores }, { on := 6, ground := Ground.phase }], guard := none }) (by kernel_rfl) rfl (fun K hK => ?_)
      have cN190 := PN19.out.c0
      have cN191 := PN19.out.c1
      have fN190 := PN19.out.fz 0
      have fN191 := PN19.out.fz 1
      go_simp
      clear cN190 cN191 fN190 fN191
      obtain ⟨V69, hW⟩ : ∃ V69, (w67.setCell ⟨D49.heap.size, 0, none⟩ (.bool nd)).setCell ⟨D49.heap.size, 1, none⟩ (.slice add xd.length qd) = V69 := ⟨_, rfl⟩
      replace Zan := hid ((Zan.out).wk ((PN19.out).wk (.bool nd) (.slice add xd.length qd)))
      replace Zad := hid ((Zad.out).wk ((PN19.out).wk (.bool nd) (.slice add xd.length qd)))
      replace Zk := hid ((Zk.out).wk ((PN19.out).wk (.bool nd) (.slice add xd.length qd)))
      replace Zg := hid ((Zg.out).box (PN19.out) (.bool nd) (.slice add xd.length qd))
      replace Zh := hid ((Zh.out).box (PN19.out) (.bool nd) (.slice add xd.length qd))
      replace Zo := hid ((Zo.out).box (PN19.out) (.bool nd) (.slice add xd.length qd))
      replace Zpn := hid ((Zpn.out).box (PN19.out) (.bool nd) (.slice add xd.length qd))
      replace Zpd := hid ((Zpd.out).box (PN19.out) (.bool nd) (.slice add xd.length qd))
      replace Zzn := hid ((Zzn.out).wk ((PN19.out).wk (.bool nd) (.slice add xd.length qd)))
      replace Zzd := hid ((Zzd.out).wk ((PN19.out).wk (.bool nd) (.slice add xd.length qd)))
      replace Zt := hid ((Zt.out).box (PN19.out) (.bool nd) (.slice add xd.length qd))
      replace Zd := hid ((Zd.out).box (PN19.out) (.bool nd) (.slice add xd.length qd))
      replace Pa := hid ((Pa.out).away2 (b' := D49.heap.size) (by omega) (.bool nd) (.slice add xd.length qd))
      replace Pk := hid ((Pk.out).box (b' := D49.heap.size) (by omega) (.bool nd) (.slice add xd.length qd))
      replace PGf := hid ((PGf.out).box (b' := D49.heap.size) (by omega) (.bool nd) (.slice add xd.length qd))
      replace PHf := hid ((PHf.out).box (b' := D49.heap.size) (by omega) (.bool nd) (.slice add xd.length qd))
      replace PO := hid ((PO.out).box (b' := D49.heap.size) (by omega) (.bool nd) (.slice add xd.length qd))
      replace PP := hid ((PP.out).away2 (b' := D49.heap.size) (by omega) (.bool nd) (.slice add xd.length qd))
      replace Pz := hid ((Pz.out).away2 (b' := D49.heap.size) (by omega) (.bool nd) (.slice add xd.length qd))
      replace PN19 := hid ((PN19.out).set (.bool nd) (.slice add xd.length qd))
      replace G : Hid (Below w.heap.size w (((w67.setCell ⟨D49.heap.size, 0, none⟩ (.bool nd)).setCell ⟨D49.heap.size, 1, none⟩ (.slice add xd.length qd)))) := bset (bset (G.out) (by omega)) (by omega)
      replace GR : Hid (Below w47.heap.size w47 (((w67.setCell ⟨D49.heap.size, 0, none⟩ (.bool nd)).setCell ⟨D49.heap.size, 1, none⟩ (.slice add xd.length qd)))) := bset (bset (GR.out) (by omega)) (by omega)
      have sz69 : V69.heap.size = w67.heap.size := by rw [← hW]; simp
      rw [hW] at Zan Zad Zk Zg Zh Zo Zpn Zpd Zzn Zzd Zt Zd Pa Pk PGf PHf PO PP Pz PN19 G GR
      rw [hW]
      clear hW
      refine hK.out _ _ (fun _ => ⟨PHf.out.c0, PHf.out.c1⟩) ?_
      clear hK
      try simp only [Act.put]
      refine wpAnyT_one (i := 8) (o := { dst := some 20, op := Op.assign (Operand.tmp 106), type := 28, pos := "outright.go:115", after := #[{ on := 5, ground := Ground.data }, { on := 7, ground := Ground.chain }, { on := 0, ground := Ground.phase }, { on := 1, ground := Ground.phase }, { on := 2, ground := Ground.phase }, { on := 3, ground := Ground.phase }, { on := 4, ground := Ground.phase }, { on := 5, ground := Ground.phase }, { on := 6, ground := Ground.phase }, { on := 7, ground := Ground.phase }], guard := none }) (by kernel_rfl) rfl (fun K hK => ?_)
      go_simp
      refine hK.out _ _ (fun h => absurd h (by decide)) ?_
      clear hK
      try simp only [Act.put]
      refine wpAnyT_done (by kernel_rfl) ?_ _
      go_wp2_with fail
      go_meet
      exact ⟨⟨_, _, _, _, _, rfl, GR.out, by omega, PN19.out.blk, PN19.out, Zd.out.mono (by omega)⟩, rfl⟩
  case rest =>
  obtain ⟨⟨bkd, nd, xd, add, qd, rfl, b, ged, ltd, p, m⟩, rfl⟩ := hcut
  replace Zan := hid (Zan.out.now b)
  replace Zad := hid (Zad.out.now b)
  replace Zk := hid (Zk.out.now b)
  replace Zg := hid (Zg.out.now b)
  replace Zh := hid (Zh.out.now b)
  replace Zo := hid (Zo.out.now b)
  replace Zpn := hid (Zpn.out.now b)
  replace Zpd := hid (Zpd.out.now b)
  replace Zzn := hid (Zzn.out.now b)
  replace Zzd := hid (Zzd.out.now b)
  replace Pa := hid (Pa.out.step b)
  replace Pk := hid (Pk.out.step b)
  replace PGf := hid (PGf.out.step b)
  replace PHf := hid (PHf.out.step b)
  replace PO := hid (PO.out.step b)
  replace PP := hid (PP.out.step b)
  replace Pz := hid (Pz.out.step b)
  replace G := hid (below_step G.out b)
  have lz71 := (show Below _ _ _ from b).size
  have Zd := hid m
  have Pd := hid p
  clear b p m
  generalize wc = C71 at *
  obtain ⟨tf, eqf⟩ : ∃ q, q = Rat.divInt AN AD + Rat.divInt J 1 := ⟨_, rfl⟩
  have EQf := hid eqf
  clear eqf
  have CF : Hid (tf.num * AD = (AN + J * AD) * (tf.den : Int)) := by
    have h := cross_q (q := tf) (N := AN * 1 + J * AD) (D := AD * 1) (by rw [Int.mul_one]; exact HD.out) (by rw [EQf.out, ← add_as HD.out (by decide) rfl rfl])
    rw [Int.mul_one, Int.mul_one] at h
    exact h
  have FM := hid (floor_more HD.out CF.out)
  by_cases h3 : C3 = 0
  · skip
    have q3 : (C3 == 0) = true := by rw [h3]; rfl
    have M2 := hid (C0.out h3)
    have HS : Hid (∀ w' v l, Zi w' v (vm % 2) l → Calls Try.prog 19 #[v] w' fun e w'' => e = .returned (.int .i64 0) ∧ Below w'.heap.size w' w'') := fun w' v l h' => by
      have q := sign_z h'
      rw [M2.out, cmpI_self] at q
      exact q
    clear h3
    have cd0 := Pd.out.c0
    have cd1 := Pd.out.c1
    go_wp2_with fail
    clear cd0 cd1
    refine (HS.out _ _ _ Zd.out.zi).mono ?_
    rintro e w72 ⟨rfl, b⟩
    replace Zan := hid (Zan.out.now b)
    replace Zad := hid (Zad.out.now b)
    replace Zk := hid (Zk.out.now b)
    replace Zg := hid (Zg.out.now b)
    replace Zh := hid (Zh.out.now b)
    replace Zo := hid (Zo.out.now b)
    replace Zpn := hid (Zpn.out.now b)
    replace Zpd := hid (Zpd.out.now b)
    replace Zzn := hid (Zzn.out.now b)
    replace Zzd := hid (Zzd.out.now b)
    replace Zd := hid (Zd.out.now b)
    replace Pa := hid (Pa.out.step b)
    replace Pk := hid (Pk.out.step b)
    replace PGf := hid (PGf.out.step b)
    replace PHf := hid (PHf.out.step b)
    replace PO := hid (PO.out.step b)
    replace PP := hid (PP.out.step b)
    replace Pz := hid (Pz.out.step b)
    replace Pd := hid (Pd.out.step b)
    replace G := hid (below_step G.out b)
    have lz73 := (show Below _ _ _ from b).size
    clear b 
    have ca0 := (Pa.out.at (i := 0) rfl)
    have ca1 := (Pa.out.at (i := 1) rfl)
    have ca2 := (Pa.out.at (i := 2) rfl)
    have ca3 := (Pa.out.at (i := 3) rfl)
    have ck0 := Pk.out.c0
    have ck1 := Pk.out.c1
    have cO0 := PO.out.c0
    have cO1 := PO.out.c1
    go_wp2_with fail
    clear ca0 ca1 ca2 ca3 ck0 ck1 cO0 cO1
    refine (faddq (k := 1048580) (l := 2097161) (Zan.out.more (by decide)) (Zad.out.more (by decide)) (Zk.out.more (by decide)) (Zo.out.zi.more (by decide)) HD.out (by decide) rfl rfl EQf.out (by decide) (by decide)).mono ?_
    rintro e w74 ⟨r0, r1, r2, r3, rfl, m0, m1, b⟩
    obtain ⟨nfn, xfn, adfn, qfn, rfl, rfl⟩ := m0.zi.comp
    obtain ⟨nfd, xfd, adfd, qfd, rfl, rfl⟩ := m1.zi.comp
    replace Zan := hid (Zan.out.now b)
    replace Zad := hid (Zad.out.now b)
    replace Zk := hid (Zk.out.now b)
    replace Zg := hid (Zg.out.now b)
    replace Zh := hid (Zh.out.now b)
    replace Zo := hid (Zo.out.now b)
    replace Zpn := hid (Zpn.out.now b)
    replace Zpd := hid (Zpd.out.now b)
    replace Zzn := hid (Zzn.out.now b)
    replace Zzd := hid (Zzd.out.now b)
    replace Zd := hid (Zd.out.now b)
    replace Pa := hid (Pa.out.step b)
    replace Pk := hid (Pk.out.step b)
    replace PGf := hid (PGf.out.step b)
    replace PHf := hid (PHf.out.step b)
    replace PO := hid (PO.out.step b)
    replace PP := hid (PP.out.step b)
    replace Pz := hid (Pz.out.step b)
    replace Pd := hid (Pd.out.step b)
    replace G := hid (below_step G.out b)
    have lz75 := (show Below _ _ _ from b).size
    have Zfn := hid m0
    have Zfd := hid m1
    clear b m0 m1
    obtain ⟨V76, hW⟩ : ∃ V76, w74.alloc (.cells #[(.bool nfn), (.slice adfn xfn.length qfn), (.bool nfd), (.slice adfd xfd.length qfd)] 26) = V76 := ⟨_, rfl⟩
    obtain ⟨kW, sz76⟩ := alloc1 w74 (.cells #[(.bool nfn), (.slice adfn xfn.length qfn), (.bool nfd), (.slice adfd xfd.length qfd)] 26)
    rw [hW] at kW sz76
    replace Zan := hid (Zan.out.now kW)
    replace Zad := hid (Zad.out.now kW)
    replace Zk := hid (Zk.out.now kW)
    replace Zg := hid (Zg.out.now kW)
    replace Zh := hid (Zh.out.now kW)
    replace Zo := hid (Zo.out.now kW)
    replace Zpn := hid (Zpn.out.now kW)
    replace Zpd := hid (Zpd.out.now kW)
    replace Zzn := hid (Zzn.out.now kW)
    replace Zzd := hid (Zzd.out.now kW)
    replace Zd := hid (Zd.out.now kW)
    replace Zfn := hid (Zfn.out.now kW)
    replace Zfd := hid (Zfd.out.now kW)
    replace Pa := hid (Pa.out.step kW)
    replace Pk := hid (Pk.out.step kW)
    replace PGf := hid (PGf.out.step kW)
    replace PHf := hid (PHf.out.step kW)
    replace PO := hid (PO.out.step kW)
    replace PP := hid (PP.out.step kW)
    replace Pz := hid (Pz.out.step kW)
    replace Pd := hid (Pd.out.step kW)
    replace G := hid (below_step G.out kW)
    have lz77 := (show Below _ _ _ from kW).size
    have PF : Hid (Cel V76 (w74.heap.size) 26 [(.bool nfn), (.slice adfn xfn.length qfn), (.bool nfd), (.slice adfd xfd.length qfd)]) := by unfold Hid; rw [← hW]; exact cel_at (by simp)
    clear kW
    have cF0 := (PF.out.at (i := 0) rfl)
    have cF1 := (PF.out.at (i := 1) rfl)
    have cF2 := (PF.out.at (i := 2) rfl)
    have cF3 := (PF.out.at (i := 3) rfl)
    rw [← hW] at cF0 cF1 cF2 cF3
    have EW := hid hW
    clear hW
    go_wp2_with fail
    rw [EW.out]
    clear EW
    clear cF0 cF1 cF2 cF3
    refine (ffloor_z Zfn.out.zi Zfd.out.zi (by decide) (den_ne _)).mono ?_
    rintro e w78 ⟨r0, rfl, m0, b⟩
    obtain ⟨nu, xu, adu, qu, rfl, -, -, -, -, -⟩ := id m0
    replace Zan := hid (Zan.out.now b)
    replace Zad := hid (Zad.out.now b)
    replace Zk := hid (Zk.out.now b)
    replace Zg := hid (Zg.out.now b)
    replace Zh := hid (Zh.out.now b)
    replace Zo := hid (Zo.out.now b)
    replace Zpn := hid (Zpn.out.now b)
    replace Zpd := hid (Zpd.out.now b)
    replace Zzn := hid (Zzn.out.now b)
    replace Zzd := hid (Zzd.out.now b)
    replace Zd := hid (Zd.out.now b)
    replace Zfn := hid (Zfn.out.now b)
    replace Zfd := hid (Zfd.out.now b)
    replace Pa := hid (Pa.out.step b)
    replace Pk := hid (Pk.out.step b)
    replace PGf := hid (PGf.out.step b)
    replace PHf := hid (PHf.out.step b)
    replace PO := hid (PO.out.step b)
    replace PP := hid (PP.out.step b)
    replace Pz := hid (Pz.out.step b)
    replace Pd := hid (Pd.out.step b)
    replace PF := hid (PF.out.step b)
    replace G := hid (below_step G.out b)
    have lz79 := (show Below _ _ _ from b).size
    have Zu := hid m0
    clear b m0
    obtain ⟨V80, hW⟩ : ∃ V80, w78.alloc (duo (.bool nu) (.slice adu xu.length qu)) = V80 := ⟨_, rfl⟩
    obtain ⟨kW, sz80⟩ := alloc1 w78 (duo (.bool nu) (.slice adu xu.length qu))
    rw [hW] at kW sz80
    replace Zan := hid (Zan.out.now kW)
    replace Zad := hid (Zad.out.now kW)
    replace Zk := hid (Zk.out.now kW)
    replace Zg := hid (Zg.out.now kW)
    replace Zh := hid (Zh.out.now kW)
    replace Zo := hid (Zo.out.now kW)
    replace Zpn := hid (Zpn.out.now kW)
    replace Zpd := hid (Zpd.out.now kW)
    replace Zzn := hid (Zzn.out.now kW)
    replace Zzd := hid (Zzd.out.now kW)
    replace Zd := hid (Zd.out.now kW)
    replace Zfn := hid (Zfn.out.now kW)
    replace Zfd := hid (Zfd.out.now kW)
    replace Zu := hid (Zu.out.now kW)
    replace Pa := hid (Pa.out.step kW)
    replace Pk := hid (Pk.out.step kW)
    replace PGf := hid (PGf.out.step kW)
    replace PHf := hid (PHf.out.step kW)
    replace PO := hid (PO.out.step kW)
    replace PP := hid (PP.out.step kW)
    replace Pz := hid (Pz.out.step kW)
    replace Pd := hid (Pd.out.step kW)
    replace PF := hid (PF.out.step kW)
    replace G := hid (below_step G.out kW)
    have lz81 := (show Below _ _ _ from kW).size
    have PU : Hid (Duo V80 (w78.heap.size) (.bool nu) (.slice adu xu.length qu)) := by unfold Hid; rw [← hW]; exact duo_at (by simp)
    clear kW
    have q4 : ((0 : Int) == 0) = true := rfl
    have EW := hid hW
    clear hW
    go_wp2_with fail
    rw [EW.out]
    clear EW
    refine wp_region_tail (fun w' => w'.cell? ⟨w78.heap.size, 0, none⟩ = some (.bool nu) ∧ w'.cell? ⟨w78.heap.size, 1, none⟩ = some (.slice adu xu.length qu) ∧ w'.cell? ⟨w3.heap.size, 0, none⟩ = some (.bool ng) ∧ w'.cell? ⟨w3.heap.size, 1, none⟩ = some (.slice adg xg.length qg) ∧ w'.cell? ⟨w.heap.size + 1, 0, none⟩ = some (.bool nk) ∧ w'.cell? ⟨w.heap.size + 1, 1, none⟩ = some (.slice adk xk.length ck)) 9 (by kernel_rfl) ?_
    obtain ⟨D82, hD⟩ : ∃ D82, V80.drew = D82 := ⟨_, rfl⟩
    have b : Below V80.heap.size V80 D82 := by rw [← hD]; exact (Below.refl _ _).drew
    rw [hD]
    clear hD
    replace Zan := hid (Zan.out.now b)
    replace Zad := hid (Zad.out.now b)
    replace Zk := hid (Zk.out.now b)
    replace Zg := hid (Zg.out.now b)
    replace Zh := hid (Zh.out.now b)
    replace Zo := hid (Zo.out.now b)
    replace Zpn := hid (Zpn.out.now b)
    replace Zpd := hid (Zpd.out.now b)
    replace Zzn := hid (Zzn.out.now b)
    replace Zzd := hid (Zzd.out.now b)
    replace Zd := hid (Zd.out.now b)
    replace Zfn := hid (Zfn.out.now b)
    replace Zfd := hid (Zfd.out.now b)
    replace Zu := hid (Zu.out.now b)
    replace Pa := hid (Pa.out.step b)
    replace Pk := hid (Pk.out.step b)
    replace PGf := hid (PGf.out.step b)
    replace PHf := hid (PHf.out.step b)
    replace PO := hid (PO.out.step b)
    replace PP := hid (PP.out.step b)
    replace Pz := hid (Pz.out.step b)
    replace Pd := hid (Pd.out.step b)
    replace PF := hid (PF.out.step b)
    replace PU := hid (PU.out.step b)
    replace G := hid (below_step G.out b)
    have lz83 := (show Below _ _ _ from b).size
    clear b
    refine wpAnyT_take (i := 0) (oi := { dst := some 131, op := Op.move (Operand.tmp 24), type := 28, pos := "outright.go:121", after := #[], guard := none }) (v := (.int .i64 0)) rfl (by kernel_rfl) (fun _ _ _ h => h) (Or.inl ⟨by rfl, ?_⟩) ⟨PU.out.c0, PU.out.c1, PGf.out.c0, PGf.out.c1, Pk.out.c0, Pk.out.c1⟩ ?_
    · intro w hSw
      (try dsimp only at hSw)
      go_simp
    simp only [Act.put, List.setIfInBounds_toArray, List.set_cons_zero, List.set_cons_succ]
    refine wpAnyT_take (i := 1) (oi := { dst := some 132, op := Op.binOp BinOp.eql 28 (Operand.tmp 131) (Operand.const (Value.int IntKind.i64 0)) 28, type := 4, pos := "outright.go:121", after := #[{ on := 0, ground := Ground.data }], guard := none }) (v := (.bool true)) rfl (by kernel_rfl) (fun _ _ _ h => h) (Or.inl ⟨by rfl, ?_⟩) ⟨PU.out.c0, PU.out.c1, PGf.out.c0, PGf.out.c1, Pk.out.c0, Pk.out.c1⟩ ?_
    · intro w hSw
      (try dsimp only at hSw)
      go_simp
    simp only [Act.put, List.setIfInBounds_toArray, List.set_cons_zero, List.set_cons_succ]
    refine wpAnyT_take (i := 2) (oi := { dst := some 133, op := Op.move (Operand.tmp 132), type := 4, pos := "outright.go:121", after := #[{ on := 1, ground := Ground.data }], guard := none }) (v := (.bool true)) rfl (by kernel_rfl) (fun _ _ _ h => h) (Or.inl ⟨by rfl, ?_⟩) ⟨PU.out.c0, PU.out.c1, PGf.out.c0, PGf.out.c1, Pk.out.c0, Pk.out.c1⟩ ?_
    · intro w hSw
      (try dsimp only at hSw)
      go_simp
    simp only [Act.put, List.setIfInBounds_toArray, List.set_cons_zero, List.set_cons_succ]
    refine wpAnyT_take (i := 3) (oi := { dst := some 134, op := Op.load 24 (Operand.tmp 23), type := 24, pos := "outright.go:121", after := #[{ on := 2, ground := Ground.guard }], guard := some (2, true) }) (v := (.agg #[(.bool nu), (.slice adu xu.length qu)])) rfl (by kernel_rfl) (fun _ _ _ h => h) (Or.inl ⟨by rfl, ?_⟩) ⟨PU.out.c0, PU.out.c1, PGf.out.c0, PGf.out.c1, Pk.out.c0, Pk.out.c1⟩ ?_
    · intro w hSw
      (try dsimp only at hSw)
      go_simp
    simp only [Act.put, List.setIfInBounds_toArray, List.set_cons_zero, List.set_cons_succ]
    refine wpAnyT_take (i := 4) (oi := { dst := some 135, op := Op.load 24 (Operand.tmp 5), type := 24, pos := "outright.go:121", after := #[{ on := 2, ground := Ground.guard }], guard := some (2, true) }) (v := (.agg #[(.bool ng), (.slice adg xg.length qg)])) rfl (by kernel_rfl) (fun _ _ _ h => h) (Or.inl ⟨by rfl, ?_⟩) ⟨PU.out.c0, PU.out.c1, PGf.out.c0, PGf.out.c1, Pk.out.c0, Pk.out.c1⟩ ?_
    · intro w hSw
      (try dsimp only at hSw)
      go_simp
    simp only [Act.put, List.setIfInBounds_toArray, List.set_cons_zero, List.set_cons_succ]
    refine wpAnyT_take (i := 5) (oi := { dst := some 136, op := Op.load 24 (Operand.tmp 3), type := 24, pos := "outright.go:121", after := #[{ on := 2, ground := Ground.guard }], guard := some (2, true) }) (v := (.agg #[(.bool nk), (.slice adk xk.length ck)])) rfl (by kernel_rfl) (fun _ _ _ h => h) (Or.inl ⟨by rfl, ?_⟩) ⟨PU.out.c0, PU.out.c1, PGf.out.c0, PGf.out.c1, Pk.out.c0, Pk.out.c1⟩ ?_
    · intro w hSw
      (try dsimp only at hSw)
      go_simp
    simp only [Act.put, List.setIfInBounds_toArray, List.set_cons_zero, List.set_cons_succ]
    refine wpAnyT_one (i := 6) (o := { dst := some 137, op := Op.call { callee := Callee.value (Operand.func 17), args := #[Operand.tmp 135, Operand.tmp 136], argTypes := #[24, 24] }, type := 24, pos := "outright.go:121", after := #[{ on := 4, ground := Ground.data }, { on := 5, ground := Ground.data }, { on := 2, ground := Ground.chain }, { on := 2, ground := Ground.guard }], guard := some (2, true) }) (by kernel_rfl) rfl (fun K hK => ?_)
    go_simp
    go_at_call 17
    refine (add_z Zg.out.zi Zk.out (by decide) (by decide)).mono ?_
    rintro e w84 ⟨r0, rfl, m0, b⟩
    obtain ⟨nv, xv, adv, qv, rfl, -, -, -, -, -⟩ := id m0
    replace Zan := hid (Zan.out.now b)
    replace Zad := hid (Zad.out.now b)
    replace Zk := hid (Zk.out.now b)
    replace Zg := hid (Zg.out.now b)
    replace Zh := hid (Zh.out.now b)
    replace Zo := hid (Zo.out.now b)
    replace Zpn := hid (Zpn.out.now b)
    replace Zpd := hid (Zpd.out.now b)
    replace Zzn := hid (Zzn.out.now b)
    replace Zzd := hid (Zzd.out.now b)
    replace Zd := hid (Zd.out.now b)
    replace Zfn := hid (Zfn.out.now b)
    replace Zfd := hid (Zfd.out.now b)
    replace Zu := hid (Zu.out.now b)
    replace Pa := hid (Pa.out.step b)
    replace Pk := hid (Pk.out.step b)
    replace PGf := hid (PGf.out.step b)
    replace PHf := hid (PHf.out.step b)
    replace PO := hid (PO.out.step b)
    replace PP := hid (PP.out.step b)
    replace Pz := hid (Pz.out.step b)
    replace Pd := hid (Pd.out.step b)
    replace PF := hid (PF.out.step b)
    replace PU := hid (PU.out.step b)
    replace G := hid (below_step G.out b)
    have lz85 := (show Below _ _ _ from b).size
    have Zv := hid m0
    clear b m0
    refine hK.out _ _ (fun _ => ⟨PU.out.c0, PU.out.c1, PGf.out.c0, PGf.out.c1, Pk.out.c0, Pk.out.c1⟩) ?_
    clear hK
    refine wpAnyT_one (i := 7) (o := { dst := some 138, op := Op.call { callee := Callee.value (Operand.func 27), args := #[Operand.tmp 134, Operand.tmp 137], argTypes := #[24, 24] }, type := 4, pos := "outright.go:121", after := #[{ on := 3, ground := Ground.data }, { on := 6, ground := Ground.data }, { on := 6, ground := Ground.chain }, { on := 2, ground := Ground.guard }], guard := some (2, true) }) (by kernel_rfl) rfl (fun K hK => ?_)
    go_simp
    go_at_call 27
    refine (alike8_yes Zu.out.zc Zv.out.zc FM.out).mono ?_
    rintro e w86 ⟨rfl, b⟩
    replace Zan := hid (Zan.out.now b)
    replace Zad := hid (Zad.out.now b)
    replace Zk := hid (Zk.out.now b)
    replace Zg := hid (Zg.out.now b)
    replace Zh := hid (Zh.out.now b)
    replace Zo := hid (Zo.out.now b)
    replace Zpn := hid (Zpn.out.now b)
    replace Zpd := hid (Zpd.out.now b)
    replace Zzn := hid (Zzn.out.now b)
    replace Zzd := hid (Zzd.out.now b)
    replace Zd := hid (Zd.out.now b)
    replace Zfn := hid (Zfn.out.now b)
    replace Zfd := hid (Zfd.out.now b)
    replace Zu := hid (Zu.out.now b)
    replace Zv := hid (Zv.out.now b)
    replace Pa := hid (Pa.out.step b)
    replace Pk := hid (Pk.out.step b)
    replace PGf := hid (PGf.out.step b)
    replace PHf := hid (PHf.out.step b)
    replace PO := hid (PO.out.step b)
    replace PP := hid (PP.out.step b)
    replace Pz := hid (Pz.out.step b)
    replace Pd := hid (Pd.out.step b)
    replace PF := hid (PF.out.step b)
    replace PU := hid (PU.out.step b)
    replace G := hid (below_step G.out b)
    have lz87 := (show Below _ _ _ from b).size
    clear b 
    refine hK.out _ _ (fun _ => ⟨PU.out.c0, PU.out.c1, PGf.out.c0, PGf.out.c1, Pk.out.c0, Pk.out.c1⟩) ?_
    clear hK
    refine wpAnyT_take (i := 8) (oi := { dst := some 139, op := Op.pick (Operand.tmp 133) (Operand.tmp 138) (Operand.const (Value.bool false)), type := 4, pos := "outright.go:121", after := #[{ on := 2, ground := Ground.data }, { on := 7, ground := Ground.data }], guard := none }) (v := (.bool true)) rfl (by kernel_rfl) (fun _ _ _ h => h) (Or.inl ⟨by rfl, ?_⟩) ⟨PU.out.c0, PU.out.c1, PGf.out.c0, PGf.out.c1, Pk.out.c0, Pk.out.c1⟩ ?_
    · intro w hSw
      (try dsimp only at hSw)
      go_simp
    simp only [Act.put, List.setIfInBounds_toArray, List.set_cons_zero, List.set_cons_succ]
    refine wpAnyT_one (i := 9) (o := { dst := some 4, op := Op.assign (Operand.tmp 139), type := 4, pos := "outright.go:121", after := #[{ on := 8, ground := Ground.data }, { on := 7, ground := Ground.chain }, { on := 0, ground := Ground.phase }, { on := 1, ground := Ground.phase }, { on := 2, ground := Ground.phase }, { on := 3, ground := Ground.phase }, { on := 4, ground := Ground.phase }, { on := 5, ground := Ground.phase }, { on := 6, ground := Ground.phase }, { on := 7, ground := Ground.phase }, { on := 8, ground := Ground.phase }], guard := none }) (by kernel_rfl) rfl (fun K hK => ?_)
    go_simp
    refine hK.out _ _ (fun h => absurd h (by decide)) ?_
    clear hK
    try simp only [Act.put]
    refine wpAnyT_done (by kernel_rfl) ?_ _
    go_wp2
    go_ret
    exact ⟨rfl, G.out⟩
  · skip
    have q3 : (C3 == 0) = false := by rw [beq_eq_false_iff_ne]; exact h3
    clear h3
    have ca0 := (Pa.out.at (i := 0) rfl)
    have ca1 := (Pa.out.at (i := 1) rfl)
    have ca2 := (Pa.out.at (i := 2) rfl)
    have ca3 := (Pa.out.at (i := 3) rfl)
    have ck0 := Pk.out.c0
    have ck1 := Pk.out.c1
    have cO0 := PO.out.c0
    have cO1 := PO.out.c1
    go_wp2_with fail
    clear ca0 ca1 ca2 ca3 ck0 ck1 cO0 cO1
    refine (faddq (k := 1048580) (l := 2097161) (Zan.out.more (by decide)) (Zad.out.more (by decide)) (Zk.out.more (by decide)) (Zo.out.zi.more (by decide)) HD.out (by decide) rfl rfl EQf.out (by decide) (by decide)).mono ?_
    rintro e w72 ⟨r0, r1, r2, r3, rfl, m0, m1, b⟩
    obtain ⟨nfn, xfn, adfn, qfn, rfl, rfl⟩ := m0.zi.comp
    obtain ⟨nfd, xfd, adfd, qfd, rfl, rfl⟩ := m1.zi.comp
    replace Zan := hid (Zan.out.now b)
    replace Zad := hid (Zad.out.now b)
    replace Zk := hid (Zk.out.now b)
    replace Zg := hid (Zg.out.now b)
    replace Zh := hid (Zh.out.now b)
    replace Zo := hid (Zo.out.now b)
    replace Zpn := hid (Zpn.out.now b)
    replace Zpd := hid (Zpd.out.now b)
    replace Zzn := hid (Zzn.out.now b)
    replace Zzd := hid (Zzd.out.now b)
    replace Zd := hid (Zd.out.now b)
    replace Pa := hid (Pa.out.step b)
    replace Pk := hid (Pk.out.step b)
    replace PGf := hid (PGf.out.step b)
    replace PHf := hid (PHf.out.step b)
    replace PO := hid (PO.out.step b)
    replace PP := hid (PP.out.step b)
    replace Pz := hid (Pz.out.step b)
    replace Pd := hid (Pd.out.step b)
    replace G := hid (below_step G.out b)
    have lz73 := (show Below _ _ _ from b).size
    have Zfn := hid m0
    have Zfd := hid m1
    clear b m0 m1
    obtain ⟨V74, hW⟩ : ∃ V74, w72.alloc (.cells #[(.bool nfn), (.slice adfn xfn.length qfn), (.bool nfd), (.slice adfd xfd.length qfd)] 26) = V74 := ⟨_, rfl⟩
    obtain ⟨kW, sz74⟩ := alloc1 w72 (.cells #[(.bool nfn), (.slice adfn xfn.length qfn), (.bool nfd), (.slice adfd xfd.length qfd)] 26)
    rw [hW] at kW sz74
    replace Zan := hid (Zan.out.now kW)
    replace Zad := hid (Zad.out.now kW)
    replace Zk := hid (Zk.out.now kW)
    replace Zg := hid (Zg.out.now kW)
    replace Zh := hid (Zh.out.now kW)
    replace Zo := hid (Zo.out.now kW)
    replace Zpn := hid (Zpn.out.now kW)
    replace Zpd := hid (Zpd.out.now kW)
    replace Zzn := hid (Zzn.out.now kW)
    replace Zzd := hid (Zzd.out.now kW)
    replace Zd := hid (Zd.out.now kW)
    replace Zfn := hid (Zfn.out.now kW)
    replace Zfd := hid (Zfd.out.now kW)
    replace Pa := hid (Pa.out.step kW)
    replace Pk := hid (Pk.out.step kW)
    replace PGf := hid (PGf.out.step kW)
    replace PHf := hid (PHf.out.step kW)
    replace PO := hid (PO.out.step kW)
    replace PP := hid (PP.out.step kW)
    replace Pz := hid (Pz.out.step kW)
    replace Pd := hid (Pd.out.step kW)
    replace G := hid (below_step G.out kW)
    have lz75 := (show Below _ _ _ from kW).size
    have PF : Hid (Cel V74 (w72.heap.size) 26 [(.bool nfn), (.slice adfn xfn.length qfn), (.bool nfd), (.slice adfd xfd.length qfd)]) := by unfold Hid; rw [← hW]; exact cel_at (by simp)
    clear kW
    have cF0 := (PF.out.at (i := 0) rfl)
    have cF1 := (PF.out.at (i := 1) rfl)
    have cF2 := (PF.out.at (i := 2) rfl)
    have cF3 := (PF.out.at (i := 3) rfl)
    rw [← hW] at cF0 cF1 cF2 cF3
    have EW := hid hW
    clear hW
    go_wp2_with fail
    rw [EW.out]
    clear EW
    clear cF0 cF1 cF2 cF3
    refine (ffloor_z Zfn.out.zi Zfd.out.zi (by decide) (den_ne _)).mono ?_
    rintro e w76 ⟨r0, rfl, m0, b⟩
    obtain ⟨nu, xu, adu, qu, rfl, -, -, -, -, -⟩ := id m0
    replace Zan := hid (Zan.out.now b)
    replace Zad := hid (Zad.out.now b)
    replace Zk := hid (Zk.out.now b)
    replace Zg := hid (Zg.out.now b)
    replace Zh := hid (Zh.out.now b)
    replace Zo := hid (Zo.out.now b)
    replace Zpn := hid (Zpn.out.now b)
    replace Zpd := hid (Zpd.out.now b)
    replace Zzn := hid (Zzn.out.now b)
    replace Zzd := hid (Zzd.out.now b)
    replace Zd := hid (Zd.out.now b)
    replace Zfn := hid (Zfn.out.now b)
    replace Zfd := hid (Zfd.out.now b)
    replace Pa := hid (Pa.out.step b)
    replace Pk := hid (Pk.out.step b)
    replace PGf := hid (PGf.out.step b)
    replace PHf := hid (PHf.out.step b)
    replace PO := hid (PO.out.step b)
    replace PP := hid (PP.out.step b)
    replace Pz := hid (Pz.out.step b)
    replace Pd := hid (Pd.out.step b)
    replace PF := hid (PF.out.step b)
    replace G := hid (below_step G.out b)
    have lz77 := (show Below _ _ _ from b).size
    have Zu := hid m0
    clear b m0
    obtain ⟨V78, hW⟩ : ∃ V78, w76.alloc (duo (.bool nu) (.slice adu xu.length qu)) = V78 := ⟨_, rfl⟩
    obtain ⟨kW, sz78⟩ := alloc1 w76 (duo (.bool nu) (.slice adu xu.length qu))
    rw [hW] at kW sz78
    replace Zan := hid (Zan.out.now kW)
    replace Zad := hid (Zad.out.now kW)
    replace Zk := hid (Zk.out.now kW)
    replace Zg := hid (Zg.out.now kW)
    replace Zh := hid (Zh.out.now kW)
    replace Zo := hid (Zo.out.now kW)
    replace Zpn := hid (Zpn.out.now kW)
    replace Zpd := hid (Zpd.out.now kW)
    replace Zzn := hid (Zzn.out.now kW)
    replace Zzd := hid (Zzd.out.now kW)
    replace Zd := hid (Zd.out.now kW)
    replace Zfn := hid (Zfn.out.now kW)
    replace Zfd := hid (Zfd.out.now kW)
    replace Zu := hid (Zu.out.now kW)
    replace Pa := hid (Pa.out.step kW)
    replace Pk := hid (Pk.out.step kW)
    replace PGf := hid (PGf.out.step kW)
    replace PHf := hid (PHf.out.step kW)
    replace PO := hid (PO.out.step kW)
    replace PP := hid (PP.out.step kW)
    replace Pz := hid (Pz.out.step kW)
    replace Pd := hid (Pd.out.step kW)
    replace PF := hid (PF.out.step kW)
    replace G := hid (below_step G.out kW)
    have lz79 := (show Below _ _ _ from kW).size
    have PU : Hid (Duo V78 (w76.heap.size) (.bool nu) (.slice adu xu.length qu)) := by unfold Hid; rw [← hW]; exact duo_at (by simp)
    clear kW
    have q4 : ((0 : Int) == 0) = true := rfl
    have EW := hid hW
    clear hW
    go_wp2_with fail
    rw [EW.out]
    clear EW
    refine wp_region_tail (fun w' => w'.cell? ⟨w76.heap.size, 0, none⟩ = some (.bool nu) ∧ w'.cell? ⟨w76.heap.size, 1, none⟩ = some (.slice adu xu.length qu) ∧ w'.cell? ⟨w3.heap.size, 0, none⟩ = some (.bool ng) ∧ w'.cell? ⟨w3.heap.size, 1, none⟩ = some (.slice adg xg.length qg) ∧ w'.cell? ⟨w.heap.size + 1, 0, none⟩ = some (.bool nk) ∧ w'.cell? ⟨w.heap.size + 1, 1, none⟩ = some (.slice adk xk.length ck)) 9 (by kernel_rfl) ?_
    obtain ⟨D80, hD⟩ : ∃ D80, V78.drew = D80 := ⟨_, rfl⟩
    have b : Below V78.heap.size V78 D80 := by rw [← hD]; exact (Below.refl _ _).drew
    rw [hD]
    clear hD
    replace Zan := hid (Zan.out.now b)
    replace Zad := hid (Zad.out.now b)
    replace Zk := hid (Zk.out.now b)
    replace Zg := hid (Zg.out.now b)
    replace Zh := hid (Zh.out.now b)
    replace Zo := hid (Zo.out.now b)
    replace Zpn := hid (Zpn.out.now b)
    replace Zpd := hid (Zpd.out.now b)
    replace Zzn := hid (Zzn.out.now b)
    replace Zzd := hid (Zzd.out.now b)
    replace Zd := hid (Zd.out.now b)
    replace Zfn := hid (Zfn.out.now b)
    replace Zfd := hid (Zfd.out.now b)
    replace Zu := hid (Zu.out.now b)
    replace Pa := hid (Pa.out.step b)
    replace Pk := hid (Pk.out.step b)
    replace PGf := hid (PGf.out.step b)
    replace PHf := hid (PHf.out.step b)
    replace PO := hid (PO.out.step b)
    replace PP := hid (PP.out.step b)
    replace Pz := hid (Pz.out.step b)
    replace Pd := hid (Pd.out.step b)
    replace PF := hid (PF.out.step b)
    replace PU := hid (PU.out.step b)
    replace G := hid (below_step G.out b)
    have lz81 := (show Below _ _ _ from b).size
    clear b
    refine wpAnyT_take (i := 0) (oi := { dst := some 131, op := Op.move (Operand.tmp 24), type := 28, pos := "outright.go:121", after := #[], guard := none }) (v := (.int .i64 0)) rfl (by kernel_rfl) (fun _ _ _ h => h) (Or.inl ⟨by rfl, ?_⟩) ⟨PU.out.c0, PU.out.c1, PGf.out.c0, PGf.out.c1, Pk.out.c0, Pk.out.c1⟩ ?_
    · intro w hSw
      (try dsimp only at hSw)
      go_simp
    simp only [Act.put, List.setIfInBounds_toArray, List.set_cons_zero, List.set_cons_succ]
    refine wpAnyT_take (i := 1) (oi := { dst := some 132, op := Op.binOp BinOp.eql 28 (Operand.tmp 131) (Operand.const (Value.int IntKind.i64 0)) 28, type := 4, pos := "outright.go:121", after := #[{ on := 0, ground := Ground.data }], guard := none }) (v := (.bool true)) rfl (by kernel_rfl) (fun _ _ _ h => h) (Or.inl ⟨by rfl, ?_⟩) ⟨PU.out.c0, PU.out.c1, PGf.out.c0, PGf.out.c1, Pk.out.c0, Pk.out.c1⟩ ?_
    · intro w hSw
      (try dsimp only at hSw)
      go_simp
    simp only [Act.put, List.setIfInBounds_toArray, List.set_cons_zero, List.set_cons_succ]
    refine wpAnyT_take (i := 2) (oi := { dst := some 133, op := Op.move (Operand.tmp 132), type := 4, pos := "outright.go:121", after := #[{ on := 1, ground := Ground.data }], guard := none }) (v := (.bool true)) rfl (by kernel_rfl) (fun _ _ _ h => h) (Or.inl ⟨by rfl, ?_⟩) ⟨PU.out.c0, PU.out.c1, PGf.out.c0, PGf.out.c1, Pk.out.c0, Pk.out.c1⟩ ?_
    · intro w hSw
      (try dsimp only at hSw)
      go_simp
    simp only [Act.put, List.setIfInBounds_toArray, List.set_cons_zero, List.set_cons_succ]
    refine wpAnyT_take (i := 3) (oi := { dst := some 134, op := Op.load 24 (Operand.tmp 23), type := 24, pos := "outright.go:121", after := #[{ on := 2, ground := Ground.guard }], guard := some (2, true) }) (v := (.agg #[(.bool nu), (.slice adu xu.length qu)])) rfl (by kernel_rfl) (fun _ _ _ h => h) (Or.inl ⟨by rfl, ?_⟩) ⟨PU.out.c0, PU.out.c1, PGf.out.c0, PGf.out.c1, Pk.out.c0, Pk.out.c1⟩ ?_
    · intro w hSw
      (try dsimp only at hSw)
      go_simp
    simp only [Act.put, List.setIfInBounds_toArray, List.set_cons_zero, List.set_cons_succ]
    refine wpAnyT_take (i := 4) (oi := { dst := some 135, op := Op.load 24 (Operand.tmp 5), type := 24, pos := "outright.go:121", after := #[{ on := 2, ground := Ground.guard }], guard := some (2, true) }) (v := (.agg #[(.bool ng), (.slice adg xg.length qg)])) rfl (by kernel_rfl) (fun _ _ _ h => h) (Or.inl ⟨by rfl, ?_⟩) ⟨PU.out.c0, PU.out.c1, PGf.out.c0, PGf.out.c1, Pk.out.c0, Pk.out.c1⟩ ?_
    · intro w hSw
      (try dsimp only at hSw)
      go_simp
    simp only [Act.put, List.setIfInBounds_toArray, List.set_cons_zero, List.set_cons_succ]
    refine wpAnyT_take (i := 5) (oi := { dst := some 136, op := Op.load 24 (Operand.tmp 3), type := 24, pos := "outright.go:121", after := #[{ on := 2, ground := Ground.guard }], guard := some (2, true) }) (v := (.agg #[(.bool nk), (.slice adk xk.length ck)])) rfl (by kernel_rfl) (fun _ _ _ h => h) (Or.inl ⟨by rfl, ?_⟩) ⟨PU.out.c0, PU.out.c1, PGf.out.c0, PGf.out.c1, Pk.out.c0, Pk.out.c1⟩ ?_
    · intro w hSw
      (try dsimp only at hSw)
      go_simp
    simp only [Act.put, List.setIfInBounds_toArray, List.set_cons_zero, List.set_cons_succ]
    refine wpAnyT_one (i := 6) (o := { dst := some 137, op := Op.call { callee := Callee.value (Operand.func 17), args := #[Operand.tmp 135, Operand.tmp 136], argTypes := #[24, 24] }, type := 24, pos := "outright.go:121", after := #[{ on := 4, ground := Ground.data }, { on := 5, ground := Ground.data }, { on := 2, ground := Ground.chain }, { on := 2, ground := Ground.guard }], guard := some (2, true) }) (by kernel_rfl) rfl (fun K hK => ?_)
    go_simp
    go_at_call 17
    refine (add_z Zg.out.zi Zk.out (by decide) (by decide)).mono ?_
    rintro e w82 ⟨r0, rfl, m0, b⟩
    obtain ⟨nv, xv, adv, qv, rfl, -, -, -, -, -⟩ := id m0
    replace Zan := hid (Zan.out.now b)
    replace Zad := hid (Zad.out.now b)
    replace Zk := hid (Zk.out.now b)
    replace Zg := hid (Zg.out.now b)
    replace Zh := hid (Zh.out.now b)
    replace Zo := hid (Zo.out.now b)
    replace Zpn := hid (Zpn.out.now b)
    replace Zpd := hid (Zpd.out.now b)
    replace Zzn := hid (Zzn.out.now b)
    replace Zzd := hid (Zzd.out.now b)
    replace Zd := hid (Zd.out.now b)
    replace Zfn := hid (Zfn.out.now b)
    replace Zfd := hid (Zfd.out.now b)
    replace Zu := hid (Zu.out.now b)
    replace Pa := hid (Pa.out.step b)
    replace Pk := hid (Pk.out.step b)
    replace PGf := hid (PGf.out.step b)
    replace PHf := hid (PHf.out.step b)
    replace PO := hid (PO.out.step b)
    replace PP := hid (PP.out.step b)
    replace Pz := hid (Pz.out.step b)
    replace Pd := hid (Pd.out.step b)
    replace PF := hid (PF.out.step b)
    replace PU := hid (PU.out.step b)
    replace G := hid (below_step G.out b)
    have lz83 := (show Below _ _ _ from b).size
    have Zv := hid m0
    clear b m0
    refine hK.out _ _ (fun _ => ⟨PU.out.c0, PU.out.c1, PGf.out.c0, PGf.out.c1, Pk.out.c0, Pk.out.c1⟩) ?_
    clear hK
    refine wpAnyT_one (i := 7) (o := { dst := some 138, op := Op.call { callee := Callee.value (Operand.func 27), args := #[Operand.tmp 134, Operand.tmp 137], argTypes := #[24, 24] }, type := 4, pos := "outright.go:121", after := #[{ on := 3, ground := Ground.data }, { on := 6, ground := Ground.data }, { on := 6, ground := Ground.chain }, { on := 2, ground := Ground.guard }], guard := some (2, true) }) (by kernel_rfl) rfl (fun K hK => ?_)
    go_simp
    go_at_call 27
    refine (alike8_yes Zu.out.zc Zv.out.zc FM.out).mono ?_
    rintro e w84 ⟨rfl, b⟩
    replace Zan := hid (Zan.out.now b)
    replace Zad := hid (Zad.out.now b)
    replace Zk := hid (Zk.out.now b)
    replace Zg := hid (Zg.out.now b)
    replace Zh := hid (Zh.out.now b)
    replace Zo := hid (Zo.out.now b)
    replace Zpn := hid (Zpn.out.now b)
    replace Zpd := hid (Zpd.out.now b)
    replace Zzn := hid (Zzn.out.now b)
    replace Zzd := hid (Zzd.out.now b)
    replace Zd := hid (Zd.out.now b)
    replace Zfn := hid (Zfn.out.now b)
    replace Zfd := hid (Zfd.out.now b)
    replace Zu := hid (Zu.out.now b)
    replace Zv := hid (Zv.out.now b)
    replace Pa := hid (Pa.out.step b)
    replace Pk := hid (Pk.out.step b)
    replace PGf := hid (PGf.out.step b)
    replace PHf := hid (PHf.out.step b)
    replace PO := hid (PO.out.step b)
    replace PP := hid (PP.out.step b)
    replace Pz := hid (Pz.out.step b)
    replace Pd := hid (Pd.out.step b)
    replace PF := hid (PF.out.step b)
    replace PU := hid (PU.out.step b)
    replace G := hid (below_step G.out b)
    have lz85 := (show Below _ _ _ from b).size
    clear b 
    refine hK.out _ _ (fun _ => ⟨PU.out.c0, PU.out.c1, PGf.out.c0, PGf.out.c1, Pk.out.c0, Pk.out.c1⟩) ?_
    clear hK
    refine wpAnyT_take (i := 8) (oi := { dst := some 139, op := Op.pick (Operand.tmp 133) (Operand.tmp 138) (Operand.const (Value.bool false)), type := 4, pos := "outright.go:121", after := #[{ on := 2, ground := Ground.data }, { on := 7, ground := Ground.data }], guard := none }) (v := (.bool true)) rfl (by kernel_rfl) (fun _ _ _ h => h) (Or.inl ⟨by rfl, ?_⟩) ⟨PU.out.c0, PU.out.c1, PGf.out.c0, PGf.out.c1, Pk.out.c0, Pk.out.c1⟩ ?_
    · intro w hSw
      (try dsimp only at hSw)
      go_simp
    simp only [Act.put, List.setIfInBounds_toArray, List.set_cons_zero, List.set_cons_succ]
    refine wpAnyT_one (i := 9) (o := { dst := some 4, op := Op.assign (Operand.tmp 139), type := 4, pos := "outright.go:121", after := #[{ on := 8, ground := Ground.data }, { on := 7, ground := Ground.chain }, { on := 0, ground := Ground.phase }, { on := 1, ground := Ground.phase }, { on := 2, ground := Ground.phase }, { on := 3, ground := Ground.phase }, { on := 4, ground := Ground.phase }, { on := 5, ground := Ground.phase }, { on := 6, ground := Ground.phase }, { on := 7, ground := Ground.phase }, { on := 8, ground := Ground.phase }], guard := none }) (by kernel_rfl) rfl (fun K hK => ?_)
    go_simp
    refine hK.out _ _ (fun h => absurd h (by decide)) ?_
    clear hK
    try simp only [Act.put]
    refine wpAnyT_done (by kernel_rfl) ?_ _
    go_wp2
    go_ret
    exact ⟨rfl, G.out⟩

theorem fracWhole_any {w : World} {a0 a1 a2 a3 vk : Value} {AN AD J : Int} (han : Zi w (.agg #[a0, a1]) AN 1048576) (had : Zi w (.agg #[a2, a3]) AD 1048576) (hk : Zi w vk J 1048576) :
    Calls Try.prog 5 #[.agg #[a0, a1, a2, a3], vk] w fun e w' => e = .returned (.bool true) ∧ Below w.heap.size w w' := by
  by_cases hD : AD = 0
  · exact whole_zero han had hk hD
  · exact whole_some han had hk hD
end Go.Proofs.Ytaoammmnpfbdfaa
