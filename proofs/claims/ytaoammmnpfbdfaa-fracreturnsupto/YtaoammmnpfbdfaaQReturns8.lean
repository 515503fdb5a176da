/-
  Returns8: the walk of FracReturns.
-/
import Derived.Test.YtaoammmnpfbdfaaQRd8ToRec8
import Derived.Test.YtaoammmnpfbdfaaQAwake8
namespace Go.Proofs.Ytaoammmnpfbdfaa
open Go.RowKit
set_option linter.unusedVariables false

/-- Inverse answers something. -/
theorem inv_any {w : World} {va vb : Value} {A B : Int} {k : Nat} (ha : Zi w va A k) (hb : Zi w vb B k) (h1 : 1 ≤ k) (hk : k ≤ 68719476736) :
    Calls Try.prog 31 #[va, vb] w (fun e w' => ∃ E z, GivesZ1 E w z k e w') := by
  by_cases hB : B = 0
  · exact (inverse_zero ha hb h1 hk hB).mono fun e w' h => ⟨4, 0, h⟩
  · by_cases hg : (Int.gcd A B : Int) = 1
    · exact (inverse_some ha hb h1 hk hB hg).mono fun e w' ⟨x, _, h⟩ => ⟨0, x, h⟩
    · exact (inverse_none ha hb h1 hk hB hg).mono fun e w' h => ⟨6, 0, h⟩
theorem res_of {N D x O : Int} (h : O ∣ D * x - 1) : O ∣ N - N * x * D := by
  have e : N - N * x * D = -(N * (D * x - 1)) := by grind
  rw [e]
  exact Int.dvd_neg.2 (Int.dvd_mul_of_dvd_right h)
set_option maxHeartbeats 6400000 in
set_option maxRecDepth 100000 in
theorem returns_zero {w : World} {a0 a1 a2 a3 vo : Value} {AN AD O : Int} (han : Zi w (.agg #[a0, a1]) AN 1048576) (had : Zi w (.agg #[a2, a3]) AD 1048576) (ho : Zi w vo O 1048576) (hD : AD = 0) :
    Calls Try.prog 7 #[.agg #[a0, a1, a2, a3], vo] w fun e w' => e = .returned (.bool true) ∧ Below w.heap.size w w' := by
  have HD := hid hD
  clear hD
  have zan0 := han
  obtain ⟨nan, xan, adan, can, ev, -, -, -⟩ := han
  simp only [Value.agg.injEq] at ev
  obtain ⟨rfl, rfl⟩ := pair_eq ev
  have zad0 := had
  obtain ⟨nad, xad, adad, cad, ev, -, -, -⟩ := had
  simp only [Value.agg.injEq] at ev
  obtain ⟨rfl, rfl⟩ := pair_eq ev
  have zo0 := ho
  obtain ⟨no, xo, ado, co, rfl, -, -, -⟩ := ho
  obtain ⟨W0, hW⟩ : ∃ W0, (w.alloc (.cells #[(.bool nan), (.slice adan xan.length can), (.bool nad), (.slice adad xad.length cad)] 26)).alloc (duo (.bool no) (.slice ado xo.length co)) = W0 := ⟨_, rfl⟩
  obtain ⟨b0, sz0⟩ := alloc2 w (.cells #[(.bool nan), (.slice adan xan.length can), (.bool nad), (.slice adad xad.length cad)] 26) (duo (.bool no) (.slice ado xo.length co))
  rw [hW] at b0 sz0
  have Pa : Hid (Cel W0 (w.heap.size) 26 [(.bool nan), (.slice adan xan.length can), (.bool nad), (.slice adad xad.length cad)]) := by unfold Hid; rw [← hW]; exact cel_late (cel_at (by simp)) _
  have Po : Hid (Duo W0 (w.heap.size + 1) (.bool no) (.slice ado xo.length co)) := by unfold Hid; rw [← hW]; exact duo_at (by simp)
  have Zan := hid (zan0.now b0)
  clear zan0
  have Zad := hid (zad0.now b0)
  clear zad0
  have Zo := hid (zo0.now b0)
  clear zo0
  have G := hid b0
  clear b0
  have EW := hid hW
  clear hW
  go_enter Try.func7, Try.ntmps7
  skip
  go_wp2_with fail
  rw [EW.out]
  clear EW
  refine (awake8 _).mono ?_
  rintro e w1 ⟨rfl, b⟩
  replace Zan := hid (Zan.out.now b)
  replace Zad := hid (Zad.out.now b)
  replace Zo := hid (Zo.out.now b)
  replace Pa := hid (Pa.out.step b)
  replace Po := hid (Po.out.step b)
  replace G := hid (below_step G.out b)
  have lz2 := (show Below _ _ _ from b).size
  clear b 
  have ca0 := (Pa.out.at (i := 0) rfl)
  have ca1 := (Pa.out.at (i := 1) rfl)
  have ca2 := (Pa.out.at (i := 2) rfl)
  have ca3 := (Pa.out.at (i := 3) rfl)
  go_wp2_with fail
  clear ca0 ca1 ca2 ca3
  refine (is8_no Zan.out Zad.out HD.out).mono ?_
  rintro e w3 ⟨rfl, b⟩
  replace Zan := hid (Zan.out.now b)
  replace Zad := hid (Zad.out.now b)
  replace Zo := hid (Zo.out.now b)
  replace Pa := hid (Pa.out.step b)
  replace Po := hid (Po.out.step b)
  replace G := hid (below_step G.out b)
  have lz4 := (show Below _ _ _ from b).size
  clear b 
  have ca0 := (Pa.out.at (i := 0) rfl)
  have ca1 := (Pa.out.at (i := 1) rfl)
  have ca2 := (Pa.out.at (i := 2) rfl)
  have ca3 := (Pa.out.at (i := 3) rfl)
  go_wp2_with fail
  clear ca0 ca1 ca2 ca3
  refine (fof_zero Zan.out Zad.out (by decide) HD.out).mono ?_
  rintro e w5 ⟨rfl, b⟩
  replace Zan := hid (Zan.out.now b)
  replace Zad := hid (Zad.out.now b)
  replace Zo := hid (Zo.out.now b)
  replace Pa := hid (Pa.out.step b)
  replace Po := hid (Po.out.step b)
  replace G := hid (below_step G.out b)
  have lz6 := (show Below _ _ _ from b).size
  clear b 
  obtain ⟨V7, hW⟩ : ∃ V7, w5.alloc (.cells #[(.bool false), (.slice none 0 0), (.bool false), (.slice none 0 0)] 26) = V7 := ⟨_, rfl⟩
  obtain ⟨kW, sz7⟩ := alloc1 w5 (.cells #[(.bool false), (.slice none 0 0), (.bool false), (.slice none 0 0)] 26)
  rw [hW] at kW sz7
  replace Zan := hid (Zan.out.now kW)
  replace Zad := hid (Zad.out.now kW)
  replace Zo := hid (Zo.out.now kW)
  replace Pa := hid (Pa.out.step kW)
  replace Po := hid (Po.out.step kW)
  replace G := hid (below_step G.out kW)
  have lz8 := (show Below _ _ _ from kW).size
  have Pl : Hid (Cel V7 (w5.heap.size) 26 [(.bool false), (.slice none 0 0), (.bool false), (.slice none 0 0)]) := by unfold Hid; rw [← hW]; exact cel_at (by simp)
  clear kW
  have EW := hid hW
  clear hW
  go_wp2
  rw [EW.out]
  go_ret
  exact ⟨rfl, G.out⟩

set_option maxHeartbeats 6400000 in
set_option maxRecDepth 100000 in
theorem returns_c1 {w : World} {a0 a1 a2 a3 vo : Value} {AN AD O : Int} (han : Zi w (.agg #[a0, a1]) AN 1048576) (had : Zi w (.agg #[a2, a3]) AD 1048576) (ho : Zi w vo O 1048576) (hD : AD ≠ 0) (h2 : O ≤ ((Rat.divInt AN AD).num * (Rat.divInt AN AD).num + (Rat.divInt AN AD).num * (Rat.divInt AN AD).num)) :
    Calls Try.prog 7 #[.agg #[a0, a1, a2, a3], vo] w fun e w' => e = .returned (.bool true) ∧ Below w.heap.size w w' := by
  have HD := hid hD
  clear hD
  obtain ⟨ql, el⟩ : ∃ q, q = Rat.divInt AN AD := ⟨_, rfl⟩
  have EL := hid el
  rw [← el] at h2
  clear el
  have H2 := hid h2
  clear h2
  have K1 : cmpI O (ql.num * ql.num + ql.num * ql.num) ≤ 0 := by rcases cmp_cases O (ql.num * ql.num + ql.num * ql.num) with ⟨_, h⟩ | ⟨_, h⟩ | ⟨_, h⟩ <;> have := H2.out <;> omega
  have HC1 : Hid (∀ w' v u l, Zi w' v O 1048576 → Zi w' u (ql.num * ql.num + ql.num * ql.num) l → _) := fun (w' : World) (v u : Value) (l : Nat) (h : Zi w' v O 1048576) (h' : Zi w' u (ql.num * ql.num + ql.num * ql.num) l) => cmp_z h h'
  generalize cmpI O (ql.num * ql.num + ql.num * ql.num) = C1 at *
  have zan0 := han
  obtain ⟨nan, xan, adan, can, ev, -, -, -⟩ := han
  simp only [Value.agg.injEq] at ev
  obtain ⟨rfl, rfl⟩ := pair_eq ev
  have zad0 := had
  obtain ⟨nad, xad, adad, cad, ev, -, -, -⟩ := had
  simp only [Value.agg.injEq] at ev
  obtain ⟨rfl, rfl⟩ := pair_eq ev
  have zo0 := ho
  obtain ⟨no, xo, ado, co, rfl, -, -, -⟩ := ho
  obtain ⟨W0, hW⟩ : ∃ W0, (w.alloc (.cells #[(.bool nan), (.slice adan xan.length can), (.bool nad), (.slice adad xad.length cad)] 26)).alloc (duo (.bool no) (.slice ado xo.length co)) = W0 := ⟨_, rfl⟩
  obtain ⟨b0, sz0⟩ := alloc2 w (.cells #[(.bool nan), (.slice adan xan.length can), (.bool nad), (.slice adad xad.length cad)] 26) (duo (.bool no) (.slice ado xo.length co))
  rw [hW] at b0 sz0
  have Pa : Hid (Cel W0 (w.heap.size) 26 [(.bool nan), (.slice adan xan.length can), (.bool nad), (.slice adad xad.length cad)]) := by unfold Hid; rw [← hW]; exact cel_late (cel_at (by simp)) _
  have Po : Hid (Duo W0 (w.heap.size + 1) (.bool no) (.slice ado xo.length co)) := by unfold Hid; rw [← hW]; exact duo_at (by simp)
  have Zan := hid (zan0.now b0)
  clear zan0
  have Zad := hid (zad0.now b0)
  clear zad0
  have Zo := hid (zo0.now b0)
  clear zo0
  have G := hid b0
  clear b0
  have EW := hid hW
  clear hW
  go_enter Try.func7, Try.ntmps7
  skip
  go_wp2_with fail
  rw [EW.out]
  clear EW
  refine (awake8 _).mono ?_
  rintro e w1 ⟨rfl, b⟩
  replace Zan := hid (Zan.out.now b)
  replace Zad := hid (Zad.out.now b)
  replace Zo := hid (Zo.out.now b)
  replace Pa := hid (Pa.out.step b)
  replace Po := hid (Po.out.step b)
  replace G := hid (below_step G.out b)
  have lz2 := (show Below _ _ _ from b).size
  clear b 
  have ca0 := (Pa.out.at (i := 0) rfl)
  have ca1 := (Pa.out.at (i := 1) rfl)
  have ca2 := (Pa.out.at (i := 2) rfl)
  have ca3 := (Pa.out.at (i := 3) rfl)
  go_wp2_with fail
  clear ca0 ca1 ca2 ca3
  refine (is8_yes Zan.out Zad.out HD.out).mono ?_
  rintro e w3 ⟨rfl, b⟩
  replace Zan := hid (Zan.out.now b)
  replace Zad := hid (Zad.out.now b)
  replace Zo := hid (Zo.out.now b)
  replace Pa := hid (Pa.out.step b)
  replace Po := hid (Po.out.step b)
  replace G := hid (below_step G.out b)
  have lz4 := (show Below _ _ _ from b).size
  clear b 
  have ca0 := (Pa.out.at (i := 0) rfl)
  have ca1 := (Pa.out.at (i := 1) rfl)
  have ca2 := (Pa.out.at (i := 2) rfl)
  have ca3 := (Pa.out.at (i := 3) rfl)
  go_wp2_with fail
  clear ca0 ca1 ca2 ca3
  refine (fofq (k := 1048576) Zan.out Zad.out (by decide) HD.out EL.out).mono ?_
  rintro e w5 ⟨r0, r1, r2, r3, rfl, m0, m1, b⟩
  obtain ⟨nln, xln, adln, qln, rfl, rfl⟩ := m0.zi.comp
  obtain ⟨nld, xld, adld, qld, rfl, rfl⟩ := m1.zi.comp
  replace Zan := hid (Zan.out.now b)
  replace Zad := hid (Zad.out.now b)
  replace Zo := hid (Zo.out.now b)
  replace Pa := hid (Pa.out.step b)
  replace Po := hid (Po.out.step b)
  replace G := hid (below_step G.out b)
  have lz6 := (show Below _ _ _ from b).size
  have Zln := hid m0
  have Zld := hid m1
  clear b m0 m1
  obtain ⟨V7, hW⟩ : ∃ V7, w5.alloc (.cells #[(.bool nln), (.slice adln xln.length qln), (.bool nld), (.slice adld xld.length qld)] 26) = V7 := ⟨_, rfl⟩
  obtain ⟨kW, sz7⟩ := alloc1 w5 (.cells #[(.bool nln), (.slice adln xln.length qln), (.bool nld), (.slice adld xld.length qld)] 26)
  rw [hW] at kW sz7
  replace Zan := hid (Zan.out.now kW)
  replace Zad := hid (Zad.out.now kW)
  replace Zo := hid (Zo.out.now kW)
  replace Zln := hid (Zln.out.now kW)
  replace Zld := hid (Zld.out.now kW)
  replace Pa := hid (Pa.out.step kW)
  replace Po := hid (Po.out.step kW)
  replace G := hid (below_step G.out kW)
  have lz8 := (show Below _ _ _ from kW).size
  have Pl : Hid (Cel V7 (w5.heap.size) 26 [(.bool nln), (.slice adln xln.length qln), (.bool nld), (.slice adld xld.length qld)]) := by unfold Hid; rw [← hW]; exact cel_at (by simp)
  clear kW
  have cl0 := (Pl.out.at (i := 0) rfl)
  have cl1 := (Pl.out.at (i := 1) rfl)
  have cl2 := (Pl.out.at (i := 2) rfl)
  have cl3 := (Pl.out.at (i := 3) rfl)
  have ca0 := (Pa.out.at (i := 0) rfl)
  have ca1 := (Pa.out.at (i := 1) rfl)
  have ca2 := (Pa.out.at (i := 2) rfl)
  have ca3 := (Pa.out.at (i := 3) rfl)
  rw [← hW] at cl0 cl1 cl2 cl3 ca0 ca1 ca2 ca3
  have EW := hid hW
  clear hW
  go_wp2_with fail
  rw [EW.out]
  clear EW
  clear cl0 cl1 cl2 cl3 ca0 ca1 ca2 ca3
  refine (names8 Zln.out.zc Zld.out.zc Zan.out Zad.out (by decide) (cross_q HD.out EL.out)).mono ?_
  rintro e w9 ⟨rfl, b⟩
  replace Zan := hid (Zan.out.now b)
  replace Zad := hid (Zad.out.now b)
  replace Zo := hid (Zo.out.now b)
  replace Zln := hid (Zln.out.now b)
  replace Zld := hid (Zld.out.now b)
  replace Pa := hid (Pa.out.step b)
  replace Po := hid (Po.out.step b)
  replace Pl := hid (Pl.out.step b)
  replace G := hid (below_step G.out b)
  have lz10 := (show Below _ _ _ from b).size
  clear b 
  have cl0 := (Pl.out.at (i := 0) rfl)
  have cl1 := (Pl.out.at (i := 1) rfl)
  have cl2 := (Pl.out.at (i := 2) rfl)
  have cl3 := (Pl.out.at (i := 3) rfl)
  go_wp2_with fail
  clear cl0 cl1 cl2 cl3
  refine (mul_z Zln.out.zi Zln.out.zi (by decide)).mono ?_
  rintro e w11 ⟨r0, rfl, m0, b⟩
  obtain ⟨nn, xn, adn, qn, rfl, -, -, -, -, -⟩ := id m0
  replace Zan := hid (Zan.out.now b)
  replace Zad := hid (Zad.out.now b)
  replace Zo := hid (Zo.out.now b)
  replace Zln := hid (Zln.out.now b)
  replace Zld := hid (Zld.out.now b)
  replace Pa := hid (Pa.out.step b)
  replace Po := hid (Po.out.step b)
  replace Pl := hid (Pl.out.step b)
  replace G := hid (below_step G.out b)
  have lz12 := (show Below _ _ _ from b).size
  have Zn := hid m0
  clear b m0
  obtain ⟨V13, hW⟩ : ∃ V13, w11.alloc (duo (.bool nn) (.slice adn xn.length qn)) = V13 := ⟨_, rfl⟩
  obtain ⟨kW, sz13⟩ := alloc1 w11 (duo (.bool nn) (.slice adn xn.length qn))
  rw [hW] at kW sz13
  replace Zan := hid (Zan.out.now kW)
  replace Zad := hid (Zad.out.now kW)
  replace Zo := hid (Zo.out.now kW)
  replace Zln := hid (Zln.out.now kW)
  replace Zld := hid (Zld.out.now kW)
  replace Zn := hid (Zn.out.now kW)
  replace Pa := hid (Pa.out.step kW)
  replace Po := hid (Po.out.step kW)
  replace Pl := hid (Pl.out.step kW)
  replace G := hid (below_step G.out kW)
  have lz14 := (show Below _ _ _ from kW).size
  have PN : Hid (Duo V13 (w11.heap.size) (.bool nn) (.slice adn xn.length qn)) := by unfold Hid; rw [← hW]; exact duo_at (by simp)
  clear kW
  have cl0 := (Pl.out.at (i := 0) rfl)
  have cl1 := (Pl.out.at (i := 1) rfl)
  have cl2 := (Pl.out.at (i := 2) rfl)
  have cl3 := (Pl.out.at (i := 3) rfl)
  rw [← hW] at cl0 cl1 cl2 cl3
  have EW := hid hW
  clear hW
  go_wp2_with fail
  rw [EW.out]
  clear EW
  clear cl0 cl1 cl2 cl3
  refine (mul_z Zld.out.zi Zld.out.zi (by decide)).mono ?_
  rintro e w15 ⟨r0, rfl, m0, b⟩
  obtain ⟨nd, xd, add, qd, rfl, -, -, -, -, -⟩ := id m0
  replace Zan := hid (Zan.out.now b)
  replace Zad := hid (Zad.out.now b)
  replace Zo := hid (Zo.out.now b)
  replace Zln := hid (Zln.out.now b)
  replace Zld := hid (Zld.out.now b)
  replace Zn := hid (Zn.out.now b)
  replace Pa := hid (Pa.out.step b)
  replace Po := hid (Po.out.step b)
  replace Pl := hid (Pl.out.step b)
  replace PN := hid (PN.out.step b)
  replace G := hid (below_step G.out b)
  have lz16 := (show Below _ _ _ from b).size
  have Zd := hid m0
  clear b m0
  obtain ⟨V17, hW⟩ : ∃ V17, w15.alloc (duo (.bool nd) (.slice add xd.length qd)) = V17 := ⟨_, rfl⟩
  obtain ⟨kW, sz17⟩ := alloc1 w15 (duo (.bool nd) (.slice add xd.length qd))
  rw [hW] at kW sz17
  replace Zan := hid (Zan.out.now kW)
  replace Zad := hid (Zad.out.now kW)
  replace Zo := hid (Zo.out.now kW)
  replace Zln := hid (Zln.out.now kW)
  replace Zld := hid (Zld.out.now kW)
  replace Zn := hid (Zn.out.now kW)
  replace Zd := hid (Zd.out.now kW)
  replace Pa := hid (Pa.out.step kW)
  replace Po := hid (Po.out.step kW)
  replace Pl := hid (Pl.out.step kW)
  replace PN := hid (PN.out.step kW)
  replace G := hid (below_step G.out kW)
  have lz18 := (show Below _ _ _ from kW).size
  have PD : Hid (Duo V17 (w15.heap.size) (.bool nd) (.slice add xd.length qd)) := by unfold Hid; rw [← hW]; exact duo_at (by simp)
  clear kW
  have cl0 := (Pl.out.at (i := 0) rfl)
  have cl1 := (Pl.out.at (i := 1) rfl)
  have cl2 := (Pl.out.at (i := 2) rfl)
  have cl3 := (Pl.out.at (i := 3) rfl)
  have co0 := Po.out.c0
  have co1 := Po.out.c1
  rw [← hW] at cl0 cl1 cl2 cl3 co0 co1
  have EW := hid hW
  clear hW
  go_wp2_with fail
  rw [EW.out]
  clear EW
  clear cl0 cl1 cl2 cl3 co0 co1
  refine (inv_any Zld.out.zi Zo.out (by decide) (by decide)).mono ?_
  rintro e w19 ⟨E, zi, r0, rfl, m0, b⟩
  obtain ⟨nv, xv, adv, qv, rfl, -, -, -, -, -⟩ := id m0
  replace Zan := hid (Zan.out.now b)
  replace Zad := hid (Zad.out.now b)
  replace Zo := hid (Zo.out.now b)
  replace Zln := hid (Zln.out.now b)
  replace Zld := hid (Zld.out.now b)
  replace Zn := hid (Zn.out.now b)
  replace Zd := hid (Zd.out.now b)
  replace Pa := hid (Pa.out.step b)
  replace Po := hid (Po.out.step b)
  replace Pl := hid (Pl.out.step b)
  replace PN := hid (PN.out.step b)
  replace PD := hid (PD.out.step b)
  replace G := hid (below_step G.out b)
  have lz20 := (show Below _ _ _ from b).size
  have Zv := hid m0
  clear b m0
  obtain ⟨V21, hW⟩ : ∃ V21, w19.alloc (duo (.bool nv) (.slice adv xv.length qv)) = V21 := ⟨_, rfl⟩
  obtain ⟨kW, sz21⟩ := alloc1 w19 (duo (.bool nv) (.slice adv xv.length qv))
  rw [hW] at kW sz21
  replace Zan := hid (Zan.out.now kW)
  replace Zad := hid (Zad.out.now kW)
  replace Zo := hid (Zo.out.now kW)
  replace Zln := hid (Zln.out.now kW)
  replace Zld := hid (Zld.out.now kW)
  replace Zn := hid (Zn.out.now kW)
  replace Zd := hid (Zd.out.now kW)
  replace Zv := hid (Zv.out.now kW)
  replace Pa := hid (Pa.out.step kW)
  replace Po := hid (Po.out.step kW)
  replace Pl := hid (Pl.out.step kW)
  replace PN := hid (PN.out.step kW)
  replace PD := hid (PD.out.step kW)
  replace G := hid (below_step G.out kW)
  have lz22 := (show Below _ _ _ from kW).size
  have PV : Hid (Duo V21 (w19.heap.size) (.bool nv) (.slice adv xv.length qv)) := by unfold Hid; rw [← hW]; exact duo_at (by simp)
  clear kW
  have q6 : ((6 : Int) != 0) = true := rfl
  have q7 : ((0 : Int) != 0) = false := rfl
  have EW := hid hW
  clear hW
  go_wp2_with fail
  rw [EW.out]
  clear EW
  refine wp_region_tail (fun w' => w'.cell? ⟨w.heap.size + 1, 0, none⟩ = some (.bool no) ∧ w'.cell? ⟨w.heap.size + 1, 1, none⟩ = some (.slice ado xo.length co) ∧ w'.cell? ⟨w11.heap.size, 0, none⟩ = some (.bool nn) ∧ w'.cell? ⟨w11.heap.size, 1, none⟩ = some (.slice adn xn.length qn) ∧ w'.cell? ⟨w15.heap.size, 0, none⟩ = some (.bool nd) ∧ w'.cell? ⟨w15.heap.size, 1, none⟩ = some (.slice add xd.length qd)) 17 (by kernel_rfl) ?_
  obtain ⟨D23, hD⟩ : ∃ D23, V21.drew = D23 := ⟨_, rfl⟩
  have b : Below V21.heap.size V21 D23 := by rw [← hD]; exact (Below.refl _ _).drew
  rw [hD]
  clear hD
  replace Zan := hid (Zan.out.now b)
  replace Zad := hid (Zad.out.now b)
  replace Zo := hid (Zo.out.now b)
  replace Zln := hid (Zln.out.now b)
  replace Zld := hid (Zld.out.now b)
  replace Zn := hid (Zn.out.now b)
  replace Zd := hid (Zd.out.now b)
  replace Zv := hid (Zv.out.now b)
  replace Pa := hid (Pa.out.step b)
  replace Po := hid (Po.out.step b)
  replace Pl := hid (Pl.out.step b)
  replace PN := hid (PN.out.step b)
  replace PD := hid (PD.out.step b)
  replace PV := hid (PV.out.step b)
  replace G := hid (below_step G.out b)
  have lz24 := (show Below _ _ _ from b).size
  clear b
  refine wpAnyT_take (i := 0) (oi := { dst := some 66, op := Op.load 24 (Operand.tmp 3), type := 24, pos := "outright.go:221", after := #[], guard := none }) (v := (.agg #[(.bool no), (.slice ado xo.length co)])) rfl (by kernel_rfl) (fun _ _ _ h => h) (Or.inl ⟨by rfl, ?_⟩) ⟨Po.out.c0, Po.out.c1, PN.out.c0, PN.out.c1, PD.out.c0, PD.out.c1⟩ ?_
  · intro w hSw
    (try dsimp only at hSw)
    go_simp
  simp only [Act.put, List.setIfInBounds_toArray, List.set_cons_zero, List.set_cons_succ]
  refine wpAnyT_take (i := 1) (oi := { dst := some 67, op := Op.load 24 (Operand.tmp 9), type := 24, pos := "outright.go:221", after := #[], guard := none }) (v := (.agg #[(.bool nn), (.slice adn xn.length qn)])) rfl (by kernel_rfl) (fun _ _ _ h => h) (Or.inl ⟨by rfl, ?_⟩) ⟨Po.out.c0, Po.out.c1, PN.out.c0, PN.out.c1, PD.out.c0, PD.out.c1⟩ ?_
  · intro w hSw
    (try dsimp only at hSw)
    go_simp
  simp only [Act.put, List.setIfInBounds_toArray, List.set_cons_zero, List.set_cons_succ]
  refine wpAnyT_take (i := 2) (oi := { dst := some 68, op := Op.load 24 (Operand.tmp 9), type := 24, pos := "outright.go:221", after := #[], guard := none }) (v := (.agg #[(.bool nn), (.slice adn xn.length qn)])) rfl (by kernel_rfl) (fun _ _ _ h => h) (Or.inl ⟨by rfl, ?_⟩) ⟨Po.out.c0, Po.out.c1, PN.out.c0, PN.out.c1, PD.out.c0, PD.out.c1⟩ ?_
  · intro w hSw
    (try dsimp only at hSw)
    go_simp
  simp only [Act.put, List.setIfInBounds_toArray, List.set_cons_zero, List.set_cons_succ]
  refine wpAnyT_one (i := 3) (o := { dst := some 69, op := Op.call { callee := Callee.value (Operand.func 17), args := #[Operand.tmp 67, Operand.tmp 68], argTypes := #[24, 24] }, type := 24, pos := "outright.go:221", after := #[{ on := 1, ground := Ground.data }, { on := 2, ground := Ground.data }], guard := none }) (by kernel_rfl) rfl (fun K hK => ?_)
  go_simp
  go_at_call 17
  refine (add_z Zn.out.zi Zn.out.zi (by decide) (by decide)).mono ?_
  rintro e w25 ⟨r0, rfl, m0, b⟩
  obtain ⟨ns, xs, ads, qs, rfl, -, -, -, -, -⟩ := id m0
  replace Zan := hid (Zan.out.now b)
  replace Zad := hid (Zad.out.now b)
  replace Zo := hid (Zo.out.now b)
  replace Zln := hid (Zln.out.now b)
  replace Zld := hid (Zld.out.now b)
  replace Zn := hid (Zn.out.now b)
  replace Zd := hid (Zd.out.now b)
  replace Zv := hid (Zv.out.now b)
  replace Pa := hid (Pa.out.step b)
  replace Po := hid (Po.out.step b)
  replace Pl := hid (Pl.out.step b)
  replace PN := hid (PN.out.step b)
  replace PD := hid (PD.out.step b)
  replace PV := hid (PV.out.step b)
  replace G := hid (below_step G.out b)
  have lz26 := (show Below _ _ _ from b).size
  have Zs := hid m0
  clear b m0
  refine hK.out _ _ (fun _ => ⟨Po.out.c0, Po.out.c1, PN.out.c0, PN.out.c1, PD.out.c0, PD.out.c1⟩) ?_
  clear hK
  refine wpAnyT_one (i := 4) (o := { dst := some 70, op := Op.call { callee := Callee.value (Operand.func 32), args := #[Operand.tmp 66, Operand.tmp 69], argTypes := #[24, 24] }, type := 3, pos := "outright.go:221", after := #[{ on := 0, ground := Ground.data }, { on := 3, ground := Ground.data }, { on := 3, ground := Ground.chain }], guard := none }) (by kernel_rfl) rfl (fun K hK => ?_)
  go_simp
  go_at_call 32
  refine (HC1.out _ _ _ _ Zo.out Zs.out.zi).mono ?_
  rintro e w27 ⟨rfl, b⟩
  replace Zan := hid (Zan.out.now b)
  replace Zad := hid (Zad.out.now b)
  replace Zo := hid (Zo.out.now b)
  replace Zln := hid (Zln.out.now b)
  replace Zld := hid (Zld.out.now b)
  replace Zn := hid (Zn.out.now b)
  replace Zd := hid (Zd.out.now b)
  replace Zv := hid (Zv.out.now b)
  replace Zs := hid (Zs.out.now b)
  replace Pa := hid (Pa.out.step b)
  replace Po := hid (Po.out.step b)
  replace Pl := hid (Pl.out.step b)
  replace PN := hid (PN.out.step b)
  replace PD := hid (PD.out.step b)
  replace PV := hid (PV.out.step b)
  replace G := hid (below_step G.out b)
  have lz28 := (show Below _ _ _ from b).size
  clear b 
  refine hK.out _ _ (fun _ => ⟨Po.out.c0, Po.out.c1, PN.out.c0, PN.out.c1, PD.out.c0, PD.out.c1⟩) ?_
  clear hK
  refine wpAnyT_take (i := 5) (oi := { dst := some 71, op := Op.binOp BinOp.leq 3 (Operand.tmp 70) (Operand.const (Value.int IntKind.i64 0)) 3, type := 4, pos := "outright.go:221", after := #[{ on := 4, ground := Ground.data }], guard := none }) (v := (.bool true)) rfl (by kernel_rfl) (fun _ _ _ h => h) (Or.inl ⟨by rfl, ?_⟩) ⟨Po.out.c0, Po.out.c1, PN.out.c0, PN.out.c1, PD.out.c0, PD.out.c1⟩ ?_
  · intro w hSw
    (try dsimp only at hSw)
    go_simp
  simp only [Act.put, List.setIfInBounds_toArray, List.set_cons_zero, List.set_cons_succ]
  refine wpAnyT_take (i := 6) (oi := { dst := some 72, op := Op.move (Operand.tmp 71), type := 4, pos := "outright.go:221", after := #[{ on := 5, ground := Ground.data }, { on := 4, ground := Ground.chain }], guard := none }) (v := (.bool true)) rfl (by kernel_rfl) (fun _ _ _ h => h) (Or.inl ⟨by rfl, ?_⟩) ⟨Po.out.c0, Po.out.c1, PN.out.c0, PN.out.c1, PD.out.c0, PD.out.c1⟩ ?_
  · intro w hSw
    (try dsimp only at hSw)
    go_simp
  simp only [Act.put, List.setIfInBounds_toArray, List.set_cons_zero, List.set_cons_succ]
  refine wpAnyT_take (i := 7) (oi := { dst := some 73, op := Op.load 24 (Operand.tmp 3), type := 24, pos := "outright.go:221", after := #[{ on := 6, ground := Ground.guard }], guard := some (6, false) }) (v := undef) rfl (by kernel_rfl) (fun _ _ _ h => h) (Or.inr ⟨by rfl, rfl⟩) ⟨Po.out.c0, Po.out.c1, PN.out.c0, PN.out.c1, PD.out.c0, PD.out.c1⟩ ?_
  simp only [Act.put, List.setIfInBounds_toArray, List.set_cons_zero, List.set_cons_succ]
  refine wpAnyT_take (i := 8) (oi := { dst := some 74, op := Op.load 24 (Operand.tmp 10), type := 24, pos := "outright.go:221", after := #[{ on := 6, ground := Ground.guard }], guard := some (6, false) }) (v := undef) rfl (by kernel_rfl) (fun _ _ _ h => h) (Or.inr ⟨by rfl, rfl⟩) ⟨Po.out.c0, Po.out.c1, PN.out.c0, PN.out.c1, PD.out.c0, PD.out.c1⟩ ?_
  simp only [Act.put, List.setIfInBounds_toArray, List.set_cons_zero, List.set_cons_succ]
  refine wpAnyT_take (i := 9) (oi := { dst := some 75, op := Op.load 24 (Operand.tmp 10), type := 24, pos := "outright.go:221", after := #[{ on := 6, ground := Ground.guard }], guard := some (6, false) }) (v := undef) rfl (by kernel_rfl) (fun _ _ _ h => h) (Or.inr ⟨by rfl, rfl⟩) ⟨Po.out.c0, Po.out.c1, PN.out.c0, PN.out.c1, PD.out.c0, PD.out.c1⟩ ?_
  simp only [Act.put, List.setIfInBounds_toArray, List.set_cons_zero, List.set_cons_succ]
  refine wpAnyT_one (i := 10) (o := { dst := some 76, op := Op.call { callee := Callee.value (Operand.func 17), args := #[Operand.tmp 74, Operand.tmp 75], argTypes := #[24, 24] }, type := 24, pos := "outright.go:221", after := #[{ on := 8, ground := Ground.data }, { on := 9, ground := Ground.data }, { on := 6, ground := Ground.chain }, { on := 6, ground := Ground.guard }], guard := some (6, false) }) (by kernel_rfl) rfl (fun K hK => ?_)
  go_simp
  refine hK.out _ _ (fun _ => ⟨Po.out.c0, Po.out.c1, PN.out.c0, PN.out.c1, PD.out.c0, PD.out.c1⟩) ?_
  clear hK
  try simp only [Act.put]
  refine wpAnyT_one (i := 11) (o := { dst := some 77, op := Op.call { callee := Callee.value (Operand.func 32), args := #[Operand.tmp 73, Operand.tmp 76], argTypes := #[24, 24] }, type := 3, pos := "outright.go:221", after := #[{ on := 7, ground := Ground.data }, { on := 10, ground := Ground.data }, { on := 10, ground := Ground.chain }, { on := 6, ground := Ground.guard }], guard := some (6, false) }) (by kernel_rfl) rfl (fun K hK => ?_)
  go_simp
  refine hK.out _ _ (fun _ => ⟨Po.out.c0, Po.out.c1, PN.out.c0, PN.out.c1, PD.out.c0, PD.out.c1⟩) ?_
  clear hK
  try simp only [Act.put]
  refine wpAnyT_take (i := 12) (oi := { dst := some 78, op := Op.binOp BinOp.leq 3 (Operand.tmp 77) (Operand.const (Value.int IntKind.i64 0)) 3, type := 4, pos := "outright.go:221", after := #[{ on := 11, ground := Ground.data }, { on := 6, ground := Ground.guard }], guard := some (6, false) }) (v := undef) rfl (by kernel_rfl) (fun _ _ _ h => h) (Or.inr ⟨by rfl, rfl⟩) ⟨Po.out.c0, Po.out.c1, PN.out.c0, PN.out.c1, PD.out.c0, PD.out.c1⟩ ?_
  simp only [Act.put, List.setIfInBounds_toArray, List.set_cons_zero, List.set_cons_succ]
  refine wpAnyT_take (i := 13) (oi := { dst := some 79, op := Op.pick (Operand.tmp 72) (Operand.const (Value.bool true)) (Operand.tmp 78), type := 4, pos := "outright.go:221", after := #[{ on := 6, ground := Ground.data }, { on := 12, ground := Ground.data }], guard := none }) (v := (.bool true)) rfl (by kernel_rfl) (fun _ _ _ h => h) (Or.inl ⟨by rfl, ?_⟩) ⟨Po.out.c0, Po.out.c1, PN.out.c0, PN.out.c1, PD.out.c0, PD.out.c1⟩ ?_
  · intro w hSw
    (try dsimp only at hSw)
    go_simp
  simp only [Act.put, List.setIfInBounds_toArray, List.set_cons_zero, List.set_cons_succ]
  refine wpAnyT_take (i := 14) (oi := { dst := some 80, op := Op.move (Operand.tmp 79), type := 4, pos := "outright.go:221", after := #[{ on := 13, ground := Ground.data }, { on := 11, ground := Ground.chain }], guard := none }) (v := (.bool true)) rfl (by kernel_rfl) (fun _ _ _ h => h) (Or.inl ⟨by rfl, ?_⟩) ⟨Po.out.c0, Po.out.c1, PN.out.c0, PN.out.c1, PD.out.c0, PD.out.c1⟩ ?_
  · intro w hSw
    (try dsimp only at hSw)
    go_simp
  simp only [Act.put, List.setIfInBounds_toArray, List.set_cons_zero, List.set_cons_succ]
  refine wpAnyT_take (i := 15) (oi := { dst := some 81, op := Op.move (Operand.tmp 12), type := 28, pos := "outright.go:221", after := #[{ on := 14, ground := Ground.guard }], guard := some (14, false) }) (v := undef) rfl (by kernel_rfl) (fun _ _ _ h => h) (Or.inr ⟨by rfl, rfl⟩) ⟨Po.out.c0, Po.out.c1, PN.out.c0, PN.out.c1, PD.out.c0, PD.out.c1⟩ ?_
  simp only [Act.put, List.setIfInBounds_toArray, List.set_cons_zero, List.set_cons_succ]
  refine wpAnyT_take (i := 16) (oi := { dst := some 82, op := Op.binOp BinOp.neq 28 (Operand.tmp 81) (Operand.const (Value.int IntKind.i64 0)) 28, type := 4, pos := "outright.go:221", after := #[{ on := 15, ground := Ground.data }, { on := 14, ground := Ground.guard }], guard := some (14, false) }) (v := undef) rfl (by kernel_rfl) (fun _ _ _ h => h) (Or.inr ⟨by rfl, rfl⟩) ⟨Po.out.c0, Po.out.c1, PN.out.c0, PN.out.c1, PD.out.c0, PD.out.c1⟩ ?_
  simp only [Act.put, List.setIfInBounds_toArray, List.set_cons_zero, List.set_cons_succ]
  refine wpAnyT_one (i := 17) (o := { dst := some 83, op := Op.pick (Operand.tmp 80) (Operand.const (Value.bool true)) (Operand.tmp 82), type := 4, pos := "outright.go:221", after := #[{ on := 14, ground := Ground.data }, { on := 16, ground := Ground.data }], guard := none }) (by kernel_rfl) rfl (fun K hK => ?_)
  go_simp
  refine hK.out _ _ (fun h => absurd h (by decide)) ?_
  clear hK
  try simp only [Act.put]
  refine wpAnyT_done (by kernel_rfl) ?_ _
  go_wp2
  go_ret
  exact ⟨rfl, G.out⟩

set_option maxHeartbeats 6400000 in
set_option maxRecDepth 100000 in
theorem returns_c2 {w : World} {a0 a1 a2 a3 vo : Value} {AN AD O : Int} (han : Zi w (.agg #[a0, a1]) AN 1048576) (had : Zi w (.agg #[a2, a3]) AD 1048576) (ho : Zi w vo O 1048576) (hD : AD ≠ 0) (h2 : ¬ O ≤ ((Rat.divInt AN AD).num * (Rat.divInt AN AD).num + (Rat.divInt AN AD).num * (Rat.divInt AN AD).num)) (h3 : O ≤ (((Rat.divInt AN AD).den : Int) * ((Rat.divInt AN AD).den : Int) + ((Rat.divInt AN AD).den : Int) * ((Rat.divInt AN AD).den : Int))) :
    Calls Try.prog 7 #[.agg #[a0, a1, a2, a3], vo] w fun e w' => e = .returned (.bool true) ∧ Below w.heap.size w w' := by
  have HD := hid hD
  clear hD
  obtain ⟨ql, el⟩ : ∃ q, q = Rat.divInt AN AD := ⟨_, rfl⟩
  have EL := hid el
  rw [← el] at h2 h3
  clear el
  have H2 := hid h2
  clear h2
  have H3 := hid h3
  clear h3
  have K1 : ¬ cmpI O (ql.num * ql.num + ql.num * ql.num) ≤ 0 := by rcases cmp_cases O (ql.num * ql.num + ql.num * ql.num) with ⟨_, h⟩ | ⟨_, h⟩ | ⟨_, h⟩ <;> have := H2.out <;> omega
  have HC1 : Hid (∀ w' v u l, Zi w' v O 1048576 → Zi w' u (ql.num * ql.num + ql.num * ql.num) l → _) := fun (w' : World) (v u : Value) (l : Nat) (h : Zi w' v O 1048576) (h' : Zi w' u (ql.num * ql.num + ql.num * ql.num) l) => cmp_z h h'
  generalize cmpI O (ql.num * ql.num + ql.num * ql.num) = C1 at *
  have K2 : cmpI O ((ql.den : Int) * (ql.den : Int) + (ql.den : Int) * (ql.den : Int)) ≤ 0 := by rcases cmp_cases O ((ql.den : Int) * (ql.den : Int) + (ql.den : Int) * (ql.den : Int)) with ⟨_, h⟩ | ⟨_, h⟩ | ⟨_, h⟩ <;> have := H3.out <;> omega
  have HC2 : Hid (∀ w' v u l, Zi w' v O 1048576 → Zi w' u ((ql.den : Int) * (ql.den : Int) + (ql.den : Int) * (ql.den : Int)) l → _) := fun (w' : World) (v u : Value) (l : Nat) (h : Zi w' v O 1048576) (h' : Zi w' u ((ql.den : Int) * (ql.den : Int) + (ql.den : Int) * (ql.den : Int)) l) => cmp_z h h'
  generalize cmpI O ((ql.den : Int) * (ql.den : Int) + (ql.den : Int) * (ql.den : Int)) = C2 at *
  have zan0 := han
  obtain ⟨nan, xan, adan, can, ev, -, -, -⟩ := han
  simp only [Value.agg.injEq] at ev
  obtain ⟨rfl, rfl⟩ := pair_eq ev
  have zad0 := had
  obtain ⟨nad, xad, adad, cad, ev, -, -, -⟩ := had
  simp only [Value.agg.injEq] at ev
  obtain ⟨rfl, rfl⟩ := pair_eq ev
  have zo0 := ho
  obtain ⟨no, xo, ado, co, rfl, -, -, -⟩ := ho
  obtain ⟨W0, hW⟩ : ∃ W0, (w.alloc (.cells #[(.bool nan), (.slice adan xan.length can), (.bool nad), (.slice adad xad.length cad)] 26)).alloc (duo (.bool no) (.slice ado xo.length co)) = W0 := ⟨_, rfl⟩
  obtain ⟨b0, sz0⟩ := alloc2 w (.cells #[(.bool nan), (.slice adan xan.length can), (.bool nad), (.slice adad xad.length cad)] 26) (duo (.bool no) (.slice ado xo.length co))
  rw [hW] at b0 sz0
  have Pa : Hid (Cel W0 (w.heap.size) 26 [(.bool nan), (.slice adan xan.length can), (.bool nad), (.slice adad xad.length cad)]) := by unfold Hid; rw [← hW]; exact cel_late (cel_at (by simp)) _
  have Po : Hid (Duo W0 (w.heap.size + 1) (.bool no) (.slice ado xo.length co)) := by unfold Hid; rw [← hW]; exact duo_at (by simp)
  have Zan := hid (zan0.now b0)
  clear zan0
  have Zad := hid (zad0.now b0)
  clear zad0
  have Zo := hid (zo0.now b0)
  clear zo0
  have G := hid b0
  clear b0
  have EW := hid hW
  clear hW
  go_enter Try.func7, Try.ntmps7
  skip
  go_wp2_with fail
  rw [EW.out]
  clear EW
  refine (awake8 _).mono ?_
  rintro e w1 ⟨rfl, b⟩
  replace Zan := hid (Zan.out.now b)
  replace Zad := hid (Zad.out.now b)
  replace Zo := hid (Zo.out.now b)
  replace Pa := hid (Pa.out.step b)
  replace Po := hid (Po.out.step b)
  replace G := hid (below_step G.out b)
  have lz2 := (show Below _ _ _ from b).size
  clear b 
  have ca0 := (Pa.out.at (i := 0) rfl)
  have ca1 := (Pa.out.at (i := 1) rfl)
  have ca2 := (Pa.out.at (i := 2) rfl)
  have ca3 := (Pa.out.at (i := 3) rfl)
  go_wp2_with fail
  clear ca0 ca1 ca2 ca3
  refine (is8_yes Zan.out Zad.out HD.out).mono ?_
  rintro e w3 ⟨rfl, b⟩
  replace Zan := hid (Zan.out.now b)
  replace Zad := hid (Zad.out.now b)
  replace Zo := hid (Zo.out.now b)
  replace Pa := hid (Pa.out.step b)
  replace Po := hid (Po.out.step b)
  replace G := hid (below_step G.out b)
  have lz4 := (show Below _ _ _ from b).size
  clear b 
  have ca0 := (Pa.out.at (i := 0) rfl)
  have ca1 := (Pa.out.at (i := 1) rfl)
  have ca2 := (Pa.out.at (i := 2) rfl)
  have ca3 := (Pa.out.at (i := 3) rfl)
  go_wp2_with fail
  clear ca0 ca1 ca2 ca3
  refine (fofq (k := 1048576) Zan.out Zad.out (by decide) HD.out EL.out).mono ?_
  rintro e w5 ⟨r0, r1, r2, r3, rfl, m0, m1, b⟩
  obtain ⟨nln, xln, adln, qln, rfl, rfl⟩ := m0.zi.comp
  obtain ⟨nld, xld, adld, qld, rfl, rfl⟩ := m1.zi.comp
  replace Zan := hid (Zan.out.now b)
  replace Zad := hid (Zad.out.now b)
  replace Zo := hid (Zo.out.now b)
  replace Pa := hid (Pa.out.step b)
  replace Po := hid (Po.out.step b)
  replace G := hid (below_step G.out b)
  have lz6 := (show Below _ _ _ from b).size
  have Zln := hid m0
  have Zld := hid m1
  clear b m0 m1
  obtain ⟨V7, hW⟩ : ∃ V7, w5.alloc (.cells #[(.bool nln), (.slice adln xln.length qln), (.bool nld), (.slice adld xld.length qld)] 26) = V7 := ⟨_, rfl⟩
  obtain ⟨kW, sz7⟩ := alloc1 w5 (.cells #[(.bool nln), (.slice adln xln.length qln), (.bool nld), (.slice adld xld.length qld)] 26)
  rw [hW] at kW sz7
  replace Zan := hid (Zan.out.now kW)
  replace Zad := hid (Zad.out.now kW)
  replace Zo := hid (Zo.out.now kW)
  replace Zln := hid (Zln.out.now kW)
  replace Zld := hid (Zld.out.now kW)
  replace Pa := hid (Pa.out.step kW)
  replace Po := hid (Po.out.step kW)
  replace G := hid (below_step G.out kW)
  have lz8 := (show Below _ _ _ from kW).size
  have Pl : Hid (Cel V7 (w5.heap.size) 26 [(.bool nln), (.slice adln xln.length qln), (.bool nld), (.slice adld xld.length qld)]) := by unfold Hid; rw [← hW]; exact cel_at (by simp)
  clear kW
  have cl0 := (Pl.out.at (i := 0) rfl)
  have cl1 := (Pl.out.at (i := 1) rfl)
  have cl2 := (Pl.out.at (i := 2) rfl)
  have cl3 := (Pl.out.at (i := 3) rfl)
  have ca0 := (Pa.out.at (i := 0) rfl)
  have ca1 := (Pa.out.at (i := 1) rfl)
  have ca2 := (Pa.out.at (i := 2) rfl)
  have ca3 := (Pa.out.at (i := 3) rfl)
  rw [← hW] at cl0 cl1 cl2 cl3 ca0 ca1 ca2 ca3
  have EW := hid hW
  clear hW
  go_wp2_with fail
  rw [EW.out]
  clear EW
  clear cl0 cl1 cl2 cl3 ca0 ca1 ca2 ca3
  refine (names8 Zln.out.zc Zld.out.zc Zan.out Zad.out (by decide) (cross_q HD.out EL.out)).mono ?_
  rintro e w9 ⟨rfl, b⟩
  replace Zan := hid (Zan.out.now b)
  replace Zad := hid (Zad.out.now b)
  replace Zo := hid (Zo.out.now b)
  replace Zln := hid (Zln.out.now b)
  replace Zld := hid (Zld.out.now b)
  replace Pa := hid (Pa.out.step b)
  replace Po := hid (Po.out.step b)
  replace Pl := hid (Pl.out.step b)
  replace G := hid (below_step G.out b)
  have lz10 := (show Below _ _ _ from b).size
  clear b 
  have cl0 := (Pl.out.at (i := 0) rfl)
  have cl1 := (Pl.out.at (i := 1) rfl)
  have cl2 := (Pl.out.at (i := 2) rfl)
  have cl3 := (Pl.out.at (i := 3) rfl)
  go_wp2_with fail
  clear cl0 cl1 cl2 cl3
  refine (mul_z Zln.out.zi Zln.out.zi (by decide)).mono ?_
  rintro e w11 ⟨r0, rfl, m0, b⟩
  obtain ⟨nn, xn, adn, qn, rfl, -, -, -, -, -⟩ := id m0
  replace Zan := hid (Zan.out.now b)
  replace Zad := hid (Zad.out.now b)
  replace Zo := hid (Zo.out.now b)
  replace Zln := hid (Zln.out.now b)
  replace Zld := hid (Zld.out.now b)
  replace Pa := hid (Pa.out.step b)
  replace Po := hid (Po.out.step b)
  replace Pl := hid (Pl.out.step b)
  replace G := hid (below_step G.out b)
  have lz12 := (show Below _ _ _ from b).size
  have Zn := hid m0
  clear b m0
  obtain ⟨V13, hW⟩ : ∃ V13, w11.alloc (duo (.bool nn) (.slice adn xn.length qn)) = V13 := ⟨_, rfl⟩
  obtain ⟨kW, sz13⟩ := alloc1 w11 (duo (.bool nn) (.slice adn xn.length qn))
  rw [hW] at kW sz13
  replace Zan := hid (Zan.out.now kW)
  replace Zad := hid (Zad.out.now kW)
  replace Zo := hid (Zo.out.now kW)
  replace Zln := hid (Zln.out.now kW)
  replace Zld := hid (Zld.out.now kW)
  replace Zn := hid (Zn.out.now kW)
  replace Pa := hid (Pa.out.step kW)
  replace Po := hid (Po.out.step kW)
  replace Pl := hid (Pl.out.step kW)
  replace G := hid (below_step G.out kW)
  have lz14 := (show Below _ _ _ from kW).size
  have PN : Hid (Duo V13 (w11.heap.size) (.bool nn) (.slice adn xn.length qn)) := by unfold Hid; rw [← hW]; exact duo_at (by simp)
  clear kW
  have cl0 := (Pl.out.at (i := 0) rfl)
  have cl1 := (Pl.out.at (i := 1) rfl)
  have cl2 := (Pl.out.at (i := 2) rfl)
  have cl3 := (Pl.out.at (i := 3) rfl)
  rw [← hW] at cl0 cl1 cl2 cl3
  have EW := hid hW
  clear hW
  go_wp2_with fail
  rw [EW.out]
  clear EW
  clear cl0 cl1 cl2 cl3
  refine (mul_z Zld.out.zi Zld.out.zi (by decide)).mono ?_
  rintro e w15 ⟨r0, rfl, m0, b⟩
  obtain ⟨nd, xd, add, qd, rfl, -, -, -, -, -⟩ := id m0
  replace Zan := hid (Zan.out.now b)
  replace Zad := hid (Zad.out.now b)
  replace Zo := hid (Zo.out.now b)
  replace Zln := hid (Zln.out.now b)
  replace Zld := hid (Zld.out.now b)
  replace Zn := hid (Zn.out.now b)
  replace Pa := hid (Pa.out.step b)
  replace Po := hid (Po.out.step b)
  replace Pl := hid (Pl.out.step b)
  replace PN := hid (PN.out.step b)
  replace G := hid (below_step G.out b)
  have lz16 := (show Below _ _ _ from b).size
  have Zd := hid m0
  clear b m0
  obtain ⟨V17, hW⟩ : ∃ V17, w15.alloc (duo (.bool nd) (.slice add xd.length qd)) = V17 := ⟨_, rfl⟩
  obtain ⟨kW, sz17⟩ := alloc1 w15 (duo (.bool nd) (.slice add xd.length qd))
  rw [hW] at kW sz17
  replace Zan := hid (Zan.out.now kW)
  replace Zad := hid (Zad.out.now kW)
  replace Zo := hid (Zo.out.now kW)
  replace Zln := hid (Zln.out.now kW)
  replace Zld := hid (Zld.out.now kW)
  replace Zn := hid (Zn.out.now kW)
  replace Zd := hid (Zd.out.now kW)
  replace Pa := hid (Pa.out.step kW)
  replace Po := hid (Po.out.step kW)
  replace Pl := hid (Pl.out.step kW)
  replace PN := hid (PN.out.step kW)
  replace G := hid (below_step G.out kW)
  have lz18 := (show Below _ _ _ from kW).size
  have PD : Hid (Duo V17 (w15.heap.size) (.bool nd) (.slice add xd.length qd)) := by unfold Hid; rw [← hW]; exact duo_at (by simp)
  clear kW
  have cl0 := (Pl.out.at (i := 0) rfl)
  have cl1 := (Pl.out.at (i := 1) rfl)
  have cl2 := (Pl.out.at (i := 2) rfl)
  have cl3 := (Pl.out.at (i := 3) rfl)
  have co0 := Po.out.c0
  have co1 := Po.out.c1
  rw [← hW] at cl0 cl1 cl2 cl3 co0 co1
  have EW := hid hW
  clear hW
  go_wp2_with fail
  rw [EW.out]
  clear EW
  clear cl0 cl1 cl2 cl3 co0 co1
  refine (inv_any Zld.out.zi Zo.out (by decide) (by decide)).mono ?_
  rintro e w19 ⟨E, zi, r0, rfl, m0, b⟩
  obtain ⟨nv, xv, adv, qv, rfl, -, -, -, -, -⟩ := id m0
  replace Zan := hid (Zan.out.now b)
  replace Zad := hid (Zad.out.now b)
  replace Zo := hid (Zo.out.now b)
  replace Zln := hid (Zln.out.now b)
  replace Zld := hid (Zld.out.now b)
  replace Zn := hid (Zn.out.now b)
  replace Zd := hid (Zd.out.now b)
  replace Pa := hid (Pa.out.step b)
  replace Po := hid (Po.out.step b)
  replace Pl := hid (Pl.out.step b)
  replace PN := hid (PN.out.step b)
  replace PD := hid (PD.out.step b)
  replace G := hid (below_step G.out b)
  have lz20 := (show Below _ _ _ from b).size
  have Zv := hid m0
  clear b m0
  obtain ⟨V21, hW⟩ : ∃ V21, w19.alloc (duo (.bool nv) (.slice adv xv.length qv)) = V21 := ⟨_, rfl⟩
  obtain ⟨kW, sz21⟩ := alloc1 w19 (duo (.bool nv) (.slice adv xv.length qv))
  rw [hW] at kW sz21
  replace Zan := hid (Zan.out.now kW)
  replace Zad := hid (Zad.out.now kW)
  replace Zo := hid (Zo.out.now kW)
  replace Zln := hid (Zln.out.now kW)
  replace Zld := hid (Zld.out.now kW)
  replace Zn := hid (Zn.out.now kW)
  replace Zd := hid (Zd.out.now kW)
  replace Zv := hid (Zv.out.now kW)
  replace Pa := hid (Pa.out.step kW)
  replace Po := hid (Po.out.step kW)
  replace Pl := hid (Pl.out.step kW)
  replace PN := hid (PN.out.step kW)
  replace PD := hid (PD.out.step kW)
  replace G := hid (below_step G.out kW)
  have lz22 := (show Below _ _ _ from kW).size
  have PV : Hid (Duo V21 (w19.heap.size) (.bool nv) (.slice adv xv.length qv)) := by unfold Hid; rw [← hW]; exact duo_at (by simp)
  clear kW
  have q6 : ((6 : Int) != 0) = true := rfl
  have q7 : ((0 : Int) != 0) = false := rfl
  have EW := hid hW
  clear hW
  go_wp2_with fail
  rw [EW.out]
  clear EW
  refine wp_region_tail (fun w' => w'.cell? ⟨w.heap.size + 1, 0, none⟩ = some (.bool no) ∧ w'.cell? ⟨w.heap.size + 1, 1, none⟩ = some (.slice ado xo.length co) ∧ w'.cell? ⟨w11.heap.size, 0, none⟩ = some (.bool nn) ∧ w'.cell? ⟨w11.heap.size, 1, none⟩ = some (.slice adn xn.length qn) ∧ w'.cell? ⟨w15.heap.size, 0, none⟩ = some (.bool nd) ∧ w'.cell? ⟨w15.heap.size, 1, none⟩ = some (.slice add xd.length qd)) 17 (by kernel_rfl) ?_
  obtain ⟨D23, hD⟩ : ∃ D23, V21.drew = D23 := ⟨_, rfl⟩
  have b : Below V21.heap.size V21 D23 := by rw [← hD]; exact (Below.refl _ _).drew
  rw [hD]
  clear hD
  replace Zan := hid (Zan.out.now b)
  replace Zad := hid (Zad.out.now b)
  replace Zo := hid (Zo.out.now b)
  replace Zln := hid (Zln.out.now b)
  replace Zld := hid (Zld.out.now b)
  replace Zn := hid (Zn.out.now b)
  replace Zd := hid (Zd.out.now b)
  replace Zv := hid (Zv.out.now b)
  replace Pa := hid (Pa.out.step b)
  replace Po := hid (Po.out.step b)
  replace Pl := hid (Pl.out.step b)
  replace PN := hid (PN.out.step b)
  replace PD := hid (PD.out.step b)
  replace PV := hid (PV.out.step b)
  replace G := hid (below_step G.out b)
  have lz24 := (show Below _ _ _ from b).size
  clear b
  refine wpAnyT_take (i := 0) (oi := { dst := some 66, op := Op.load 24 (Operand.tmp 3), type := 24, pos := "outright.go:221", after := #[], guard := none }) (v := (.agg #[(.bool no), (.slice ado xo.length co)])) rfl (by kernel_rfl) (fun _ _ _ h => h) (Or.inl ⟨by rfl, ?_⟩) ⟨Po.out.c0, Po.out.c1, PN.out.c0, PN.out.c1, PD.out.c0, PD.out.c1⟩ ?_
  · intro w hSw
    (try dsimp only at hSw)
    go_simp
  simp only [Act.put, List.setIfInBounds_toArray, List.set_cons_zero, List.set_cons_succ]
  refine wpAnyT_take (i := 1) (oi := { dst := some 67, op := Op.load 24 (Operand.tmp 9), type := 24, pos := "outright.go:221", after := #[], guard := none }) (v := (.agg #[(.bool nn), (.slice adn xn.length qn)])) rfl (by kernel_rfl) (fun _ _ _ h => h) (Or.inl ⟨by rfl, ?_⟩) ⟨Po.out.c0, Po.out.c1, PN.out.c0, PN.out.c1, PD.out.c0, PD.out.c1⟩ ?_
  · intro w hSw
    (try dsimp only at hSw)
    go_simp
  simp only [Act.put, List.setIfInBounds_toArray, List.set_cons_zero, List.set_cons_succ]
  refine wpAnyT_take (i := 2) (oi := { dst := some 68, op := Op.load 24 (Operand.tmp 9), type := 24, pos := "outright.go:221", after := #[], guard := none }) (v := (.agg #[(.bool nn), (.slice adn xn.length qn)])) rfl (by kernel_rfl) (fun _ _ _ h => h) (Or.inl ⟨by rfl, ?_⟩) ⟨Po.out.c0, Po.out.c1, PN.out.c0, PN.out.c1, PD.out.c0, PD.out.c1⟩ ?_
  · intro w hSw
    (try dsimp only at hSw)
    go_simp
  simp only [Act.put, List.setIfInBounds_toArray, List.set_cons_zero, List.set_cons_succ]
  refine wpAnyT_one (i := 3) (o := { dst := some 69, op := Op.call { callee := Callee.value (Operand.func 17), args := #[Operand.tmp 67, Operand.tmp 68], argTypes := #[24, 24] }, type := 24, pos := "outright.go:221", after := #[{ on := 1, ground := Ground.data }, { on := 2, ground := Ground.data }], guard := none }) (by kernel_rfl) rfl (fun K hK => ?_)
  go_simp
  go_at_call 17
  refine (add_z Zn.out.zi Zn.out.zi (by decide) (by decide)).mono ?_
  rintro e w25 ⟨r0, rfl, m0, b⟩
  obtain ⟨ns, xs, ads, qs, rfl, -, -, -, -, -⟩ := id m0
  replace Zan := hid (Zan.out.now b)
  replace Zad := hid (Zad.out.now b)
  replace Zo := hid (Zo.out.now b)
  replace Zln := hid (Zln.out.now b)
  replace Zld := hid (Zld.out.now b)
  replace Zn := hid (Zn.out.now b)
  replace Zd := hid (Zd.out.now b)
  replace Zv := hid (Zv.out.now b)
  replace Pa := hid (Pa.out.step b)
  replace Po := hid (Po.out.step b)
  replace Pl := hid (Pl.out.step b)
  replace PN := hid (PN.out.step b)
  replace PD := hid (PD.out.step b)
  replace PV := hid (PV.out.step b)
  replace G := hid (below_step G.out b)
  have lz26 := (show Below _ _ _ from b).size
  have Zs := hid m0
  clear b m0
  refine hK.out _ _ (fun _ => ⟨Po.out.c0, Po.out.c1, PN.out.c0, PN.out.c1, PD.out.c0, PD.out.c1⟩) ?_
  clear hK
  refine wpAnyT_one (i := 4) (o := { dst := some 70, op := Op.call { callee := Callee.value (Operand.func 32), args := #[Operand.tmp 66, Operand.tmp 69], argTypes := #[24, 24] }, type := 3, pos := "outright.go:221", after := #[{ on := 0, ground := Ground.data }, { on := 3, ground := Ground.data }, { on := 3, ground := Ground.chain }], guard := none }) (by kernel_rfl) rfl (fun K hK => ?_)
  go_simp
  go_at_call 32
  refine (HC1.out _ _ _ _ Zo.out Zs.out.zi).mono ?_
  rintro e w27 ⟨rfl, b⟩
  replace Zan := hid (Zan.out.now b)
  replace Zad := hid (Zad.out.now b)
  replace Zo := hid (Zo.out.now b)
  replace Zln := hid (Zln.out.now b)
  replace Zld := hid (Zld.out.now b)
  replace Zn := hid (Zn.out.now b)
  replace Zd := hid (Zd.out.now b)
  replace Zv := hid (Zv.out.now b)
  replace Zs := hid (Zs.out.now b)
  replace Pa := hid (Pa.out.step b)
  replace Po := hid (Po.out.step b)
  replace Pl := hid (Pl.out.step b)
  replace PN := hid (PN.out.step b)
  replace PD := hid (PD.out.step b)
  replace PV := hid (PV.out.step b)
  replace G := hid (below_step G.out b)
  have lz28 := (show Below _ _ _ from b).size
  clear b 
  refine hK.out _ _ (fun _ => ⟨Po.out.c0, Po.out.c1, PN.out.c0, PN.out.c1, PD.out.c0, PD.out.c1⟩) ?_
  clear hK
  refine wpAnyT_take (i := 5) (oi := { dst := some 71, op := Op.binOp BinOp.leq 3 (Operand.tmp 70) (Operand.const (Value.int IntKind.i64 0)) 3, type := 4, pos := "outright.go:221", after := #[{ on := 4, ground := Ground.data }], guard := none }) (v := (.bool false)) rfl (by kernel_rfl) (fun _ _ _ h => h) (Or.inl ⟨by rfl, ?_⟩) ⟨Po.out.c0, Po.out.c1, PN.out.c0, PN.out.c1, PD.out.c0, PD.out.c1⟩ ?_
  · intro w hSw
    (try dsimp only at hSw)
    go_simp
  simp only [Act.put, List.setIfInBounds_toArray, List.set_cons_zero, List.set_cons_succ]
  refine wpAnyT_take (i := 6) (oi := { dst := some 72, op := Op.move (Operand.tmp 71), type := 4, pos := "outright.go:221", after := #[{ on := 5, ground := Ground.data }, { on := 4, ground := Ground.chain }], guard := none }) (v := (.bool false)) rfl (by kernel_rfl) (fun _ _ _ h => h) (Or.inl ⟨by rfl, ?_⟩) ⟨Po.out.c0, Po.out.c1, PN.out.c0, PN.out.c1, PD.out.c0, PD.out.c1⟩ ?_
  · intro w hSw
    (try dsimp only at hSw)
    go_simp
  simp only [Act.put, List.setIfInBounds_toArray, List.set_cons_zero, List.set_cons_succ]
  refine wpAnyT_take (i := 7) (oi := { dst := some 73, op := Op.load 24 (Operand.tmp 3), type := 24, pos := "outright.go:221", after := #[{ on := 6, ground := Ground.guard }], guard := some (6, false) }) (v := (.agg #[(.bool no), (.slice ado xo.length co)])) rfl (by kernel_rfl) (fun _ _ _ h => h) (Or.inl ⟨by rfl, ?_⟩) ⟨Po.out.c0, Po.out.c1, PN.out.c0, PN.out.c1, PD.out.c0, PD.out.c1⟩ ?_
  · intro w hSw
    (try dsimp only at hSw)
    go_simp
  simp only [Act.put, List.setIfInBounds_toArray, List.set_cons_zero, List.set_cons_succ]
  refine wpAnyT_take (i := 8) (oi := { dst := some 74, op := Op.load 24 (Operand.tmp 10), type := 24, pos := "outright.go:221", after := #[{ on := 6, ground := Ground.guard }], guard := some (6, false) }) (v := (.agg #[(.bool nd), (.slice add xd.length qd)])) rfl (by kernel_rfl) (fun _ _ _ h => h) (Or.inl ⟨by rfl, ?_⟩) ⟨Po.out.c0, Po.out.c1, PN.out.c0, PN.out.c1, PD.out.c0, PD.out.c1⟩ ?_
  · intro w hSw
    (try dsimp only at hSw)
    go_simp
  simp only [Act.put, List.setIfInBounds_toArray, List.set_cons_zero, List.set_cons_succ]
  refine wpAnyT_take (i := 9) (oi := { dst := some 75, op := Op.load 24 (Operand.tmp 10), type := 24, pos := "outright.go:221", after := #[{ on := 6, ground := Ground.guard }], guard := some (6, false) }) (v := (.agg #[(.bool nd), (.slice add xd.length qd)])) rfl (by kernel_rfl) (fun _ _ _ h => h) (Or.inl ⟨by rfl, ?_⟩) ⟨Po.out.c0, Po.out.c1, PN.out.c0, PN.out.c1, PD.out.c0, PD.out.c1⟩ ?_
  · intro w hSw
    (try dsimp only at hSw)
    go_simp
  simp only [Act.put, List.setIfInBounds_toArray, List.set_cons_zero, List.set_cons_succ]
  refine wpAnyT_one (i := 10) (o := { dst := some 76, op := Op.call { callee := Callee.value (Operand.func 17), args := #[Operand.tmp 74, Operand.tmp 75], argTypes := #[24, 24] }, type := 24, pos := "outright.go:221", after := #[{ on := 8, ground := Ground.data }, { on := 9, ground := Ground.data }, { on := 6, ground := Ground.chain }, { on := 6, ground := Ground.guard }], guard := some (6, false) }) (by kernel_rfl) rfl (fun K hK => ?_)
  go_simp
  go_at_call 17
  refine (add_z Zd.out.zi Zd.out.zi (by decide) (by decide)).mono ?_
  rintro e w29 ⟨r0, rfl, m0, b⟩
  obtain ⟨nt, xt, adt, qt, rfl, -, -, -, -, -⟩ := id m0
  replace Zan := hid (Zan.out.now b)
  replace Zad := hid (Zad.out.now b)
  replace Zo := hid (Zo.out.now b)
  replace Zln := hid (Zln.out.now b)
  replace Zld := hid (Zld.out.now b)
  replace Zn := hid (Zn.out.now b)
  replace Zd := hid (Zd.out.now b)
  replace Zv := hid (Zv.out.now b)
  replace Zs := hid (Zs.out.now b)
  replace Pa := hid (Pa.out.step b)
  replace Po := hid (Po.out.step b)
  replace Pl := hid (Pl.out.step b)
  replace PN := hid (PN.out.step b)
  replace PD := hid (PD.out.step b)
  replace PV := hid (PV.out.step b)
  replace G := hid (below_step G.out b)
  have lz30 := (show Below _ _ _ from b).size
  have Zt := hid m0
  clear b m0
  refine hK.out _ _ (fun _ => ⟨Po.out.c0, Po.out.c1, PN.out.c0, PN.out.c1, PD.out.c0, PD.out.c1⟩) ?_
  clear hK
  refine wpAnyT_one (i := 11) (o := { dst := some 77, op := Op.call { callee := Callee.value (Operand.func 32), args := #[Operand.tmp 73, Operand.tmp 76], argTypes := #[24, 24] }, type := 3, pos := "outright.go:221", after := #[{ on := 7, ground := Ground.data }, { on := 10, ground := Ground.data }, { on := 10, ground := Ground.chain }, { on := 6, ground := Ground.guard }], guard := some (6, false) }) (by kernel_rfl) rfl (fun K hK => ?_)
  go_simp
  go_at_call 32
  refine (HC2.out _ _ _ _ Zo.out Zt.out.zi).mono ?_
  rintro e w31 ⟨rfl, b⟩
  replace Zan := hid (Zan.out.now b)
  replace Zad := hid (Zad.out.now b)
  replace Zo := hid (Zo.out.now b)
  replace Zln := hid (Zln.out.now b)
  replace Zld := hid (Zld.out.now b)
  replace Zn := hid (Zn.out.now b)
  replace Zd := hid (Zd.out.now b)
  replace Zv := hid (Zv.out.now b)
  replace Zs := hid (Zs.out.now b)
  replace Zt := hid (Zt.out.now b)
  replace Pa := hid (Pa.out.step b)
  replace Po := hid (Po.out.step b)
  replace Pl := hid (Pl.out.step b)
  replace PN := hid (PN.out.step b)
  replace PD := hid (PD.out.step b)
  replace PV := hid (PV.out.step b)
  replace G := hid (below_step G.out b)
  have lz32 := (show Below _ _ _ from b).size
  clear b 
  refine hK.out _ _ (fun _ => ⟨Po.out.c0, Po.out.c1, PN.out.c0, PN.out.c1, PD.out.c0, PD.out.c1⟩) ?_
  clear hK
  refine wpAnyT_take (i := 12) (oi := { dst := some 78, op := Op.binOp BinOp.leq 3 (Operand.tmp 77) (Operand.const (Value.int IntKind.i64 0)) 3, type := 4, pos := "outright.go:221", after := #[{ on := 11, ground := Ground.data }, { on := 6, ground := Ground.guard }], guard := some (6, false) }) (v := (.bool true)) rfl (by kernel_rfl) (fun _ _ _ h => h) (Or.inl ⟨by rfl, ?_⟩) ⟨Po.out.c0, Po.out.c1, PN.out.c0, PN.out.c1, PD.out.c0, PD.out.c1⟩ ?_
  · intro w hSw
    (try dsimp only at hSw)
    go_simp
  simp only [Act.put, List.setIfInBounds_toArray, List.set_cons_zero, List.set_cons_succ]
  refine wpAnyT_take (i := 13) (oi := { dst := some 79, op := Op.pick (Operand.tmp 72) (Operand.const (Value.bool true)) (Operand.tmp 78), type := 4, pos := "outright.go:221", after := #[{ on := 6, ground := Ground.data }, { on := 12, ground := Ground.data }], guard := none }) (v := (.bool true)) rfl (by kernel_rfl) (fun _ _ _ h => h) (Or.inl ⟨by rfl, ?_⟩) ⟨Po.out.c0, Po.out.c1, PN.out.c0, PN.out.c1, PD.out.c0, PD.out.c1⟩ ?_
  · intro w hSw
    (try dsimp only at hSw)
    go_simp
  simp only [Act.put, List.setIfInBounds_toArray, List.set_cons_zero, List.set_cons_succ]
  refine wpAnyT_take (i := 14) (oi := { dst := some 80, op := Op.move (Operand.tmp 79), type := 4, pos := "outright.go:221", after := #[{ on := 13, ground := Ground.data }, { on := 11, ground := Ground.chain }], guard := none }) (v := (.bool true)) rfl (by kernel_rfl) (fun _ _ _ h => h) (Or.inl ⟨by rfl, ?_⟩) ⟨Po.out.c0, Po.out.c1, PN.out.c0, PN.out.c1, PD.out.c0, PD.out.c1⟩ ?_
  · intro w hSw
    (try dsimp only at hSw)
    go_simp
  simp only [Act.put, List.setIfInBounds_toArray, List.set_cons_zero, List.set_cons_succ]
  refine wpAnyT_take (i := 15) (oi := { dst := some 81, op := Op.move (Operand.tmp 12), type := 28, pos := "outright.go:221", after := #[{ on := 14, ground := Ground.guard }], guard := some (14, false) }) (v := undef) rfl (by kernel_rfl) (fun _ _ _ h => h) (Or.inr ⟨by rfl, rfl⟩) ⟨Po.out.c0, Po.out.c1, PN.out.c0, PN.out.c1, PD.out.c0, PD.out.c1⟩ ?_
  simp only [Act.put, List.setIfInBounds_toArray, List.set_cons_zero, List.set_cons_succ]
  refine wpAnyT_take (i := 16) (oi := { dst := some 82, op := Op.binOp BinOp.neq 28 (Operand.tmp 81) (Operand.const (Value.int IntKind.i64 0)) 28, type := 4, pos := "outright.go:221", after := #[{ on := 15, ground := Ground.data }, { on := 14, ground := Ground.guard }], guard := some (14, false) }) (v := undef) rfl (by kernel_rfl) (fun _ _ _ h => h) (Or.inr ⟨by rfl, rfl⟩) ⟨Po.out.c0, Po.out.c1, PN.out.c0, PN.out.c1, PD.out.c0, PD.out.c1⟩ ?_
  simp only [Act.put, List.setIfInBounds_toArray, List.set_cons_zero, List.set_cons_succ]
  refine wpAnyT_one (i := 17) (o := { dst := some 83, op := Op.pick (Operand.tmp 80) (Operand.const (Value.bool true)) (Operand.tmp 82), type := 4, pos := "outright.go:221", after := #[{ on := 14, ground := Ground.data }, { on := 16, ground := Ground.data }], guard := none }) (by kernel_rfl) rfl (fun K hK => ?_)
  go_simp
  refine hK.out _ _ (fun h => absurd h (by decide)) ?_
  clear hK
  try simp only [Act.put]
  refine wpAnyT_done (by kernel_rfl) ?_ _
  go_wp2
  go_ret
  exact ⟨rfl, G.out⟩

set_option maxHeartbeats 6400000 in
set_option maxRecDepth 100000 in
theorem returns_c3 {w : World} {a0 a1 a2 a3 vo : Value} {AN AD O : Int} (han : Zi w (.agg #[a0, a1]) AN 1048576) (had : Zi w (.agg #[a2, a3]) AD 1048576) (ho : Zi w vo O 1048576) (hD : AD ≠ 0) (h2 : ¬ O ≤ ((Rat.divInt AN AD).num * (Rat.divInt AN AD).num + (Rat.divInt AN AD).num * (Rat.divInt AN AD).num)) (h3 : ¬ O ≤ (((Rat.divInt AN AD).den : Int) * ((Rat.divInt AN AD).den : Int) + ((Rat.divInt AN AD).den : Int) * ((Rat.divInt AN AD).den : Int))) (hg : (Int.gcd ((Rat.divInt AN AD).den : Int) O : Int) ≠ 1) :
    Calls Try.prog 7 #[.agg #[a0, a1, a2, a3], vo] w fun e w' => e = .returned (.bool true) ∧ Below w.heap.size w w' := by
  have HD := hid hD
  clear hD
  obtain ⟨ql, el⟩ : ∃ q, q = Rat.divInt AN AD := ⟨_, rfl⟩
  have EL := hid el
  rw [← el] at h2 h3 hg
  clear el
  have H2 := hid h2
  clear h2
  have H3 := hid h3
  clear h3
  have HGc := hid hg
  clear hg
  have K1 : ¬ cmpI O (ql.num * ql.num + ql.num * ql.num) ≤ 0 := by rcases cmp_cases O (ql.num * ql.num + ql.num * ql.num) with ⟨_, h⟩ | ⟨_, h⟩ | ⟨_, h⟩ <;> have := H2.out <;> omega
  have HC1 : Hid (∀ w' v u l, Zi w' v O 1048576 → Zi w' u (ql.num * ql.num + ql.num * ql.num) l → _) := fun (w' : World) (v u : Value) (l : Nat) (h : Zi w' v O 1048576) (h' : Zi w' u (ql.num * ql.num + ql.num * ql.num) l) => cmp_z h h'
  generalize cmpI O (ql.num * ql.num + ql.num * ql.num) = C1 at *
  have K2 : ¬ cmpI O ((ql.den : Int) * (ql.den : Int) + (ql.den : Int) * (ql.den : Int)) ≤ 0 := by rcases cmp_cases O ((ql.den : Int) * (ql.den : Int) + (ql.den : Int) * (ql.den : Int)) with ⟨_, h⟩ | ⟨_, h⟩ | ⟨_, h⟩ <;> have := H3.out <;> omega
  have HC2 : Hid (∀ w' v u l, Zi w' v O 1048576 → Zi w' u ((ql.den : Int) * (ql.den : Int) + (ql.den : Int) * (ql.den : Int)) l → _) := fun (w' : World) (v u : Value) (l : Nat) (h : Zi w' v O 1048576) (h' : Zi w' u ((ql.den : Int) * (ql.den : Int) + (ql.den : Int) * (ql.den : Int)) l) => cmp_z h h'
  generalize cmpI O ((ql.den : Int) * (ql.den : Int) + (ql.den : Int) * (ql.den : Int)) = C2 at *
  have OP : Hid (0 < O) := by
    have h := H2.out
    have := Int.mul_nonneg (show 0 ≤ (ql.num.natAbs : Int) by omega) (show 0 ≤ (ql.num.natAbs : Int) by omega)
    rw [Int.natAbs_mul_self' ql.num] at this
    unfold Hid
    omega
  have ON : Hid (O ≠ 0) := by have := OP.out; unfold Hid; omega
  have zan0 := han
  obtain ⟨nan, xan, adan, can, ev, -, -, -⟩ := han
  simp only [Value.agg.injEq] at ev
  obtain ⟨rfl, rfl⟩ := pair_eq ev
  have zad0 := had
  obtain ⟨nad, xad, adad, cad, ev, -, -, -⟩ := had
  simp only [Value.agg.injEq] at ev
  obtain ⟨rfl, rfl⟩ := pair_eq ev
  have zo0 := ho
  obtain ⟨no, xo, ado, co, rfl, -, -, -⟩ := ho
  obtain ⟨W0, hW⟩ : ∃ W0, (w.alloc (.cells #[(.bool nan), (.slice adan xan.length can), (.bool nad), (.slice adad xad.length cad)] 26)).alloc (duo (.bool no) (.slice ado xo.length co)) = W0 := ⟨_, rfl⟩
  obtain ⟨b0, sz0⟩ := alloc2 w (.cells #[(.bool nan), (.slice adan xan.length can), (.bool nad), (.slice adad xad.length cad)] 26) (duo (.bool no) (.slice ado xo.length co))
  rw [hW] at b0 sz0
  have Pa : Hid (Cel W0 (w.heap.size) 26 [(.bool nan), (.slice adan xan.length can), (.bool nad), (.slice adad xad.length cad)]) := by unfold Hid; rw [← hW]; exact cel_late (cel_at (by simp)) _
  have Po : Hid (Duo W0 (w.heap.size + 1) (.bool no) (.slice ado xo.length co)) := by unfold Hid; rw [← hW]; exact duo_at (by simp)
  have Zan := hid (zan0.now b0)
  clear zan0
  have Zad := hid (zad0.now b0)
  clear zad0
  have Zo := hid (zo0.now b0)
  clear zo0
  have G := hid b0
  clear b0
  have EW := hid hW
  clear hW
  go_enter Try.func7, Try.ntmps7
  skip
  go_wp2_with fail
  rw [EW.out]
  clear EW
  refine (awake8 _).mono ?_
  rintro e w1 ⟨rfl, b⟩
  replace Zan := hid (Zan.out.now b)
  replace Zad := hid (Zad.out.now b)
  replace Zo := hid (Zo.out.now b)
  replace Pa := hid (Pa.out.step b)
  replace Po := hid (Po.out.step b)
  replace G := hid (below_step G.out b)
  have lz2 := (show Below _ _ _ from b).size
  clear b 
  have ca0 := (Pa.out.at (i := 0) rfl)
  have ca1 := (Pa.out.at (i := 1) rfl)
  have ca2 := (Pa.out.at (i := 2) rfl)
  have ca3 := (Pa.out.at (i := 3) rfl)
  go_wp2_with fail
  clear ca0 ca1 ca2 ca3
  refine (is8_yes Zan.out Zad.out HD.out).mono ?_
  rintro e w3 ⟨rfl, b⟩
  replace Zan := hid (Zan.out.now b)
  replace Zad := hid (Zad.out.now b)
  replace Zo := hid (Zo.out.now b)
  replace Pa := hid (Pa.out.step b)
  replace Po := hid (Po.out.step b)
  replace G := hid (below_step G.out b)
  have lz4 := (show Below _ _ _ from b).size
  clear b 
  have ca0 := (Pa.out.at (i := 0) rfl)
  have ca1 := (Pa.out.at (i := 1) rfl)
  have ca2 := (Pa.out.at (i := 2) rfl)
  have ca3 := (Pa.out.at (i := 3) rfl)
  go_wp2_with fail
  clear ca0 ca1 ca2 ca3
  refine (fofq (k := 1048576) Zan.out Zad.out (by decide) HD.out EL.out).mono ?_
  rintro e w5 ⟨r0, r1, r2, r3, rfl, m0, m1, b⟩
  obtain ⟨nln, xln, adln, qln, rfl, rfl⟩ := m0.zi.comp
  obtain ⟨nld, xld, adld, qld, rfl, rfl⟩ := m1.zi.comp
  replace Zan := hid (Zan.out.now b)
  replace Zad := hid (Zad.out.now b)
  replace Zo := hid (Zo.out.now b)
  replace Pa := hid (Pa.out.step b)
  replace Po := hid (Po.out.step b)
  replace G := hid (below_step G.out b)
  have lz6 := (show Below _ _ _ from b).size
  have Zln := hid m0
  have Zld := hid m1
  clear b m0 m1
  obtain ⟨V7, hW⟩ : ∃ V7, w5.alloc (.cells #[(.bool nln), (.slice adln xln.length qln), (.bool nld), (.slice adld xld.length qld)] 26) = V7 := ⟨_, rfl⟩
  obtain ⟨kW, sz7⟩ := alloc1 w5 (.cells #[(.bool nln), (.slice adln xln.length qln), (.bool nld), (.slice adld xld.length qld)] 26)
  rw [hW] at kW sz7
  replace Zan := hid (Zan.out.now kW)
  replace Zad := hid (Zad.out.now kW)
  replace Zo := hid (Zo.out.now kW)
  replace Zln := hid (Zln.out.now kW)
  replace Zld := hid (Zld.out.now kW)
  replace Pa := hid (Pa.out.step kW)
  replace Po := hid (Po.out.step kW)
  replace G := hid (below_step G.out kW)
  have lz8 := (show Below _ _ _ from kW).size
  have Pl : Hid (Cel V7 (w5.heap.size) 26 [(.bool nln), (.slice adln xln.length qln), (.bool nld), (.slice adld xld.length qld)]) := by unfold Hid; rw [← hW]; exact cel_at (by simp)
  clear kW
  have cl0 := (Pl.out.at (i := 0) rfl)
  have cl1 := (Pl.out.at (i := 1) rfl)
  have cl2 := (Pl.out.at (i := 2) rfl)
  have cl3 := (Pl.out.at (i := 3) rfl)
  have ca0 := (Pa.out.at (i := 0) rfl)
  have ca1 := (Pa.out.at (i := 1) rfl)
  have ca2 := (Pa.out.at (i := 2) rfl)
  have ca3 := (Pa.out.at (i := 3) rfl)
  rw [← hW] at cl0 cl1 cl2 cl3 ca0 ca1 ca2 ca3
  have EW := hid hW
  clear hW
  go_wp2_with fail
  rw [EW.out]
  clear EW
  clear cl0 cl1 cl2 cl3 ca0 ca1 ca2 ca3
  refine (names8 Zln.out.zc Zld.out.zc Zan.out Zad.out (by decide) (cross_q HD.out EL.out)).mono ?_
  rintro e w9 ⟨rfl, b⟩
  replace Zan := hid (Zan.out.now b)
  replace Zad := hid (Zad.out.now b)
  replace Zo := hid (Zo.out.now b)
  replace Zln := hid (Zln.out.now b)
  replace Zld := hid (Zld.out.now b)
  replace Pa := hid (Pa.out.step b)
  replace Po := hid (Po.out.step b)
  replace Pl := hid (Pl.out.step b)
  replace G := hid (below_step G.out b)
  have lz10 := (show Below _ _ _ from b).size
  clear b 
  have cl0 := (Pl.out.at (i := 0) rfl)
  have cl1 := (Pl.out.at (i := 1) rfl)
  have cl2 := (Pl.out.at (i := 2) rfl)
  have cl3 := (Pl.out.at (i := 3) rfl)
  go_wp2_with fail
  clear cl0 cl1 cl2 cl3
  refine (mul_z Zln.out.zi Zln.out.zi (by decide)).mono ?_
  rintro e w11 ⟨r0, rfl, m0, b⟩
  obtain ⟨nn, xn, adn, qn, rfl, -, -, -, -, -⟩ := id m0
  replace Zan := hid (Zan.out.now b)
  replace Zad := hid (Zad.out.now b)
  replace Zo := hid (Zo.out.now b)
  replace Zln := hid (Zln.out.now b)
  replace Zld := hid (Zld.out.now b)
  replace Pa := hid (Pa.out.step b)
  replace Po := hid (Po.out.step b)
  replace Pl := hid (Pl.out.step b)
  replace G := hid (below_step G.out b)
  have lz12 := (show Below _ _ _ from b).size
  have Zn := hid m0
  clear b m0
  obtain ⟨V13, hW⟩ : ∃ V13, w11.alloc (duo (.bool nn) (.slice adn xn.length qn)) = V13 := ⟨_, rfl⟩
  obtain ⟨kW, sz13⟩ := alloc1 w11 (duo (.bool nn) (.slice adn xn.length qn))
  rw [hW] at kW sz13
  replace Zan := hid (Zan.out.now kW)
  replace Zad := hid (Zad.out.now kW)
  replace Zo := hid (Zo.out.now kW)
  replace Zln := hid (Zln.out.now kW)
  replace Zld := hid (Zld.out.now kW)
  replace Zn := hid (Zn.out.now kW)
  replace Pa := hid (Pa.out.step kW)
  replace Po := hid (Po.out.step kW)
  replace Pl := hid (Pl.out.step kW)
  replace G := hid (below_step G.out kW)
  have lz14 := (show Below _ _ _ from kW).size
  have PN : Hid (Duo V13 (w11.heap.size) (.bool nn) (.slice adn xn.length qn)) := by unfold Hid; rw [← hW]; exact duo_at (by simp)
  clear kW
  have cl0 := (Pl.out.at (i := 0) rfl)
  have cl1 := (Pl.out.at (i := 1) rfl)
  have cl2 := (Pl.out.at (i := 2) rfl)
  have cl3 := (Pl.out.at (i := 3) rfl)
  rw [← hW] at cl0 cl1 cl2 cl3
  have EW := hid hW
  clear hW
  go_wp2_with fail
  rw [EW.out]
  clear EW
  clear cl0 cl1 cl2 cl3
  refine (mul_z Zld.out.zi Zld.out.zi (by decide)).mono ?_
  rintro e w15 ⟨r0, rfl, m0, b⟩
  obtain ⟨nd, xd, add, qd, rfl, -, -, -, -, -⟩ := id m0
  replace Zan := hid (Zan.out.now b)
  replace Zad := hid (Zad.out.now b)
  replace Zo := hid (Zo.out.now b)
  replace Zln := hid (Zln.out.now b)
  replace Zld := hid (Zld.out.now b)
  replace Zn := hid (Zn.out.now b)
  replace Pa := hid (Pa.out.step b)
  replace Po := hid (Po.out.step b)
  replace Pl := hid (Pl.out.step b)
  replace PN := hid (PN.out.step b)
  replace G := hid (below_step G.out b)
  have lz16 := (show Below _ _ _ from b).size
  have Zd := hid m0
  clear b m0
  obtain ⟨V17, hW⟩ : ∃ V17, w15.alloc (duo (.bool nd) (.slice add xd.length qd)) = V17 := ⟨_, rfl⟩
  obtain ⟨kW, sz17⟩ := alloc1 w15 (duo (.bool nd) (.slice add xd.length qd))
  rw [hW] at kW sz17
  replace Zan := hid (Zan.out.now kW)
  replace Zad := hid (Zad.out.now kW)
  replace Zo := hid (Zo.out.now kW)
  replace Zln := hid (Zln.out.now kW)
  replace Zld := hid (Zld.out.now kW)
  replace Zn := hid (Zn.out.now kW)
  replace Zd := hid (Zd.out.now kW)
  replace Pa := hid (Pa.out.step kW)
  replace Po := hid (Po.out.step kW)
  replace Pl := hid (Pl.out.step kW)
  replace PN := hid (PN.out.step kW)
  replace G := hid (below_step G.out kW)
  have lz18 := (show Below _ _ _ from kW).size
  have PD : Hid (Duo V17 (w15.heap.size) (.bool nd) (.slice add xd.length qd)) := by unfold Hid; rw [← hW]; exact duo_at (by simp)
  clear kW
  have cl0 := (Pl.out.at (i := 0) rfl)
  have cl1 := (Pl.out.at (i := 1) rfl)
  have cl2 := (Pl.out.at (i := 2) rfl)
  have cl3 := (Pl.out.at (i := 3) rfl)
  have co0 := Po.out.c0
  have co1 := Po.out.c1
  rw [← hW] at cl0 cl1 cl2 cl3 co0 co1
  have EW := hid hW
  clear hW
  go_wp2_with fail
  rw [EW.out]
  clear EW
  clear cl0 cl1 cl2 cl3 co0 co1
  refine (inverse_none Zld.out.zi Zo.out (by decide) (by decide) ON.out HGc.out).mono ?_
  rintro e w19 ⟨r0, rfl, m0, b⟩
  obtain ⟨nv, xv, adv, qv, rfl, -, -, -, -, -⟩ := id m0
  replace Zan := hid (Zan.out.now b)
  replace Zad := hid (Zad.out.now b)
  replace Zo := hid (Zo.out.now b)
  replace Zln := hid (Zln.out.now b)
  replace Zld := hid (Zld.out.now b)
  replace Zn := hid (Zn.out.now b)
  replace Zd := hid (Zd.out.now b)
  replace Pa := hid (Pa.out.step b)
  replace Po := hid (Po.out.step b)
  replace Pl := hid (Pl.out.step b)
  replace PN := hid (PN.out.step b)
  replace PD := hid (PD.out.step b)
  replace G := hid (below_step G.out b)
  have lz20 := (show Below _ _ _ from b).size
  have Zv := hid m0
  clear b m0
  obtain ⟨V21, hW⟩ : ∃ V21, w19.alloc (duo (.bool nv) (.slice adv xv.length qv)) = V21 := ⟨_, rfl⟩
  obtain ⟨kW, sz21⟩ := alloc1 w19 (duo (.bool nv) (.slice adv xv.length qv))
  rw [hW] at kW sz21
  replace Zan := hid (Zan.out.now kW)
  replace Zad := hid (Zad.out.now kW)
  replace Zo := hid (Zo.out.now kW)
  replace Zln := hid (Zln.out.now kW)
  replace Zld := hid (Zld.out.now kW)
  replace Zn := hid (Zn.out.now kW)
  replace Zd := hid (Zd.out.now kW)
  replace Zv := hid (Zv.out.now kW)
  replace Pa := hid (Pa.out.step kW)
  replace Po := hid (Po.out.step kW)
  replace Pl := hid (Pl.out.step kW)
  replace PN := hid (PN.out.step kW)
  replace PD := hid (PD.out.step kW)
  replace G := hid (below_step G.out kW)
  have lz22 := (show Below _ _ _ from kW).size
  have PV : Hid (Duo V21 (w19.heap.size) (.bool nv) (.slice adv xv.length qv)) := by unfold Hid; rw [← hW]; exact duo_at (by simp)
  clear kW
  have q6 : ((6 : Int) != 0) = true := rfl
  have q7 : ((0 : Int) != 0) = false := rfl
  have EW := hid hW
  clear hW
  go_wp2_with fail
  rw [EW.out]
  clear EW
  refine wp_region_tail (fun w' => w'.cell? ⟨w.heap.size + 1, 0, none⟩ = some (.bool no) ∧ w'.cell? ⟨w.heap.size + 1, 1, none⟩ = some (.slice ado xo.length co) ∧ w'.cell? ⟨w11.heap.size, 0, none⟩ = some (.bool nn) ∧ w'.cell? ⟨w11.heap.size, 1, none⟩ = some (.slice adn xn.length qn) ∧ w'.cell? ⟨w15.heap.size, 0, none⟩ = some (.bool nd) ∧ w'.cell? ⟨w15.heap.size, 1, none⟩ = some (.slice add xd.length qd)) 17 (by kernel_rfl) ?_
  obtain ⟨D23, hD⟩ : ∃ D23, V21.drew = D23 := ⟨_, rfl⟩
  have b : Below V21.heap.size V21 D23 := by rw [← hD]; exact (Below.refl _ _).drew
  rw [hD]
  clear hD
  replace Zan := hid (Zan.out.now b)
  replace Zad := hid (Zad.out.now b)
  replace Zo := hid (Zo.out.now b)
  replace Zln := hid (Zln.out.now b)
  replace Zld := hid (Zld.out.now b)
  replace Zn := hid (Zn.out.now b)
  replace Zd := hid (Zd.out.now b)
  replace Zv := hid (Zv.out.now b)
  replace Pa := hid (Pa.out.step b)
  replace Po := hid (Po.out.step b)
  replace Pl := hid (Pl.out.step b)
  replace PN := hid (PN.out.step b)
  replace PD := hid (PD.out.step b)
  replace PV := hid (PV.out.step b)
  replace G := hid (below_step G.out b)
  have lz24 := (show Below _ _ _ from b).size
  clear b
  refine wpAnyT_take (i := 0) (oi := { dst := some 66, op := Op.load 24 (Operand.tmp 3), type := 24, pos := "outright.go:221", after := #[], guard := none }) (v := (.agg #[(.bool no), (.slice ado xo.length co)])) rfl (by kernel_rfl) (fun _ _ _ h => h) (Or.inl ⟨by rfl, ?_⟩) ⟨Po.out.c0, Po.out.c1, PN.out.c0, PN.out.c1, PD.out.c0, PD.out.c1⟩ ?_
  · intro w hSw
    (try dsimp only at hSw)
    go_simp
  simp only [Act.put, List.setIfInBounds_toArray, List.set_cons_zero, List.set_cons_succ]
  refine wpAnyT_take (i := 1) (oi := { dst := some 67, op := Op.load 24 (Operand.tmp 9), type := 24, pos := "outright.go:221", after := #[], guard := none }) (v := (.agg #[(.bool nn), (.slice adn xn.length qn)])) rfl (by kernel_rfl) (fun _ _ _ h => h) (Or.inl ⟨by rfl, ?_⟩) ⟨Po.out.c0, Po.out.c1, PN.out.c0, PN.out.c1, PD.out.c0, PD.out.c1⟩ ?_
  · intro w hSw
    (try dsimp only at hSw)
    go_simp
  simp only [Act.put, List.setIfInBounds_toArray, List.set_cons_zero, List.set_cons_succ]
  refine wpAnyT_take (i := 2) (oi := { dst := some 68, op := Op.load 24 (Operand.tmp 9), type := 24, pos := "outright.go:221", after := #[], guard := none }) (v := (.agg #[(.bool nn), (.slice adn xn.length qn)])) rfl (by kernel_rfl) (fun _ _ _ h => h) (Or.inl ⟨by rfl, ?_⟩) ⟨Po.out.c0, Po.out.c1, PN.out.c0, PN.out.c1, PD.out.c0, PD.out.c1⟩ ?_
  · intro w hSw
    (try dsimp only at hSw)
    go_simp
  simp only [Act.put, List.setIfInBounds_toArray, List.set_cons_zero, List.set_cons_succ]
  refine wpAnyT_one (i := 3) (o := { dst := some 69, op := Op.call { callee := Callee.value (Operand.func 17), args := #[Operand.tmp 67, Operand.tmp 68], argTypes := #[24, 24] }, type := 24, pos := "outright.go:221", after := #[{ on := 1, ground := Ground.data }, { on := 2, ground := Ground.data }], guard := none }) (by kernel_rfl) rfl (fun K hK => ?_)
  go_simp
  go_at_call 17
  refine (add_z Zn.out.zi Zn.out.zi (by decide) (by decide)).mono ?_
  rintro e w25 ⟨r0, rfl, m0, b⟩
  obtain ⟨ns, xs, ads, qs, rfl, -, -, -, -, -⟩ := id m0
  replace Zan := hid (Zan.out.now b)
  replace Zad := hid (Zad.out.now b)
  replace Zo := hid (Zo.out.now b)
  replace Zln := hid (Zln.out.now b)
  replace Zld := hid (Zld.out.now b)
  replace Zn := hid (Zn.out.now b)
  replace Zd := hid (Zd.out.now b)
  replace Zv := hid (Zv.out.now b)
  replace Pa := hid (Pa.out.step b)
  replace Po := hid (Po.out.step b)
  replace Pl := hid (Pl.out.step b)
  replace PN := hid (PN.out.step b)
  replace PD := hid (PD.out.step b)
  replace PV := hid (PV.out.step b)
  replace G := hid (below_step G.out b)
  have lz26 := (show Below _ _ _ from b).size
  have Zs := hid m0
  clear b m0
  refine hK.out _ _ (fun _ => ⟨Po.out.c0, Po.out.c1, PN.out.c0, PN.out.c1, PD.out.c0, PD.out.c1⟩) ?_
  clear hK
  refine wpAnyT_one (i := 4) (o := { dst := some 70, op := Op.call { callee := Callee.value (Operand.func 32), args := #[Operand.tmp 66, Operand.tmp 69], argTypes := #[24, 24] }, type := 3, pos := "outright.go:221", after := #[{ on := 0, ground := Ground.data }, { on := 3, ground := Ground.data }, { on := 3, ground := Ground.chain }], guard := none }) (by kernel_rfl) rfl (fun K hK => ?_)
  go_simp
  go_at_call 32
  refine (HC1.out _ _ _ _ Zo.out Zs.out.zi).mono ?_
  rintro e w27 ⟨rfl, b⟩
  replace Zan := hid (Zan.out.now b)
  replace Zad := hid (Zad.out.now b)
  replace Zo := hid (Zo.out.now b)
  replace Zln := hid (Zln.out.now b)
  replace Zld := hid (Zld.out.now b)
  replace Zn := hid (Zn.out.now b)
  replace Zd := hid (Zd.out.now b)
  replace Zv := hid (Zv.out.now b)
  replace Zs := hid (Zs.out.now b)
  replace Pa := hid (Pa.out.step b)
  replace Po := hid (Po.out.step b)
  replace Pl := hid (Pl.out.step b)
  replace PN := hid (PN.out.step b)
  replace PD := hid (PD.out.step b)
  replace PV := hid (PV.out.step b)
  replace G := hid (below_step G.out b)
  have lz28 := (show Below _ _ _ from b).size
  clear b 
  refine hK.out _ _ (fun _ => ⟨Po.out.c0, Po.out.c1, PN.out.c0, PN.out.c1, PD.out.c0, PD.out.c1⟩) ?_
  clear hK
  refine wpAnyT_take (i := 5) (oi := { dst := some 71, op := Op.binOp BinOp.leq 3 (Operand.tmp 70) (Operand.const (Value.int IntKind.i64 0)) 3, type := 4, pos := "outright.go:221", after := #[{ on := 4, ground := Ground.data }], guard := none }) (v := (.bool false)) rfl (by kernel_rfl) (fun _ _ _ h => h) (Or.inl ⟨by rfl, ?_⟩) ⟨Po.out.c0, Po.out.c1, PN.out.c0, PN.out.c1, PD.out.c0, PD.out.c1⟩ ?_
  · intro w hSw
    (try dsimp only at hSw)
    go_simp
  simp only [Act.put, List.setIfInBounds_toArray, List.set_cons_zero, List.set_cons_succ]
  refine wpAnyT_take (i := 6) (oi := { dst := some 72, op := Op.move (Operand.tmp 71), type := 4, pos := "outright.go:221", after := #[{ on := 5, ground := Ground.data }, { on := 4, ground := Ground.chain }], guard := none }) (v := (.bool false)) rfl (by kernel_rfl) (fun _ _ _ h => h) (Or.inl ⟨by rfl, ?_⟩) ⟨Po.out.c0, Po.out.c1, PN.out.c0, PN.out.c1, PD.out.c0, PD.out.c1⟩ ?_
  · intro w hSw
    (try dsimp only at hSw)
    go_simp
  simp only [Act.put, List.setIfInBounds_toArray, List.set_cons_zero, List.set_cons_succ]
  refine wpAnyT_take (i := 7) (oi := { dst := some 73, op := Op.load 24 (Operand.tmp 3), type := 24, pos := "outright.go:221", after := #[{ on := 6, ground := Ground.guard }], guard := some (6, false) }) (v := (.agg #[(.bool no), (.slice ado xo.length co)])) rfl (by kernel_rfl) (fun _ _ _ h => h) (Or.inl ⟨by rfl, ?_⟩) ⟨Po.out.c0, Po.out.c1, PN.out.c0, PN.out.c1, PD.out.c0, PD.out.c1⟩ ?_
  · intro w hSw
    (try dsimp only at hSw)
    go_simp
  simp only [Act.put, List.setIfInBounds_toArray, List.set_cons_zero, List.set_cons_succ]
  refine wpAnyT_take (i := 8) (oi := { dst := some 74, op := Op.load 24 (Operand.tmp 10), type := 24, pos := "outright.go:221", after := #[{ on := 6, ground := Ground.guard }], guard := some (6, false) }) (v := (.agg #[(.bool nd), (.slice add xd.length qd)])) rfl (by kernel_rfl) (fun _ _ _ h => h) (Or.inl ⟨by rfl, ?_⟩) ⟨Po.out.c0, Po.out.c1, PN.out.c0, PN.out.c1, PD.out.c0, PD.out.c1⟩ ?_
  · intro w hSw
    (try dsimp only at hSw)
    go_simp
  simp only [Act.put, List.setIfInBounds_toArray, List.set_cons_zero, List.set_cons_succ]
  refine wpAnyT_take (i := 9) (oi := { dst := some 75, op := Op.load 24 (Operand.tmp 10), type := 24, pos := "outright.go:221", after := #[{ on := 6, ground := Ground.guard }], guard := some (6, false) }) (v := (.agg #[(.bool nd), (.slice add xd.length qd)])) rfl (by kernel_rfl) (fun _ _ _ h => h) (Or.inl ⟨by rfl, ?_⟩) ⟨Po.out.c0, Po.out.c1, PN.out.c0, PN.out.c1, PD.out.c0, PD.out.c1⟩ ?_
  · intro w hSw
    (try dsimp only at hSw)
    go_simp
  simp only [Act.put, List.setIfInBounds_toArray, List.set_cons_zero, List.set_cons_succ]
  refine wpAnyT_one (i := 10) (o := { dst := some 76, op := Op.call { callee := Callee.value (Operand.func 17), args := #[Operand.tmp 74, Operand.tmp 75], argTypes := #[24, 24] }, type := 24, pos := "outright.go:221", after := #[{ on := 8, ground := Ground.data }, { on := 9, ground := Ground.data }, { on := 6, ground := Ground.chain }, { on := 6, ground := Ground.guard }], guard := some (6, false) }) (by kernel_rfl) rfl (fun K hK => ?_)
  go_simp
  go_at_call 17
  refine (add_z Zd.out.zi Zd.out.zi (by decide) (by decide)).mono ?_
  rintro e w29 ⟨r0, rfl, m0, b⟩
  obtain ⟨nt, xt, adt, qt, rfl, -, -, -, -, -⟩ := id m0
  replace Zan := hid (Zan.out.now b)
  replace Zad := hid (Zad.out.now b)
  replace Zo := hid (Zo.out.now b)
  replace Zln := hid (Zln.out.now b)
  replace Zld := hid (Zld.out.now b)
  replace Zn := hid (Zn.out.now b)
  replace Zd := hid (Zd.out.now b)
  replace Zv := hid (Zv.out.now b)
  replace Zs := hid (Zs.out.now b)
  replace Pa := hid (Pa.out.step b)
  replace Po := hid (Po.out.step b)
  replace Pl := hid (Pl.out.step b)
  replace PN := hid (PN.out.step b)
  replace PD := hid (PD.out.step b)
  replace PV := hid (PV.out.step b)
  replace G := hid (below_step G.out b)
  have lz30 := (show Below _ _ _ from b).size
  have Zt := hid m0
  clear b m0
  refine hK.out _ _ (fun _ => ⟨Po.out.c0, Po.out.c1, PN.out.c0, PN.out.c1, PD.out.c0, PD.out.c1⟩) ?_
  clear hK
  refine wpAnyT_one (i := 11) (o := { dst := some 77, op := Op.call { callee := Callee.value (Operand.func 32), args := #[Operand.tmp 73, Operand.tmp 76], argTypes := #[24, 24] }, type := 3, pos := "outright.go:221", after := #[{ on := 7, ground := Ground.data }, { on := 10, ground := Ground.data }, { on := 10, ground := Ground.chain }, { on := 6, ground := Ground.guard }], guard := some (6, false) }) (by kernel_rfl) rfl (fun K hK => ?_)
  go_simp
  go_at_call 32
  refine (HC2.out _ _ _ _ Zo.out Zt.out.zi).mono ?_
  rintro e w31 ⟨rfl, b⟩
  replace Zan := hid (Zan.out.now b)
  replace Zad := hid (Zad.out.now b)
  replace Zo := hid (Zo.out.now b)
  replace Zln := hid (Zln.out.now b)
  replace Zld := hid (Zld.out.now b)
  replace Zn := hid (Zn.out.now b)
  replace Zd := hid (Zd.out.now b)
  replace Zv := hid (Zv.out.now b)
  replace Zs := hid (Zs.out.now b)
  replace Zt := hid (Zt.out.now b)
  replace Pa := hid (Pa.out.step b)
  replace Po := hid (Po.out.step b)
  replace Pl := hid (Pl.out.step b)
  replace PN := hid (PN.out.step b)
  replace PD := hid (PD.out.step b)
  replace PV := hid (PV.out.step b)
  replace G := hid (below_step G.out b)
  have lz32 := (show Below _ _ _ from b).size
  clear b 
  refine hK.out _ _ (fun _ => ⟨Po.out.c0, Po.out.c1, PN.out.c0, PN.out.c1, PD.out.c0, PD.out.c1⟩) ?_
  clear hK
  refine wpAnyT_take (i := 12) (oi := { dst := some 78, op := Op.binOp BinOp.leq 3 (Operand.tmp 77) (Operand.const (Value.int IntKind.i64 0)) 3, type := 4, pos := "outright.go:221", after := #[{ on := 11, ground := Ground.data }, { on := 6, ground := Ground.guard }], guard := some (6, false) }) (v := (.bool false)) rfl (by kernel_rfl) (fun _ _ _ h => h) (Or.inl ⟨by rfl, ?_⟩) ⟨Po.out.c0, Po.out.c1, PN.out.c0, PN.out.c1, PD.out.c0, PD.out.c1⟩ ?_
  · intro w hSw
    (try dsimp only at hSw)
    go_simp
  simp only [Act.put, List.setIfInBounds_toArray, List.set_cons_zero, List.set_cons_succ]
  refine wpAnyT_take (i := 13) (oi := { dst := some 79, op := Op.pick (Operand.tmp 72) (Operand.const (Value.bool true)) (Operand.tmp 78), type := 4, pos := "outright.go:221", after := #[{ on := 6, ground := Ground.data }, { on := 12, ground := Ground.data }], guard := none }) (v := (.bool false)) rfl (by kernel_rfl) (fun _ _ _ h => h) (Or.inl ⟨by rfl, ?_⟩) ⟨Po.out.c0, Po.out.c1, PN.out.c0, PN.out.c1, PD.out.c0, PD.out.c1⟩ ?_
  · intro w hSw
    (try dsimp only at hSw)
    go_simp
  simp only [Act.put, List.setIfInBounds_toArray, List.set_cons_zero, List.set_cons_succ]
  refine wpAnyT_take (i := 14) (oi := { dst := some 80, op := Op.move (Operand.tmp 79), type := 4, pos := "outright.go:221", after := #[{ on := 13, ground := Ground.data }, { on := 11, ground := Ground.chain }], guard := none }) (v := (.bool false)) rfl (by kernel_rfl) (fun _ _ _ h => h) (Or.inl ⟨by rfl, ?_⟩) ⟨Po.out.c0, Po.out.c1, PN.out.c0, PN.out.c1, PD.out.c0, PD.out.c1⟩ ?_
  · intro w hSw
    (try dsimp only at hSw)
    go_simp
  simp only [Act.put, List.setIfInBounds_toArray, List.set_cons_zero, List.set_cons_succ]
  refine wpAnyT_take (i := 15) (oi := { dst := some 81, op := Op.move (Operand.tmp 12), type := 28, pos := "outright.go:221", after := #[{ on := 14, ground := Ground.guard }], guard := some (14, false) }) (v := (.int .i64 6)) rfl (by kernel_rfl) (fun _ _ _ h => h) (Or.inl ⟨by rfl, ?_⟩) ⟨Po.out.c0, Po.out.c1, PN.out.c0, PN.out.c1, PD.out.c0, PD.out.c1⟩ ?_
  · intro w hSw
    (try dsimp only at hSw)
    go_simp
  simp only [Act.put, List.setIfInBounds_toArray, List.set_cons_zero, List.set_cons_succ]
  refine wpAnyT_take (i := 16) (oi := { dst := some 82, op := Op.binOp BinOp.neq 28 (Operand.tmp 81) (Operand.const (Value.int IntKind.i64 0)) 28, type := 4, pos := "outright.go:221", after := #[{ on := 15, ground := Ground.data }, { on := 14, ground := Ground.guard }], guard := some (14, false) }) (v := (.bool true)) rfl (by kernel_rfl) (fun _ _ _ h => h) (Or.inl ⟨by rfl, ?_⟩) ⟨Po.out.c0, Po.out.c1, PN.out.c0, PN.out.c1, PD.out.c0, PD.out.c1⟩ ?_
  · intro w hSw
    (try dsimp only at hSw)
    go_simp
  simp only [Act.put, List.setIfInBounds_toArray, List.set_cons_zero, List.set_cons_succ]
  refine wpAnyT_one (i := 17) (o := { dst := some 83, op := Op.pick (Operand.tmp 80) (Operand.const (Value.bool true)) (Operand.tmp 82), type := 4, pos := "outright.go:221", after := #[{ on := 14, ground := Ground.data }, { on := 16, ground := Ground.data }], guard := none }) (by kernel_rfl) rfl (fun K hK => ?_)
  go_simp
  refine hK.out _ _ (fun h => absurd h (by decide)) ?_
  clear hK
  try simp only [Act.put]
  refine wpAnyT_done (by kernel_rfl) ?_ _
  go_wp2
  go_ret
  exact ⟨rfl, G.out⟩

set_option maxHeartbeats 6400000 in
set_option maxRecDepth 100000 in
theorem returns_all {w : World} {a0 a1 a2 a3 vo : Value} {AN AD O : Int} (han : Zi w (.agg #[a0, a1]) AN 1048576) (had : Zi w (.agg #[a2, a3]) AD 1048576) (ho : Zi w vo O 1048576) (hD : AD ≠ 0) (h2 : ¬ O ≤ ((Rat.divInt AN AD).num * (Rat.divInt AN AD).num + (Rat.divInt AN AD).num * (Rat.divInt AN AD).num)) (h3 : ¬ O ≤ (((Rat.divInt AN AD).den : Int) * ((Rat.divInt AN AD).den : Int) + ((Rat.divInt AN AD).den : Int) * ((Rat.divInt AN AD).den : Int))) (hg : (Int.gcd ((Rat.divInt AN AD).den : Int) O : Int) = 1) :
    Calls Try.prog 7 #[.agg #[a0, a1, a2, a3], vo] w fun e w' => e = .returned (.bool true) ∧ Below w.heap.size w w' := by
  have HD := hid hD
  clear hD
  obtain ⟨ql, el⟩ : ∃ q, q = Rat.divInt AN AD := ⟨_, rfl⟩
  have EL := hid el
  rw [← el] at h2 h3 hg
  clear el
  have H2 := hid h2
  clear h2
  have H3 := hid h3
  clear h3
  have HGc := hid hg
  clear hg
  have K1 : ¬ cmpI O (ql.num * ql.num + ql.num * ql.num) ≤ 0 := by rcases cmp_cases O (ql.num * ql.num + ql.num * ql.num) with ⟨_, h⟩ | ⟨_, h⟩ | ⟨_, h⟩ <;> have := H2.out <;> omega
  have HC1 : Hid (∀ w' v u l, Zi w' v O 1048576 → Zi w' u (ql.num * ql.num + ql.num * ql.num) l → _) := fun (w' : World) (v u : Value) (l : Nat) (h : Zi w' v O 1048576) (h' : Zi w' u (ql.num * ql.num + ql.num * ql.num) l) => cmp_z h h'
  generalize cmpI O (ql.num * ql.num + ql.num * ql.num) = C1 at *
  have K2 : ¬ cmpI O ((ql.den : Int) * (ql.den : Int) + (ql.den : Int) * (ql.den : Int)) ≤ 0 := by rcases cmp_cases O ((ql.den : Int) * (ql.den : Int) + (ql.den : Int) * (ql.den : Int)) with ⟨_, h⟩ | ⟨_, h⟩ | ⟨_, h⟩ <;> have := H3.out <;> omega
  have HC2 : Hid (∀ w' v u l, Zi w' v O 1048576 → Zi w' u ((ql.den : Int) * (ql.den : Int) + (ql.den : Int) * (ql.den : Int)) l → _) := fun (w' : World) (v u : Value) (l : Nat) (h : Zi w' v O 1048576) (h' : Zi w' u ((ql.den : Int) * (ql.den : Int) + (ql.den : Int) * (ql.den : Int)) l) => cmp_z h h'
  generalize cmpI O ((ql.den : Int) * (ql.den : Int) + (ql.den : Int) * (ql.den : Int)) = C2 at *
  have OP : Hid (0 < O) := by
    have h := H2.out
    have := Int.mul_nonneg (show 0 ≤ (ql.num.natAbs : Int) by omega) (show 0 ≤ (ql.num.natAbs : Int) by omega)
    rw [Int.natAbs_mul_self' ql.num] at this
    unfold Hid
    omega
  have ON : Hid (O ≠ 0) := by have := OP.out; unfold Hid; omega
  have zan0 := han
  obtain ⟨nan, xan, adan, can, ev, -, -, -⟩ := han
  simp only [Value.agg.injEq] at ev
  obtain ⟨rfl, rfl⟩ := pair_eq ev
  have zad0 := had
  obtain ⟨nad, xad, adad, cad, ev, -, -, -⟩ := had
  simp only [Value.agg.injEq] at ev
  obtain ⟨rfl, rfl⟩ := pair_eq ev
  have zo0 := ho
  obtain ⟨no, xo, ado, co, rfl, -, -, -⟩ := ho
  obtain ⟨W0, hW⟩ : ∃ W0, (w.alloc (.cells #[(.bool nan), (.slice adan xan.length can), (.bool nad), (.slice adad xad.length cad)] 26)).alloc (duo (.bool no) (.slice ado xo.length co)) = W0 := ⟨_, rfl⟩
  obtain ⟨b0, sz0⟩ := alloc2 w (.cells #[(.bool nan), (.slice adan xan.length can), (.bool nad), (.slice adad xad.length cad)] 26) (duo (.bool no) (.slice ado xo.length co))
  rw [hW] at b0 sz0
  have Pa : Hid (Cel W0 (w.heap.size) 26 [(.bool nan), (.slice adan xan.length can), (.bool nad), (.slice adad xad.length cad)]) := by unfold Hid; rw [← hW]; exact cel_late (cel_at (by simp)) _
  have Po : Hid (Duo W0 (w.heap.size + 1) (.bool no) (.slice ado xo.length co)) := by unfold Hid; rw [← hW]; exact duo_at (by simp)
  have Zan := hid (zan0.now b0)
  clear zan0
  have Zad := hid (zad0.now b0)
  clear zad0
  have Zo := hid (zo0.now b0)
  clear zo0
  have G := hid b0
  clear b0
  have EW := hid hW
  clear hW
  go_enter Try.func7, Try.ntmps7
  skip
  go_wp2_with fail
  rw [EW.out]
  clear EW
  refine (awake8 _).mono ?_
  rintro e w1 ⟨rfl, b⟩
  replace Zan := hid (Zan.out.now b)
  replace Zad := hid (Zad.out.now b)
  replace Zo := hid (Zo.out.now b)
  replace Pa := hid (Pa.out.step b)
  replace Po := hid (Po.out.step b)
  replace G := hid (below_step G.out b)
  have lz2 := (show Below _ _ _ from b).size
  clear b 
  have ca0 := (Pa.out.at (i := 0) rfl)
  have ca1 := (Pa.out.at (i := 1) rfl)
  have ca2 := (Pa.out.at (i := 2) rfl)
  have ca3 := (Pa.out.at (i := 3) rfl)
  go_wp2_with fail
  clear ca0 ca1 ca2 ca3
  refine (is8_yes Zan.out Zad.out HD.out).mono ?_
  rintro e w3 ⟨rfl, b⟩
  replace Zan := hid (Zan.out.now b)
  replace Zad := hid (Zad.out.now b)
  replace Zo := hid (Zo.out.now b)
  replace Pa := hid (Pa.out.step b)
  replace Po := hid (Po.out.step b)
  replace G := hid (below_step G.out b)
  have lz4 := (show Below _ _ _ from b).size
  clear b 
  have ca0 := (Pa.out.at (i := 0) rfl)
  have ca1 := (Pa.out.at (i := 1) rfl)
  have ca2 := (Pa.out.at (i := 2) rfl)
  have ca3 := (Pa.out.at (i := 3) rfl)
  go_wp2_with fail
  clear ca0 ca1 ca2 ca3
  refine (fofq (k := 1048576) Zan.out Zad.out (by decide) HD.out EL.out).mono ?_
  rintro e w5 ⟨r0, r1, r2, r3, rfl, m0, m1, b⟩
  obtain ⟨nln, xln, adln, qln, rfl, rfl⟩ := m0.zi.comp
  obtain ⟨nld, xld, adld, qld, rfl, rfl⟩ := m1.zi.comp
  replace Zan := hid (Zan.out.now b)
  replace Zad := hid (Zad.out.now b)
  replace Zo := hid (Zo.out.now b)
  replace Pa := hid (Pa.out.step b)
  replace Po := hid (Po.out.step b)
  replace G := hid (below_step G.out b)
  have lz6 := (show Below _ _ _ from b).size
  have Zln := hid m0
  have Zld := hid m1
  clear b m0 m1
  obtain ⟨V7, hW⟩ : ∃ V7, w5.alloc (.cells #[(.bool nln), (.slice adln xln.length qln), (.bool nld), (.slice adld xld.length qld)] 26) = V7 := ⟨_, rfl⟩
  obtain ⟨kW, sz7⟩ := alloc1 w5 (.cells #[(.bool nln), (.slice adln xln.length qln), (.bool nld), (.slice adld xld.length qld)] 26)
  rw [hW] at kW sz7
  replace Zan := hid (Zan.out.now kW)
  replace Zad := hid (Zad.out.now kW)
  replace Zo := hid (Zo.out.now kW)
  replace Zln := hid (Zln.out.now kW)
  replace Zld := hid (Zld.out.now kW)
  replace Pa := hid (Pa.out.step kW)
  replace Po := hid (Po.out.step kW)
  replace G := hid (below_step G.out kW)
  have lz8 := (show Below _ _ _ from kW).size
  have Pl : Hid (Cel V7 (w5.heap.size) 26 [(.bool nln), (.slice adln xln.length qln), (.bool nld), (.slice adld xld.length qld)]) := by unfold Hid; rw [← hW]; exact cel_at (by simp)
  clear kW
  have cl0 := (Pl.out.at (i := 0) rfl)
  have cl1 := (Pl.out.at (i := 1) rfl)
  have cl2 := (Pl.out.at (i := 2) rfl)
  have cl3 := (Pl.out.at (i := 3) rfl)
  have ca0 := (Pa.out.at (i := 0) rfl)
  have ca1 := (Pa.out.at (i := 1) rfl)
  have ca2 := (Pa.out.at (i := 2) rfl)
  have ca3 := (Pa.out.at (i := 3) rfl)
  rw [← hW] at cl0 cl1 cl2 cl3 ca0 ca1 ca2 ca3
  have EW := hid hW
  clear hW
  go_wp2_with fail
  rw [EW.out]
  clear EW
  clear cl0 cl1 cl2 cl3 ca0 ca1 ca2 ca3
  refine (names8 Zln.out.zc Zld.out.zc Zan.out Zad.out (by decide) (cross_q HD.out EL.out)).mono ?_
  rintro e w9 ⟨rfl, b⟩
  replace Zan := hid (Zan.out.now b)
  replace Zad := hid (Zad.out.now b)
  replace Zo := hid (Zo.out.now b)
  replace Zln := hid (Zln.out.now b)
  replace Zld := hid (Zld.out.now b)
  replace Pa := hid (Pa.out.step b)
  replace Po := hid (Po.out.step b)
  replace Pl := hid (Pl.out.step b)
  replace G := hid (below_step G.out b)
  have lz10 := (show Below _ _ _ from b).size
  clear b 
  have cl0 := (Pl.out.at (i := 0) rfl)
  have cl1 := (Pl.out.at (i := 1) rfl)
  have cl2 := (Pl.out.at (i := 2) rfl)
  have cl3 := (Pl.out.at (i := 3) rfl)
  go_wp2_with fail
  clear cl0 cl1 cl2 cl3
  refine (mul_z Zln.out.zi Zln.out.zi (by decide)).mono ?_
  rintro e w11 ⟨r0, rfl, m0, b⟩
  obtain ⟨nn, xn, adn, qn, rfl, -, -, -, -, -⟩ := id m0
  replace Zan := hid (Zan.out.now b)
  replace Zad := hid (Zad.out.now b)
  replace Zo := hid (Zo.out.now b)
  replace Zln := hid (Zln.out.now b)
  replace Zld := hid (Zld.out.now b)
  replace Pa := hid (Pa.out.step b)
  replace Po := hid (Po.out.step b)
  replace Pl := hid (Pl.out.step b)
  replace G := hid (below_step G.out b)
  have lz12 := (show Below _ _ _ from b).size
  have Zn := hid m0
  clear b m0
  obtain ⟨V13, hW⟩ : ∃ V13, w11.alloc (duo (.bool nn) (.slice adn xn.length qn)) = V13 := ⟨_, rfl⟩
  obtain ⟨kW, sz13⟩ := alloc1 w11 (duo (.bool nn) (.slice adn xn.length qn))
  rw [hW] at kW sz13
  replace Zan := hid (Zan.out.now kW)
  replace Zad := hid (Zad.out.now kW)
  replace Zo := hid (Zo.out.now kW)
  replace Zln := hid (Zln.out.now kW)
  replace Zld := hid (Zld.out.now kW)
  replace Zn := hid (Zn.out.now kW)
  replace Pa := hid (Pa.out.step kW)
  replace Po := hid (Po.out.step kW)
  replace Pl := hid (Pl.out.step kW)
  replace G := hid (below_step G.out kW)
  have lz14 := (show Below _ _ _ from kW).size
  have PN : Hid (Duo V13 (w11.heap.size) (.bool nn) (.slice adn xn.length qn)) := by unfold Hid; rw [← hW]; exact duo_at (by simp)
  clear kW
  have cl0 := (Pl.out.at (i := 0) rfl)
  have cl1 := (Pl.out.at (i := 1) rfl)
  have cl2 := (Pl.out.at (i := 2) rfl)
  have cl3 := (Pl.out.at (i := 3) rfl)
  rw [← hW] at cl0 cl1 cl2 cl3
  have EW := hid hW
  clear hW
  go_wp2_with fail
  rw [EW.out]
  clear EW
  clear cl0 cl1 cl2 cl3
  refine (mul_z Zld.out.zi Zld.out.zi (by decide)).mono ?_
  rintro e w15 ⟨r0, rfl, m0, b⟩
  obtain ⟨nd, xd, add, qd, rfl, -, -, -, -, -⟩ := id m0
  replace Zan := hid (Zan.out.now b)
  replace Zad := hid (Zad.out.now b)
  replace Zo := hid (Zo.out.now b)
  replace Zln := hid (Zln.out.now b)
  replace Zld := hid (Zld.out.now b)
  replace Zn := hid (Zn.out.now b)
  replace Pa := hid (Pa.out.step b)
  replace Po := hid (Po.out.step b)
  replace Pl := hid (Pl.out.step b)
  replace PN := hid (PN.out.step b)
  replace G := hid (below_step G.out b)
  have lz16 := (show Below _ _ _ from b).size
  have Zd := hid m0
  clear b m0
  obtain ⟨V17, hW⟩ : ∃ V17, w15.alloc (duo (.bool nd) (.slice add xd.length qd)) = V17 := ⟨_, rfl⟩
  obtain ⟨kW, sz17⟩ := alloc1 w15 (duo (.bool nd) (.slice add xd.length qd))
  rw [hW] at kW sz17
  replace Zan := hid (Zan.out.now kW)
  replace Zad := hid (Zad.out.now kW)
  replace Zo := hid (Zo.out.now kW)
  replace Zln := hid (Zln.out.now kW)
  replace Zld := hid (Zld.out.now kW)
  replace Zn := hid (Zn.out.now kW)
  replace Zd := hid (Zd.out.now kW)
  replace Pa := hid (Pa.out.step kW)
  replace Po := hid (Po.out.step kW)
  replace Pl := hid (Pl.out.step kW)
  replace PN := hid (PN.out.step kW)
  replace G := hid (below_step G.out kW)
  have lz18 := (show Below _ _ _ from kW).size
  have PD : Hid (Duo V17 (w15.heap.size) (.bool nd) (.slice add xd.length qd)) := by unfold Hid; rw [← hW]; exact duo_at (by simp)
  clear kW
  have cl0 := (Pl.out.at (i := 0) rfl)
  have cl1 := (Pl.out.at (i := 1) rfl)
  have cl2 := (Pl.out.at (i := 2) rfl)
  have cl3 := (Pl.out.at (i := 3) rfl)
  have co0 := Po.out.c0
  have co1 := Po.out.c1
  rw [← hW] at cl0 cl1 cl2 cl3 co0 co1
  have EW := hid hW
  clear hW
  go_wp2_with fail
  rw [EW.out]
  clear EW
  clear cl0 cl1 cl2 cl3 co0 co1
  refine (inverse_some Zld.out.zi Zo.out (by decide) (by decide) ON.out HGc.out).mono ?_
  rintro e w19 ⟨zi, hI, r0, rfl, m0, b⟩
  obtain ⟨nv, xv, adv, qv, rfl, -, -, -, -, -⟩ := id m0
  have HI := hid hI
  clear hI
  replace Zan := hid (Zan.out.now b)
  replace Zad := hid (Zad.out.now b)
  replace Zo := hid (Zo.out.now b)
  replace Zln := hid (Zln.out.now b)
  replace Zld := hid (Zld.out.now b)
  replace Zn := hid (Zn.out.now b)
  replace Zd := hid (Zd.out.now b)
  replace Pa := hid (Pa.out.step b)
  replace Po := hid (Po.out.step b)
  replace Pl := hid (Pl.out.step b)
  replace PN := hid (PN.out.step b)
  replace PD := hid (PD.out.step b)
  replace G := hid (below_step G.out b)
  have lz20 := (show Below _ _ _ from b).size
  have Zv := hid m0
  clear b m0
  obtain ⟨V21, hW⟩ : ∃ V21, w19.alloc (duo (.bool nv) (.slice adv xv.length qv)) = V21 := ⟨_, rfl⟩
  obtain ⟨kW, sz21⟩ := alloc1 w19 (duo (.bool nv) (.slice adv xv.length qv))
  rw [hW] at kW sz21
  replace Zan := hid (Zan.out.now kW)
  replace Zad := hid (Zad.out.now kW)
  replace Zo := hid (Zo.out.now kW)
  replace Zln := hid (Zln.out.now kW)
  replace Zld := hid (Zld.out.now kW)
  replace Zn := hid (Zn.out.now kW)
  replace Zd := hid (Zd.out.now kW)
  replace Zv := hid (Zv.out.now kW)
  replace Pa := hid (Pa.out.step kW)
  replace Po := hid (Po.out.step kW)
  replace Pl := hid (Pl.out.step kW)
  replace PN := hid (PN.out.step kW)
  replace PD := hid (PD.out.step kW)
  replace G := hid (below_step G.out kW)
  have lz22 := (show Below _ _ _ from kW).size
  have PV : Hid (Duo V21 (w19.heap.size) (.bool nv) (.slice adv xv.length qv)) := by unfold Hid; rw [← hW]; exact duo_at (by simp)
  clear kW
  have q6 : ((6 : Int) != 0) = true := rfl
  have q7 : ((0 : Int) != 0) = false := rfl
  have EW := hid hW
  clear hW
  go_wp2_with fail
  rw [EW.out]
  clear EW
  refine wp_region_tail (fun w' => w'.cell? ⟨w.heap.size + 1, 0, none⟩ = some (.bool no) ∧ w'.cell? ⟨w.heap.size + 1, 1, none⟩ = some (.slice ado xo.length co) ∧ w'.cell? ⟨w11.heap.size, 0, none⟩ = some (.bool nn) ∧ w'.cell? ⟨w11.heap.size, 1, none⟩ = some (.slice adn xn.length qn) ∧ w'.cell? ⟨w15.heap.size, 0, none⟩ = some (.bool nd) ∧ w'.cell? ⟨w15.heap.size, 1, none⟩ = some (.slice add xd.length qd)) 17 (by kernel_rfl) ?_
  obtain ⟨D23, hD⟩ : ∃ D23, V21.drew = D23 := ⟨_, rfl⟩
  have b : Below V21.heap.size V21 D23 := by rw [← hD]; exact (Below.refl _ _).drew
  rw [hD]
  clear hD
  replace Zan := hid (Zan.out.now b)
  replace Zad := hid (Zad.out.now b)
  replace Zo := hid (Zo.out.now b)
  replace Zln := hid (Zln.out.now b)
  replace Zld := hid (Zld.out.now b)
  replace Zn := hid (Zn.out.now b)
  replace Zd := hid (Zd.out.now b)
  replace Zv := hid (Zv.out.now b)
  replace Pa := hid (Pa.out.step b)
  replace Po := hid (Po.out.step b)
  replace Pl := hid (Pl.out.step b)
  replace PN := hid (PN.out.step b)
  replace PD := hid (PD.out.step b)
  replace PV := hid (PV.out.step b)
  replace G := hid (below_step G.out b)
  have lz24 := (show Below _ _ _ from b).size
  clear b
  refine wpAnyT_take (i := 0) (oi := { dst := some 66, op := Op.load 24 (Operand.tmp 3), type := 24, pos := "outright.go:221", after := #[], guard := none }) (v := (.agg #[(.bool no), (.slice ado xo.length co)])) rfl (by kernel_rfl) (fun _ _ _ h => h) (Or.inl ⟨by rfl, ?_⟩) ⟨Po.out.c0, Po.out.c1, PN.out.c0, PN.out.c1, PD.out.c0, PD.out.c1⟩ ?_
  · intro w hSw
    (try dsimp only at hSw)
    go_simp
  simp only [Act.put, List.setIfInBounds_toArray, List.set_cons_zero, List.set_cons_succ]
  refine wpAnyT_take (i := 1) (oi := { dst := some 67, op := Op.load 24 (Operand.tmp 9), type := 24, pos := "outright.go:221", after := #[], guard := none }) (v := (.agg #[(.bool nn), (.slice adn xn.length qn)])) rfl (by kernel_rfl) (fun _ _ _ h => h) (Or.inl ⟨by rfl, ?_⟩) ⟨Po.out.c0, Po.out.c1, PN.out.c0, PN.out.c1, PD.out.c0, PD.out.c1⟩ ?_
  · intro w hSw
    (try dsimp only at hSw)
    go_simp
  simp only [Act.put, List.setIfInBounds_toArray, List.set_cons_zero, List.set_cons_succ]
  refine wpAnyT_take (i := 2) (oi := { dst := some 68, op := Op.load 24 (Operand.tmp 9), type := 24, pos := "outright.go:221", after := #[], guard := none }) (v := (.agg #[(.bool nn), (.slice adn xn.length qn)])) rfl (by kernel_rfl) (fun _ _ _ h => h) (Or.inl ⟨by rfl, ?_⟩) ⟨Po.out.c0, Po.out.c1, PN.out.c0, PN.out.c1, PD.out.c0, PD.out.c1⟩ ?_
  · intro w hSw
    (try dsimp only at hSw)
    go_simp
  simp only [Act.put, List.setIfInBounds_toArray, List.set_cons_zero, List.set_cons_succ]
  refine wpAnyT_one (i := 3) (o := { dst := some 69, op := Op.call { callee := Callee.value (Operand.func 17), args := #[Operand.tmp 67, Operand.tmp 68], argTypes := #[24, 24] }, type := 24, pos := "outright.go:221", after := #[{ on := 1, ground := Ground.data }, { on := 2, ground := Ground.data }], guard := none }) (by kernel_rfl) rfl (fun K hK => ?_)
  go_simp
  go_at_call 17
  refine (add_z Zn.out.zi Zn.out.zi (by decide) (by decide)).mono ?_
  rintro e w25 ⟨r0, rfl, m0, b⟩
  obtain ⟨ns, xs, ads, qs, rfl, -, -, -, -, -⟩ := id m0
  replace Zan := hid (Zan.out.now b)
  replace Zad := hid (Zad.out.now b)
  replace Zo := hid (Zo.out.now b)
  replace Zln := hid (Zln.out.now b)
  replace Zld := hid (Zld.out.now b)
  replace Zn := hid (Zn.out.now b)
  replace Zd := hid (Zd.out.now b)
  replace Zv := hid (Zv.out.now b)
  replace Pa := hid (Pa.out.step b)
  replace Po := hid (Po.out.step b)
  replace Pl := hid (Pl.out.step b)
  replace PN := hid (PN.out.step b)
  replace PD := hid (PD.out.step b)
  replace PV := hid (PV.out.step b)
  replace G := hid (below_step G.out b)
  have lz26 := (show Below _ _ _ from b).size
  have Zs := hid m0
  clear b m0
  refine hK.out _ _ (fun _ => ⟨Po.out.c0, Po.out.c1, PN.out.c0, PN.out.c1, PD.out.c0, PD.out.c1⟩) ?_
  clear hK
  refine wpAnyT_one (i := 4) (o := { dst := some 70, op := Op.call { callee := Callee.value (Operand.func 32), args := #[Operand.tmp 66, Operand.tmp 69], argTypes := #[24, 24] }, type := 3, pos := "outright.go:221", after := #[{ on := 0, ground := Ground.data }, { on := 3, ground := Ground.data }, { on := 3, ground := Ground.chain }], guard := none }) (by kernel_rfl) rfl (fun K hK => ?_)
  go_simp
  go_at_call 32
  refine (HC1.out _ _ _ _ Zo.out Zs.out.zi).mono ?_
  rintro e w27 ⟨rfl, b⟩
  replace Zan := hid (Zan.out.now b)
  replace Zad := hid (Zad.out.now b)
  replace Zo := hid (Zo.out.now b)
  replace Zln := hid (Zln.out.now b)
  replace Zld := hid (Zld.out.now b)
  replace Zn := hid (Zn.out.now b)
  replace Zd := hid (Zd.out.now b)
  replace Zv := hid (Zv.out.now b)
  replace Zs := hid (Zs.out.now b)
  replace Pa := hid (Pa.out.step b)
  replace Po := hid (Po.out.step b)
  replace Pl := hid (Pl.out.step b)
  replace PN := hid (PN.out.step b)
  replace PD := hid (PD.out.step b)
  replace PV := hid (PV.out.step b)
  replace G := hid (below_step G.out b)
  have lz28 := (show Below _ _ _ from b).size
  clear b 
  refine hK.out _ _ (fun _ => ⟨Po.out.c0, Po.out.c1, PN.out.c0, PN.out.c1, PD.out.c0, PD.out.c1⟩) ?_
  clear hK
  refine wpAnyT_take (i := 5) (oi := { dst := some 71, op := Op.binOp BinOp.leq 3 (Operand.tmp 70) (Operand.const (Value.int IntKind.i64 0)) 3, type := 4, pos := "outright.go:221", after := #[{ on := 4, ground := Ground.data }], guard := none }) (v := (.bool false)) rfl (by kernel_rfl) (fun _ _ _ h => h) (Or.inl ⟨by rfl, ?_⟩) ⟨Po.out.c0, Po.out.c1, PN.out.c0, PN.out.c1, PD.out.c0, PD.out.c1⟩ ?_
  · intro w hSw
    (try dsimp only at hSw)
    go_simp
  simp only [Act.put, List.setIfInBounds_toArray, List.set_cons_zero, List.set_cons_succ]
  refine wpAnyT_take (i := 6) (oi := { dst := some 72, op := Op.move (Operand.tmp 71), type := 4, pos := "outright.go:221", after := #[{ on := 5, ground := Ground.data }, { on := 4, ground := Ground.chain }], guard := none }) (v := (.bool false)) rfl (by kernel_rfl) (fun _ _ _ h => h) (Or.inl ⟨by rfl, ?_⟩) ⟨Po.out.c0, Po.out.c1, PN.out.c0, PN.out.c1, PD.out.c0, PD.out.c1⟩ ?_
  · intro w hSw
    (try dsimp only at hSw)
    go_simp
  simp only [Act.put, List.setIfInBounds_toArray, List.set_cons_zero, List.set_cons_succ]
  refine wpAnyT_take (i := 7) (oi := { dst := some 73, op := Op.load 24 (Operand.tmp 3), type := 24, pos := "outright.go:221", after := #[{ on := 6, ground := Ground.guard }], guard := some (6, false) }) (v := (.agg #[(.bool no), (.slice ado xo.length co)])) rfl (by kernel_rfl) (fun _ _ _ h => h) (Or.inl ⟨by rfl, ?_⟩) ⟨Po.out.c0, Po.out.c1, PN.out.c0, PN.out.c1, PD.out.c0, PD.out.c1⟩ ?_
  · intro w hSw
    (try dsimp only at hSw)
    go_simp
  simp only [Act.put, List.setIfInBounds_toArray, List.set_cons_zero, List.set_cons_succ]
  refine wpAnyT_take (i := 8) (oi := { dst := some 74, op := Op.load 24 (Operand.tmp 10), type := 24, pos := "outright.go:221", after := #[{ on := 6, ground := Ground.guard }], guard := some (6, false) }) (v := (.agg #[(.bool nd), (.slice add xd.length qd)])) rfl (by kernel_rfl) (fun _ _ _ h => h) (Or.inl ⟨by rfl, ?_⟩) ⟨Po.out.c0, Po.out.c1, PN.out.c0, PN.out.c1, PD.out.c0, PD.out.c1⟩ ?_
  · intro w hSw
    (try dsimp only at hSw)
    go_simp
  simp only [Act.put, List.setIfInBounds_toArray, List.set_cons_zero, List.set_cons_succ]
  refine wpAnyT_take (i := 9) (oi := { dst := some 75, op := Op.load 24 (Operand.tmp 10), type := 24, pos := "outright.go:221", after := #[{ on := 6, ground := Ground.guard }], guard := some (6, false) }) (v := (.agg #[(.bool nd), (.slice add xd.length qd)])) rfl (by kernel_rfl) (fun _ _ _ h => h) (Or.inl ⟨by rfl, ?_⟩) ⟨Po.out.c0, Po.out.c1, PN.out.c0, PN.out.c1, PD.out.c0, PD.out.c1⟩ ?_
  · intro w hSw
    (try dsimp only at hSw)
    go_simp
  simp only [Act.put, List.setIfInBounds_toArray, List.set_cons_zero, List.set_cons_succ]
  refine wpAnyT_one (i := 10) (o := { dst := some 76, op := Op.call { callee := Callee.value (Operand.func 17), args := #[Operand.tmp 74, Operand.tmp 75], argTypes := #[24, 24] }, type := 24, pos := "outright.go:221", after := #[{ on := 8, ground := Ground.data }, { on := 9, ground := Ground.data }, { on := 6, ground := Ground.chain }, { on := 6, ground := Ground.guard }], guard := some (6, false) }) (by kernel_rfl) rfl (fun K hK => ?_)
  go_simp
  go_at_call 17
  refine (add_z Zd.out.zi Zd.out.zi (by decide) (by decide)).mono ?_
  rintro e w29 ⟨r0, rfl, m0, b⟩
  obtain ⟨nt, xt, adt, qt, rfl, -, -, -, -, -⟩ := id m0
  replace Zan := hid (Zan.out.now b)
  replace Zad := hid (Zad.out.now b)
  replace Zo := hid (Zo.out.now b)
  replace Zln := hid (Zln.out.now b)
  replace Zld := hid (Zld.out.now b)
  replace Zn := hid (Zn.out.now b)
  replace Zd := hid (Zd.out.now b)
  replace Zv := hid (Zv.out.now b)
  replace Zs := hid (Zs.out.now b)
  replace Pa := hid (Pa.out.step b)
  replace Po := hid (Po.out.step b)
  replace Pl := hid (Pl.out.step b)
  replace PN := hid (PN.out.step b)
  replace PD := hid (PD.out.step b)
  replace PV := hid (PV.out.step b)
  replace G := hid (below_step G.out b)
  have lz30 := (show Below _ _ _ from b).size
  have Zt := hid m0
  clear b m0
  refine hK.out _ _ (fun _ => ⟨Po.out.c0, Po.out.c1, PN.out.c0, PN.out.c1, PD.out.c0, PD.out.c1⟩) ?_
  clear hK
  refine wpAnyT_one (i := 11) (o := { dst := some 77, op := Op.call { callee := Callee.value (Operand.func 32), args := #[Operand.tmp 73, Operand.tmp 76], argTypes := #[24, 24] }, type := 3, pos := "outright.go:221", after := #[{ on := 7, ground := Ground.data }, { on := 10, ground := Ground.data }, { on := 10, ground := Ground.chain }, { on := 6, ground := Ground.guard }], guard := some (6, false) }) (by kernel_rfl) rfl (fun K hK => ?_)
  go_simp
  go_at_call 32
  refine (HC2.out _ _ _ _ Zo.out Zt.out.zi).mono ?_
  rintro e w31 ⟨rfl, b⟩
  replace Zan := hid (Zan.out.now b)
  replace Zad := hid (Zad.out.now b)
  replace Zo := hid (Zo.out.now b)
  replace Zln := hid (Zln.out.now b)
  replace Zld := hid (Zld.out.now b)
  replace Zn := hid (Zn.out.now b)
  replace Zd := hid (Zd.out.now b)
  replace Zv := hid (Zv.out.now b)
  replace Zs := hid (Zs.out.now b)
  replace Zt := hid (Zt.out.now b)
  replace Pa := hid (Pa.out.step b)
  replace Po := hid (Po.out.step b)
  replace Pl := hid (Pl.out.step b)
  replace PN := hid (PN.out.step b)
  replace PD := hid (PD.out.step b)
  replace PV := hid (PV.out.step b)
  replace G := hid (below_step G.out b)
  have lz32 := (show Below _ _ _ from b).size
  clear b 
  refine hK.out _ _ (fun _ => ⟨Po.out.c0, Po.out.c1, PN.out.c0, PN.out.c1, PD.out.c0, PD.out.c1⟩) ?_
  clear hK
  refine wpAnyT_take (i := 12) (oi := { dst := some 78, op := Op.binOp BinOp.leq 3 (Operand.tmp 77) (Operand.const (Value.int IntKind.i64 0)) 3, type := 4, pos := "outright.go:221", after := #[{ on := 11, ground := Ground.data }, { on := 6, ground := Ground.guard }], guard := some (6, false) }) (v := (.bool false)) rfl (by kernel_rfl) (fun _ _ _ h => h) (Or.inl ⟨by rfl, ?_⟩) ⟨Po.out.c0, Po.out.c1, PN.out.c0, PN.out.c1, PD.out.c0, PD.out.c1⟩ ?_
  · intro w hSw
    (try dsimp only at hSw)
    go_simp
  simp only [Act.put, List.setIfInBounds_toArray, List.set_cons_zero, List.set_cons_succ]
  refine wpAnyT_take (i := 13) (oi := { dst := some 79, op := Op.pick (Operand.tmp 72) (Operand.const (Value.bool true)) (Operand.tmp 78), type := 4, pos := "outright.go:221", after := #[{ on := 6, ground := Ground.data }, { on := 12, ground := Ground.data }], guard := none }) (v := (.bool false)) rfl (by kernel_rfl) (fun _ _ _ h => h) (Or.inl ⟨by rfl, ?_⟩) ⟨Po.out.c0, Po.out.c1, PN.out.c0, PN.out.c1, PD.out.c0, PD.out.c1⟩ ?_
  · intro w hSw
    (try dsimp only at hSw)
    go_simp
  simp only [Act.put, List.setIfInBounds_toArray, List.set_cons_zero, List.set_cons_succ]
  refine wpAnyT_take (i := 14) (oi := { dst := some 80, op := Op.move (Operand.tmp 79), type := 4, pos := "outright.go:221", after := #[{ on := 13, ground := Ground.data }, { on := 11, ground := Ground.chain }], guard := none }) (v := (.bool false)) rfl (by kernel_rfl) (fun _ _ _ h => h) (Or.inl ⟨by rfl, ?_⟩) ⟨Po.out.c0, Po.out.c1, PN.out.c0, PN.out.c1, PD.out.c0, PD.out.c1⟩ ?_
  · intro w hSw
    (try dsimp only at hSw)
    go_simp
  simp only [Act.put, List.setIfInBounds_toArray, List.set_cons_zero, List.set_cons_succ]
  refine wpAnyT_take (i := 15) (oi := { dst := some 81, op := Op.move (Operand.tmp 12), type := 28, pos := "outright.go:221", after := #[{ on := 14, ground := Ground.guard }], guard := some (14, false) }) (v := (.int .i64 0)) rfl (by kernel_rfl) (fun _ _ _ h => h) (Or.inl ⟨by rfl, ?_⟩) ⟨Po.out.c0, Po.out.c1, PN.out.c0, PN.out.c1, PD.out.c0, PD.out.c1⟩ ?_
  · intro w hSw
    (try dsimp only at hSw)
    go_simp
  simp only [Act.put, List.setIfInBounds_toArray, List.set_cons_zero, List.set_cons_succ]
  refine wpAnyT_take (i := 16) (oi := { dst := some 82, op := Op.binOp BinOp.neq 28 (Operand.tmp 81) (Operand.const (Value.int IntKind.i64 0)) 28, type := 4, pos := "outright.go:221", after := #[{ on := 15, ground := Ground.data }, { on := 14, ground := Ground.guard }], guard := some (14, false) }) (v := (.bool false)) rfl (by kernel_rfl) (fun _ _ _ h => h) (Or.inl ⟨by rfl, ?_⟩) ⟨Po.out.c0, Po.out.c1, PN.out.c0, PN.out.c1, PD.out.c0, PD.out.c1⟩ ?_
  · intro w hSw
    (try dsimp only at hSw)
    go_simp
  simp only [Act.put, List.setIfInBounds_toArray, List.set_cons_zero, List.set_cons_succ]
  refine wpAnyT_one (i := 17) (o := { dst := some 83, op := Op.pick (Operand.tmp 80) (Operand.const (Value.bool true)) (Operand.tmp 82), type := 4, pos := "outright.go:221", after := #[{ on := 14, ground := Ground.data }, { on := 16, ground := Ground.data }], guard := none }) (by kernel_rfl) rfl (fun K hK => ?_)
  go_simp
  refine hK.out _ _ (fun h => absurd h (by decide)) ?_
  clear hK
  try simp only [Act.put]
  refine wpAnyT_done (by kernel_rfl) ?_ _
  go_wp2_with fail
  have q8 : ((0 : Int) == 0) = true := rfl
  have RS := hid (res_of (N := ql.num) HI.out.dv)
  have N1 : Hid (2 * (ql.num * ql.num) < O) := by have := H2.out; unfold Hid; omega
  have D1 : Hid (2 * ((ql.den : Int) * (ql.den : Int)) < O) := by have := H3.out; unfold Hid; omega
  refine wp_region_tail (fun w' => w'.cell? ⟨w5.heap.size, 0, none⟩ = some (.bool nln) ∧ w'.cell? ⟨w5.heap.size, 1, none⟩ = some (.slice adln xln.length qln) ∧ w'.cell? ⟨w5.heap.size, 2, none⟩ = some (.bool nld) ∧ w'.cell? ⟨w5.heap.size, 3, none⟩ = some (.slice adld xld.length qld) ∧ w'.cell? ⟨w19.heap.size, 0, none⟩ = some (.bool nv) ∧ w'.cell? ⟨w19.heap.size, 1, none⟩ = some (.slice adv xv.length qv) ∧ w'.cell? ⟨w.heap.size + 1, 0, none⟩ = some (.bool no) ∧ w'.cell? ⟨w.heap.size + 1, 1, none⟩ = some (.slice ado xo.length co)) 11 (by kernel_rfl) ?_
  obtain ⟨D33, hD⟩ : ∃ D33, w31.drew = D33 := ⟨_, rfl⟩
  have b : Below w31.heap.size w31 D33 := by rw [← hD]; exact (Below.refl _ _).drew
  rw [hD]
  clear hD
  replace Zan := hid (Zan.out.now b)
  replace Zad := hid (Zad.out.now b)
  replace Zo := hid (Zo.out.now b)
  replace Zln := hid (Zln.out.now b)
  replace Zld := hid (Zld.out.now b)
  replace Zn := hid (Zn.out.now b)
  replace Zd := hid (Zd.out.now b)
  replace Zv := hid (Zv.out.now b)
  replace Zs := hid (Zs.out.now b)
  replace Zt := hid (Zt.out.now b)
  replace Pa := hid (Pa.out.step b)
  replace Po := hid (Po.out.step b)
  replace Pl := hid (Pl.out.step b)
  replace PN := hid (PN.out.step b)
  replace PD := hid (PD.out.step b)
  replace PV := hid (PV.out.step b)
  replace G := hid (below_step G.out b)
  have lz34 := (show Below _ _ _ from b).size
  clear b
  refine wpAnyT_take (i := 0) (oi := { dst := some 85, op := Op.fieldAddr 26 (Operand.tmp 7) 0, type := 0, pos := "outright.go:224", after := #[], guard := none }) (v := (.pointer (some ⟨w5.heap.size, 0, none⟩))) rfl (by kernel_rfl) (fun _ _ _ h => h) (Or.inl ⟨by rfl, ?_⟩) ⟨(Pl.out.at (i := 0) rfl), (Pl.out.at (i := 1) rfl), (Pl.out.at (i := 2) rfl), (Pl.out.at (i := 3) rfl), PV.out.c0, PV.out.c1, Po.out.c0, Po.out.c1⟩ ?_
  · intro w hSw
    (try dsimp only at hSw)
    go_simp
  simp only [Act.put, List.setIfInBounds_toArray, List.set_cons_zero, List.set_cons_succ]
  refine wpAnyT_take (i := 1) (oi := { dst := some 86, op := Op.load 24 (Operand.tmp 85), type := 24, pos := "outright.go:224", after := #[{ on := 0, ground := Ground.data }], guard := none }) (v := (.agg #[(.bool nln), (.slice adln xln.length qln)])) rfl (by kernel_rfl) (fun _ _ _ h => h) (Or.inl ⟨by rfl, ?_⟩) ⟨(Pl.out.at (i := 0) rfl), (Pl.out.at (i := 1) rfl), (Pl.out.at (i := 2) rfl), (Pl.out.at (i := 3) rfl), PV.out.c0, PV.out.c1, Po.out.c0, Po.out.c1⟩ ?_
  · intro w hSw
    (try dsimp only at hSw)
    go_simp
  simp only [Act.put, List.setIfInBounds_toArray, List.set_cons_zero, List.set_cons_succ]
  refine wpAnyT_take (i := 2) (oi := { dst := some 87, op := Op.load 24 (Operand.tmp 11), type := 24, pos := "outright.go:224", after := #[], guard := none }) (v := (.agg #[(.bool nv), (.slice adv xv.length qv)])) rfl (by kernel_rfl) (fun _ _ _ h => h) (Or.inl ⟨by rfl, ?_⟩) ⟨(Pl.out.at (i := 0) rfl), (Pl.out.at (i := 1) rfl), (Pl.out.at (i := 2) rfl), (Pl.out.at (i := 3) rfl), PV.out.c0, PV.out.c1, Po.out.c0, Po.out.c1⟩ ?_
  · intro w hSw
    (try dsimp only at hSw)
    go_simp
  simp only [Act.put, List.setIfInBounds_toArray, List.set_cons_zero, List.set_cons_succ]
  refine wpAnyT_take (i := 4) (oi := { dst := some 89, op := Op.load 24 (Operand.tmp 3), type := 24, pos := "outright.go:224", after := #[], guard := none }) (v := (.agg #[(.bool no), (.slice ado xo.length co)])) rfl (by kernel_rfl) (fun _ _ _ h => h) (Or.inl ⟨by rfl, ?_⟩) ⟨(Pl.out.at (i := 0) rfl), (Pl.out.at (i := 1) rfl), (Pl.out.at (i := 2) rfl), (Pl.out.at (i := 3) rfl), PV.out.c0, PV.out.c1, Po.out.c0, Po.out.c1⟩ ?_
  · intro w hSw
    (try dsimp only at hSw)
    go_simp
  simp only [Act.put, List.setIfInBounds_toArray, List.set_cons_zero, List.set_cons_succ]
  refine wpAnyT_two (i := 3) (j := 9) (oi := { dst := some 88, op := Op.call { callee := Callee.value (Operand.func 16), args := #[Operand.tmp 86, Operand.tmp 87], argTypes := #[24, 24] }, type := 24, pos := "outright.go:224", after := #[{ on := 1, ground := Ground.data }, { on := 2, ground := Ground.data }], guard := none }) (oj := { dst := some 13, op := Op.alloc 26, type := 0, pos := "outright.go:224", after := #[], guard := none }) (by kernel_rfl) rfl rfl (fun K hK => ?_) (fun K hK => ?_)
  · skip
    go_simp
    go_at_call 16
    refine (mul_z Zln.out.zi Zv.out.zi (by decide)).mono ?_
    rintro e w35 ⟨r0, rfl, m0, b⟩
    obtain ⟨nm0r, xm0r, adm0r, qm0r, rfl, -, -, -, -, -⟩ := id m0
    replace Zan := hid (Zan.out.now b)
    replace Zad := hid (Zad.out.now b)
    replace Zo := hid (Zo.out.now b)
    replace Zln := hid (Zln.out.now b)
    replace Zld := hid (Zld.out.now b)
    replace Zn := hid (Zn.out.now b)
    replace Zd := hid (Zd.out.now b)
    replace Zv := hid (Zv.out.now b)
    replace Zs := hid (Zs.out.now b)
    replace Zt := hid (Zt.out.now b)
    replace Pa := hid (Pa.out.step b)
    replace Po := hid (Po.out.step b)
    replace Pl := hid (Pl.out.step b)
    replace PN := hid (PN.out.step b)
    replace PD := hid (PD.out.step b)
    replace PV := hid (PV.out.step b)
    replace G := hid (below_step G.out b)
    have lz36 := (show Below _ _ _ from b).size
    have Zm0r := hid m0
    clear b m0
    refine hK.out _ _ (fun _ => ⟨(Pl.out.at (i := 0) rfl), (Pl.out.at (i := 1) rfl), (Pl.out.at (i := 2) rfl), (Pl.out.at (i := 3) rfl), PV.out.c0, PV.out.c1, Po.out.c0, Po.out.c1⟩) ?_
    clear hK
    refine wpAnyT_two (i := 5) (j := 9) (oi := { dst := some 90, op := Op.call { callee := Callee.value (Operand.func 33), args := #[Operand.tmp 88, Operand.tmp 89], argTypes := #[24, 24] }, type := 29, pos := "outright.go:224", after := #[{ on := 3, ground := Ground.data }, { on := 4, ground := Ground.data }, { on := 3, ground := Ground.chain }], guard := none }) (oj := { dst := some 13, op := Op.alloc 26, type := 0, pos := "outright.go:224", after := #[], guard := none }) (by kernel_rfl) rfl rfl (fun K hK => ?_) (fun K hK => ?_)
    · skip
      go_simp
      go_at_call 33
      refine (frec_z (k := 2097152) (Zm0r.out.zi.more (by decide)) (Zo.out.more (by decide)) (by decide) (by decide) OP.out N1.out D1.out HGc.out RS.out).mono ?_
      rintro e w37 ⟨r0, r1, r2, r3, rfl, m0, m1, b⟩
      obtain ⟨nbn, xbn, adbn, qbn, rfl, rfl⟩ := m0.zi.comp
      obtain ⟨nbd, xbd, adbd, qbd, rfl, rfl⟩ := m1.zi.comp
      replace Zan := hid (Zan.out.now b)
      replace Zad := hid (Zad.out.now b)
      replace Zo := hid (Zo.out.now b)
      replace Zln := hid (Zln.out.now b)
      replace Zld := hid (Zld.out.now b)
      replace Zn := hid (Zn.out.now b)
      replace Zd := hid (Zd.out.now b)
      replace Zv := hid (Zv.out.now b)
      replace Zs := hid (Zs.out.now b)
      replace Zt := hid (Zt.out.now b)
      replace Zm0r := hid (Zm0r.out.now b)
      replace Pa := hid (Pa.out.step b)
      replace Po := hid (Po.out.step b)
      replace Pl := hid (Pl.out.step b)
      replace PN := hid (PN.out.step b)
      replace PD := hid (PD.out.step b)
      replace PV := hid (PV.out.step b)
      replace G := hid (below_step G.out b)
      have lz38 := (show Below _ _ _ from b).size
      have Zbn := hid m0
      have Zbd := hid m1
      clear b m0 m1
      refine hK.out _ _ (fun _ => ⟨(Pl.out.at (i := 0) rfl), (Pl.out.at (i := 1) rfl), (Pl.out.at (i := 2) rfl), (Pl.out.at (i := 3) rfl), PV.out.c0, PV.out.c1, Po.out.c0, Po.out.c1⟩) ?_
      clear hK
      refine wpAnyT_take (i := 6) (oi := { dst := some 84, op := Op.move (Operand.tmp 90), type := 29, pos := "outright.go:224", after := #[{ on := 5, ground := Ground.data }], guard := none }) (v := (.tuple #[(.agg #[.bool nbn, .slice adbn xbn.length qbn, .bool nbd, .slice adbd xbd.length qbd]), (.int .i64 0)])) rfl (by kernel_rfl) (fun _ _ _ h => h) (Or.inl ⟨by rfl, ?_⟩) ⟨(Pl.out.at (i := 0) rfl), (Pl.out.at (i := 1) rfl), (Pl.out.at (i := 2) rfl), (Pl.out.at (i := 3) rfl), PV.out.c0, PV.out.c1, Po.out.c0, Po.out.c1⟩ ?_
      · intro w hSw
        (try dsimp only at hSw)
        go_simp
      simp only [Act.put, List.setIfInBounds_toArray, List.set_cons_zero, List.set_cons_succ]
      refine wpAnyT_take (i := 7) (oi := { dst := some 91, op := Op.extract (Operand.tmp 84) 0, type := 26, pos := "outright.go:224", after := #[{ on := 6, ground := Ground.data }], guard := none }) (v := (.agg #[.bool nbn, .slice adbn xbn.length qbn, .bool nbd, .slice adbd xbd.length qbd])) rfl (by kernel_rfl) (fun _ _ _ h => h) (Or.inl ⟨by rfl, ?_⟩) ⟨(Pl.out.at (i := 0) rfl), (Pl.out.at (i := 1) rfl), (Pl.out.at (i := 2) rfl), (Pl.out.at (i := 3) rfl), PV.out.c0, PV.out.c1, Po.out.c0, Po.out.c1⟩ ?_
      · intro w hSw
        (try dsimp only at hSw)
        go_simp
      simp only [Act.put, List.setIfInBounds_toArray, List.set_cons_zero, List.set_cons_succ]
      refine wpAnyT_take (i := 8) (oi := { dst := some 92, op := Op.extract (Operand.tmp 84) 1, type := 28, pos := "outright.go:224", after := #[{ on := 6, ground := Ground.data }, { on := 10, ground := Ground.gcOnly Departure.lateStores }], guard := none }) (v := (.int .i64 0)) rfl (by kernel_rfl) (fun _ _ _ h => h) (Or.inl ⟨by rfl, ?_⟩) ⟨(Pl.out.at (i := 0) rfl), (Pl.out.at (i := 1) rfl), (Pl.out.at (i := 2) rfl), (Pl.out.at (i := 3) rfl), PV.out.c0, PV.out.c1, Po.out.c0, Po.out.c1⟩ ?_
      · intro w hSw
        (try dsimp only at hSw)
        go_simp
      simp only [Act.put, List.setIfInBounds_toArray, List.set_cons_zero, List.set_cons_succ]
      refine wpAnyT_one (i := 9) (o := { dst := some 13, op := Op.alloc 26, type := 0, pos := "outright.go:224", after := #[], guard := none }) (by kernel_rfl) rfl (fun K hK => ?_)
      go_simp
      obtain ⟨V39, hW⟩ : ∃ V39, w37.alloc (.cells #[(.bool false), (.slice none 0 0), (.bool false), (.slice none 0 0)] 26) = V39 := ⟨_, rfl⟩
      obtain ⟨kW, sz39⟩ := alloc1 w37 (.cells #[(.bool false), (.slice none 0 0), (.bool false), (.slice none 0 0)] 26)
      rw [hW] at kW sz39
      replace sz39 : w37.heap.size < V39.heap.size := by omega
      replace Zan := hid (Zan.out.now kW)
      replace Zad := hid (Zad.out.now kW)
      replace Zo := hid (Zo.out.now kW)
      replace Zln := hid (Zln.out.now kW)
      replace Zld := hid (Zld.out.now kW)
      replace Zn := hid (Zn.out.now kW)
      replace Zd := hid (Zd.out.now kW)
      replace Zv := hid (Zv.out.now kW)
      replace Zs := hid (Zs.out.now kW)
      replace Zt := hid (Zt.out.now kW)
      replace Zm0r := hid (Zm0r.out.now kW)
      replace Zbn := hid (Zbn.out.now kW)
      replace Zbd := hid (Zbd.out.now kW)
      replace Pa := hid (Pa.out.step kW)
      replace Po := hid (Po.out.step kW)
      replace Pl := hid (Pl.out.step kW)
      replace PN := hid (PN.out.step kW)
      replace PD := hid (PD.out.step kW)
      replace PV := hid (PV.out.step kW)
      replace G := hid (below_step G.out kW)
      have lz40 := (show Below _ _ _ from kW).size
      have PN13 : Hid (Cel V39 (w37.heap.size) 26 [(.bool false), (.slice none 0 0), (.bool false), (.slice none 0 0)]) := by unfold Hid; rw [← hW]; exact cel_at rfl
      rw [hW]
      clear hW kW
      refine hK.out _ _ (fun _ => ⟨(Pl.out.at (i := 0) rfl), (Pl.out.at (i := 1) rfl), (Pl.out.at (i := 2) rfl), (Pl.out.at (i := 3) rfl), PV.out.c0, PV.out.c1, Po.out.c0, Po.out.c1⟩) ?_
      clear hK
      try simp only [Act.put]
      refine wpAnyT_one (i := 10) (o := { dst := none, op := Op.store 26 (Operand.tmp 13) (Operand.tmp 91), type := 0, pos := "outright.go:224", after := #[{ on := 9, ground := Ground.data }, { on := 7, ground := Ground.data }, { on := 5, ground := Ground.chain }, { on := 0, ground := Ground.phase }, { on := 1, ground := Ground.phase }, { on := 2, ground := Ground.phase }, { on := 3, ground := Ground.phase }, { on := 4, ground := Ground.phase }, { on := 5, ground := Ground.phase }, { on := 6, ground := Ground.phase }, { on := 7, ground := Ground.phase }, { on := 8, ground := Ground.textOnly Departure.lateStores }, { on := 9, ground := Ground.phase }], guard := none }) (by kernel_rfl) rfl (fun K hK => ?_)
      have cN130 := (PN13.out.at (i := 0) rfl)
      have cN131 := (PN13.out.at (i := 1) rfl)
      have cN132 := (PN13.out.at (i := 2) rfl)
      have cN133 := (PN13.out.at (i := 3) rfl)
      have fN130 := PN13.out.fz 0
      have fN131 := PN13.out.fz 1
      have fN132 := PN13.out.fz 2
      have fN133 := PN13.out.fz 3
      go_simp
      clear cN130 cN131 cN132 cN133 fN130 fN131 fN132 fN133
      obtain ⟨V41, hW⟩ : ∃ V41, (((V39.setCell ⟨w37.heap.size, 0, none⟩ (.bool nbn)).setCell ⟨w37.heap.size, 1, none⟩ (.slice adbn xbn.length qbn)).setCell ⟨w37.heap.size, 2, none⟩ (.bool nbd)).setCell ⟨w37.heap.size, 3, none⟩ (.slice adbd xbd.length qbd) = V41 := ⟨_, rfl⟩
      replace Zan := hid ((Zan.out).wk ((PN13.out).wk4 (.bool nbn) (.slice adbn xbn.length qbn) (.bool nbd) (.slice adbd xbd.length qbd)))
      replace Zad := hid ((Zad.out).wk ((PN13.out).wk4 (.bool nbn) (.slice adbn xbn.length qbn) (.bool nbd) (.slice adbd xbd.length qbd)))
      replace Zo := hid ((Zo.out).wk ((PN13.out).wk4 (.bool nbn) (.slice adbn xbn.length qbn) (.bool nbd) (.slice adbd xbd.length qbd)))
      replace Zln := hid ((Zln.out).put4f (PN13.out) (.bool nbn) (.slice adbn xbn.length qbn) (.bool nbd) (.slice adbd xbd.length qbd))
      replace Zld := hid ((Zld.out).put4f (PN13.out) (.bool nbn) (.slice adbn xbn.length qbn) (.bool nbd) (.slice adbd xbd.length qbd))
      replace Zn := hid ((Zn.out).put4f (PN13.out) (.bool nbn) (.slice adbn xbn.length qbn) (.bool nbd) (.slice adbd xbd.length qbd))
      replace Zd := hid ((Zd.out).put4f (PN13.out) (.bool nbn) (.slice adbn xbn.length qbn) (.bool nbd) (.slice adbd xbd.length qbd))
      replace Zv := hid ((Zv.out).put4f (PN13.out) (.bool nbn) (.slice adbn xbn.length qbn) (.bool nbd) (.slice adbd xbd.length qbd))
      replace Zs := hid ((Zs.out).put4f (PN13.out) (.bool nbn) (.slice adbn xbn.length qbn) (.bool nbd) (.slice adbd xbd.length qbd))
      replace Zt := hid ((Zt.out).put4f (PN13.out) (.bool nbn) (.slice adbn xbn.length qbn) (.bool nbd) (.slice adbd xbd.length qbd))
      replace Zm0r := hid ((Zm0r.out).put4f (PN13.out) (.bool nbn) (.slice adbn xbn.length qbn) (.bool nbd) (.slice adbd xbd.length qbd))
      replace Zbn := hid ((Zbn.out).put4f (PN13.out) (.bool nbn) (.slice adbn xbn.length qbn) (.bool nbd) (.slice adbd xbd.length qbd))
      replace Zbd := hid ((Zbd.out).put4f (PN13.out) (.bool nbn) (.slice adbn xbn.length qbn) (.bool nbd) (.slice adbd xbd.length qbd))
      replace Pa := hid ((Pa.out).away4 (b' := w37.heap.size) (by omega) (.bool nbn) (.slice adbn xbn.length qbn) (.bool nbd) (.slice adbd xbd.length qbd))
      replace Po := hid ((Po.out).away4 (b' := w37.heap.size) (by omega) (.bool nbn) (.slice adbn xbn.length qbn) (.bool nbd) (.slice adbd xbd.length qbd))
      replace Pl := hid ((Pl.out).away4 (b' := w37.heap.size) (by omega) (.bool nbn) (.slice adbn xbn.length qbn) (.bool nbd) (.slice adbd xbd.length qbd))
      replace PN := hid ((PN.out).away4 (b' := w37.heap.size) (by omega) (.bool nbn) (.slice adbn xbn.length qbn) (.bool nbd) (.slice adbd xbd.length qbd))
      replace PD := hid ((PD.out).away4 (b' := w37.heap.size) (by omega) (.bool nbn) (.slice adbn xbn.length qbn) (.bool nbd) (.slice adbd xbd.length qbd))
      replace PV := hid ((PV.out).away4 (b' := w37.heap.size) (by omega) (.bool nbn) (.slice adbn xbn.length qbn) (.bool nbd) (.slice adbd xbd.length qbd))
      replace PN13 := hid ((PN13.out).put4 (.bool nbn) (.slice adbn xbn.length qbn) (.bool nbd) (.slice adbd xbd.length qbd))
      replace G : Hid (Below w.heap.size w (((((V39.setCell ⟨w37.heap.size, 0, none⟩ (.bool nbn)).setCell ⟨w37.heap.size, 1, none⟩ (.slice adbn xbn.length qbn)).setCell ⟨w37.heap.size, 2, none⟩ (.bool nbd)).setCell ⟨w37.heap.size, 3, none⟩ (.slice adbd xbd.length qbd)))) := bset (bset (bset (bset (G.out) (by omega)) (by omega)) (by omega)) (by omega)
      have sz41 : V41.heap.size = V39.heap.size := by rw [← hW]; simp
      dsimp only [put4] at Zan Zad Zo Zln Zld Zn Zd Zv Zs Zt Zm0r Zbn Zbd Pa Po Pl PN PD PV PN13
      rw [hW] at Zan Zad Zo Zln Zld Zn Zd Zv Zs Zt Zm0r Zbn Zbd Pa Po Pl PN PD PV PN13 G
      rw [hW]
      clear hW
      refine hK.out _ _ (fun _ => ⟨(Pl.out.at (i := 0) rfl), (Pl.out.at (i := 1) rfl), (Pl.out.at (i := 2) rfl), (Pl.out.at (i := 3) rfl), PV.out.c0, PV.out.c1, Po.out.c0, Po.out.c1⟩) ?_
      clear hK
      try simp only [Act.put]
      refine wpAnyT_one (i := 11) (o := { dst := some 14, op := Op.assign (Operand.tmp 92), type := 28, pos := "outright.go:224", after := #[{ on := 8, ground := Ground.data }, { on := 10, ground := Ground.chain }, { on := 0, ground := Ground.phase }, { on := 1, ground := Ground.phase }, { on := 2, ground := Ground.phase }, { on := 3, ground := Ground.phase }, { on := 4, ground := Ground.phase }, { on := 5, ground := Ground.phase }, { on := 6, ground := Ground.phase }, { on := 7, ground := Ground.phase }, { on := 8, ground := Ground.phase }, { on := 9, ground := Ground.phase }, { on := 10, ground := Ground.phase }], guard := none }) (by kernel_rfl) rfl (fun K hK => ?_)
      go_simp
      refine hK.out _ _ (fun h => absurd h (by decide)) ?_
      clear hK
      try simp only [Act.put]
      refine wpAnyT_done (by kernel_rfl) ?_ _
      have cN130 := (PN13.out.at (i := 0) rfl)
      have cN131 := (PN13.out.at (i := 1) rfl)
      have cN132 := (PN13.out.at (i := 2) rfl)
      have cN133 := (PN13.out.at (i := 3) rfl)
      have cl0 := (Pl.out.at (i := 0) rfl)
      have cl1 := (Pl.out.at (i := 1) rfl)
      have cl2 := (Pl.out.at (i := 2) rfl)
      have cl3 := (Pl.out.at (i := 3) rfl)
      go_wp2_with fail
      clear cN130 cN131 cN132 cN133 cl0 cl1 cl2 cl3
      refine (like8q Zbn.out Zbd.out Zln.out Zld.out rfl).mono ?_
      rintro e w42 ⟨rfl, b⟩
      replace Zan := hid (Zan.out.now b)
      replace Zad := hid (Zad.out.now b)
      replace Zo := hid (Zo.out.now b)
      replace Zln := hid (Zln.out.now b)
      replace Zld := hid (Zld.out.now b)
      replace Zn := hid (Zn.out.now b)
      replace Zd := hid (Zd.out.now b)
      replace Zv := hid (Zv.out.now b)
      replace Zs := hid (Zs.out.now b)
      replace Zt := hid (Zt.out.now b)
      replace Zm0r := hid (Zm0r.out.now b)
      replace Zbn := hid (Zbn.out.now b)
      replace Zbd := hid (Zbd.out.now b)
      replace Pa := hid (Pa.out.step b)
      replace Po := hid (Po.out.step b)
      replace Pl := hid (Pl.out.step b)
      replace PN := hid (PN.out.step b)
      replace PD := hid (PD.out.step b)
      replace PV := hid (PV.out.step b)
      replace PN13 := hid (PN13.out.step b)
      replace G := hid (below_step G.out b)
      have lz43 := (show Below _ _ _ from b).size
      clear b 
      go_wp2
      go_ret
      exact ⟨rfl, G.out⟩
    · skip
      go_simp
      obtain ⟨V44, hW⟩ : ∃ V44, w35.alloc (.cells #[(.bool false), (.slice none 0 0), (.bool false), (.slice none 0 0)] 26) = V44 := ⟨_, rfl⟩
      obtain ⟨kW, sz44⟩ := alloc1 w35 (.cells #[(.bool false), (.slice none 0 0), (.bool false), (.slice none 0 0)] 26)
      rw [hW] at kW sz44
      replace sz44 : w35.heap.size < V44.heap.size := by omega
      replace Zan := hid (Zan.out.now kW)
      replace Zad := hid (Zad.out.now kW)
      replace Zo := hid (Zo.out.now kW)
      replace Zln := hid (Zln.out.now kW)
      replace Zld := hid (Zld.out.now kW)
      replace Zn := hid (Zn.out.now kW)
      replace Zd := hid (Zd.out.now kW)
      replace Zv := hid (Zv.out.now kW)
      replace Zs := hid (Zs.out.now kW)
      replace Zt := hid (Zt.out.now kW)
      replace Zm0r := hid (Zm0r.out.now kW)
      replace Pa := hid (Pa.out.step kW)
      replace Po := hid (Po.out.step kW)
      replace Pl := hid (Pl.out.step kW)
      replace PN := hid (PN.out.step kW)
      replace PD := hid (PD.out.step kW)
      replace PV := hid (PV.out.step kW)
      replace G := hid (below_step G.out kW)
      have lz45 := (show Below _ _ _ from kW).size
      have PN13 : Hid (Cel V44 (w35.heap.size) 26 [(.bool false), (.slice none 0 0), (.bool false), (.slice none 0 0)]) := by unfold Hid; rw [← hW]; exact cel_at rfl
      rw [hW]
      clear hW kW
      refine hK.out _ _ (fun _ => ⟨(Pl.out.at (i := 0) rfl), (Pl.out.at (i := 1) rfl), (Pl.out.at (i := 2) rfl), (Pl.out.at (i := 3) rfl), PV.out.c0, PV.out.c1, Po.out.c0, Po.out.c1⟩) ?_
      clear hK
      try simp only [Act.put]
      refine wpAnyT_one (i := 5) (o := { dst := some 90, op := Op.call { callee := Callee.value (Operand.func 33), args := #[Operand.tmp 88, Operand.tmp 89], argTypes := #[24, 24] }, type := 29, pos := "outright.go:224", after := #[{ on := 3, ground := Ground.data }, { on := 4, ground := Ground.data }, { on := 3, ground := Ground.chain }], guard := none }) (by kernel_rfl) rfl (fun K hK => ?_)
      go_simp
      go_at_call 33
      refine (frec_z (k := 2097152) (Zm0r.out.zi.more (by decide)) (Zo.out.more (by decide)) (by decide) (by decide) OP.out N1.out D1.out HGc.out RS.out).mono ?_
      rintro e w46 ⟨r0, r1, r2, r3, rfl, m0, m1, b⟩
      obtain ⟨nbn, xbn, adbn, qbn, rfl, rfl⟩ := m0.zi.comp
      obtain ⟨nbd, xbd, adbd, qbd, rfl, rfl⟩ := m1.zi.comp
      replace Zan := hid (Zan.out.now b)
      replace Zad := hid (Zad.out.now b)
      replace Zo := hid (Zo.out.now b)
      replace Zln := hid (Zln.out.now b)
      replace Zld := hid (Zld.out.now b)
      replace Zn := hid (Zn.out.now b)
      replace Zd := hid (Zd.out.now b)
      replace Zv := hid (Zv.out.now b)
      replace Zs := hid (Zs.out.now b)
      replace Zt := hid (Zt.out.now b)
      replace Zm0r := hid (Zm0r.out.now b)
      replace Pa := hid (Pa.out.step b)
      replace Po := hid (Po.out.step b)
      replace Pl := hid (Pl.out.step b)
      replace PN := hid (PN.out.step b)
      replace PD := hid (PD.out.step b)
      replace PV := hid (PV.out.step b)
      replace PN13 := hid (PN13.out.step b)
      replace G := hid (below_step G.out b)
      have lz47 := (show Below _ _ _ from b).size
      have Zbn := hid m0
      have Zbd := hid m1
      clear b m0 m1
      refine hK.out _ _ (fun _ => ⟨(Pl.out.at (i := 0) rfl), (Pl.out.at (i := 1) rfl), (Pl.out.at (i := 2) rfl), (Pl.out.at (i := 3) rfl), PV.out.c0, PV.out.c1, Po.out.c0, Po.out.c1⟩) ?_
      clear hK
      refine wpAnyT_take (i := 6) (oi := { dst := some 84, op := Op.move (Operand.tmp 90), type := 29, pos := "outright.go:224", after := #[{ on := 5, ground := Ground.data }], guard := none }) (v := (.tuple #[(.agg #[.bool nbn, .slice adbn xbn.length qbn, .bool nbd, .slice adbd xbd.length qbd]), (.int .i64 0)])) rfl (by kernel_rfl) (fun _ _ _ h => h) (Or.inl ⟨by rfl, ?_⟩) ⟨(Pl.out.at (i := 0) rfl), (Pl.out.at (i := 1) rfl), (Pl.out.at (i := 2) rfl), (Pl.out.at (i := 3) rfl), PV.out.c0, PV.out.c1, Po.out.c0, Po.out.c1⟩ ?_
      · intro w hSw
        (try dsimp only at hSw)
        go_simp
      simp only [Act.put, List.setIfInBounds_toArray, List.set_cons_zero, List.set_cons_succ]
      refine wpAnyT_take (i := 7) (oi := { dst := some 91, op := Op.extract (Operand.tmp 84) 0, type := 26, pos := "outright.go:224", after := #[{ on := 6, ground := Ground.data }], guard := none }) (v := (.agg #[.bool nbn, .slice adbn xbn.length qbn, .bool nbd, .slice adbd xbd.length qbd])) rfl (by kernel_rfl) (fun _ _ _ h => h) (Or.inl ⟨by rfl, ?_⟩) ⟨(Pl.out.at (i := 0) rfl), (Pl.out.at (i := 1) rfl), (Pl.out.at (i := 2) rfl), (Pl.out.at (i := 3) rfl), PV.out.c0, PV.out.c1, Po.out.c0, Po.out.c1⟩ ?_
      · intro w hSw
        (try dsimp only at hSw)
        go_simp
      simp only [Act.put, List.setIfInBounds_toArray, List.set_cons_zero, List.set_cons_succ]
      refine wpAnyT_take (i := 8) (oi := { dst := some 92, op := Op.extract (Operand.tmp 84) 1, type := 28, pos := "outright.go:224", after := #[{ on := 6, ground := Ground.data }, { on := 10, ground := Ground.gcOnly Departure.lateStores }], guard := none }) (v := (.int .i64 0)) rfl (by kernel_rfl) (fun _ _ _ h => h) (Or.inl ⟨by rfl, ?_⟩) ⟨(Pl.out.at (i := 0) rfl), (Pl.out.at (i := 1) rfl), (Pl.out.at (i := 2) rfl), (Pl.out.at (i := 3) rfl), PV.out.c0, PV.out.c1, Po.out.c0, Po.out.c1⟩ ?_
      · intro w hSw
        (try dsimp only at hSw)
        go_simp
      simp only [Act.put, List.setIfInBounds_toArray, List.set_cons_zero, List.set_cons_succ]
      refine wpAnyT_one (i := 10) (o := { dst := none, op := Op.store 26 (Operand.tmp 13) (Operand.tmp 91), type := 0, pos := "outright.go:224", after := #[{ on := 9, ground := Ground.data }, { on := 7, ground := Ground.data }, { on := 5, ground := Ground.chain }, { on := 0, ground := Ground.phase }, { on := 1, ground := Ground.phase }, { on := 2, ground := Ground.phase }, { on := 3, ground := Ground.phase }, { on := 4, ground := Ground.phase }, { on := 5, ground := Ground.phase }, { on := 6, ground := Ground.phase }, { on := 7, ground := Ground.phase }, { on := 8, ground := Ground.textOnly Departure.lateStores }, { on := 9, ground := Ground.phase }], guard := none }) (by kernel_rfl) rfl (fun K hK => ?_)
      have cN130 := (PN13.out.at (i := 0) rfl)
      have cN131 := (PN13.out.at (i := 1) rfl)
      have cN132 := (PN13.out.at (i := 2) rfl)
      have cN133 := (PN13.out.at (i := 3) rfl)
      have fN130 := PN13.out.fz 0
      have fN131 := PN13.out.fz 1
      have fN132 := PN13.out.fz 2
      have fN133 := PN13.out.fz 3
      go_simp
      clear cN130 cN131 cN132 cN133 fN130 fN131 fN132 fN133
      obtain ⟨V48, hW⟩ : ∃ V48, (((w46.setCell ⟨w35.heap.size, 0, none⟩ (.bool nbn)).setCell ⟨w35.heap.size, 1, none⟩ (.slice adbn xbn.length qbn)).setCell ⟨w35.heap.size, 2, none⟩ (.bool nbd)).setCell ⟨w35.heap.size, 3, none⟩ (.slice adbd xbd.length qbd) = V48 := ⟨_, rfl⟩
      replace Zan := hid ((Zan.out).wk ((PN13.out).wk4 (.bool nbn) (.slice adbn xbn.length qbn) (.bool nbd) (.slice adbd xbd.length qbd)))
      replace Zad := hid ((Zad.out).wk ((PN13.out).wk4 (.bool nbn) (.slice adbn xbn.length qbn) (.bool nbd) (.slice adbd xbd.length qbd)))
      replace Zo := hid ((Zo.out).wk ((PN13.out).wk4 (.bool nbn) (.slice adbn xbn.length qbn) (.bool nbd) (.slice adbd xbd.length qbd)))
      replace Zln := hid ((Zln.out).put4f (PN13.out) (.bool nbn) (.slice adbn xbn.length qbn) (.bool nbd) (.slice adbd xbd.length qbd))
      replace Zld := hid ((Zld.out).put4f (PN13.out) (.bool nbn) (.slice adbn xbn.length qbn) (.bool nbd) (.slice adbd xbd.length qbd))
      replace Zn := hid ((Zn.out).put4f (PN13.out) (.bool nbn) (.slice adbn xbn.length qbn) (.bool nbd) (.slice adbd xbd.length qbd))
      replace Zd := hid ((Zd.out).put4f (PN13.out) (.bool nbn) (.slice adbn xbn.length qbn) (.bool nbd) (.slice adbd xbd.length qbd))
      replace Zv := hid ((Zv.out).put4f (PN13.out) (.bool nbn) (.slice adbn xbn.length qbn) (.bool nbd) (.slice adbd xbd.length qbd))
      replace Zs := hid ((Zs.out).put4f (PN13.out) (.bool nbn) (.slice adbn xbn.length qbn) (.bool nbd) (.slice adbd xbd.length qbd))
      replace Zt := hid ((Zt.out).put4f (PN13.out) (.bool nbn) (.slice adbn xbn.length qbn) (.bool nbd) (.slice adbd xbd.length qbd))
      replace Zm0r := hid ((Zm0r.out).put4f (PN13.out) (.bool nbn) (.slice adbn xbn.length qbn) (.bool nbd) (.slice adbd xbd.length qbd))
      replace Zbn := hid ((Zbn.out).put4f (PN13.out) (.bool nbn) (.slice adbn xbn.length qbn) (.bool nbd) (.slice adbd xbd.length qbd))
      replace Zbd := hid ((Zbd.out).put4f (PN13.out) (.bool nbn) (.slice adbn xbn.length qbn) (.bool nbd) (.slice adbd xbd.length qbd))
      replace Pa := hid ((Pa.out).away4 (b' := w35.heap.size) (by omega) (.bool nbn) (.slice adbn xbn.length qbn) (.bool nbd) (.slice adbd xbd.length qbd))
      replace Po := hid ((Po.out).away4 (b' := w35.heap.size) (by omega) (.bool nbn) (.slice adbn xbn.length qbn) (.bool nbd) (.slice adbd xbd.length qbd))
      replace Pl := hid ((Pl.out).away4 (b' := w35.heap.size) (by omega) (.bool nbn) (.slice adbn xbn.length qbn) (.bool nbd) (.slice adbd xbd.length qbd))
      replace PN := hid ((PN.out).away4 (b' := w35.heap.size) (by omega) (.bool nbn) (.slice adbn xbn.length qbn) (.bool nbd) (.slice adbd xbd.length qbd))
      replace PD := hid ((PD.out).away4 (b' := w35.heap.size) (by omega) (.bool nbn) (.slice adbn xbn.length qbn) (.bool nbd) (.slice adbd xbd.length qbd))
      replace PV := hid ((PV.out).away4 (b' := w35.heap.size) (by omega) (.bool nbn) (.slice adbn xbn.length qbn) (.bool nbd) (.slice adbd xbd.length qbd))
      replace PN13 := hid ((PN13.out).put4 (.bool nbn) (.slice adbn xbn.length qbn) (.bool nbd) (.slice adbd xbd.length qbd))
      replace G : Hid (Below w.heap.size w (((((w46.setCell ⟨w35.heap.size, 0, none⟩ (.bool nbn)).setCell ⟨w35.heap.size, 1, none⟩ (.slice adbn xbn.length qbn)).setCell ⟨w35.heap.size, 2, none⟩ (.bool nbd)).setCell ⟨w35.heap.size, 3, none⟩ (.slice adbd xbd.length qbd)))) := bset (bset (bset (bset (G.out) (by omega)) (by omega)) (by omega)) (by omega)
      have sz48 : V48.heap.size = w46.heap.size := by rw [← hW]; simp
      dsimp only [put4] at Zan Zad Zo Zln Zld Zn Zd Zv Zs Zt Zm0r Zbn Zbd Pa Po Pl PN PD PV PN13
      rw [hW] at Zan Zad Zo Zln Zld Zn Zd Zv Zs Zt Zm0r Zbn Zbd Pa Po Pl PN PD PV PN13 G
      rw [hW]
      clear hW
      refine hK.out _ _ (fun _ => ⟨(Pl.out.at (i := 0) rfl), (Pl.out.at (i := 1) rfl), (Pl.out.at (i := 2) rfl), (Pl.out.at (i := 3) rfl), PV.out.c0, PV.out.c1, Po.out.c0, Po.out.c1⟩) ?_
      clear hK
      try simp only [Act.put]
      refine wpAnyT_one (i := 11) (o := { dst := some 14, op := Op.assign (Operand.tmp 92), type := 28, pos := "outright.go:224", after := #[{ on := 8, ground := Ground.data }, { on := 10, ground := Ground.chain }, { on := 0, ground := Ground.phase }, { on := 1, ground := Ground.phase }, { on := 2, ground := Ground.phase }, { on := 3, ground := Ground.phase }, { on := 4, ground := Ground.phase }, { on := 5, ground := Ground.phase }, { on := 6, ground := Ground.phase }, { on := 7, ground := Ground.phase }, { on := 8, ground := Ground.phase }, { on := 9, ground := Ground.phase }, { on := 10, ground := Ground.phase }], guard := none }) (by kernel_rfl) rfl (fun K hK => ?_)
      go_simp
      refine hK.out _ _ (fun h => absurd h (by decide)) ?_
      clear hK
      try simp only [Act.put]
      refine wpAnyT_done (by kernel_rfl) ?_ _
      have cN130 := (PN13.out.at (i := 0) rfl)
      have cN131 := (PN13.out.at (i := 1) rfl)
      have cN132 := (PN13.out.at (i := 2) rfl)
      have cN133 := (PN13.out.at (i := 3) rfl)
      have cl0 := (Pl.out.at (i := 0) rfl)
      have cl1 := (Pl.out.at (i := 1) rfl)
      have cl2 := (Pl.out.at (i := 2) rfl)
      have cl3 := (Pl.out.at (i := 3) rfl)
      go_wp2_with fail
      clear cN130 cN131 cN132 cN133 cl0 cl1 cl2 cl3
      refine (like8q Zbn.out Zbd.out Zln.out Zld.out rfl).mono ?_
      rintro e w49 ⟨rfl, b⟩
      replace Zan := hid (Zan.out.now b)
      replace Zad := hid (Zad.out.now b)
      replace Zo := hid (Zo.out.now b)
      replace Zln := hid (Zln.out.now b)
      replace Zld := hid (Zld.out.now b)
      replace Zn := hid (Zn.out.now b)
      replace Zd := hid (Zd.out.now b)
      replace Zv := hid (Zv.out.now b)
      replace Zs := hid (Zs.out.now b)
      replace Zt := hid (Zt.out.now b)
      replace Zm0r := hid (Zm0r.out.now b)
      replace Zbn := hid (Zbn.out.now b)
      replace Zbd := hid (Zbd.out.now b)
      replace Pa := hid (Pa.out.step b)
      replace Po := hid (Po.out.step b)
      replace Pl := hid (Pl.out.step b)
      replace PN := hid (PN.out.step b)
      replace PD := hid (PD.out.step b)
      replace PV := hid (PV.out.step b)
      replace PN13 := hid (PN13.out.step b)
      replace G := hid (below_step G.out b)
      have lz50 := (show Below _ _ _ from b).size
      clear b 
      go_wp2
      go_ret
      exact ⟨rfl, G.out⟩
  · skip
    go_simp
    obtain ⟨V51, hW⟩ : ∃ V51, D33.alloc (.cells #[(.bool false), (.slice none 0 0), (.bool false), (.slice none 0 0)] 26) = V51 := ⟨_, rfl⟩
    obtain ⟨kW, sz51⟩ := alloc1 D33 (.cells #[(.bool false), (.slice none 0 0), (.bool false), (.slice none 0 0)] 26)
    rw [hW] at kW sz51
    replace sz51 : D33.heap.size < V51.heap.size := by omega
    replace Zan := hid (Zan.out.now kW)
    replace Zad := hid (Zad.out.now kW)
    replace Zo := hid (Zo.out.now kW)
    replace Zln := hid (Zln.out.now kW)
    replace Zld := hid (Zld.out.now kW)
    replace Zn := hid (Zn.out.now kW)
    replace Zd := hid (Zd.out.now kW)
    replace Zv := hid (Zv.out.now kW)
    replace Zs := hid (Zs.out.now kW)
    replace Zt := hid (Zt.out.now kW)
    replace Pa := hid (Pa.out.step kW)
    replace Po := hid (Po.out.step kW)
    replace Pl := hid (Pl.out.step kW)
    replace PN := hid (PN.out.step kW)
    replace PD := hid (PD.out.step kW)
    replace PV := hid (PV.out.step kW)
    replace G := hid (below_step G.out kW)
    have lz52 := (show Below _ _ _ from kW).size
    have PN13 : Hid (Cel V51 (D33.heap.size) 26 [(.bool false), (.slice none 0 0), (.bool false), (.slice none 0 0)]) := by unfold Hid; rw [← hW]; exact cel_at rfl
    rw [hW]
    clear hW kW
    refine hK.out _ _ (fun _ => ⟨(Pl.out.at (i := 0) rfl), (Pl.out.at (i := 1) rfl), (Pl.out.at (i := 2) rfl), (Pl.out.at (i := 3) rfl), PV.out.c0, PV.out.c1, Po.out.c0, Po.out.c1⟩) ?_
    clear hK
    try simp only [Act.put]
    refine wpAnyT_one (i := 3) (o := { dst := some 88, op := Op.call { callee := Callee.value (Operand.func 16), args := #[Operand.tmp 86, Operand.tmp 87], argTypes := #[24, 24] }, type := 24, pos := "outright.go:224", after := #[{ on := 1, ground := Ground.data }, { on := 2, ground := Ground.data }], guard := none }) (by kernel_rfl) rfl (fun K hK => ?_)
    go_simp
    go_at_call 16
    refine (mul_z Zln.out.zi Zv.out.zi (by decide)).mono ?_
    rintro e w53 ⟨r0, rfl, m0, b⟩
    obtain ⟨nm0r, xm0r, adm0r, qm0r, rfl, -, -, -, -, -⟩ := id m0
    replace Zan := hid (Zan.out.now b)
    replace Zad := hid (Zad.out.now b)
    replace Zo := hid (Zo.out.now b)
    replace Zln := hid (Zln.out.now b)
    replace Zld := hid (Zld.out.now b)
    replace Zn := hid (Zn.out.now b)
    replace Zd := hid (Zd.out.now b)
    replace Zv := hid (Zv.out.now b)
    replace Zs := hid (Zs.out.now b)
    replace Zt := hid (Zt.out.now b)
    replace Pa := hid (Pa.out.step b)
    replace Po := hid (Po.out.step b)
    replace Pl := hid (Pl.out.step b)
    replace PN := hid (PN.out.step b)
    replace PD := hid (PD.out.step b)
    replace PV := hid (PV.out.step b)
    replace PN13 := hid (PN13.out.step b)
    replace G := hid (below_step G.out b)
    have lz54 := (show Below _ _ _ from b).size
    have Zm0r := hid m0
    clear b m0
    refine hK.out _ _ (fun _ => ⟨(Pl.out.at (i := 0) rfl), (Pl.out.at (i := 1) rfl), (Pl.out.at (i := 2) rfl), (Pl.out.at (i := 3) rfl), PV.out.c0, PV.out.c1, Po.out.c0, Po.out.c1⟩) ?_
    clear hK
    refine wpAnyT_one (i := 5) (o := { dst := some 90, op := Op.call { callee := Callee.value (Operand.func 33), args := #[Operand.tmp 88, Operand.tmp 89], argTypes := #[24, 24] }, type := 29, pos := "outright.go:224", after := #[{ on := 3, ground := Ground.data }, { on := 4, ground := Ground.data }, { on := 3, ground := Ground.chain }], guard := none }) (by kernel_rfl) rfl (fun K hK => ?_)
    go_simp
    go_at_call 33
    refine (frec_z (k := 2097152) (Zm0r.out.zi.more (by decide)) (Zo.out.more (by decide)) (by decide) (by decide) OP.out N1.out D1.out HGc.out RS.out).mono ?_
    rintro e w55 ⟨r0, r1, r2, r3, rfl, m0, m1, b⟩
    obtain ⟨nbn, xbn, adbn, qbn, rfl, rfl⟩ := m0.zi.comp
    obtain ⟨nbd, xbd, adbd, qbd, rfl, rfl⟩ := m1.zi.comp
    replace Zan := hid (Zan.out.now b)
    replace Zad := hid (Zad.out.now b)
    replace Zo := hid (Zo.out.now b)
    replace Zln := hid (Zln.out.now b)
    replace Zld := hid (Zld.out.now b)
    replace Zn := hid (Zn.out.now b)
    replace Zd := hid (Zd.out.now b)
    replace Zv := hid (Zv.out.now b)
    replace Zs := hid (Zs.out.now b)
    replace Zt := hid (Zt.out.now b)
    replace Zm0r := hid (Zm0r.out.now b)
    replace Pa := hid (Pa.out.step b)
    replace Po := hid (Po.out.step b)
    replace Pl := hid (Pl.out.step b)
    replace PN := hid (PN.out.step b)
    replace PD := hid (PD.out.step b)
    replace PV := hid (PV.out.step b)
    replace PN13 := hid (PN13.out.step b)
    replace G := hid (below_step G.out b)
    have lz56 := (show Below _ _ _ from b).size
    have Zbn := hid m0
    have Zbd := hid m1
    clear b m0 m1
    refine hK.out _ _ (fun _ => ⟨(Pl.out.at (i := 0) rfl), (Pl.out.at (i := 1) rfl), (Pl.out.at (i := 2) rfl), (Pl.out.at (i := 3) rfl), PV.out.c0, PV.out.c1, Po.out.c0, Po.out.c1⟩) ?_
    clear hK
    refine wpAnyT_take (i := 6) (oi := { dst := some 84, op := Op.move (Operand.tmp 90), type := 29, pos := "outright.go:224", after := #[{ on := 5, ground := Ground.data }], guard := none }) (v := (.tuple #[(.agg #[.bool nbn, .slice adbn xbn.length qbn, .bool nbd, .slice adbd xbd.length qbd]), (.int .i64 0)])) rfl (by kernel_rfl) (fun _ _ _ h => h) (Or.inl ⟨by rfl, ?_⟩) ⟨(Pl.out.at (i := 0) rfl), (Pl.out.at (i := 1) rfl), (Pl.out.at (i := 2) rfl), (Pl.out.at (i := 3) rfl), PV.out.c0, PV.out.c1, Po.out.c0, Po.out.c1⟩ ?_
    · intro w hSw
      (try dsimp only at hSw)
      go_simp
    simp only [Act.put, List.setIfInBounds_toArray, List.set_cons_zero, List.set_cons_succ]
    refine wpAnyT_take (i := 7) (oi := { dst := some 91, op := Op.extract (Operand.tmp 84) 0, type := 26, pos := "outright.go:224", after := #[{ on := 6, ground := Ground.data }], guard := none }) (v := (.agg #[.bool nbn, .slice adbn xbn.length qbn, .bool nbd, .slice adbd xbd.length qbd])) rfl (by kernel_rfl) (fun _ _ _ h => h) (Or.inl ⟨by rfl, ?_⟩) ⟨(Pl.out.at (i := 0) rfl), (Pl.out.at (i := 1) rfl), (Pl.out.at (i := 2) rfl), (Pl.out.at (i := 3) rfl), PV.out.c0, PV.out.c1, Po.out.c0, Po.out.c1⟩ ?_
    · intro w hSw
      (try dsimp only at hSw)
      go_simp
    simp only [Act.put, List.setIfInBounds_toArray, List.set_cons_zero, List.set_cons_succ]
    refine wpAnyT_take (i := 8) (oi := { dst := some 92, op := Op.extract (Operand.tmp 84) 1, type := 28, pos := "outright.go:224", after := #[{ on := 6, ground := Ground.data }, { on := 10, ground := Ground.gcOnly Departure.lateStores }], guard := none }) (v := (.int .i64 0)) rfl (by kernel_rfl) (fun _ _ _ h => h) (Or.inl ⟨by rfl, ?_⟩) ⟨(Pl.out.at (i := 0) rfl), (Pl.out.at (i := 1) rfl), (Pl.out.at (i := 2) rfl), (Pl.out.at (i := 3) rfl), PV.out.c0, PV.out.c1, Po.out.c0, Po.out.c1⟩ ?_
    · intro w hSw
      (try dsimp only at hSw)
      go_simp
    simp only [Act.put, List.setIfInBounds_toArray, List.set_cons_zero, List.set_cons_succ]
    refine wpAnyT_one (i := 10) (o := { dst := none, op := Op.store 26 (Operand.tmp 13) (Operand.tmp 91), type := 0, pos := "outright.go:224", after := #[{ on := 9, ground := Ground.data }, { on := 7, ground := Ground.data }, { on := 5, ground := Ground.chain }, { on := 0, ground := Ground.phase }, { on := 1, ground := Ground.phase }, { on := 2, ground := Ground.phase }, { on := 3, ground := Ground.phase }, { on := 4, ground := Ground.phase }, { on := 5, ground := Ground.phase }, { on := 6, ground := Ground.phase }, { on := 7, ground := Ground.phase }, { on := 8, ground := Ground.textOnly Departure.lateStores }, { on := 9, ground := Ground.phase }], guard := none }) (by kernel_rfl) rfl (fun K hK => ?_)
    have cN130 := (PN13.out.at (i := 0) rfl)
    have cN131 := (PN13.out.at (i := 1) rfl)
    have cN132 := (PN13.out.at (i := 2) rfl)
    have cN133 := (PN13.out.at (i := 3) rfl)
    have fN130 := PN13.out.fz 0
    have fN131 := PN13.out.fz 1
    have fN132 := PN13.out.fz 2
    have fN133 := PN13.out.fz 3
    go_simp
    clear cN130 cN131 cN132 cN133 fN130 fN131 fN132 fN133
    obtain ⟨V57, hW⟩ : ∃ V57, (((w55.setCell ⟨D33.heap.size, 0, none⟩ (.bool nbn)).setCell ⟨D33.heap.size, 1, none⟩ (.slice adbn xbn.length qbn)).setCell ⟨D33.heap.size, 2, none⟩ (.bool nbd)).setCell ⟨D33.heap.size, 3, none⟩ (.slice adbd xbd.length qbd) = V57 := ⟨_, rfl⟩
    replace Zan := hid ((Zan.out).wk ((PN13.out).wk4 (.bool nbn) (.slice adbn xbn.length qbn) (.bool nbd) (.slice adbd xbd.length qbd)))
    replace Zad := hid ((Zad.out).wk ((PN13.out).wk4 (.bool nbn) (.slice adbn xbn.length qbn) (.bool nbd) (.slice adbd xbd.length qbd)))
    replace Zo := hid ((Zo.out).wk ((PN13.out).wk4 (.bool nbn) (.slice adbn xbn.length qbn) (.bool nbd) (.slice adbd xbd.length qbd)))
    replace Zln := hid ((Zln.out).put4f (PN13.out) (.bool nbn) (.slice adbn xbn.length qbn) (.bool nbd) (.slice adbd xbd.length qbd))
    replace Zld := hid ((Zld.out).put4f (PN13.out) (.bool nbn) (.slice adbn xbn.length qbn) (.bool nbd) (.slice adbd xbd.length qbd))
    replace Zn := hid ((Zn.out).put4f (PN13.out) (.bool nbn) (.slice adbn xbn.length qbn) (.bool nbd) (.slice adbd xbd.length qbd))
    replace Zd := hid ((Zd.out).put4f (PN13.out) (.bool nbn) (.slice adbn xbn.length qbn) (.bool nbd) (.slice adbd xbd.length qbd))
    replace Zv := hid ((Zv.out).put4f (PN13.out) (.bool nbn) (.slice adbn xbn.length qbn) (.bool nbd) (.slice adbd xbd.length qbd))
    replace Zs := hid ((Zs.out).put4f (PN13.out) (.bool nbn) (.slice adbn xbn.length qbn) (.bool nbd) (.slice adbd xbd.length qbd))
    replace Zt := hid ((Zt.out).put4f (PN13.out) (.bool nbn) (.slice adbn xbn.length qbn) (.bool nbd) (.slice adbd xbd.length qbd))
    replace Zm0r := hid ((Zm0r.out).put4f (PN13.out) (.bool nbn) (.slice adbn xbn.length qbn) (.bool nbd) (.slice adbd xbd.length qbd))
    replace Zbn := hid ((Zbn.out).put4f (PN13.out) (.bool nbn) (.slice adbn xbn.length qbn) (.bool nbd) (.slice adbd xbd.length qbd))
    replace Zbd := hid ((Zbd.out).put4f (PN13.out) (.bool nbn) (.slice adbn xbn.length qbn) (.bool nbd) (.slice adbd xbd.length qbd))
    replace Pa := hid ((Pa.out).away4 (b' := D33.heap.size) (by omega) (.bool nbn) (.slice adbn xbn.length qbn) (.bool nbd) (.slice adbd xbd.length qbd))
    replace Po := hid ((Po.out).away4 (b' := D33.heap.size) (by omega) (.bool nbn) (.slice adbn xbn.length qbn) (.bool nbd) (.slice adbd xbd.length qbd))
    replace Pl := hid ((Pl.out).away4 (b' := D33.heap.size) (by omega) (.bool nbn) (.slice adbn xbn.length qbn) (.bool nbd) (.slice adbd xbd.length qbd))
    replace PN := hid ((PN.out).away4 (b' := D33.heap.size) (by omega) (.bool nbn) (.slice adbn xbn.length qbn) (.bool nbd) (.slice adbd xbd.length qbd))
    replace PD := hid ((PD.out).away4 (b' := D33.heap.size) (by omega) (.bool nbn) (.slice adbn xbn.length qbn) (.bool nbd) (.slice adbd xbd.length qbd))
    replace PV := hid ((PV.out).away4 (b' := D33.heap.size) (by omega) (.bool nbn) (.slice adbn xbn.length qbn) (.bool nbd) (.slice adbd xbd.length qbd))
    replace PN13 := hid ((PN13.out).put4 (.bool nbn) (.slice adbn xbn.length qbn) (.bool nbd) (.slice adbd xbd.length qbd))
    replace G : Hid (Below w.heap.size w (((((w55.setCell ⟨D33.heap.size, 0, none⟩ (.bool nbn)).setCell ⟨D33.heap.size, 1, none⟩ (.slice adbn xbn.length qbn)).setCell ⟨D33.heap.size, 2, none⟩ (.bool nbd)).setCell ⟨D33.heap.size, 3, none⟩ (.slice adbd xbd.length qbd)))) := bset (bset (bset (bset (G.out) (by omega)) (by omega)) (by omega)) (by omega)
    have sz57 : V57.heap.size = w55.heap.size := by rw [← hW]; simp
    dsimp only [put4] at Zan Zad Zo Zln Zld Zn Zd Zv Zs Zt Zm0r Zbn Zbd Pa Po Pl PN PD PV PN13
    rw [hW] at Zan Zad Zo Zln Zld Zn Zd Zv Zs Zt Zm0r Zbn Zbd Pa Po Pl PN PD PV PN13 G
    rw [hW]
    clear hW
    refine hK.out _ _ (fun _ => ⟨(Pl.out.at (i := 0) rfl), (Pl.out.at (i := 1) rfl), (Pl.out.at (i := 2) rfl), (Pl.out.at (i := 3) rfl), PV.out.c0, PV.out.c1, Po.out.c0, Po.out.c1⟩) ?_
    clear hK
    try simp only [Act.put]
    refine wpAnyT_one (i := 11) (o := { dst := some 14, op := Op.assign (Operand.tmp 92), type := 28, pos := "outright.go:224", after := #[{ on := 8, ground := Ground.data }, { on := 10, ground := Ground.chain }, { on := 0, ground := Ground.phase }, { on := 1, ground := Ground.phase }, { on := 2, ground := Ground.phase }, { on := 3, ground := Ground.phase }, { on := 4, ground := Ground.phase }, { on := 5, ground := Ground.phase }, { on := 6, ground := Ground.phase }, { on := 7, ground := Ground.phase }, { on := 8, ground := Ground.phase }, { on := 9, ground := Ground.phase }, { on := 10, ground := Ground.phase }], guard := none }) (by kernel_rfl) rfl (fun K hK => ?_)
    go_simp
    refine hK.out _ _ (fun h => absurd h (by decide)) ?_
    clear hK
    try simp only [Act.put]
    refine wpAnyT_done (by kernel_rfl) ?_ _
    have cN130 := (PN13.out.at (i := 0) rfl)
    have cN131 := (PN13.out.at (i := 1) rfl)
    have cN132 := (PN13.out.at (i := 2) rfl)
    have cN133 := (PN13.out.at (i := 3) rfl)
    have cl0 := (Pl.out.at (i := 0) rfl)
    have cl1 := (Pl.out.at (i := 1) rfl)
    have cl2 := (Pl.out.at (i := 2) rfl)
    have cl3 := (Pl.out.at (i := 3) rfl)
    go_wp2_with fail
    clear cN130 cN131 cN132 cN133 cl0 cl1 cl2 cl3
    refine (like8q Zbn.out Zbd.out Zln.out Zld.out rfl).mono ?_
    rintro e w58 ⟨rfl, b⟩
    replace Zan := hid (Zan.out.now b)
    replace Zad := hid (Zad.out.now b)
    replace Zo := hid (Zo.out.now b)
    replace Zln := hid (Zln.out.now b)
    replace Zld := hid (Zld.out.now b)
    replace Zn := hid (Zn.out.now b)
    replace Zd := hid (Zd.out.now b)
    replace Zv := hid (Zv.out.now b)
    replace Zs := hid (Zs.out.now b)
    replace Zt := hid (Zt.out.now b)
    replace Zm0r := hid (Zm0r.out.now b)
    replace Zbn := hid (Zbn.out.now b)
    replace Zbd := hid (Zbd.out.now b)
    replace Pa := hid (Pa.out.step b)
    replace Po := hid (Po.out.step b)
    replace Pl := hid (Pl.out.step b)
    replace PN := hid (PN.out.step b)
    replace PD := hid (PD.out.step b)
    replace PV := hid (PV.out.step b)
    replace PN13 := hid (PN13.out.step b)
    replace G := hid (below_step G.out b)
    have lz59 := (show Below _ _ _ from b).size
    clear b 
    go_wp2
    go_ret
    exact ⟨rfl, G.out⟩

theorem fracReturns_any {w : World} {a0 a1 a2 a3 vo : Value} {AN AD O : Int} (han : Zi w (.agg #[a0, a1]) AN 1048576) (had : Zi w (.agg #[a2, a3]) AD 1048576) (ho : Zi w vo O 1048576) :
    Calls Try.prog 7 #[.agg #[a0, a1, a2, a3], vo] w fun e w' => e = .returned (.bool true) ∧ Below w.heap.size w w' := by
  by_cases hD : AD = 0
  · exact returns_zero han had ho hD
  by_cases h2 : O ≤ ((Rat.divInt AN AD).num * (Rat.divInt AN AD).num + (Rat.divInt AN AD).num * (Rat.divInt AN AD).num)
  · exact returns_c1 han had ho hD h2
  by_cases h3 : O ≤ (((Rat.divInt AN AD).den : Int) * ((Rat.divInt AN AD).den : Int) + ((Rat.divInt AN AD).den : Int) * ((Rat.divInt AN AD).den : Int))
  · exact returns_c2 han had ho hD h2 h3
  by_cases hg : (Int.gcd ((Rat.divInt AN AD).den : Int) O : Int) = 1
  · exact returns_all han had ho hD h2 h3 hg
  · exact returns_c3 han had ho hD h2 h3 hg
end Go.Proofs.Ytaoammmnpfbdfaa
