/-
 Dp16: the walk of WholeDetProduct.
-/
import Derived.Test.YtnpcfohimlfbdaaGreatQTop16ToWake16
import Derived.Test.YtnpcfohimlfbdaaGreatQSgn16ToOpenSt11
import Derived.Test.YtnpcfohimlfbdaaGreatQGr16ToTurnP9
import Derived.Test.YtnpcfohimlfbdaaGreatQUnit9ToWk9
import Derived.Test.YtnpcfohimlfbdaaGreatQTailLToCpy16
import Derived.Deep.Cut
set_option maxRecDepth 100000
set_option maxHeartbeats 6400000
set_option linter.unusedVariables false
set_option linter.unusedSimpArgs false
namespace Go.Proofs.YtnpcfohimlfbdaaGreat
open Go.RowKit

theorem det_turned {n : Nat} {zs : List Int} : det n (en n (turnL9 n n zs)) = det n (en n zs) := by
 rw [← det_turn n (en n zs)]
 exact det_congr fun i j hi hj => turn_at hj hi
theorem sumN_su : ∀ (m : Nat) (f : Nat → Int), sumN m f = su m f
 | 0, f => rfl
 | m + 1, f => by
  have := sumN_su m f
  simp only [su]
  rw [← this]
  exact sumN_succ m f
theorem det_prod {n : Nat} {xs ys : List Int} (hx : xs.length = n * n) : det n (en n (prodL n n n xs ys)) = det n (en n xs) * det n (en n ys) := by
 rw [← det_mul]
 exact det_congr fun i j hi hj => by
  show (prodL n n n xs ys).getD (i * n + j) 0 = su n _
  rw [prod_at hx hi hj, sumN_su]
  rfl
theorem sts_fit {rs : List Rs} {n : Nat} (h : ∀ s ∈ rs, s.fit n) : ∀ s ∈ sts rs, s.fit n := by
 intro s hs
 simp only [sts, List.mem_map] at hs
 obtain ⟨x, hx, rfl⟩ := hs
 exact Rs.st_fit (h x hx)
def Signed12 (w : World) (n : Nat) (rs : List Rs) (e : Ending) (w' : World) : Prop :=
 ∃ s E, e = .returned (.tuple #[.int .i64 s, .int .i64 E]) ∧ (((∀ s ∈ rs, s.fit n) ∧ s = sgns (sts rs) ∧ E = 0) ∨ E = 3) ∧ Below w.heap.size w w'
theorem sign12 {w : World} {sv : Value} {n l : Nat} {rs : List Rs} (hs : Raws w sv rs l) (hn : n ≤ 64) : Calls Tryz.prog 11 #[.int .i64 (n : Int), sv] w (Signed12 w n rs) :=
 (sign_any hs hn).mono fun e w' ⟨h, b⟩ => by
  rcases h with ⟨h1, rfl⟩ | ⟨_, rfl⟩
  ·exact ⟨_, _, rfl, .inl ⟨h1, rfl, rfl⟩, b⟩
  ·exact ⟨_, _, rfl, .inr rfl, b⟩
/-- Where the other one is square too, there is a product. -/
def MulF (w : World) (n : Nat) (rb cb : Int) (lb : Nat) (zs : List Int) (x0 x1 E : Int) (ap : Option Addr) (lp qp : Nat) : Prop :=
 Snd rb cb lb → rb = (n : Int) → cb = (n : Int) → E = 0 ∧ x0 = (n : Int) ∧ x1 = (n : Int) ∧ Mx w (.agg #[.int .i64 x0, .int .i64 x1, .slice ap lp qp]) n n zs 2097216
theorem MulF.now {w w' : World} {n lb lp qp : Nat} {rb cb x0 x1 E : Int} {zs : List Int} {ap : Option Addr} (h : MulF w n rb cb lb zs x0 x1 E ap lp qp) (b : Below w.heap.size w w') : MulF w' n rb cb lb zs x0 x1 E ap lp qp := fun h1 h2 h3 =>
 let q := h h1 h2 h3
 ⟨q.1, q.2.1, q.2.2.1, q.2.2.2.now b⟩
/-- What Mul answers of a square matrix and another one, sound or not. -/
def MulB (w : World) (n : Nat) (rb cb : Int) (lb : Nat) (zs : List Int) (e : Ending) (w' : World) : Prop :=
 ∃ x0 x1 ap lp qp E, e = .returned (.tuple #[.agg #[.int .i64 x0, .int .i64 x1, .slice ap lp qp], .int .i64 E]) ∧ MulF w' n rb cb lb zs x0 x1 E ap lp qp ∧ Below w.heap.size w w'
theorem Mx.more16 {w : World} {v : Value} {r c : Nat} {zs : List Int} {k l : Nat} (h : Mx w v r c zs k) (hl : k ≤ l) : Mx w v r c zs l := by
 obtain ⟨a, ps, h1, h2, h3, h4⟩ := h
 exact ⟨a, ps, h1, h2, h3.more hl, h4⟩
theorem mulB_any {w : World} {va : Value} {r : Nat} {ab : Option Addr} {rb cb : Int} {lb qb : Nat} {xs ys : List Int} (ha : Mx w va r r xs 1048576) (hb : Raw w (.agg #[.int .i64 rb, .int .i64 cb, .slice ab lb qb]) rb cb lb ys) :
  Calls Tryz.prog 15 #[va, .agg #[.int .i64 rb, .int .i64 cb, .slice ab lb qb]] w (MulB w r rb cb lb (prodL r r r xs ys)) := by
 have hr : r ≤ 64 := by obtain ⟨_, _, _, _, _, _, h, _⟩ := ha; exact h
 by_cases hs : Snd rb cb lb
 ·obtain ⟨r2, c2, rfl, rfl⟩ := snd13 hs
  obtain ⟨mb, -⟩ := hb.mx13 hs
  by_cases h1 : r = r2
  ·subst h1
   refine (mul_yes ha mb (by omega)).mono ?_
   rintro e w' ⟨v, rfl, m, b⟩
   obtain ⟨a, q, rfl, -, -⟩ := m.mx.form
   exact ⟨_, _, a, r * c2, q, 0, rfl, fun _ _ h3 => by
    obtain rfl : c2 = r := by omega
    exact ⟨rfl, rfl, rfl, m.mx.more16 (by omega)⟩, b⟩
  ·refine (mul_no ha mb h1).mono ?_
   rintro e w' ⟨rfl, b⟩
   exact ⟨_, _, _, _, _, _, rfl, fun _ h2 _ => absurd (show r = r2 by omega) h1, b⟩
 ·refine (mul_un ha hs).mono ?_
  rintro e w' ⟨rfl, b⟩
  exact ⟨_, _, _, _, _, _, rfl, fun h => absurd h hs, b⟩
/-- The same in a box, made anywhere in a statement. -/
def MbM (W wx : World) (s1 s2 : Value) (n : Nat) (rb cb : Int) (lb : Nat) (zs : List Int) : Prop :=
 ∃ bk x0 x1 ap lp qp E, s1 = .pointer (some ⟨bk, 0, none⟩) ∧ s2 = .int .i64 E ∧ Below W.heap.size W wx ∧ Cel wx bk 24 [.int .i64 x0, .int .i64 x1, .slice ap lp qp] ∧ MulF wx n rb cb lb zs x0 x1 E ap lp qp
theorem mbm_put {W w : World} {bk n lp qp lb : Nat} {x0 x1 E rb cb : Int} {ap : Option Addr} {zs : List Int} (d : Cel w bk 24 [.int .i64 0, .int .i64 0, .slice none 0 0])
  (m : MulF w n rb cb lb zs x0 x1 E ap lp qp) (hb : Below W.heap.size W w) (hs : W.heap.size ≤ bk) :
  MbM W (((w.setCell ⟨bk, 0, none⟩ (.int .i64 x0)).setCell ⟨bk, 1, none⟩ (.int .i64 x1)).setCell ⟨bk, 2, none⟩ (.slice ap lp qp)) (.pointer (some ⟨bk, 0, none⟩)) (.int .i64 E) n rb cb lb zs := by
 have d1 := d.set 0 (.int .i64 x0)
 have d2 := d1.set 1 (.int .i64 x1)
 have d3 := d2.set 2 (.slice ap lp qp)
 exact ⟨bk, x0, x1, ap, lp, qp, E, rfl, rfl, bset (bset (bset hb hs) hs) hs, d3, fun h1 h2 h3 => by
  obtain ⟨e1, e2, e3, h⟩ := m h1 h2 h3
  exact ⟨e1, e2, e3, ((h.off13 d mats13).off13 d1 mats13).off13 d2 mats13⟩⟩
theorem wholeDetProduct_any {w : World} {va vb sv : Value} {ra ca rb cb : Int} {la lb : Nat} {xs ys : List Int} {rs : List Rs} (ha : Raw w va ra ca la xs) (hb : Raw w vb rb cb lb ys) (hs : Raws w sv rs 1048576) (hgr : grw rs ≤ pw 1048576) :
  Calls Tryz.prog 3 #[va, vb, sv] w (Tru w) := by
 have RA := hid ha
 have RB := hid hb
 have RS := hid hs
 obtain ⟨aa, qa, -, rfl, -, -, -, hla⟩ := ha
 obtain ⟨ab, qb, -, rfl, -, -, -, hlb⟩ := hb
 obtain ⟨asv, csv, rfl, hsl, -⟩ := hs.form
 have HGR := hid hgr
 have HKB : Hid (1048576 + rs.length * (1048576 + 1) < 35184372088832) := by
  have := Nat.mul_le_mul_right (1048576 + 1) hsl
  unfold Hid
  omega
 obtain ⟨Ln, hLn⟩ : ∃ Ln, rs.length = Ln := ⟨_, rfl⟩
 rw [hLn] at RS hsl ⊢
 have HLA := hid hla
 have HLB := hid hlb
 obtain ⟨W0, hV⟩ : ∃ W0, (w.alloc (.cells #[.int .i64 ra, .int .i64 ca, .slice aa la qa] 24)).alloc (.cells #[.int .i64 rb, .int .i64 cb, .slice ab lb qb] 24) = W0 := ⟨_, rfl⟩
 obtain ⟨b0, sz0⟩ := alloc2 w (.cells #[.int .i64 ra, .int .i64 ca, .slice aa la qa] 24) (.cells #[.int .i64 rb, .int .i64 cb, .slice ab lb qb] 24)
 rw [hV] at b0 sz0
 have PA : Hid (Cel W0 w.heap.size 24 [.int .i64 ra, .int .i64 ca, .slice aa la qa]) := by
  unfold Hid; rw [← hV]
  exact (Cel.new w 24 [.int .i64 ra, .int .i64 ca, .slice aa la qa]).step ((Below.refl _ _).alloc (Nat.le_refl _) _)
 have PB : Hid (Cel W0 (w.heap.size + 1) 24 [.int .i64 rb, .int .i64 cb, .slice ab lb qb]) := by
  unfold Hid; rw [← hV]
  have := Cel.new (w.alloc (.cells #[.int .i64 ra, .int .i64 ca, .slice aa la qa] 24)) 24 [.int .i64 rb, .int .i64 cb, .slice ab lb qb]
  simpa using this
 replace RA := hid (RA.out.now b0)
 replace RB := hid (RB.out.now b0)
 replace RS := hid (RS.out.now b0)
 have G := hid b0
 clear b0 sz0 hs hgr hLn hla hlb
 have EV := hid hV
 clear hV
 go_enter Tryz.func3, Tryz.ntmps3
 go_wp2_with fail
 rw [EV.out]
 clear EV
 refine (detWakes16 _).mono ?_
 rintro e w1 ⟨rfl, b⟩
 replace PA := hid (PA.out.step b)
 replace PB := hid (PB.out.step b)
 replace RA := hid (RA.out.now b)
 replace RB := hid (RB.out.now b)
 replace RS := hid (RS.out.now b)
 replace G := hid (below_step G.out b)
 clear b
 have cA0 := PA.out.at (i := 0) rfl
 have cA1 := PA.out.at (i := 1) rfl
 have cA2 := PA.out.at (i := 2) rfl
 go_wp2_with fail
 clear cA0 cA1 cA2
 refine (copyMat_any RA.out).mono ?_
 rintro e w2 ⟨a1, q1, rfl, m, b⟩
 replace PA := hid (PA.out.step b)
 replace PB := hid (PB.out.step b)
 replace RA := hid (RA.out.now b)
 replace RB := hid (RB.out.now b)
 replace RS := hid (RS.out.now b)
 replace G := hid (below_step G.out b)
 have R1 := hid m
 clear m
 clear b
 go_wp2_with fail
 by_cases hsa : Snd ra ca la
 ·obtain ⟨r, c, rfl, rfl⟩ := snd13 hsa
  obtain ⟨ma, -⟩ := R1.out.mx13 hsa
  have ES : Hid (decide (Snd (r : Int) (c : Int) la) = true) := decide_eq_true hsa
  have HSA := hid hsa
  have hr64 : r ≤ 64 := by obtain ⟨_, _, _, _, _, _, h, _⟩ := ma; exact h
  clear hsa
  by_cases hrc : r = c
  ·subst hrc
   have HXL : Hid (xs.length = r * r) := by obtain ⟨_, _, _, _, _, h, _⟩ := ma; exact h
   have MA := hid ma
   clear ma
   clear R1
   refine (det_sq MA.out (by decide)).mono ?_
   rintro e w3 ⟨rq, rfl, m, b⟩
   replace PA := hid (PA.out.step b)
   replace PB := hid (PB.out.step b)
   replace RA := hid (RA.out.now b)
   replace RB := hid (RB.out.now b)
   replace RS := hid (RS.out.now b)
   replace MA := hid (MA.out.now b)
   replace G := hid (below_step G.out b)
   obtain ⟨nd, xd, ad, cd, rfl⟩ := m.parts
   obtain ⟨ld, hld⟩ : ∃ ld, xd.length = ld := ⟨_, rfl⟩
   rw [hld] at m ⊢
   have Zd := hid (m.mono (Nat.zero_le _))
   clear m hld
   clear b
   obtain ⟨V4, hV⟩ : ∃ V4, w3.alloc (duo (.bool nd) (.slice ad ld cd)) = V4 := ⟨_, rfl⟩
   obtain ⟨b, sz4⟩ := alo1 w3 (duo (.bool nd) (.slice ad ld cd))
   rw [hV] at b sz4
   replace PA := hid (PA.out.step b)
   replace PB := hid (PB.out.step b)
   replace RA := hid (RA.out.now b)
   replace RB := hid (RB.out.now b)
   replace RS := hid (RS.out.now b)
   replace MA := hid (MA.out.now b)
   replace Zd := hid (Zd.out.now b)
   replace G := hid (below_step G.out b)
   clear b sz4
   have Dd : Hid (Duo V4 w3.heap.size (.bool nd) (.slice ad ld cd)) := by unfold Hid; rw [← hV]; exact Duo.new w3 _ _
   obtain ⟨dA, hdA⟩ : ∃ dA, det r (en r xs) = dA := ⟨_, rfl⟩
   rw [hdA] at Zd
   have EDA := hid hdA
   clear hdA
   clear MA
   have cA0 := PA.out.at (i := 0) rfl
   have cA1 := PA.out.at (i := 1) rfl
   have cA2 := PA.out.at (i := 2) rfl
   rw [← hV] at cA0 cA1 cA2
   have EV : Hid (w3.alloc (duo (.bool nd) (.slice ad ld cd)) = V4) := hV
   clear hV
   go_wp2_with fail
   rw [EV.out]
   clear EV
   clear cA0 cA1 cA2
   refine (tsound_any HLA.out).mono ?_
   rintro e w5 ⟨rfl, b⟩
   replace PA := hid (PA.out.step b)
   replace PB := hid (PB.out.step b)
   replace RA := hid (RA.out.now b)
   replace RB := hid (RB.out.now b)
   replace RS := hid (RS.out.now b)
   replace Zd := hid (Zd.out.now b)
   replace Dd := hid (Dd.out.step b)
   replace G := hid (below_step G.out b)
   clear b
   rw [ES.out]
   have hrr : ((r : Int) != (r : Int)) = false := by simp
   have cA0 := PA.out.at (i := 0) rfl
   have cA1 := PA.out.at (i := 1) rfl
   have cA2 := PA.out.at (i := 2) rfl
   go_wp2_with fail
   clear cA0 cA1 cA2
   refine (copyMat_any RA.out).mono ?_
   rintro e w6 ⟨a2, q2, rfl, m, b⟩
   replace PA := hid (PA.out.step b)
   replace PB := hid (PB.out.step b)
   replace RA := hid (RA.out.now b)
   replace RB := hid (RB.out.now b)
   replace RS := hid (RS.out.now b)
   replace Zd := hid (Zd.out.now b)
   replace Dd := hid (Dd.out.step b)
   replace G := hid (below_step G.out b)
   have R2 := hid m
   clear m
   clear b
   go_wp2_with fail
   obtain ⟨m2, -⟩ := R2.out.mx13 HSA.out
   refine (turn_yes m2).mono ?_
   rintro e w7 ⟨vt, rfl, mt, b⟩
   replace PA := hid (PA.out.step b)
   replace PB := hid (PB.out.step b)
   replace RA := hid (RA.out.now b)
   replace RB := hid (RB.out.now b)
   replace RS := hid (RS.out.now b)
   replace Zd := hid (Zd.out.now b)
   replace Dd := hid (Dd.out.step b)
   replace R2 := hid (R2.out.now b)
   replace G := hid (below_step G.out b)
   obtain ⟨at1, qt, rfl, -, -⟩ := mt.mx.form
   have MT := hid mt.mx
   clear mt m2
   clear b
   clear R2
   obtain ⟨lt1, hlt⟩ : ∃ lt1, r * r = lt1 := ⟨_, rfl⟩
   rw [hlt] at MT ⊢
   clear hlt
   obtain ⟨V8, hV⟩ : ∃ V8, w7.alloc (.cells #[.int .i64 ((r : Int)), .int .i64 ((r : Int)), .slice at1 lt1 qt] 24) = V8 := ⟨_, rfl⟩
   obtain ⟨b, sz8⟩ := alo1 w7 (.cells #[.int .i64 ((r : Int)), .int .i64 ((r : Int)), .slice at1 lt1 qt] 24)
   rw [hV] at b sz8
   replace PA := hid (PA.out.step b)
   replace PB := hid (PB.out.step b)
   replace RA := hid (RA.out.now b)
   replace RB := hid (RB.out.now b)
   replace RS := hid (RS.out.now b)
   replace Zd := hid (Zd.out.now b)
   replace Dd := hid (Dd.out.step b)
   replace MT := hid (MT.out.now b)
   replace G := hid (below_step G.out b)
   clear b sz8
   have PT : Hid (Cel V8 w7.heap.size 24 [.int .i64 ((r : Int)), .int .i64 ((r : Int)), .slice at1 lt1 qt]) := by unfold Hid; rw [← hV]; exact Cel.new w7 _ _
   have cT0 := PT.out.at (i := 0) rfl
   have cT1 := PT.out.at (i := 1) rfl
   have cT2 := PT.out.at (i := 2) rfl
   rw [← hV] at cT0 cT1 cT2
   have EV : Hid (w7.alloc (.cells #[.int .i64 ((r : Int)), .int .i64 ((r : Int)), .slice at1 lt1 qt] 24) = V8) := hV
   clear hV
   go_wp2_with fail
   rw [EV.out]
   clear EV
   clear cT0 cT1 cT2
   refine (det_sq MT.out (by decide)).mono ?_
   rintro e w9 ⟨rq, rfl, m, b⟩
   replace PA := hid (PA.out.step b)
   replace PB := hid (PB.out.step b)
   replace RA := hid (RA.out.now b)
   replace RB := hid (RB.out.now b)
   replace RS := hid (RS.out.now b)
   replace Zd := hid (Zd.out.now b)
   replace Dd := hid (Dd.out.step b)
   replace MT := hid (MT.out.now b)
   replace PT := hid (PT.out.step b)
   replace G := hid (below_step G.out b)
   obtain ⟨nu, xu, au, cu, rfl⟩ := m.parts
   obtain ⟨lu, hlu⟩ : ∃ lu, xu.length = lu := ⟨_, rfl⟩
   rw [hlu] at m ⊢
   have Zu := hid (m.mono (Nat.zero_le _))
   clear m hlu
   clear b
   obtain ⟨V10, hV⟩ : ∃ V10, w9.alloc (duo (.bool nu) (.slice au lu cu)) = V10 := ⟨_, rfl⟩
   obtain ⟨b, sz10⟩ := alo1 w9 (duo (.bool nu) (.slice au lu cu))
   rw [hV] at b sz10
   replace PA := hid (PA.out.step b)
   replace PB := hid (PB.out.step b)
   replace RA := hid (RA.out.now b)
   replace RB := hid (RB.out.now b)
   replace RS := hid (RS.out.now b)
   replace Zd := hid (Zd.out.now b)
   replace Dd := hid (Dd.out.step b)
   replace MT := hid (MT.out.now b)
   replace PT := hid (PT.out.step b)
   replace Zu := hid (Zu.out.now b)
   replace G := hid (below_step G.out b)
   clear b sz10
   have Du : Hid (Duo V10 w9.heap.size (.bool nu) (.slice au lu cu)) := by unfold Hid; rw [← hV]; exact Duo.new w9 _ _
   have ETD : Hid (det r (en r (turnL9 r r xs)) = dA) := by unfold Hid; rw [det_turned, EDA.out]
   rw [ETD.out] at Zu
   clear ETD
   have cd0 := Dd.out.c0
   have cd1 := Dd.out.c1
   have cu0 := Du.out.c0
   have cu1 := Du.out.c1
   rw [← hV] at cd0 cd1 cu0 cu1
   have EV : Hid (w9.alloc (duo (.bool nu) (.slice au lu cu)) = V10) := hV
   clear hV
   go_wp2_with fail
   rw [EV.out]
   clear EV
   clear cd0 cd1 cu0 cu1
   refine (sameInt_yes Zd.out.zc Zu.out.zc rfl).mono ?_
   rintro e w11 ⟨rfl, b⟩
   replace PA := hid (PA.out.step b)
   replace PB := hid (PB.out.step b)
   replace RA := hid (RA.out.now b)
   replace RB := hid (RB.out.now b)
   replace RS := hid (RS.out.now b)
   replace Zd := hid (Zd.out.now b)
   replace Dd := hid (Dd.out.step b)
   replace MT := hid (MT.out.now b)
   replace PT := hid (PT.out.step b)
   replace Zu := hid (Zu.out.now b)
   replace Du := hid (Du.out.step b)
   replace G := hid (below_step G.out b)
   clear b
   clear PT
   clear Du
   clear Zu
   clear MT
   have cA0 := PA.out.at (i := 0) rfl
   have cA1 := PA.out.at (i := 1) rfl
   have cA2 := PA.out.at (i := 2) rfl
   go_wp2_with fail
   clear cA0 cA1 cA2
   refine (sign12 RS.out hr64).mono ?_
   rintro e w12 ⟨sg, E, rfl, hsg, b⟩
   replace PA := hid (PA.out.step b)
   replace PB := hid (PB.out.step b)
   replace RA := hid (RA.out.now b)
   replace RB := hid (RB.out.now b)
   replace RS := hid (RS.out.now b)
   replace Zd := hid (Zd.out.now b)
   replace Dd := hid (Dd.out.step b)
   replace G := hid (below_step G.out b)
   have HSG := hid hsg
   clear hsg
   clear b
   go_upto_if 80 with fail
   go_cut [8] from 21 (fun s8 wx => Below w12.heap.size w12 wx)
   case first =>
    rcases HSG.out with ⟨hfit, hsg, hE⟩ | hE
    ·have HF := hid hfit
     have hq : (E == 0) = true := by rw [hE]; rfl
     subst hsg
     rw [hq]
     clear hfit hE HSG hq
     have GC : Hid (Below w12.heap.size w12 w12) := Below.refl _ _
     have cA0 := PA.out.at (i := 0) rfl
     have cA1 := PA.out.at (i := 1) rfl
     have cA2 := PA.out.at (i := 2) rfl
     go_wp2_with fail
     clear cA0 cA1 cA2
     refine (copyMat_any RA.out).mono ?_
     rintro e w13 ⟨a3, q3, rfl, m, b⟩
     replace PA := hid (PA.out.step b)
     replace PB := hid (PB.out.step b)
     replace RA := hid (RA.out.now b)
     replace RB := hid (RB.out.now b)
     replace RS := hid (RS.out.now b)
     replace Zd := hid (Zd.out.now b)
     replace Dd := hid (Dd.out.step b)
     replace G := hid (below_step G.out b)
     replace GC := hid (below_step GC.out b)
     have R3 := hid m
     clear m
     clear b
     go_wp2_with fail
     obtain ⟨m3, -⟩ := R3.out.mx13 HSA.out
     have HRW := hid (rows_yes m3 RS.out HKB.out)
     have HML := hid (rowsT_lt (r := r) (c := r) m3.lt HGR.out)
     clear m3
     refine (HRW.out).mono ?_
     rintro e w14 hrw
     rcases hrw with ⟨-, vm, rfl, mm, b⟩ | ⟨hnf, -⟩
     ·skip
      replace PA := hid (PA.out.step b)
      replace PB := hid (PB.out.step b)
      replace RA := hid (RA.out.now b)
      replace RB := hid (RB.out.now b)
      replace RS := hid (RS.out.now b)
      replace Zd := hid (Zd.out.now b)
      replace Dd := hid (Dd.out.step b)
      replace R3 := hid (R3.out.now b)
      replace G := hid (below_step G.out b)
      replace GC := hid (below_step GC.out b)
      obtain ⟨am, qm, rfl, -, -⟩ := mm.mx.form
      have MM := hid (mm.fit HML.out).mx
      clear mm b HRW HML
      obtain ⟨lm1, hlm⟩ : ∃ lm1, r * r = lm1 := ⟨_, rfl⟩
      rw [hlm] at MM ⊢
      clear hlm
      obtain ⟨V15, hV⟩ : ∃ V15, w14.alloc (.cells #[.int .i64 ((r : Int)), .int .i64 ((r : Int)), .slice am lm1 qm] 24) = V15 := ⟨_, rfl⟩
      obtain ⟨b, sz15⟩ := alo1 w14 (.cells #[.int .i64 ((r : Int)), .int .i64 ((r : Int)), .slice am lm1 qm] 24)
      rw [hV] at b sz15
      replace PA := hid (PA.out.step b)
      replace PB := hid (PB.out.step b)
      replace RA := hid (RA.out.now b)
      replace RB := hid (RB.out.now b)
      replace RS := hid (RS.out.now b)
      replace Zd := hid (Zd.out.now b)
      replace Dd := hid (Dd.out.step b)
      replace R3 := hid (R3.out.now b)
      replace MM := hid (MM.out.now b)
      replace G := hid (below_step G.out b)
      replace GC := hid (below_step GC.out b)
      clear b sz15
      have PM : Hid (Cel V15 w14.heap.size 24 [.int .i64 ((r : Int)), .int .i64 ((r : Int)), .slice am lm1 qm]) := by unfold Hid; rw [← hV]; exact Cel.new w14 _ _
      have cM0 := PM.out.at (i := 0) rfl
      have cM1 := PM.out.at (i := 1) rfl
      have cM2 := PM.out.at (i := 2) rfl
      rw [← hV] at cM0 cM1 cM2
      have EV : Hid (w14.alloc (.cells #[.int .i64 ((r : Int)), .int .i64 ((r : Int)), .slice am lm1 qm] 24) = V15) := hV
      clear hV
      go_wp2_with fail
      rw [EV.out]
      clear EV
      clear cM0 cM1 cM2
      refine (det_sq MM.out (by decide)).mono ?_
      rintro e w16 ⟨rq, rfl, m, b⟩
      replace PA := hid (PA.out.step b)
      replace PB := hid (PB.out.step b)
      replace RA := hid (RA.out.now b)
      replace RB := hid (RB.out.now b)
      replace RS := hid (RS.out.now b)
      replace Zd := hid (Zd.out.now b)
      replace Dd := hid (Dd.out.step b)
      replace R3 := hid (R3.out.now b)
      replace MM := hid (MM.out.now b)
      replace PM := hid (PM.out.step b)
      replace G := hid (below_step G.out b)
      replace GC := hid (below_step GC.out b)
      obtain ⟨nm, xm, am, cm, rfl⟩ := m.parts
      obtain ⟨lm, hlm⟩ : ∃ lm, xm.length = lm := ⟨_, rfl⟩
      rw [hlm] at m ⊢
      have Zm := hid (m.mono (Nat.zero_le _))
      clear m hlm
      clear b
      obtain ⟨V17, hV⟩ : ∃ V17, w16.alloc (duo (.bool nm) (.slice am lm cm)) = V17 := ⟨_, rfl⟩
      obtain ⟨b, sz17⟩ := alo1 w16 (duo (.bool nm) (.slice am lm cm))
      rw [hV] at b sz17
      replace PA := hid (PA.out.step b)
      replace PB := hid (PB.out.step b)
      replace RA := hid (RA.out.now b)
      replace RB := hid (RB.out.now b)
      replace RS := hid (RS.out.now b)
      replace Zd := hid (Zd.out.now b)
      replace Dd := hid (Dd.out.step b)
      replace R3 := hid (R3.out.now b)
      replace MM := hid (MM.out.now b)
      replace PM := hid (PM.out.step b)
      replace Zm := hid (Zm.out.now b)
      replace G := hid (below_step G.out b)
      replace GC := hid (below_step GC.out b)
      clear b sz17
      have Dm : Hid (Duo V17 w16.heap.size (.bool nm) (.slice am lm cm)) := by unfold Hid; rw [← hV]; exact Duo.new w16 _ _
      have EMD : Hid (det r (en r (rowsT (sts rs) r r xs)) = sgns (sts rs) * dA) := by unfold Hid; rw [det_steps HXL.out (sts_fit HF.out), EDA.out]
      rw [EMD.out] at Zm
      clear EMD
      have SAB := hid (sgns_abs (sts rs))
      generalize sgns (sts rs) = sg at *
      have EV : Hid (w16.alloc (duo (.bool nm) (.slice am lm cm)) = V17) := hV
      clear hV
      go_upto_region 14 with fail
      rw [EV.out]
      clear EV
      have cm0 := Dm.out.c0
      have cm1 := Dm.out.c1
      have cd0 := Dd.out.c0
      have cd1 := Dd.out.c1
      have KB : Hid (∀ w', Below V17.heap.size V17 w' → w'.cell? ⟨w16.heap.size, 0, none⟩ = some (.bool nm) ∧ w'.cell? ⟨w16.heap.size, 1, none⟩ = some (.slice am lm cm) ∧ w'.cell? ⟨w3.heap.size, 0, none⟩ = some (.bool nd) ∧ w'.cell? ⟨w3.heap.size, 1, none⟩ = some (.slice ad ld cd)) := fun w' h => ⟨cnow h cm0, cnow h cm1, cnow h cd0, cnow h cd1⟩
      refine wp_region_tail (fun w' => w'.cell? ⟨w16.heap.size, 0, none⟩ = some (.bool nm) ∧ w'.cell? ⟨w16.heap.size, 1, none⟩ = some (.slice am lm cm) ∧ w'.cell? ⟨w3.heap.size, 0, none⟩ = some (.bool nd) ∧ w'.cell? ⟨w3.heap.size, 1, none⟩ = some (.slice ad ld cd)) 14 (by kernel_rfl) ?_
      obtain ⟨D61, hD⟩ : ∃ D61, V17.drew = D61 := ⟨_, rfl⟩
      have GB : Hid (Below V17.heap.size V17 D61) := by unfold Hid; rw [← hD]; exact (Below.refl _ _).drew
      rw [hD]
      clear hD
      refine wpAnyT_list [(0, (.int .i64 0)), (1, (.bool false)), (2, (.bool false)), (3, (.int .i64 0)), (4, (.bool false)), (5, (.bool false)), (6, (.bool false)), (7, (.agg #[.bool nm, .slice am lm cm])), (8, (.agg #[.bool nd, .slice ad ld cd])), (9, (.int .i64 sg))] 10 ?_ (KB.out _ GB.out) ?_
      ·simp only [TakesV, gA9, g09, g19, Act.put, sI9, s09, s19]
       (repeat' (first | exact trivial | refine And.intro (Or.inl ⟨by rfl, ?_⟩) ?_)) <;> (intro w hSw; (try dsimp only at hSw); go_simp)
      simp only [actV, gA9, g09, g19, Act.put, sI9, s09, s19]
      refine wpAnyT_one (i := 10) (o := { dst := some 103, op := Op.call { callee := Callee.value (Operand.func 14), args := #[Operand.tmp 102], argTypes := #[2] }, type := 29, pos := "top16.go:85", after := #[{ on := 9, ground := Ground.data }, { on := 6, ground := Ground.chain }, { on := 6, ground := Ground.guard }], guard := some (6, false) }) (by kernel_rfl) rfl (fun K hK => ?_)
      go_simp
      go_at_call 14
      refine (of_z (by rcases SAB.out with h | h <;> omega) (by rcases SAB.out with h | h <;> omega) _).mono ?_
      rintro e w62 ⟨r1, rfl, m1, b⟩
      have lz62 := (show Below _ _ _ from b).size
      replace GB := hid (below_step GB.out b)
      have MO := hid (m1.mono (Nat.zero_le _))
      obtain ⟨no, xo, ao, co, rfl⟩ := m1.parts
      clear m1
      clear b
      refine hK.out _ _ (fun _ => KB.out _ GB.out) ?_
      clear hK
      refine wpAnyT_one (i := 11) (o := { dst := some 104, op := Op.call { callee := Callee.value (Operand.func 13), args := #[Operand.tmp 101, Operand.tmp 103], argTypes := #[29, 29] }, type := 29, pos := "top16.go:85", after := #[{ on := 8, ground := Ground.data }, { on := 10, ground := Ground.data }, { on := 10, ground := Ground.chain }, { on := 6, ground := Ground.guard }], guard := some (6, false) }) (by kernel_rfl) rfl (fun K hK => ?_)
      go_simp
      go_at_call 13
      refine (mul_z (Zd.out.now GB.out).zi (MO.out.now (Below.refl _ _)).zi (by decide)).mono ?_
      rintro e w63 ⟨r1, rfl, m1, b⟩
      have lz63 := (show Below _ _ _ from b).size
      replace GB := hid (below_step GB.out b)
      have MX := hid (m1.mono (Nat.zero_le _))
      obtain ⟨nx, xx, ax, cx, rfl⟩ := m1.parts
      clear m1
      clear b
      refine hK.out _ _ (fun _ => KB.out _ GB.out) ?_
      clear hK
      refine wpAnyT_one (i := 12) (o := { dst := some 105, op := Op.call { callee := Callee.value (Operand.func 10), args := #[Operand.tmp 100, Operand.tmp 104], argTypes := #[29, 29] }, type := 4, pos := "top16.go:85", after := #[{ on := 7, ground := Ground.data }, { on := 11, ground := Ground.data }, { on := 11, ground := Ground.chain }, { on := 6, ground := Ground.guard }], guard := some (6, false) }) (by kernel_rfl) rfl (fun K hK => ?_)
      go_simp
      go_at_call 10
      refine (sameInt_yes (Zm.out.now GB.out).zc MX.out.zc (Int.mul_comm _ _)).mono ?_
      rintro e w64 ⟨rfl, b⟩
      have lz64 := (show Below _ _ _ from b).size
      replace GB := hid (below_step GB.out b)
      clear b
      refine hK.out _ _ (fun _ => KB.out _ GB.out) ?_
      clear hK
      refine wpAnyT_list [(13, (.bool false))] 1 ?_ (KB.out _ GB.out) ?_
      ·simp only [TakesV, gA9, g09, g19, Act.put, sI9, s09, s19]
       (repeat' (first | exact trivial | refine And.intro (Or.inl ⟨by rfl, ?_⟩) ?_)) <;> (intro w hSw; (try dsimp only at hSw); go_simp)
      simp only [actV, gA9, g09, g19, Act.put, sI9, s09, s19]
      refine wpAnyT_one (i := 14) (o := { dst := some 107, op := Op.pick (Operand.tmp 99) (Operand.const (Value.bool true)) (Operand.tmp 106), type := 4, pos := "top16.go:85", after := #[{ on := 6, ground := Ground.data }, { on := 13, ground := Ground.data }], guard := none }) (by kernel_rfl) rfl (fun K hK => ?_)
      go_simp
      refine hK.out _ _ (fun h => absurd h (by decide)) ?_
      clear hK
      try simp only [Act.put]
      refine wpAnyT_done (by kernel_rfl) ?_ _
      have FIN : Hid (Below w12.heap.size w12 w64) := below_step GC.out GB.out
      clear GB KB
      go_wp2_with fail
      go_meet
      exact FIN.out
     ·exact absurd HF.out hnf
    ·have FIN : Hid (Below w12.heap.size w12 w12) := Below.refl _ _
     have hq : (E == 0) = false := by rw [hE]; rfl
     rw [hq]
     clear hE HSG hq
     go_wp2_with fail
     go_meet
     exact FIN.out
   case rest =>
    rename World => Wc
    have b := hcut
    clear hcut HSG
    replace PA := hid (PA.out.step b)
    replace PB := hid (PB.out.step b)
    replace RA := hid (RA.out.now b)
    replace RB := hid (RB.out.now b)
    replace RS := hid (RS.out.now b)
    replace Zd := hid (Zd.out.now b)
    replace Dd := hid (Dd.out.step b)
    replace G := hid (below_step G.out b)
    clear b
    clear RS
    go_upto_region 16 with fail
    go_cut [18, 8] from 21 (fun s18 s8 wx => MbM Wc wx s18 s8 r rb cb lb (prodL r r r xs ys))
    case first =>
     have cA0 := PA.out.at (i := 0) rfl
     have cA1 := PA.out.at (i := 1) rfl
     have cA2 := PA.out.at (i := 2) rfl
     have cB0 := PB.out.at (i := 0) rfl
     have cB1 := PB.out.at (i := 1) rfl
     have cB2 := PB.out.at (i := 2) rfl
     have KB : Hid (∀ w', Below Wc.heap.size Wc w' → w'.cell? ⟨w.heap.size, 0, none⟩ = some (.int .i64 (r : Int)) ∧ w'.cell? ⟨w.heap.size, 1, none⟩ = some (.int .i64 (r : Int)) ∧ w'.cell? ⟨w.heap.size, 2, none⟩ = some (.slice aa la qa) ∧ w'.cell? ⟨w.heap.size + 1, 0, none⟩ = some (.int .i64 rb) ∧ w'.cell? ⟨w.heap.size + 1, 1, none⟩ = some (.int .i64 cb) ∧ w'.cell? ⟨w.heap.size + 1, 2, none⟩ = some (.slice ab lb qb)) := fun w' h => ⟨cnow h cA0, cnow h cA1, cnow h cA2, cnow h cB0, cnow h cB1, cnow h cB2⟩
     refine wp_region_tail (fun w' => w'.cell? ⟨w.heap.size, 0, none⟩ = some (.int .i64 (r : Int)) ∧ w'.cell? ⟨w.heap.size, 1, none⟩ = some (.int .i64 (r : Int)) ∧ w'.cell? ⟨w.heap.size, 2, none⟩ = some (.slice aa la qa) ∧ w'.cell? ⟨w.heap.size + 1, 0, none⟩ = some (.int .i64 rb) ∧ w'.cell? ⟨w.heap.size + 1, 1, none⟩ = some (.int .i64 cb) ∧ w'.cell? ⟨w.heap.size + 1, 2, none⟩ = some (.slice ab lb qb)) 10 (by kernel_rfl) ?_
     obtain ⟨D81, hD⟩ : ∃ D81, Wc.drew = D81 := ⟨_, rfl⟩
     have GB : Hid (Below Wc.heap.size Wc D81) := by unfold Hid; rw [← hD]; exact (Below.refl _ _).drew
     rw [hD]
     clear hD
     have GZ : Hid (Wc.heap.size ≤ D81.heap.size) := GB.out.size
     refine wpAnyT_list [(0, (.agg #[.int .i64 (r : Int), .int .i64 (r : Int), .slice aa la qa])), (2, (.agg #[.int .i64 rb, .int .i64 cb, .slice ab lb qb]))] 2 ?_ (KB.out _ GB.out) ?_
     ·simp only [TakesV, gA9, g09, g19, Act.put, sI9, s09, s19]
      (repeat' (first | exact trivial | refine And.intro (Or.inl ⟨by rfl, ?_⟩) ?_)) <;> (intro w hSw; (try dsimp only at hSw); go_simp)
     simp only [actV, gA9, g09, g19, Act.put, sI9, s09, s19]
     refine wpAnyT_two (i := 1) (j := 8) (oi := { dst := some 110, op := Op.call { callee := Callee.value (Operand.func 7), args := #[Operand.tmp 109], argTypes := #[24] }, type := 24, pos := "top16.go:89", after := #[{ on := 0, ground := Ground.data }], guard := none }) (oj := { dst := some 18, op := Op.alloc 24, type := 0, pos := "top16.go:89", after := #[], guard := none }) (by kernel_rfl) rfl rfl (fun K hK => ?_) (fun K hK => ?_)
     ·skip
      replace GZ : Hid (Wc.heap.size ≤ D81.heap.size) := GB.out.size
      go_simp
      go_at_call 7
      refine (copyMat_any (RA.out.now GB.out)).mono ?_
      rintro e w82 ⟨a1, q1, rfl, m1, b⟩
      have lz82 := (show Below _ _ _ from b).size
      replace GB := hid (below_step GB.out b)
      have R1 := hid m1
      clear m1
      clear b
      refine hK.out _ _ (fun _ => KB.out _ GB.out) ?_
      clear hK
      refine wpAnyT_two (i := 3) (j := 8) (oi := { dst := some 112, op := Op.call { callee := Callee.value (Operand.func 7), args := #[Operand.tmp 111], argTypes := #[24] }, type := 24, pos := "top16.go:89", after := #[{ on := 2, ground := Ground.data }, { on := 1, ground := Ground.chain }], guard := none }) (oj := { dst := some 18, op := Op.alloc 24, type := 0, pos := "top16.go:89", after := #[], guard := none }) (by kernel_rfl) rfl rfl (fun K hK => ?_) (fun K hK => ?_)
      ·skip
       replace GZ : Hid (Wc.heap.size ≤ w82.heap.size) := GB.out.size
       go_simp
       go_at_call 7
       refine (copyMat_any (RB.out.now GB.out)).mono ?_
       rintro e w83 ⟨a2, q2, rfl, m1, b⟩
       have lz83 := (show Below _ _ _ from b).size
       replace GB := hid (below_step GB.out b)
       replace R1 := hid (R1.out.now b)
       have R2 := hid m1
       clear m1
       clear b
       refine hK.out _ _ (fun _ => KB.out _ GB.out) ?_
       clear hK
       refine wpAnyT_two (i := 4) (j := 8) (oi := { dst := some 113, op := Op.call { callee := Callee.value (Operand.func 15), args := #[Operand.tmp 110, Operand.tmp 112], argTypes := #[24, 24] }, type := 35, pos := "top16.go:89", after := #[{ on := 1, ground := Ground.data }, { on := 3, ground := Ground.data }, { on := 3, ground := Ground.chain }], guard := none }) (oj := { dst := some 18, op := Op.alloc 24, type := 0, pos := "top16.go:89", after := #[], guard := none }) (by kernel_rfl) rfl rfl (fun K hK => ?_) (fun K hK => ?_)
       ·skip
        replace GZ : Hid (Wc.heap.size ≤ w83.heap.size) := GB.out.size
        go_simp
        go_at_call 15
        refine (mulB_any (R1.out.mx13 HSA.out).1 R2.out).mono ?_
        rintro e w84 ⟨x0, x1, ap, lp, qp, E, rfl, mp, b⟩
        have lz84 := (show Below _ _ _ from b).size
        replace GB := hid (below_step GB.out b)
        replace R1 := hid (R1.out.now b)
        replace R2 := hid (R2.out.now b)
        have MP := hid mp
        clear mp R1 R2
        clear b
        refine hK.out _ _ (fun _ => KB.out _ GB.out) ?_
        clear hK
        refine wpAnyT_list [(5, (.tuple #[(.agg #[.int .i64 x0, .int .i64 x1, .slice ap lp qp]), (.int .i64 E)])), (6, (.agg #[.int .i64 x0, .int .i64 x1, .slice ap lp qp])), (7, (.int .i64 E))] 3 ?_ (KB.out _ GB.out) ?_
        ·simp only [TakesV, gA9, g09, g19, Act.put, sI9, s09, s19]
         (repeat' (first | exact trivial | refine And.intro (Or.inl ⟨by rfl, ?_⟩) ?_)) <;> (intro w hSw; (try dsimp only at hSw); go_simp)
        simp only [actV, gA9, g09, g19, Act.put, sI9, s09, s19]
        refine wpAnyT_one (i := 8) (o := { dst := some 18, op := Op.alloc 24, type := 0, pos := "top16.go:89", after := #[], guard := none }) (by kernel_rfl) rfl (fun K hK => ?_)
        replace GZ : Hid (Wc.heap.size ≤ w84.heap.size) := GB.out.size
        go_simp
        obtain ⟨V85, hW⟩ : ∃ V85, w84.alloc mbox = V85 := ⟨_, rfl⟩
        obtain ⟨b, sz85⟩ := alo1 w84 mbox
        rw [hW] at b sz85
        replace GB := hid (below_step GB.out b)
        have DB : Hid (Cel V85 w84.heap.size 24 [.int .i64 0, .int .i64 0, .slice none 0 0]) := by unfold Hid; rw [← hW]; exact Cel.new w84 _ _
        clear sz85
        have SB := hid (show Wc.heap.size ≤ w84.heap.size from GZ.out)
        replace MP := hid (MP.out.now b)
        rw [hW]
        clear hW b
        refine hK.out _ _ (fun _ => KB.out _ GB.out) ?_
        clear hK
        try simp only [Act.put]
        refine wpAnyT_one (i := 9) (o := { dst := none, op := Op.store 24 (Operand.tmp 18) (Operand.tmp 114), type := 0, pos := "top16.go:89", after := #[{ on := 8, ground := Ground.data }, { on := 6, ground := Ground.data }, { on := 4, ground := Ground.chain }, { on := 0, ground := Ground.phase }, { on := 1, ground := Ground.phase }, { on := 2, ground := Ground.phase }, { on := 3, ground := Ground.phase }, { on := 4, ground := Ground.phase }, { on := 5, ground := Ground.phase }, { on := 6, ground := Ground.phase }, { on := 7, ground := Ground.textOnly Departure.lateStores }, { on := 8, ground := Ground.phase }], guard := none }) (by kernel_rfl) rfl (fun K hK => ?_)
        have e0 := DB.out.at (i := 0) rfl
        have e1 := DB.out.at (i := 1) rfl
        have e2 := DB.out.at (i := 2) rfl
        have e3 := DB.out.fz 0
        have e4 := DB.out.fz 1
        have e5 := DB.out.fz 2
        go_simp
        clear e0 e1 e2 e3 e4 e5
        obtain ⟨V86, hW⟩ : ∃ V86, (((V85.setCell ⟨w84.heap.size, 0, none⟩ (.int .i64 x0)).setCell ⟨w84.heap.size, 1, none⟩ (.int .i64 x1)).setCell ⟨w84.heap.size, 2, none⟩ (.slice ap lp qp)) = V86 := ⟨_, rfl⟩
        have FP : Hid (MbM Wc V86 (.pointer (some ⟨w84.heap.size, 0, none⟩)) (.int .i64 E) r rb cb lb (prodL r r r xs ys)) := by
         unfold Hid; rw [← hW]
         exact mbm_put DB.out MP.out GB.out SB.out
        replace GB : Hid (Below Wc.heap.size Wc V86) := by unfold Hid; rw [← hW]; exact bset (bset (bset GB.out SB.out) SB.out) SB.out
        rw [hW]
        clear hW
        refine hK.out _ _ (fun _ => KB.out _ GB.out) ?_
        clear hK
        try simp only [Act.put]
        refine wpAnyT_one (i := 10) (o := { dst := some 8, op := Op.assign (Operand.tmp 115), type := 30, pos := "top16.go:89", after := #[{ on := 7, ground := Ground.data }, { on := 9, ground := Ground.chain }, { on := 0, ground := Ground.phase }, { on := 1, ground := Ground.phase }, { on := 2, ground := Ground.phase }, { on := 3, ground := Ground.phase }, { on := 4, ground := Ground.phase }, { on := 5, ground := Ground.phase }, { on := 6, ground := Ground.phase }, { on := 7, ground := Ground.phase }, { on := 8, ground := Ground.phase }, { on := 9, ground := Ground.phase }], guard := none }) (by kernel_rfl) rfl (fun K hK => ?_)
        go_simp
        refine hK.out _ _ (fun h => absurd h (by decide)) ?_
        clear hK
        try simp only [Act.put]
        refine wpAnyT_done (by kernel_rfl) ?_ _
        clear DB SB MP GB GZ
        go_wp2_with fail
        go_meet
        exact FP.out
       ·skip
        replace GZ : Hid (Wc.heap.size ≤ w83.heap.size) := GB.out.size
        go_simp
        obtain ⟨V87, hW⟩ : ∃ V87, w83.alloc mbox = V87 := ⟨_, rfl⟩
        obtain ⟨b, sz87⟩ := alo1 w83 mbox
        rw [hW] at b sz87
        replace GB := hid (below_step GB.out b)
        have DB : Hid (Cel V87 w83.heap.size 24 [.int .i64 0, .int .i64 0, .slice none 0 0]) := by unfold Hid; rw [← hW]; exact Cel.new w83 _ _
        clear sz87
        have SB := hid (show Wc.heap.size ≤ w83.heap.size from GZ.out)
        replace R1 := hid (R1.out.now b)
        replace R2 := hid (R2.out.now b)
        rw [hW]
        clear hW b
        refine hK.out _ _ (fun _ => KB.out _ GB.out) ?_
        clear hK
        try simp only [Act.put]
        refine wpAnyT_one (i := 4) (o := { dst := some 113, op := Op.call { callee := Callee.value (Operand.func 15), args := #[Operand.tmp 110, Operand.tmp 112], argTypes := #[24, 24] }, type := 35, pos := "top16.go:89", after := #[{ on := 1, ground := Ground.data }, { on := 3, ground := Ground.data }, { on := 3, ground := Ground.chain }], guard := none }) (by kernel_rfl) rfl (fun K hK => ?_)
        replace GZ : Hid (Wc.heap.size ≤ V87.heap.size) := GB.out.size
        go_simp
        go_at_call 15
        refine (mulB_any (R1.out.mx13 HSA.out).1 R2.out).mono ?_
        rintro e w88 ⟨x0, x1, ap, lp, qp, E, rfl, mp, b⟩
        have lz88 := (show Below _ _ _ from b).size
        replace GB := hid (below_step GB.out b)
        replace R1 := hid (R1.out.now b)
        replace R2 := hid (R2.out.now b)
        replace DB := hid (DB.out.step b)
        have MP := hid mp
        clear mp R1 R2
        clear b
        refine hK.out _ _ (fun _ => KB.out _ GB.out) ?_
        clear hK
        refine wpAnyT_list [(5, (.tuple #[(.agg #[.int .i64 x0, .int .i64 x1, .slice ap lp qp]), (.int .i64 E)])), (6, (.agg #[.int .i64 x0, .int .i64 x1, .slice ap lp qp])), (7, (.int .i64 E))] 3 ?_ (KB.out _ GB.out) ?_
        ·simp only [TakesV, gA9, g09, g19, Act.put, sI9, s09, s19]
         (repeat' (first | exact trivial | refine And.intro (Or.inl ⟨by rfl, ?_⟩) ?_)) <;> (intro w hSw; (try dsimp only at hSw); go_simp)
        simp only [actV, gA9, g09, g19, Act.put, sI9, s09, s19]
        refine wpAnyT_one (i := 9) (o := { dst := none, op := Op.store 24 (Operand.tmp 18) (Operand.tmp 114), type := 0, pos := "top16.go:89", after := #[{ on := 8, ground := Ground.data }, { on := 6, ground := Ground.data }, { on := 4, ground := Ground.chain }, { on := 0, ground := Ground.phase }, { on := 1, ground := Ground.phase }, { on := 2, ground := Ground.phase }, { on := 3, ground := Ground.phase }, { on := 4, ground := Ground.phase }, { on := 5, ground := Ground.phase }, { on := 6, ground := Ground.phase }, { on := 7, ground := Ground.textOnly Departure.lateStores }, { on := 8, ground := Ground.phase }], guard := none }) (by kernel_rfl) rfl (fun K hK => ?_)
        have e0 := DB.out.at (i := 0) rfl
        have e1 := DB.out.at (i := 1) rfl
        have e2 := DB.out.at (i := 2) rfl
        have e3 := DB.out.fz 0
        have e4 := DB.out.fz 1
        have e5 := DB.out.fz 2
        go_simp
        clear e0 e1 e2 e3 e4 e5
        obtain ⟨V89, hW⟩ : ∃ V89, (((w88.setCell ⟨w83.heap.size, 0, none⟩ (.int .i64 x0)).setCell ⟨w83.heap.size, 1, none⟩ (.int .i64 x1)).setCell ⟨w83.heap.size, 2, none⟩ (.slice ap lp qp)) = V89 := ⟨_, rfl⟩
        have FP : Hid (MbM Wc V89 (.pointer (some ⟨w83.heap.size, 0, none⟩)) (.int .i64 E) r rb cb lb (prodL r r r xs ys)) := by
         unfold Hid; rw [← hW]
         exact mbm_put DB.out MP.out GB.out SB.out
        replace GB : Hid (Below Wc.heap.size Wc V89) := by unfold Hid; rw [← hW]; exact bset (bset (bset GB.out SB.out) SB.out) SB.out
        rw [hW]
        clear hW
        refine hK.out _ _ (fun _ => KB.out _ GB.out) ?_
        clear hK
        try simp only [Act.put]
        refine wpAnyT_one (i := 10) (o := { dst := some 8, op := Op.assign (Operand.tmp 115), type := 30, pos := "top16.go:89", after := #[{ on := 7, ground := Ground.data }, { on := 9, ground := Ground.chain }, { on := 0, ground := Ground.phase }, { on := 1, ground := Ground.phase }, { on := 2, ground := Ground.phase }, { on := 3, ground := Ground.phase }, { on := 4, ground := Ground.phase }, { on := 5, ground := Ground.phase }, { on := 6, ground := Ground.phase }, { on := 7, ground := Ground.phase }, { on := 8, ground := Ground.phase }, { on := 9, ground := Ground.phase }], guard := none }) (by kernel_rfl) rfl (fun K hK => ?_)
        go_simp
        refine hK.out _ _ (fun h => absurd h (by decide)) ?_
        clear hK
        try simp only [Act.put]
        refine wpAnyT_done (by kernel_rfl) ?_ _
        clear DB SB MP GB GZ
        go_wp2_with fail
        go_meet
        exact FP.out
      ·skip
       replace GZ : Hid (Wc.heap.size ≤ w82.heap.size) := GB.out.size
       go_simp
       obtain ⟨V90, hW⟩ : ∃ V90, w82.alloc mbox = V90 := ⟨_, rfl⟩
       obtain ⟨b, sz90⟩ := alo1 w82 mbox
       rw [hW] at b sz90
       replace GB := hid (below_step GB.out b)
       have DB : Hid (Cel V90 w82.heap.size 24 [.int .i64 0, .int .i64 0, .slice none 0 0]) := by unfold Hid; rw [← hW]; exact Cel.new w82 _ _
       clear sz90
       have SB := hid (show Wc.heap.size ≤ w82.heap.size from GZ.out)
       replace R1 := hid (R1.out.now b)
       rw [hW]
       clear hW b
       refine hK.out _ _ (fun _ => KB.out _ GB.out) ?_
       clear hK
       try simp only [Act.put]
       refine wpAnyT_one (i := 3) (o := { dst := some 112, op := Op.call { callee := Callee.value (Operand.func 7), args := #[Operand.tmp 111], argTypes := #[24] }, type := 24, pos := "top16.go:89", after := #[{ on := 2, ground := Ground.data }, { on := 1, ground := Ground.chain }], guard := none }) (by kernel_rfl) rfl (fun K hK => ?_)
       replace GZ : Hid (Wc.heap.size ≤ V90.heap.size) := GB.out.size
       go_simp
       go_at_call 7
       refine (copyMat_any (RB.out.now GB.out)).mono ?_
       rintro e w91 ⟨a2, q2, rfl, m1, b⟩
       have lz91 := (show Below _ _ _ from b).size
       replace GB := hid (below_step GB.out b)
       replace R1 := hid (R1.out.now b)
       replace DB := hid (DB.out.step b)
       have R2 := hid m1
       clear m1
       clear b
       refine hK.out _ _ (fun _ => KB.out _ GB.out) ?_
       clear hK
       refine wpAnyT_one (i := 4) (o := { dst := some 113, op := Op.call { callee := Callee.value (Operand.func 15), args := #[Operand.tmp 110, Operand.tmp 112], argTypes := #[24, 24] }, type := 35, pos := "top16.go:89", after := #[{ on := 1, ground := Ground.data }, { on := 3, ground := Ground.data }, { on := 3, ground := Ground.chain }], guard := none }) (by kernel_rfl) rfl (fun K hK => ?_)
       replace GZ : Hid (Wc.heap.size ≤ w91.heap.size) := GB.out.size
       go_simp
       go_at_call 15
       refine (mulB_any (R1.out.mx13 HSA.out).1 R2.out).mono ?_
       rintro e w92 ⟨x0, x1, ap, lp, qp, E, rfl, mp, b⟩
       have lz92 := (show Below _ _ _ from b).size
       replace GB := hid (below_step GB.out b)
       replace R1 := hid (R1.out.now b)
       replace R2 := hid (R2.out.now b)
       replace DB := hid (DB.out.step b)
       have MP := hid mp
       clear mp R1 R2
       clear b
       refine hK.out _ _ (fun _ => KB.out _ GB.out) ?_
       clear hK
       refine wpAnyT_list [(5, (.tuple #[(.agg #[.int .i64 x0, .int .i64 x1, .slice ap lp qp]), (.int .i64 E)])), (6, (.agg #[.int .i64 x0, .int .i64 x1, .slice ap lp qp])), (7, (.int .i64 E))] 3 ?_ (KB.out _ GB.out) ?_
       ·simp only [TakesV, gA9, g09, g19, Act.put, sI9, s09, s19]
        (repeat' (first | exact trivial | refine And.intro (Or.inl ⟨by rfl, ?_⟩) ?_)) <;> (intro w hSw; (try dsimp only at hSw); go_simp)
       simp only [actV, gA9, g09, g19, Act.put, sI9, s09, s19]
       refine wpAnyT_one (i := 9) (o := { dst := none, op := Op.store 24 (Operand.tmp 18) (Operand.tmp 114), type := 0, pos := "top16.go:89", after := #[{ on := 8, ground := Ground.data }, { on := 6, ground := Ground.data }, { on := 4, ground := Ground.chain }, { on := 0, ground := Ground.phase }, { on := 1, ground := Ground.phase }, { on := 2, ground := Ground.phase }, { on := 3, ground := Ground.phase }, { on := 4, ground := Ground.phase }, { on := 5, ground := Ground.phase }, { on := 6, ground := Ground.phase }, { on := 7, ground := Ground.textOnly Departure.lateStores }, { on := 8, ground := Ground.phase }], guard := none }) (by kernel_rfl) rfl (fun K hK => ?_)
       have e0 := DB.out.at (i := 0) rfl
       have e1 := DB.out.at (i := 1) rfl
       have e2 := DB.out.at (i := 2) rfl
       have e3 := DB.out.fz 0
       have e4 := DB.out.fz 1
       have e5 := DB.out.fz 2
       go_simp
       clear e0 e1 e2 e3 e4 e5
       obtain ⟨V93, hW⟩ : ∃ V93, (((w92.setCell ⟨w82.heap.size, 0, none⟩ (.int .i64 x0)).setCell ⟨w82.heap.size, 1, none⟩ (.int .i64 x1)).setCell ⟨w82.heap.size, 2, none⟩ (.slice ap lp qp)) = V93 := ⟨_, rfl⟩
       have FP : Hid (MbM Wc V93 (.pointer (some ⟨w82.heap.size, 0, none⟩)) (.int .i64 E) r rb cb lb (prodL r r r xs ys)) := by
        unfold Hid; rw [← hW]
        exact mbm_put DB.out MP.out GB.out SB.out
       replace GB : Hid (Below Wc.heap.size Wc V93) := by unfold Hid; rw [← hW]; exact bset (bset (bset GB.out SB.out) SB.out) SB.out
       rw [hW]
       clear hW
       refine hK.out _ _ (fun _ => KB.out _ GB.out) ?_
       clear hK
       try simp only [Act.put]
       refine wpAnyT_one (i := 10) (o := { dst := some 8, op := Op.assign (Operand.tmp 115), type := 30, pos := "top16.go:89", after := #[{ on := 7, ground := Ground.data }, { on := 9, ground := Ground.chain }, { on := 0, ground := Ground.phase }, { on := 1, ground := Ground.phase }, { on := 2, ground := Ground.phase }, { on := 3, ground := Ground.phase }, { on := 4, ground := Ground.phase }, { on := 5, ground := Ground.phase }, { on := 6, ground := Ground.phase }, { on := 7, ground := Ground.phase }, { on := 8, ground := Ground.phase }, { on := 9, ground := Ground.phase }], guard := none }) (by kernel_rfl) rfl (fun K hK => ?_)
       go_simp
       refine hK.out _ _ (fun h => absurd h (by decide)) ?_
       clear hK
       try simp only [Act.put]
       refine wpAnyT_done (by kernel_rfl) ?_ _
       clear DB SB MP GB GZ
       go_wp2_with fail
       go_meet
       exact FP.out
     ·skip
      replace GZ : Hid (Wc.heap.size ≤ D81.heap.size) := GB.out.size
      go_simp
      obtain ⟨V94, hW⟩ : ∃ V94, D81.alloc mbox = V94 := ⟨_, rfl⟩
      obtain ⟨b, sz94⟩ := alo1 D81 mbox
      rw [hW] at b sz94
      replace GB := hid (below_step GB.out b)
      have DB : Hid (Cel V94 D81.heap.size 24 [.int .i64 0, .int .i64 0, .slice none 0 0]) := by unfold Hid; rw [← hW]; exact Cel.new D81 _ _
      clear sz94
      have SB := hid (show Wc.heap.size ≤ D81.heap.size from GZ.out)
      rw [hW]
      clear hW b
      refine hK.out _ _ (fun _ => KB.out _ GB.out) ?_
      clear hK
      try simp only [Act.put]
      refine wpAnyT_one (i := 1) (o := { dst := some 110, op := Op.call { callee := Callee.value (Operand.func 7), args := #[Operand.tmp 109], argTypes := #[24] }, type := 24, pos := "top16.go:89", after := #[{ on := 0, ground := Ground.data }], guard := none }) (by kernel_rfl) rfl (fun K hK => ?_)
      replace GZ : Hid (Wc.heap.size ≤ V94.heap.size) := GB.out.size
      go_simp
      go_at_call 7
      refine (copyMat_any (RA.out.now GB.out)).mono ?_
      rintro e w95 ⟨a1, q1, rfl, m1, b⟩
      have lz95 := (show Below _ _ _ from b).size
      replace GB := hid (below_step GB.out b)
      replace DB := hid (DB.out.step b)
      have R1 := hid m1
      clear m1
      clear b
      refine hK.out _ _ (fun _ => KB.out _ GB.out) ?_
      clear hK
      refine wpAnyT_one (i := 3) (o := { dst := some 112, op := Op.call { callee := Callee.value (Operand.func 7), args := #[Operand.tmp 111], argTypes := #[24] }, type := 24, pos := "top16.go:89", after := #[{ on := 2, ground := Ground.data }, { on := 1, ground := Ground.chain }], guard := none }) (by kernel_rfl) rfl (fun K hK => ?_)
      replace GZ : Hid (Wc.heap.size ≤ w95.heap.size) := GB.out.size
      go_simp
      go_at_call 7
      refine (copyMat_any (RB.out.now GB.out)).mono ?_
      rintro e w96 ⟨a2, q2, rfl, m1, b⟩
      have lz96 := (show Below _ _ _ from b).size
      replace GB := hid (below_step GB.out b)
      replace R1 := hid (R1.out.now b)
      replace DB := hid (DB.out.step b)
      have R2 := hid m1
      clear m1
      clear b
      refine hK.out _ _ (fun _ => KB.out _ GB.out) ?_
      clear hK
      refine wpAnyT_one (i := 4) (o := { dst := some 113, op := Op.call { callee := Callee.value (Operand.func 15), args := #[Operand.tmp 110, Operand.tmp 112], argTypes := #[24, 24] }, type := 35, pos := "top16.go:89", after := #[{ on := 1, ground := Ground.data }, { on := 3, ground := Ground.data }, { on := 3, ground := Ground.chain }], guard := none }) (by kernel_rfl) rfl (fun K hK => ?_)
      replace GZ : Hid (Wc.heap.size ≤ w96.heap.size) := GB.out.size
      go_simp
      go_at_call 15
      refine (mulB_any (R1.out.mx13 HSA.out).1 R2.out).mono ?_
      rintro e w97 ⟨x0, x1, ap, lp, qp, E, rfl, mp, b⟩
      have lz97 := (show Below _ _ _ from b).size
      replace GB := hid (below_step GB.out b)
      replace R1 := hid (R1.out.now b)
      replace R2 := hid (R2.out.now b)
      replace DB := hid (DB.out.step b)
      have MP := hid mp
      clear mp R1 R2
      clear b
      refine hK.out _ _ (fun _ => KB.out _ GB.out) ?_
      clear hK
      refine wpAnyT_list [(5, (.tuple #[(.agg #[.int .i64 x0, .int .i64 x1, .slice ap lp qp]), (.int .i64 E)])), (6, (.agg #[.int .i64 x0, .int .i64 x1, .slice ap lp qp])), (7, (.int .i64 E))] 3 ?_ (KB.out _ GB.out) ?_
      ·simp only [TakesV, gA9, g09, g19, Act.put, sI9, s09, s19]
       (repeat' (first | exact trivial | refine And.intro (Or.inl ⟨by rfl, ?_⟩) ?_)) <;> (intro w hSw; (try dsimp only at hSw); go_simp)
      simp only [actV, gA9, g09, g19, Act.put, sI9, s09, s19]
      refine wpAnyT_one (i := 9) (o := { dst := none, op := Op.store 24 (Operand.tmp 18) (Operand.tmp 114), type := 0, pos := "top16.go:89", after := #[{ on := 8, ground := Ground.data }, { on := 6, ground := Ground.data }, { on := 4, ground := Ground.chain }, { on := 0, ground := Ground.phase }, { on := 1, ground := Ground.phase }, { on := 2, ground := Ground.phase }, { on := 3, ground := Ground.phase }, { on := 4, ground := Ground.phase }, { on := 5, ground := Ground.phase }, { on := 6, ground := Ground.phase }, { on := 7, ground := Ground.textOnly Departure.lateStores }, { on := 8, ground := Ground.phase }], guard := none }) (by kernel_rfl) rfl (fun K hK => ?_)
      have e0 := DB.out.at (i := 0) rfl
      have e1 := DB.out.at (i := 1) rfl
      have e2 := DB.out.at (i := 2) rfl
      have e3 := DB.out.fz 0
      have e4 := DB.out.fz 1
      have e5 := DB.out.fz 2
      go_simp
      clear e0 e1 e2 e3 e4 e5
      obtain ⟨V98, hW⟩ : ∃ V98, (((w97.setCell ⟨D81.heap.size, 0, none⟩ (.int .i64 x0)).setCell ⟨D81.heap.size, 1, none⟩ (.int .i64 x1)).setCell ⟨D81.heap.size, 2, none⟩ (.slice ap lp qp)) = V98 := ⟨_, rfl⟩
      have FP : Hid (MbM Wc V98 (.pointer (some ⟨D81.heap.size, 0, none⟩)) (.int .i64 E) r rb cb lb (prodL r r r xs ys)) := by
       unfold Hid; rw [← hW]
       exact mbm_put DB.out MP.out GB.out SB.out
      replace GB : Hid (Below Wc.heap.size Wc V98) := by unfold Hid; rw [← hW]; exact bset (bset (bset GB.out SB.out) SB.out) SB.out
      rw [hW]
      clear hW
      refine hK.out _ _ (fun _ => KB.out _ GB.out) ?_
      clear hK
      try simp only [Act.put]
      refine wpAnyT_one (i := 10) (o := { dst := some 8, op := Op.assign (Operand.tmp 115), type := 30, pos := "top16.go:89", after := #[{ on := 7, ground := Ground.data }, { on := 9, ground := Ground.chain }, { on := 0, ground := Ground.phase }, { on := 1, ground := Ground.phase }, { on := 2, ground := Ground.phase }, { on := 3, ground := Ground.phase }, { on := 4, ground := Ground.phase }, { on := 5, ground := Ground.phase }, { on := 6, ground := Ground.phase }, { on := 7, ground := Ground.phase }, { on := 8, ground := Ground.phase }, { on := 9, ground := Ground.phase }], guard := none }) (by kernel_rfl) rfl (fun K hK => ?_)
      go_simp
      refine hK.out _ _ (fun h => absurd h (by decide)) ?_
      clear hK
      try simp only [Act.put]
      refine wpAnyT_done (by kernel_rfl) ?_ _
      clear DB SB MP GB GZ
      go_wp2_with fail
      go_meet
      exact FP.out
    case rest =>
     rename World => Wd
     obtain ⟨bk, x0, x1, ap, lp, qp, E, rfl, rfl, b, dp, mp⟩ := hcut
     replace PA := hid (PA.out.step b)
     replace PB := hid (PB.out.step b)
     replace RA := hid (RA.out.now b)
     replace RB := hid (RB.out.now b)
     replace Zd := hid (Zd.out.now b)
     replace Dd := hid (Dd.out.step b)
     replace G := hid (below_step G.out b)
     have PP := hid dp
     have MP0 := hid mp
     clear dp mp b
     have cA0 := PA.out.at (i := 0) rfl
     have cA1 := PA.out.at (i := 1) rfl
     have cA2 := PA.out.at (i := 2) rfl
     have cB0 := PB.out.at (i := 0) rfl
     have cB1 := PB.out.at (i := 1) rfl
     have cB2 := PB.out.at (i := 2) rfl
     go_wp2_with fail
     clear cA0 cA1 cA2 cB0 cB1 cB2
     refine (tsound_any HLB.out).mono ?_
     rintro e w18 ⟨rfl, b⟩
     replace PA := hid (PA.out.step b)
     replace PB := hid (PB.out.step b)
     replace RA := hid (RA.out.now b)
     replace RB := hid (RB.out.now b)
     replace Zd := hid (Zd.out.now b)
     replace Dd := hid (Dd.out.step b)
     replace PP := hid (PP.out.step b)
     replace MP0 := hid (MP0.out.now b)
     replace G := hid (below_step G.out b)
     clear b
     by_cases hsb : Snd rb cb lb
     ·obtain ⟨r2, c2, rfl, rfl⟩ := snd13 hsb
      rw [decide_eq_true hsb]
      have HSB := hid hsb
      clear hsb
      by_cases hmm : r2 = r
      ·subst hmm
       have hrr : ((r2 : Int) != (r2 : Int)) = false := by simp
       by_cases hcc : c2 = r2
       ·subst hcc
        obtain ⟨rfl, rfl, rfl, mp⟩ := MP0.out HSB.out rfl rfl
        have MP := hid mp
        clear mp MP0
        have cA0 := PA.out.at (i := 0) rfl
        have cA1 := PA.out.at (i := 1) rfl
        have cA2 := PA.out.at (i := 2) rfl
        have cB0 := PB.out.at (i := 0) rfl
        have cB1 := PB.out.at (i := 1) rfl
        have cB2 := PB.out.at (i := 2) rfl
        go_wp2_with fail
        clear cA0 cA1 cA2 cB0 cB1 cB2
        refine (copyMat_any RB.out).mono ?_
        rintro e w19 ⟨a5, q5, rfl, m, b⟩
        replace PA := hid (PA.out.step b)
        replace PB := hid (PB.out.step b)
        replace RA := hid (RA.out.now b)
        replace RB := hid (RB.out.now b)
        replace Zd := hid (Zd.out.now b)
        replace Dd := hid (Dd.out.step b)
        replace PP := hid (PP.out.step b)
        replace MP := hid (MP.out.now b)
        replace G := hid (below_step G.out b)
        have R5 := hid m
        clear m
        clear b
        go_wp2_with fail
        obtain ⟨m5, -⟩ := R5.out.mx13 HSB.out
        have MB := hid m5
        clear m5
        clear R5
        refine (det_sq MB.out (by decide)).mono ?_
        rintro e w20 ⟨rq, rfl, m, b⟩
        replace PA := hid (PA.out.step b)
        replace PB := hid (PB.out.step b)
        replace RA := hid (RA.out.now b)
        replace RB := hid (RB.out.now b)
        replace Zd := hid (Zd.out.now b)
        replace Dd := hid (Dd.out.step b)
        replace PP := hid (PP.out.step b)
        replace MP := hid (MP.out.now b)
        replace MB := hid (MB.out.now b)
        replace G := hid (below_step G.out b)
        obtain ⟨ne, xe, ae, ce, rfl⟩ := m.parts
        obtain ⟨le, hle⟩ : ∃ le, xe.length = le := ⟨_, rfl⟩
        rw [hle] at m ⊢
        have Ze := hid (m.mono (Nat.zero_le _))
        clear m hle
        clear b
        obtain ⟨V21, hV⟩ : ∃ V21, w20.alloc (duo (.bool ne) (.slice ae le ce)) = V21 := ⟨_, rfl⟩
        obtain ⟨b, sz21⟩ := alo1 w20 (duo (.bool ne) (.slice ae le ce))
        rw [hV] at b sz21
        replace PA := hid (PA.out.step b)
        replace PB := hid (PB.out.step b)
        replace RA := hid (RA.out.now b)
        replace RB := hid (RB.out.now b)
        replace Zd := hid (Zd.out.now b)
        replace Dd := hid (Dd.out.step b)
        replace PP := hid (PP.out.step b)
        replace MP := hid (MP.out.now b)
        replace MB := hid (MB.out.now b)
        replace Ze := hid (Ze.out.now b)
        replace G := hid (below_step G.out b)
        clear b sz21
        have De : Hid (Duo V21 w20.heap.size (.bool ne) (.slice ae le ce)) := by unfold Hid; rw [← hV]; exact Duo.new w20 _ _
        have cP0 := PP.out.at (i := 0) rfl
        have cP1 := PP.out.at (i := 1) rfl
        have cP2 := PP.out.at (i := 2) rfl
        rw [← hV] at cP0 cP1 cP2
        have EV : Hid (w20.alloc (duo (.bool ne) (.slice ae le ce)) = V21) := hV
        clear hV
        go_wp2_with fail
        rw [EV.out]
        clear EV
        clear cP0 cP1 cP2
        refine (det_sq MP.out (by decide)).mono ?_
        rintro e w22 ⟨rq, rfl, m, b⟩
        replace PA := hid (PA.out.step b)
        replace PB := hid (PB.out.step b)
        replace RA := hid (RA.out.now b)
        replace RB := hid (RB.out.now b)
        replace Zd := hid (Zd.out.now b)
        replace Dd := hid (Dd.out.step b)
        replace PP := hid (PP.out.step b)
        replace MP := hid (MP.out.now b)
        replace MB := hid (MB.out.now b)
        replace Ze := hid (Ze.out.now b)
        replace De := hid (De.out.step b)
        replace G := hid (below_step G.out b)
        obtain ⟨ng, xg, ag, cg, rfl⟩ := m.parts
        obtain ⟨lg, hlg⟩ : ∃ lg, xg.length = lg := ⟨_, rfl⟩
        rw [hlg] at m ⊢
        have Zg := hid (m.mono (Nat.zero_le _))
        clear m hlg
        clear b
        obtain ⟨V23, hV⟩ : ∃ V23, w22.alloc (duo (.bool ng) (.slice ag lg cg)) = V23 := ⟨_, rfl⟩
        obtain ⟨b, sz23⟩ := alo1 w22 (duo (.bool ng) (.slice ag lg cg))
        rw [hV] at b sz23
        replace PA := hid (PA.out.step b)
        replace PB := hid (PB.out.step b)
        replace RA := hid (RA.out.now b)
        replace RB := hid (RB.out.now b)
        replace Zd := hid (Zd.out.now b)
        replace Dd := hid (Dd.out.step b)
        replace PP := hid (PP.out.step b)
        replace MP := hid (MP.out.now b)
        replace MB := hid (MB.out.now b)
        replace Ze := hid (Ze.out.now b)
        replace De := hid (De.out.step b)
        replace Zg := hid (Zg.out.now b)
        replace G := hid (below_step G.out b)
        clear b sz23
        have Dg : Hid (Duo V23 w22.heap.size (.bool ng) (.slice ag lg cg)) := by unfold Hid; rw [← hV]; exact Duo.new w22 _ _
        have EPD : Hid (det c2 (en c2 (prodL c2 c2 c2 xs ys)) = dA * det c2 (en c2 ys)) := by unfold Hid; rw [det_prod HXL.out, EDA.out]
        rw [EPD.out] at Zg
        obtain ⟨dB, hdB⟩ : ∃ dB, det c2 (en c2 ys) = dB := ⟨_, rfl⟩
        rw [hdB] at Zg Ze
        clear hdB EPD EDA
        have EV : Hid (w22.alloc (duo (.bool ng) (.slice ag lg cg)) = V23) := hV
        clear hV
        go_upto_region 21 with fail
        rw [EV.out]
        clear EV
        have cg0 := Dg.out.c0
        have cg1 := Dg.out.c1
        have cd0 := Dd.out.c0
        have cd1 := Dd.out.c1
        have ce0 := De.out.c0
        have ce1 := De.out.c1
        have KB : Hid (∀ w', Below V23.heap.size V23 w' → w'.cell? ⟨w22.heap.size, 0, none⟩ = some (.bool ng) ∧ w'.cell? ⟨w22.heap.size, 1, none⟩ = some (.slice ag lg cg) ∧ w'.cell? ⟨w3.heap.size, 0, none⟩ = some (.bool nd) ∧ w'.cell? ⟨w3.heap.size, 1, none⟩ = some (.slice ad ld cd) ∧ w'.cell? ⟨w20.heap.size, 0, none⟩ = some (.bool ne) ∧ w'.cell? ⟨w20.heap.size, 1, none⟩ = some (.slice ae le ce)) := fun w' h => ⟨cnow h cg0, cnow h cg1, cnow h cd0, cnow h cd1, cnow h ce0, cnow h ce1⟩
        refine wp_region_tail (fun w' => w'.cell? ⟨w22.heap.size, 0, none⟩ = some (.bool ng) ∧ w'.cell? ⟨w22.heap.size, 1, none⟩ = some (.slice ag lg cg) ∧ w'.cell? ⟨w3.heap.size, 0, none⟩ = some (.bool nd) ∧ w'.cell? ⟨w3.heap.size, 1, none⟩ = some (.slice ad ld cd) ∧ w'.cell? ⟨w20.heap.size, 0, none⟩ = some (.bool ne) ∧ w'.cell? ⟨w20.heap.size, 1, none⟩ = some (.slice ae le ce)) 17 (by kernel_rfl) ?_
        obtain ⟨D91, hD⟩ : ∃ D91, V23.drew = D91 := ⟨_, rfl⟩
        have GB : Hid (Below V23.heap.size V23 D91) := by unfold Hid; rw [← hD]; exact (Below.refl _ _).drew
        rw [hD]
        clear hD
        refine wpAnyT_list [(0, (.int .i64 0)), (1, (.bool true)), (2, (.bool true)), (3, (.int .i64 0)), (4, (.bool true)), (5, (.bool true)), (6, (.bool true)), (7, (.int .i64 0)), (8, (.bool true)), (9, (.bool true)), (10, (.bool true)), (11, (.agg #[.bool ng, .slice ag lg cg])), (12, (.agg #[.bool nd, .slice ad ld cd])), (13, (.agg #[.bool ne, .slice ae le ce]))] 14 ?_ (KB.out _ GB.out) ?_
        ·simp only [TakesV, gA9, g09, g19, Act.put, sI9, s09, s19]
         (repeat' (first | exact trivial | refine And.intro (Or.inl ⟨by rfl, ?_⟩) ?_)) <;> (intro w hSw; (try dsimp only at hSw); go_simp)
        simp only [actV, gA9, g09, g19, Act.put, sI9, s09, s19]
        refine wpAnyT_one (i := 14) (o := { dst := some 158, op := Op.call { callee := Callee.value (Operand.func 13), args := #[Operand.tmp 156, Operand.tmp 157], argTypes := #[29, 29] }, type := 29, pos := "top16.go:95", after := #[{ on := 12, ground := Ground.data }, { on := 13, ground := Ground.data }, { on := 10, ground := Ground.chain }, { on := 10, ground := Ground.guard }], guard := some (10, true) }) (by kernel_rfl) rfl (fun K hK => ?_)
        go_simp
        go_at_call 13
        refine (mul_z (Zd.out.now GB.out).zi (Ze.out.now GB.out).zi (by decide)).mono ?_
        rintro e w92 ⟨r1, rfl, m1, b⟩
        have lz92 := (show Below _ _ _ from b).size
        replace GB := hid (below_step GB.out b)
        have MX := hid (m1.mono (Nat.zero_le _))
        obtain ⟨nx, xx, ax, cx, rfl⟩ := m1.parts
        clear m1
        clear b
        refine hK.out _ _ (fun _ => KB.out _ GB.out) ?_
        clear hK
        refine wpAnyT_one (i := 15) (o := { dst := some 159, op := Op.call { callee := Callee.value (Operand.func 10), args := #[Operand.tmp 155, Operand.tmp 158], argTypes := #[29, 29] }, type := 4, pos := "top16.go:95", after := #[{ on := 11, ground := Ground.data }, { on := 14, ground := Ground.data }, { on := 14, ground := Ground.chain }, { on := 10, ground := Ground.guard }], guard := some (10, true) }) (by kernel_rfl) rfl (fun K hK => ?_)
        go_simp
        go_at_call 10
        refine (sameInt_yes (Zg.out.now GB.out).zc MX.out.zc rfl).mono ?_
        rintro e w93 ⟨rfl, b⟩
        have lz93 := (show Below _ _ _ from b).size
        replace GB := hid (below_step GB.out b)
        clear b
        refine hK.out _ _ (fun _ => KB.out _ GB.out) ?_
        clear hK
        refine wpAnyT_list [(16, (.bool true))] 1 ?_ (KB.out _ GB.out) ?_
        ·simp only [TakesV, gA9, g09, g19, Act.put, sI9, s09, s19]
         (repeat' (first | exact trivial | refine And.intro (Or.inl ⟨by rfl, ?_⟩) ?_)) <;> (intro w hSw; (try dsimp only at hSw); go_simp)
        simp only [actV, gA9, g09, g19, Act.put, sI9, s09, s19]
        refine wpAnyT_one (i := 17) (o := { dst := some 6, op := Op.assign (Operand.tmp 160), type := 4, pos := "top16.go:95", after := #[{ on := 16, ground := Ground.data }, { on := 15, ground := Ground.chain }, { on := 0, ground := Ground.phase }, { on := 1, ground := Ground.phase }, { on := 2, ground := Ground.phase }, { on := 3, ground := Ground.phase }, { on := 4, ground := Ground.phase }, { on := 5, ground := Ground.phase }, { on := 6, ground := Ground.phase }, { on := 7, ground := Ground.phase }, { on := 8, ground := Ground.phase }, { on := 9, ground := Ground.phase }, { on := 10, ground := Ground.phase }, { on := 11, ground := Ground.phase }, { on := 12, ground := Ground.phase }, { on := 13, ground := Ground.phase }, { on := 14, ground := Ground.phase }, { on := 15, ground := Ground.phase }, { on := 16, ground := Ground.phase }], guard := none }) (by kernel_rfl) rfl (fun K hK => ?_)
        go_simp
        refine hK.out _ _ (fun h => absurd h (by decide)) ?_
        clear hK
        try simp only [Act.put]
        refine wpAnyT_done (by kernel_rfl) ?_ _
        have FIN : Hid (Tru w (.returned (.bool true)) w93) := ⟨rfl, below_step G.out GB.out⟩
        clear GB KB
        go_wp2
        go_ret
        exact FIN.out
       ·skip
        have hnb : ((c2 : Int) != (r2 : Int)) = true := by simp; omega
        have hne : ¬ (c2 : Int) = (r2 : Int) := by omega
        have cA0 := PA.out.at (i := 0) rfl
        have cA1 := PA.out.at (i := 1) rfl
        have cA2 := PA.out.at (i := 2) rfl
        have cB0 := PB.out.at (i := 0) rfl
        have cB1 := PB.out.at (i := 1) rfl
        have cB2 := PB.out.at (i := 2) rfl
        clear MP0
        go_wp2
        go_ret
        exact ⟨rfl, G.out⟩
      ·skip
       have hnb : ((r2 : Int) != (r : Int)) = true := by simp; omega
       have hne : ¬ (r2 : Int) = (r : Int) := by omega
       have cA0 := PA.out.at (i := 0) rfl
       have cA1 := PA.out.at (i := 1) rfl
       have cA2 := PA.out.at (i := 2) rfl
       have cB0 := PB.out.at (i := 0) rfl
       have cB1 := PB.out.at (i := 1) rfl
       have cB2 := PB.out.at (i := 2) rfl
       clear MP0
       go_wp2
       go_ret
       exact ⟨rfl, G.out⟩
     ·rw [decide_eq_false hsb]
      clear hsb
      have cA0 := PA.out.at (i := 0) rfl
      have cA1 := PA.out.at (i := 1) rfl
      have cA2 := PA.out.at (i := 2) rfl
      have cB0 := PB.out.at (i := 0) rfl
      have cB1 := PB.out.at (i := 1) rfl
      have cB2 := PB.out.at (i := 2) rfl
      clear MP0
      go_wp2
      go_ret
      exact ⟨rfl, G.out⟩
  ·have HRC := hid hrc
   have hnb : ((r : Int) != (c : Int)) = true := by simp; omega
   have hne : ¬ (r : Int) = (c : Int) := by omega
   have HD := hid (det_fit ma hrc)
   clear ma hrc
   refine (HD.out).mono ?_
   rintro e w24 ⟨rq, rfl, m, b⟩
   replace PA := hid (PA.out.step b)
   replace PB := hid (PB.out.step b)
   replace RA := hid (RA.out.now b)
   replace RB := hid (RB.out.now b)
   replace RS := hid (RS.out.now b)
   replace R1 := hid (R1.out.now b)
   replace G := hid (below_step G.out b)
   obtain ⟨nd, xd, ad, cd, rfl⟩ := m.parts
   obtain ⟨ld, hld⟩ : ∃ ld, xd.length = ld := ⟨_, rfl⟩
   rw [hld] at m ⊢
   clear m hld HD
   clear b
   obtain ⟨V25, hV⟩ : ∃ V25, w24.alloc (duo (.bool nd) (.slice ad ld cd)) = V25 := ⟨_, rfl⟩
   obtain ⟨b, sz25⟩ := alo1 w24 (duo (.bool nd) (.slice ad ld cd))
   rw [hV] at b sz25
   replace PA := hid (PA.out.step b)
   replace PB := hid (PB.out.step b)
   replace RA := hid (RA.out.now b)
   replace RB := hid (RB.out.now b)
   replace RS := hid (RS.out.now b)
   replace R1 := hid (R1.out.now b)
   replace G := hid (below_step G.out b)
   clear b sz25
   have Dd : Hid (Duo V25 w24.heap.size (.bool nd) (.slice ad ld cd)) := by unfold Hid; rw [← hV]; exact Duo.new w24 _ _
   have cA0 := PA.out.at (i := 0) rfl
   have cA1 := PA.out.at (i := 1) rfl
   have cA2 := PA.out.at (i := 2) rfl
   rw [← hV] at cA0 cA1 cA2
   have EV : Hid (w24.alloc (duo (.bool nd) (.slice ad ld cd)) = V25) := hV
   clear hV
   go_wp2_with fail
   rw [EV.out]
   clear EV
   clear cA0 cA1 cA2
   refine (tsound_any HLA.out).mono ?_
   rintro e w26 ⟨rfl, b⟩
   replace PA := hid (PA.out.step b)
   replace PB := hid (PB.out.step b)
   replace RA := hid (RA.out.now b)
   replace RB := hid (RB.out.now b)
   replace RS := hid (RS.out.now b)
   replace R1 := hid (R1.out.now b)
   replace Dd := hid (Dd.out.step b)
   replace G := hid (below_step G.out b)
   clear b
   rw [ES.out]
   have cA0 := PA.out.at (i := 0) rfl
   have cA1 := PA.out.at (i := 1) rfl
   have cA2 := PA.out.at (i := 2) rfl
   go_wp2
   go_ret
   exact ⟨rfl, G.out⟩
 ·have ES : Hid (decide (Snd ra ca la) = false) := decide_eq_false hsa
  have HD := hid (det_un (w := w2) (a := a1) (cap := q1) hsa)
  clear hsa
  refine (HD.out).mono ?_
  rintro e w27 ⟨rq, rfl, m, b⟩
  replace PA := hid (PA.out.step b)
  replace PB := hid (PB.out.step b)
  replace RA := hid (RA.out.now b)
  replace RB := hid (RB.out.now b)
  replace RS := hid (RS.out.now b)
  replace R1 := hid (R1.out.now b)
  replace G := hid (below_step G.out b)
  obtain ⟨nd, xd, ad, cd, rfl⟩ := m.parts
  obtain ⟨ld, hld⟩ : ∃ ld, xd.length = ld := ⟨_, rfl⟩
  rw [hld] at m ⊢
  clear m hld HD
  clear b
  obtain ⟨V28, hV⟩ : ∃ V28, w27.alloc (duo (.bool nd) (.slice ad ld cd)) = V28 := ⟨_, rfl⟩
  obtain ⟨b, sz28⟩ := alo1 w27 (duo (.bool nd) (.slice ad ld cd))
  rw [hV] at b sz28
  replace PA := hid (PA.out.step b)
  replace PB := hid (PB.out.step b)
  replace RA := hid (RA.out.now b)
  replace RB := hid (RB.out.now b)
  replace RS := hid (RS.out.now b)
  replace R1 := hid (R1.out.now b)
  replace G := hid (below_step G.out b)
  clear b sz28
  have Dd : Hid (Duo V28 w27.heap.size (.bool nd) (.slice ad ld cd)) := by unfold Hid; rw [← hV]; exact Duo.new w27 _ _
  have cA0 := PA.out.at (i := 0) rfl
  have cA1 := PA.out.at (i := 1) rfl
  have cA2 := PA.out.at (i := 2) rfl
  rw [← hV] at cA0 cA1 cA2
  have EV : Hid (w27.alloc (duo (.bool nd) (.slice ad ld cd)) = V28) := hV
  clear hV
  go_wp2_with fail
  rw [EV.out]
  clear EV
  clear cA0 cA1 cA2
  refine (tsound_any HLA.out).mono ?_
  rintro e w29 ⟨rfl, b⟩
  replace PA := hid (PA.out.step b)
  replace PB := hid (PB.out.step b)
  replace RA := hid (RA.out.now b)
  replace RB := hid (RB.out.now b)
  replace RS := hid (RS.out.now b)
  replace R1 := hid (R1.out.now b)
  replace Dd := hid (Dd.out.step b)
  replace G := hid (below_step G.out b)
  clear b
  rw [ES.out]
  have cA0 := PA.out.at (i := 0) rfl
  have cA1 := PA.out.at (i := 1) rfl
  have cA2 := PA.out.at (i := 2) rfl
  go_wp2
  go_ret
  exact ⟨rfl, G.out⟩
end Go.Proofs.YtnpcfohimlfbdaaGreat
