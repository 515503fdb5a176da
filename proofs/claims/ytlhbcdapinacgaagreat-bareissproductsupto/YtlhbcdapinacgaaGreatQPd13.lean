/-
  Pd13: the walk of BareissProducts.
-/
import Derived.Test.YtlhbcdapinacgaaGreatQWk13ToRf13
import Derived.Test.YtlhbcdapinacgaaGreatQMu13ToTurnP9
import Derived.Test.YtlhbcdapinacgaaGreatQRound8ToPure9
namespace Go.Proofs.YtlhbcdapinacgaaGreat
open Go.RowKit
set_option linter.unusedVariables false

theorem snd13 {r c : Int} {l : Nat} (h : Snd r c l) : ∃ a b : Nat, r = (a : Int) ∧ c = (b : Int) := by
  obtain ⟨h1, h2, h3, h4, h5⟩ := h
  exact ⟨r.toNat, c.toNat, by omega, by omega⟩
theorem Raw.mx13 {w : World} {v : Value} {r c : Nat} {l : Nat} {zs : List Int} (h : Raw w v (r : Int) (c : Int) l zs) (hs : Snd (r : Int) (c : Int) l) : Mx w v r c zs 1048576 ∧ l = r * c := ⟨h.mx hs, by have := hs.2.2.2.2; exact Int.ofNat.inj this⟩
theorem det_turned {n : Nat} {zs : List Int} : det n (en n (turnL9 n n zs)) = det n (en n zs) := by
  rw [← det_turn n (en n zs)]
  exact det_congr fun i j hi hj => turn_at hj hi
theorem sumN_su : ∀ (m : Nat) (f : Nat → Int), sumN m f = su m f
  | 0, f => rfl
  | m + 1, f => by
    have := sumN_su m f
    simp only [su]
    rw [← this]
    exact sumN_succ m f
theorem det_prod {n : Nat} {xs ys : List Int} (hx : xs.length = n * n) : det n (en n (prodL n n n xs ys)) = det n (en n xs) * det n (en n ys) := by
  rw [← det_mul]
  exact det_congr fun i j hi hj => by
    show (prodL n n n xs ys).getD (i * n + j) 0 = su n _
    rw [prod_at hx hi hj, sumN_su]
    rfl
def Tru (w : World) (e : Ending) (w' : World) : Prop := e = .returned (.bool true) ∧ Below w.heap.size w w'
set_option maxHeartbeats 6400000 in
set_option maxRecDepth 100000 in
theorem bareissProducts_any {w : World} {va vb : Value} {ra ca rb cb : Int} {la lb : Nat} {xs ys : List Int} (ha : Raw w va ra ca la xs) (hb : Raw w vb rb cb lb ys) :
    Calls Tryz.prog 4 #[va, vb] w (Tru w) := by
  have RA := hid ha
  have RB := hid hb
  obtain ⟨aa, qa, -, rfl, -, -, -, hla⟩ := ha
  obtain ⟨ab, qb, -, rfl, -, -, -, hlb⟩ := hb
  obtain ⟨W0, hV⟩ : ∃ W0, (w.alloc (.cells #[.int .i64 ra, .int .i64 ca, .slice aa la qa] 24)).alloc (.cells #[.int .i64 rb, .int .i64 cb, .slice ab lb qb] 24) = W0 := ⟨_, rfl⟩
  obtain ⟨b0, sz0⟩ := alloc2 w (.cells #[.int .i64 ra, .int .i64 ca, .slice aa la qa] 24) (.cells #[.int .i64 rb, .int .i64 cb, .slice ab lb qb] 24)
  rw [hV] at b0 sz0
  have PA : Hid (Cel W0 w.heap.size 24 [.int .i64 ra, .int .i64 ca, .slice aa la qa]) := by
    unfold Hid; rw [← hV]
    exact (Cel.new w 24 [.int .i64 ra, .int .i64 ca, .slice aa la qa]).step ((Below.refl _ _).alloc (Nat.le_refl _) _)
  have PB : Hid (Cel W0 (w.heap.size + 1) 24 [.int .i64 rb, .int .i64 cb, .slice ab lb qb]) := by
    unfold Hid; rw [← hV]
    have := Cel.new (w.alloc (.cells #[.int .i64 ra, .int .i64 ca, .slice aa la qa] 24)) 24 [.int .i64 rb, .int .i64 cb, .slice ab lb qb]
    simpa using this
  replace RA := hid (RA.out.now b0)
  replace RB := hid (RB.out.now b0)
  have G := hid b0
  clear b0 sz0
  have x0 := PA.out.at (i := 0) rfl
  have x1 := PA.out.at (i := 1) rfl
  have x2 := PA.out.at (i := 2) rfl
  rw [← hV] at x0 x1 x2
  have EV := hid hV
  clear hV
  go_enter Tryz.func4, Tryz.ntmps4
  go_wp2_with fail
  rw [EV.out]
  clear EV x0 x1 x2
  by_cases hsa : Snd ra ca la
  · obtain ⟨r, c, rfl, rfl⟩ := snd13 hsa
    obtain ⟨ma, -⟩ := RA.out.mx13 hsa
    have MA := hid ma
    clear ma hsa
    by_cases hrc : r = c
    · subst hrc
      clear RA
      have HXL : Hid (xs.length = r * r) := by obtain ⟨_, _, _, _, _, h, _⟩ := MA.out; exact h
      have hr64 : r ≤ 64 := by obtain ⟨_, _, _, _, _, _, h, _⟩ := MA.out; exact h
      refine (refused_no MA.out (by decide)).mono ?_
      rintro e w1 ⟨rfl, b⟩
      replace PA := hid (PA.out.step b)
      replace PB := hid (PB.out.step b)
      replace RB := hid (RB.out.now b)
      replace MA := hid (MA.out.now b)
      replace G := hid (below_step G.out b)
      clear b
      go_wp2_with fail
      refine (awake13 _).mono ?_
      rintro e w2 ⟨rfl, b⟩
      replace PA := hid (PA.out.step b)
      replace PB := hid (PB.out.step b)
      replace RB := hid (RB.out.now b)
      replace MA := hid (MA.out.now b)
      replace G := hid (below_step G.out b)
      clear b
      have cA0 := PA.out.at (i := 0) rfl
      have cA1 := PA.out.at (i := 1) rfl
      have cA2 := PA.out.at (i := 2) rfl
      go_wp2_with fail
      clear cA0 cA1 cA2
      refine (ldet_sq MA.out (by decide)).mono ?_
      rintro e w3 ⟨nd, ad, ld, cd, rfl, m, b⟩
      replace PA := hid (PA.out.step b)
      replace PB := hid (PB.out.step b)
      replace RB := hid (RB.out.now b)
      replace MA := hid (MA.out.now b)
      replace G := hid (below_step G.out b)
      have Zd := hid (m.mono (Nat.zero_le _))
      clear m
      clear b
      obtain ⟨V4, hV⟩ : ∃ V4, w3.alloc (duo (.bool nd) (.slice ad ld cd)) = V4 := ⟨_, rfl⟩
      obtain ⟨b, sz4⟩ := alo1 w3 (duo (.bool nd) (.slice ad ld cd))
      rw [hV] at b sz4
      replace PA := hid (PA.out.step b)
      replace PB := hid (PB.out.step b)
      replace RB := hid (RB.out.now b)
      replace MA := hid (MA.out.now b)
      replace Zd := hid (Zd.out.now b)
      replace G := hid (below_step G.out b)
      clear b sz4
      have Dd : Hid (Duo V4 w3.heap.size (.bool nd) (.slice ad ld cd)) := by unfold Hid; rw [← hV]; exact Duo.new w3 _ _
      have cA0 := PA.out.at (i := 0) rfl
      have cA1 := PA.out.at (i := 1) rfl
      have cA2 := PA.out.at (i := 2) rfl
      rw [← hV] at cA0 cA1 cA2
      have EV : Hid (w3.alloc (duo (.bool nd) (.slice ad ld cd)) = V4) := hV
      clear hV
      go_wp2_with fail
      rw [EV.out]
      clear EV
      clear cA0 cA1 cA2
      refine (turn_yes MA.out).mono ?_
      rintro e w5 ⟨vt, rfl, mt, b⟩
      replace PA := hid (PA.out.step b)
      replace PB := hid (PB.out.step b)
      replace RB := hid (RB.out.now b)
      replace MA := hid (MA.out.now b)
      replace Zd := hid (Zd.out.now b)
      replace Dd := hid (Dd.out.step b)
      replace G := hid (below_step G.out b)
      obtain ⟨at1, qt, rfl, -, -⟩ := mt.mx.form
      have MT := hid mt.mx
      clear mt
      clear b
      obtain ⟨lt1, hlt⟩ : ∃ lt1, r * r = lt1 := ⟨_, rfl⟩
      rw [hlt] at MT ⊢
      obtain ⟨V6, hV⟩ : ∃ V6, w5.alloc (.cells #[.int .i64 ((r : Int)), .int .i64 ((r : Int)), .slice at1 lt1 qt] 24) = V6 := ⟨_, rfl⟩
      obtain ⟨b, sz6⟩ := alo1 w5 (.cells #[.int .i64 ((r : Int)), .int .i64 ((r : Int)), .slice at1 lt1 qt] 24)
      rw [hV] at b sz6
      replace PA := hid (PA.out.step b)
      replace PB := hid (PB.out.step b)
      replace RB := hid (RB.out.now b)
      replace MA := hid (MA.out.now b)
      replace Zd := hid (Zd.out.now b)
      replace Dd := hid (Dd.out.step b)
      replace MT := hid (MT.out.now b)
      replace G := hid (below_step G.out b)
      clear b sz6
      have PT : Hid (Cel V6 w5.heap.size 24 [.int .i64 ((r : Int)), .int .i64 ((r : Int)), .slice at1 lt1 qt]) := by unfold Hid; rw [← hV]; exact Cel.new w5 _ _
      have cT0 := PT.out.at (i := 0) rfl
      have cT1 := PT.out.at (i := 1) rfl
      have cT2 := PT.out.at (i := 2) rfl
      rw [← hV] at cT0 cT1 cT2
      have EV : Hid (w5.alloc (.cells #[.int .i64 ((r : Int)), .int .i64 ((r : Int)), .slice at1 lt1 qt] 24) = V6) := hV
      clear hV
      go_wp2_with fail
      rw [EV.out]
      clear EV
      clear cT0 cT1 cT2
      refine (ldet_sq MT.out (by decide)).mono ?_
      rintro e w7 ⟨nu, au, lu, cu, rfl, m, b⟩
      replace PA := hid (PA.out.step b)
      replace PB := hid (PB.out.step b)
      replace RB := hid (RB.out.now b)
      replace MA := hid (MA.out.now b)
      replace Zd := hid (Zd.out.now b)
      replace Dd := hid (Dd.out.step b)
      replace MT := hid (MT.out.now b)
      replace PT := hid (PT.out.step b)
      replace G := hid (below_step G.out b)
      have Zu := hid (m.mono (Nat.zero_le _))
      clear m
      clear b
      obtain ⟨V8, hV⟩ : ∃ V8, w7.alloc (duo (.bool nu) (.slice au lu cu)) = V8 := ⟨_, rfl⟩
      obtain ⟨b, sz8⟩ := alo1 w7 (duo (.bool nu) (.slice au lu cu))
      rw [hV] at b sz8
      replace PA := hid (PA.out.step b)
      replace PB := hid (PB.out.step b)
      replace RB := hid (RB.out.now b)
      replace MA := hid (MA.out.now b)
      replace Zd := hid (Zd.out.now b)
      replace Dd := hid (Dd.out.step b)
      replace MT := hid (MT.out.now b)
      replace PT := hid (PT.out.step b)
      replace Zu := hid (Zu.out.now b)
      replace G := hid (below_step G.out b)
      clear b sz8
      have Du : Hid (Duo V8 w7.heap.size (.bool nu) (.slice au lu cu)) := by unfold Hid; rw [← hV]; exact Duo.new w7 _ _
      have ETD : Hid (det r (en r (turnL9 r r xs)) = det r (en r xs)) := det_turned
      rw [ETD.out] at Zu
      obtain ⟨dA, hdA⟩ : ∃ dA, det r (en r xs) = dA := ⟨_, rfl⟩
      rw [hdA] at Zu Zd
      have EDA := hid hdA
      clear hdA ETD
      have cd0 := Dd.out.c0
      have cd1 := Dd.out.c1
      have cu0 := Du.out.c0
      have cu1 := Du.out.c1
      rw [← hV] at cd0 cd1 cu0 cu1
      have EV : Hid (w7.alloc (duo (.bool nu) (.slice au lu cu)) = V8) := hV
      clear hV
      go_wp2_with fail
      rw [EV.out]
      clear EV
      clear cd0 cd1 cu0 cu1
      refine (cmp_z Zd.out.zi Zu.out.zi).mono ?_
      rintro e w9 ⟨rfl, b⟩
      replace PA := hid (PA.out.step b)
      replace PB := hid (PB.out.step b)
      replace RB := hid (RB.out.now b)
      replace MA := hid (MA.out.now b)
      replace Zd := hid (Zd.out.now b)
      replace Dd := hid (Dd.out.step b)
      replace MT := hid (MT.out.now b)
      replace PT := hid (PT.out.step b)
      replace Zu := hid (Zu.out.now b)
      replace Du := hid (Du.out.step b)
      replace G := hid (below_step G.out b)
      clear b
      rw [cmpI_self]
      clear PT
      clear Du
      clear Zu
      clear MT
      have cA0 := PA.out.at (i := 0) rfl
      have cA1 := PA.out.at (i := 1) rfl
      have cA2 := PA.out.at (i := 2) rfl
      have cB0 := PB.out.at (i := 0) rfl
      have cB1 := PB.out.at (i := 1) rfl
      have cB2 := PB.out.at (i := 2) rfl
      go_wp2_with fail
      clear cA0 cA1 cA2 cB0 cB1 cB2
      by_cases hsb : Snd rb cb lb
      · obtain ⟨r2, c2, rfl, rfl⟩ := snd13 hsb
        obtain ⟨mb, -⟩ := RB.out.mx13 hsb
        have MB := hid mb
        clear mb hsb
        clear RB
        by_cases hmm : r = r2
        · subst hmm
          have hc64 : c2 ≤ 64 := by obtain ⟨_, _, _, _, _, _, _, h⟩ := MB.out; exact h
          refine (mul_yes MA.out MB.out (by omega)).mono ?_
          rintro e w10 ⟨vp, rfl, mp, b⟩
          replace PA := hid (PA.out.step b)
          replace PB := hid (PB.out.step b)
          replace MA := hid (MA.out.now b)
          replace Zd := hid (Zd.out.now b)
          replace Dd := hid (Dd.out.step b)
          replace MB := hid (MB.out.now b)
          replace G := hid (below_step G.out b)
          obtain ⟨ap, qp, rfl, -, -⟩ := mp.mx.form
          have MP := hid mp.mx
          clear mp
          clear b
          obtain ⟨lp1, hlp⟩ : ∃ lp1, r * c2 = lp1 := ⟨_, rfl⟩
          rw [hlp] at MP ⊢
          obtain ⟨V11, hV⟩ : ∃ V11, w10.alloc (.cells #[.int .i64 ((r : Int)), .int .i64 ((c2 : Int)), .slice ap lp1 qp] 24) = V11 := ⟨_, rfl⟩
          obtain ⟨b, sz11⟩ := alo1 w10 (.cells #[.int .i64 ((r : Int)), .int .i64 ((c2 : Int)), .slice ap lp1 qp] 24)
          rw [hV] at b sz11
          replace PA := hid (PA.out.step b)
          replace PB := hid (PB.out.step b)
          replace MA := hid (MA.out.now b)
          replace Zd := hid (Zd.out.now b)
          replace Dd := hid (Dd.out.step b)
          replace MB := hid (MB.out.now b)
          replace MP := hid (MP.out.now b)
          replace G := hid (below_step G.out b)
          clear b sz11
          have PP : Hid (Cel V11 w10.heap.size 24 [.int .i64 ((r : Int)), .int .i64 ((c2 : Int)), .slice ap lp1 qp]) := by unfold Hid; rw [← hV]; exact Cel.new w10 _ _
          by_cases hcc : r = c2
          · subst hcc
            have cB0 := PB.out.at (i := 0) rfl
            have cB1 := PB.out.at (i := 1) rfl
            have cB2 := PB.out.at (i := 2) rfl
            rw [← hV] at cB0 cB1 cB2
            have EV : Hid (w10.alloc (.cells #[.int .i64 ((r : Int)), .int .i64 ((r : Int)), .slice ap lp1 qp] 24) = V11) := hV
            clear hV
            go_wp2_with fail
            rw [EV.out]
            clear EV
            clear cB0 cB1 cB2
            refine (ldet_sq MB.out (by decide)).mono ?_
            rintro e w12 ⟨ne, ae, le, ce, rfl, m, b⟩
            replace PA := hid (PA.out.step b)
            replace PB := hid (PB.out.step b)
            replace MA := hid (MA.out.now b)
            replace Zd := hid (Zd.out.now b)
            replace Dd := hid (Dd.out.step b)
            replace MB := hid (MB.out.now b)
            replace MP := hid (MP.out.now b)
            replace PP := hid (PP.out.step b)
            replace G := hid (below_step G.out b)
            have Ze := hid (m.mono (Nat.zero_le _))
            clear m
            clear b
            obtain ⟨V13, hV⟩ : ∃ V13, w12.alloc (duo (.bool ne) (.slice ae le ce)) = V13 := ⟨_, rfl⟩
            obtain ⟨b, sz13⟩ := alo1 w12 (duo (.bool ne) (.slice ae le ce))
            rw [hV] at b sz13
            replace PA := hid (PA.out.step b)
            replace PB := hid (PB.out.step b)
            replace MA := hid (MA.out.now b)
            replace Zd := hid (Zd.out.now b)
            replace Dd := hid (Dd.out.step b)
            replace MB := hid (MB.out.now b)
            replace MP := hid (MP.out.now b)
            replace PP := hid (PP.out.step b)
            replace Ze := hid (Ze.out.now b)
            replace G := hid (below_step G.out b)
            clear b sz13
            have De : Hid (Duo V13 w12.heap.size (.bool ne) (.slice ae le ce)) := by unfold Hid; rw [← hV]; exact Duo.new w12 _ _
            have cP0 := PP.out.at (i := 0) rfl
            have cP1 := PP.out.at (i := 1) rfl
            have cP2 := PP.out.at (i := 2) rfl
            rw [← hV] at cP0 cP1 cP2
            have EV : Hid (w12.alloc (duo (.bool ne) (.slice ae le ce)) = V13) := hV
            clear hV
            go_wp2_with fail
            rw [EV.out]
            clear EV
            clear cP0 cP1 cP2
            refine (ldet_sq MP.out (by omega)).mono ?_
            rintro e w14 ⟨ng, ag, lg, cg, rfl, m, b⟩
            replace PA := hid (PA.out.step b)
            replace PB := hid (PB.out.step b)
            replace MA := hid (MA.out.now b)
            replace Zd := hid (Zd.out.now b)
            replace Dd := hid (Dd.out.step b)
            replace MB := hid (MB.out.now b)
            replace MP := hid (MP.out.now b)
            replace PP := hid (PP.out.step b)
            replace Ze := hid (Ze.out.now b)
            replace De := hid (De.out.step b)
            replace G := hid (below_step G.out b)
            have Zg := hid (m.mono (Nat.zero_le _))
            clear m
            clear b
            obtain ⟨V15, hV⟩ : ∃ V15, w14.alloc (duo (.bool ng) (.slice ag lg cg)) = V15 := ⟨_, rfl⟩
            obtain ⟨b, sz15⟩ := alo1 w14 (duo (.bool ng) (.slice ag lg cg))
            rw [hV] at b sz15
            replace PA := hid (PA.out.step b)
            replace PB := hid (PB.out.step b)
            replace MA := hid (MA.out.now b)
            replace Zd := hid (Zd.out.now b)
            replace Dd := hid (Dd.out.step b)
            replace MB := hid (MB.out.now b)
            replace MP := hid (MP.out.now b)
            replace PP := hid (PP.out.step b)
            replace Ze := hid (Ze.out.now b)
            replace De := hid (De.out.step b)
            replace Zg := hid (Zg.out.now b)
            replace G := hid (below_step G.out b)
            clear b sz15
            have Dg : Hid (Duo V15 w14.heap.size (.bool ng) (.slice ag lg cg)) := by unfold Hid; rw [← hV]; exact Duo.new w14 _ _
            have EPD : Hid (det r (en r (prodL r r r xs ys)) = dA * det r (en r ys)) := by unfold Hid; rw [det_prod (by rw [HXL.out]), EDA.out]
            rw [EPD.out] at Zg
            obtain ⟨dB, hdB⟩ : ∃ dB, det r (en r ys) = dB := ⟨_, rfl⟩
            rw [hdB] at Zg Ze
            clear hdB EPD EDA
            have cg0 := Dg.out.c0
            have cg1 := Dg.out.c1
            have cd0 := Dd.out.c0
            have cd1 := Dd.out.c1
            have ce0 := De.out.c0
            have ce1 := De.out.c1
            rw [← hV] at cg0 cg1 cd0 cd1 ce0 ce1
            have EV : Hid (w14.alloc (duo (.bool ng) (.slice ag lg cg)) = V15) := hV
            clear hV
            go_upto_region 14 with fail
            rw [EV.out]
            clear EV
            have cg0 := Dg.out.c0
            have cg1 := Dg.out.c1
            have cd0 := Dd.out.c0
            have cd1 := Dd.out.c1
            have ce0 := De.out.c0
            have ce1 := De.out.c1
            have KB : Hid (∀ w', Below V15.heap.size V15 w' → w'.cell? ⟨w14.heap.size, 0, none⟩ = some (.bool ng) ∧ w'.cell? ⟨w14.heap.size, 1, none⟩ = some (.slice ag lg cg) ∧ w'.cell? ⟨w3.heap.size, 0, none⟩ = some (.bool nd) ∧ w'.cell? ⟨w3.heap.size, 1, none⟩ = some (.slice ad ld cd) ∧ w'.cell? ⟨w12.heap.size, 0, none⟩ = some (.bool ne) ∧ w'.cell? ⟨w12.heap.size, 1, none⟩ = some (.slice ae le ce)) := fun w' h => ⟨cnow h cg0, cnow h cg1, cnow h cd0, cnow h cd1, cnow h ce0, cnow h ce1⟩
            refine wp_region_tail (fun w' => w'.cell? ⟨w14.heap.size, 0, none⟩ = some (.bool ng) ∧ w'.cell? ⟨w14.heap.size, 1, none⟩ = some (.slice ag lg cg) ∧ w'.cell? ⟨w3.heap.size, 0, none⟩ = some (.bool nd) ∧ w'.cell? ⟨w3.heap.size, 1, none⟩ = some (.slice ad ld cd) ∧ w'.cell? ⟨w12.heap.size, 0, none⟩ = some (.bool ne) ∧ w'.cell? ⟨w12.heap.size, 1, none⟩ = some (.slice ae le ce)) 12 (by kernel_rfl) ?_
            obtain ⟨D61, hD⟩ : ∃ D61, V15.drew = D61 := ⟨_, rfl⟩
            have GB : Hid (Below V15.heap.size V15 D61) := by unfold Hid; rw [← hD]; exact (Below.refl _ _).drew
            rw [hD]
            clear hD
            refine wpAnyT_take (i := 0) (oi := { dst := some 83, op := Op.move (Operand.tmp 5), type := 4, pos := "outright.go:100", after := #[], guard := none }) (v := (.bool true)) rfl (by kernel_rfl) (fun _ _ _ h => h) (Or.inl ⟨by rfl, ?_⟩) (KB.out _ GB.out) ?_
            · intro w hSw
              (try dsimp only at hSw)
              go_simp
            simp only [Act.put, List.setIfInBounds_toArray, List.set_cons_zero, List.set_cons_succ]
            refine wpAnyT_take (i := 1) (oi := { dst := some 84, op := Op.move (Operand.tmp 83), type := 4, pos := "outright.go:100", after := #[{ on := 0, ground := Ground.data }], guard := none }) (v := (.bool true)) rfl (by kernel_rfl) (fun _ _ _ h => h) (Or.inl ⟨by rfl, ?_⟩) (KB.out _ GB.out) ?_
            · intro w hSw
              (try dsimp only at hSw)
              go_simp
            simp only [Act.put, List.setIfInBounds_toArray, List.set_cons_zero, List.set_cons_succ]
            refine wpAnyT_take (i := 2) (oi := { dst := some 85, op := Op.move (Operand.tmp 16), type := 4, pos := "outright.go:100", after := #[{ on := 1, ground := Ground.guard }], guard := some (1, true) }) (v := (.bool true)) rfl (by kernel_rfl) (fun _ _ _ h => h) (Or.inl ⟨by rfl, ?_⟩) (KB.out _ GB.out) ?_
            · intro w hSw
              (try dsimp only at hSw)
              go_simp
            simp only [Act.put, List.setIfInBounds_toArray, List.set_cons_zero, List.set_cons_succ]
            refine wpAnyT_take (i := 3) (oi := { dst := some 86, op := Op.pick (Operand.tmp 84) (Operand.tmp 85) (Operand.const (Value.bool false)), type := 4, pos := "outright.go:100", after := #[{ on := 1, ground := Ground.data }, { on := 2, ground := Ground.data }], guard := none }) (v := (.bool true)) rfl (by kernel_rfl) (fun _ _ _ h => h) (Or.inl ⟨by rfl, ?_⟩) (KB.out _ GB.out) ?_
            · intro w hSw
              (try dsimp only at hSw)
              go_simp
            simp only [Act.put, List.setIfInBounds_toArray, List.set_cons_zero, List.set_cons_succ]
            refine wpAnyT_take (i := 4) (oi := { dst := some 87, op := Op.move (Operand.tmp 86), type := 4, pos := "outright.go:100", after := #[{ on := 3, ground := Ground.data }, { on := 1, ground := Ground.chain }], guard := none }) (v := (.bool true)) rfl (by kernel_rfl) (fun _ _ _ h => h) (Or.inl ⟨by rfl, ?_⟩) (KB.out _ GB.out) ?_
            · intro w hSw
              (try dsimp only at hSw)
              go_simp
            simp only [Act.put, List.setIfInBounds_toArray, List.set_cons_zero, List.set_cons_succ]
            refine wpAnyT_take (i := 5) (oi := { dst := some 88, op := Op.load 30 (Operand.tmp 15), type := 30, pos := "outright.go:100", after := #[{ on := 4, ground := Ground.guard }], guard := some (4, true) }) (v := (.agg #[.bool ng, .slice ag lg cg])) rfl (by kernel_rfl) (fun _ _ _ h => h) (Or.inl ⟨by rfl, ?_⟩) (KB.out _ GB.out) ?_
            · intro w hSw
              (try dsimp only at hSw)
              go_simp
            simp only [Act.put, List.setIfInBounds_toArray, List.set_cons_zero, List.set_cons_succ]
            refine wpAnyT_take (i := 6) (oi := { dst := some 89, op := Op.load 30 (Operand.tmp 7), type := 30, pos := "outright.go:100", after := #[{ on := 4, ground := Ground.guard }], guard := some (4, true) }) (v := (.agg #[.bool nd, .slice ad ld cd])) rfl (by kernel_rfl) (fun _ _ _ h => h) (Or.inl ⟨by rfl, ?_⟩) (KB.out _ GB.out) ?_
            · intro w hSw
              (try dsimp only at hSw)
              go_simp
            simp only [Act.put, List.setIfInBounds_toArray, List.set_cons_zero, List.set_cons_succ]
            refine wpAnyT_take (i := 7) (oi := { dst := some 90, op := Op.load 30 (Operand.tmp 14), type := 30, pos := "outright.go:100", after := #[{ on := 4, ground := Ground.guard }], guard := some (4, true) }) (v := (.agg #[.bool ne, .slice ae le ce])) rfl (by kernel_rfl) (fun _ _ _ h => h) (Or.inl ⟨by rfl, ?_⟩) (KB.out _ GB.out) ?_
            · intro w hSw
              (try dsimp only at hSw)
              go_simp
            simp only [Act.put, List.setIfInBounds_toArray, List.set_cons_zero, List.set_cons_succ]
            refine wpAnyT_one (i := 8) (o := { dst := some 91, op := Op.call { callee := Callee.value (Operand.func 20), args := #[Operand.tmp 89, Operand.tmp 90], argTypes := #[30, 30] }, type := 30, pos := "outright.go:100", after := #[{ on := 6, ground := Ground.data }, { on := 7, ground := Ground.data }, { on := 4, ground := Ground.chain }, { on := 4, ground := Ground.guard }], guard := some (4, true) }) (by kernel_rfl) rfl (fun K hK => ?_)
            go_simp
            go_at_call 20
            refine (mul_z (Zd.out.now GB.out).zi (Ze.out.now GB.out).zi (by decide)).mono ?_
            rintro e w62 ⟨r1, rfl, m1, b⟩
            have lz62 := (show Below _ _ _ from b).size
            replace GB := hid (below_step GB.out b)
            have MM := hid (m1.mono (Nat.zero_le _))
            obtain ⟨nm, xm, am, cm, rfl⟩ := m1.parts
            clear m1
            clear b
            refine hK.out _ _ (fun _ => KB.out _ GB.out) ?_
            clear hK
            refine wpAnyT_one (i := 9) (o := { dst := some 92, op := Op.call { callee := Callee.value (Operand.func 12), args := #[Operand.tmp 88, Operand.tmp 91], argTypes := #[30, 30] }, type := 3, pos := "outright.go:100", after := #[{ on := 5, ground := Ground.data }, { on := 8, ground := Ground.data }, { on := 8, ground := Ground.chain }, { on := 4, ground := Ground.guard }], guard := some (4, true) }) (by kernel_rfl) rfl (fun K hK => ?_)
            go_simp
            go_at_call 12
            refine (cmp_z (Zg.out.now GB.out).zi MM.out.zi).mono ?_
            rintro e w63 ⟨rfl, b⟩
            have lz63 := (show Below _ _ _ from b).size
            replace GB := hid (below_step GB.out b)
            have hq := cmpI_self (dA * dB)
            clear b
            refine hK.out _ _ (fun _ => KB.out _ GB.out) ?_
            clear hK
            refine wpAnyT_take (i := 10) (oi := { dst := some 93, op := Op.binOp BinOp.eql 3 (Operand.tmp 92) (Operand.const (Value.int IntKind.i64 0)) 3, type := 4, pos := "outright.go:100", after := #[{ on := 9, ground := Ground.data }, { on := 4, ground := Ground.guard }], guard := some (4, true) }) (v := (.bool true)) rfl (by kernel_rfl) (fun _ _ _ h => h) (Or.inl ⟨by rfl, ?_⟩) (KB.out _ GB.out) ?_
            · intro w hSw
              (try dsimp only at hSw)
              go_simp
            simp only [Act.put, List.setIfInBounds_toArray, List.set_cons_zero, List.set_cons_succ]
            refine wpAnyT_take (i := 11) (oi := { dst := some 94, op := Op.pick (Operand.tmp 87) (Operand.tmp 93) (Operand.const (Value.bool false)), type := 4, pos := "outright.go:100", after := #[{ on := 4, ground := Ground.data }, { on := 10, ground := Ground.data }], guard := none }) (v := (.bool true)) rfl (by kernel_rfl) (fun _ _ _ h => h) (Or.inl ⟨by rfl, ?_⟩) (KB.out _ GB.out) ?_
            · intro w hSw
              (try dsimp only at hSw)
              go_simp
            simp only [Act.put, List.setIfInBounds_toArray, List.set_cons_zero, List.set_cons_succ]
            refine wpAnyT_one (i := 12) (o := { dst := some 4, op := Op.assign (Operand.tmp 94), type := 4, pos := "outright.go:100", after := #[{ on := 11, ground := Ground.data }, { on := 9, ground := Ground.chain }, { on := 0, ground := Ground.phase }, { on := 1, ground := Ground.phase }, { on := 2, ground := Ground.phase }, { on := 3, ground := Ground.phase }, { on := 4, ground := Ground.phase }, { on := 5, ground := Ground.phase }, { on := 6, ground := Ground.phase }, { on := 7, ground := Ground.phase }, { on := 8, ground := Ground.phase }, { on := 9, ground := Ground.phase }, { on := 10, ground := Ground.phase }, { on := 11, ground := Ground.phase }], guard := none }) (by kernel_rfl) rfl (fun K hK => ?_)
            go_simp
            refine hK.out _ _ (fun h => absurd h (by decide)) ?_
            clear hK
            try simp only [Act.put]
            refine wpAnyT_done (by kernel_rfl) ?_ _
            have FIN : Hid (Tru w (.returned (.bool true)) w63) := ⟨rfl, below_step G.out GB.out⟩
            clear GB KB
            go_wp2
            go_ret
            exact FIN.out
          · have hnb : ((r : Int) != (c2 : Int)) = true := by simp; omega
            have hne : ¬ (r : Int) = (c2 : Int) := by omega
            clear hcc
            have cB0 := PB.out.at (i := 0) rfl
            have cB1 := PB.out.at (i := 1) rfl
            have cB2 := PB.out.at (i := 2) rfl
            rw [← hV] at cB0 cB1 cB2
            have EV : Hid (w10.alloc (.cells #[.int .i64 ((r : Int)), .int .i64 ((c2 : Int)), .slice ap lp1 qp] 24) = V11) := hV
            clear hV
            go_wp2_with fail
            rw [EV.out]
            clear EV
            go_ret
            exact ⟨rfl, G.out⟩
        · have hmm2 : ¬ r = r2 := hmm
          refine (mul_no MA.out MB.out hmm).mono ?_
          rintro e w16 ⟨rfl, b⟩
          replace PA := hid (PA.out.step b)
          replace PB := hid (PB.out.step b)
          replace MA := hid (MA.out.now b)
          replace Zd := hid (Zd.out.now b)
          replace Dd := hid (Dd.out.step b)
          replace MB := hid (MB.out.now b)
          replace G := hid (below_step G.out b)
          clear b
          obtain ⟨V17, hV⟩ : ∃ V17, w16.alloc (.cells #[.int .i64 (0), .int .i64 (0), .slice none 0 0] 24) = V17 := ⟨_, rfl⟩
          obtain ⟨b, sz17⟩ := alo1 w16 (.cells #[.int .i64 (0), .int .i64 (0), .slice none 0 0] 24)
          rw [hV] at b sz17
          replace PA := hid (PA.out.step b)
          replace PB := hid (PB.out.step b)
          replace MA := hid (MA.out.now b)
          replace Zd := hid (Zd.out.now b)
          replace Dd := hid (Dd.out.step b)
          replace MB := hid (MB.out.now b)
          replace G := hid (below_step G.out b)
          clear b sz17
          have PP : Hid (Cel V17 w16.heap.size 24 [.int .i64 (0), .int .i64 (0), .slice none 0 0]) := by unfold Hid; rw [← hV]; exact Cel.new w16 _ _
          have EV : Hid (w16.alloc (.cells #[.int .i64 (0), .int .i64 (0), .slice none 0 0] 24) = V17) := hV
          clear hV
          go_wp2
          rw [EV.out]
          go_ret
          exact ⟨rfl, G.out⟩
      · obtain ⟨g1, g2, g3, g4, g5⟩ : True ∧ True ∧ True ∧ True ∧ True := ⟨trivial, trivial, trivial, trivial, trivial⟩
        refine (mul_un MA.out hsb).mono ?_
        rintro e w18 ⟨rfl, b⟩
        replace PA := hid (PA.out.step b)
        replace PB := hid (PB.out.step b)
        replace RB := hid (RB.out.now b)
        replace MA := hid (MA.out.now b)
        replace Zd := hid (Zd.out.now b)
        replace Dd := hid (Dd.out.step b)
        replace G := hid (below_step G.out b)
        clear b
        obtain ⟨V19, hV⟩ : ∃ V19, w18.alloc (.cells #[.int .i64 (0), .int .i64 (0), .slice none 0 0] 24) = V19 := ⟨_, rfl⟩
        obtain ⟨b, sz19⟩ := alo1 w18 (.cells #[.int .i64 (0), .int .i64 (0), .slice none 0 0] 24)
        rw [hV] at b sz19
        replace PA := hid (PA.out.step b)
        replace PB := hid (PB.out.step b)
        replace RB := hid (RB.out.now b)
        replace MA := hid (MA.out.now b)
        replace Zd := hid (Zd.out.now b)
        replace Dd := hid (Dd.out.step b)
        replace G := hid (below_step G.out b)
        clear b sz19
        have PP : Hid (Cel V19 w18.heap.size 24 [.int .i64 (0), .int .i64 (0), .slice none 0 0]) := by unfold Hid; rw [← hV]; exact Cel.new w18 _ _
        have EV : Hid (w18.alloc (.cells #[.int .i64 (0), .int .i64 (0), .slice none 0 0] 24) = V19) := hV
        clear hV
        go_wp2
        rw [EV.out]
        go_ret
        exact ⟨rfl, G.out⟩
    · have hrc2 := hid hrc
      refine (refused_fit MA.out hrc).mono ?_
      rintro e w20 ⟨rfl, b⟩
      replace PA := hid (PA.out.step b)
      replace PB := hid (PB.out.step b)
      replace RA := hid (RA.out.now b)
      replace RB := hid (RB.out.now b)
      replace MA := hid (MA.out.now b)
      replace G := hid (below_step G.out b)
      clear b
      go_wp2_with fail
      refine (awake13 _).mono ?_
      rintro e w21 ⟨rfl, b⟩
      replace PA := hid (PA.out.step b)
      replace PB := hid (PB.out.step b)
      replace RA := hid (RA.out.now b)
      replace RB := hid (RB.out.now b)
      replace MA := hid (MA.out.now b)
      replace G := hid (below_step G.out b)
      clear b
      go_wp2_with fail
      refine (awake13 _).mono ?_
      rintro e w22 ⟨rfl, b⟩
      replace PA := hid (PA.out.step b)
      replace PB := hid (PB.out.step b)
      replace RA := hid (RA.out.now b)
      replace RB := hid (RB.out.now b)
      replace MA := hid (MA.out.now b)
      replace G := hid (below_step G.out b)
      clear b
      go_wp2
      go_ret
      exact ⟨rfl, G.out⟩
  · have hsa2 := hid hsa
    refine (refused_un hsa).mono ?_
    rintro e w23 ⟨rfl, b⟩
    replace PA := hid (PA.out.step b)
    replace PB := hid (PB.out.step b)
    replace RA := hid (RA.out.now b)
    replace RB := hid (RB.out.now b)
    replace G := hid (below_step G.out b)
    clear b
    go_wp2_with fail
    refine (awake13 _).mono ?_
    rintro e w24 ⟨rfl, b⟩
    replace PA := hid (PA.out.step b)
    replace PB := hid (PB.out.step b)
    replace RA := hid (RA.out.now b)
    replace RB := hid (RB.out.now b)
    replace G := hid (below_step G.out b)
    clear b
    go_wp2_with fail
    refine (awake13 _).mono ?_
    rintro e w25 ⟨rfl, b⟩
    replace PA := hid (PA.out.step b)
    replace PB := hid (PB.out.step b)
    replace RA := hid (RA.out.now b)
    replace RB := hid (RB.out.now b)
    replace G := hid (below_step G.out b)
    clear b
    go_wp2
    go_ret
    exact ⟨rfl, G.out⟩
end Go.Proofs.YtlhbcdapinacgaaGreat
