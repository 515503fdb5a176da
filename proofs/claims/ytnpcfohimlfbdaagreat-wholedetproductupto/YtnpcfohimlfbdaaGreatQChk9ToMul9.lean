/-
 QChk9ToMul9: Chk9, Mul9, joined.
-/
import Derived.Test.YtnpcfohimlfbdaaGreatQProd9ToMat9

set_option maxRecDepth 100000
set_option maxHeartbeats 6400000
set_option linter.unusedVariables false
set_option linter.unusedSimpArgs false
namespace Go.Proofs.YtnpcfohimlfbdaaGreat
open Go.RowKit

theorem isShape_yes {w : World} {r c : Nat} (hr : r ≤ 64) (hc : c ≤ 64) : Calls Tryz.prog 51 #[.int .i64 (r : Int), .int .i64 (c : Int)] w fun e w' => e = .returned (.bool true) ∧ w' = w := by
 have h1 : (0 : Int) ≤ (r : Int) := by omega
 have h2 : (0 : Int) ≤ (c : Int) := by omega
 have h3 : (r : Int) ≤ 64 := by omega
 have h4 : (c : Int) ≤ 64 := by omega
 have h5 : max (r : Int) (c : Int) ≤ 64 := by omega
 have h6 : 0 ≤ min (r : Int) (c : Int) := by omega
 go_enter Tryz.func51, Tryz.ntmps51
 go_wp2
 go_ret
 exact ⟨rfl, rfl⟩
theorem check_yes {w : World} {v : Value} {r c : Nat} {zs : List Int} {k : Nat} (h : Mx w v r c zs k) : Calls Tryz.prog 26 #[v] w fun e w' => e = .returned (.int .i64 0) ∧ Below w.heap.size w w' := by
 obtain ⟨a, cap, rfl, hr, hc⟩ := h.form
 have hm0 := wrapM9 (i := r) (c := c) hr hc
 obtain ⟨n, hn⟩ : ∃ n, r * c = n := ⟨_, rfl⟩
 rw [hn] at hm0
 have hm2 := hm0
 rw [IntKind.wrap_i64] at hm2
 rw [hn]
 obtain ⟨W0, hW⟩ : ∃ W0, w.alloc (matO r c (.slice a n cap)) = W0 := ⟨_, rfl⟩
 obtain ⟨b0, sz0⟩ := alo1 w (matO r c (.slice a n cap))
 rw [hW] at b0 sz0
 have P1 : Hid (Cel W0 w.heap.size 24 (matc r c (.slice a n cap))) := by unfold Hid; rw [← hW]; exact Cel.new w _ _
 have x0 := P1.out.at (i := 0) rfl
 have x1 := P1.out.at (i := 1) rfl
 have x2 := P1.out.at (i := 2) rfl
 rw [← hW] at x0 x1 x2
 have HS := hid (isShape_yes (w := W0) hr hc)
 have G0 := hid b0
 have EW := hid hW
 have q0 : ((n : Int) != (n : Int)) = false := by simp
 clear b0 sz0 hW h hn P1
 go_enter Tryz.func26, Tryz.ntmps26
 go_wp2_with fail
 rw [EW.out]
 refine HS.out.mono ?_
 rintro e w1 ⟨rfl, rfl⟩
 rw [EW.out] at x0 x1 x2
 go_wp2
 go_ret
 exact ⟨rfl, G0.out⟩
/-- A list of sound matrices. -/
def Ms (w : World) (v : Value) (n : Nat) : Prop := ∃ a cap, v = .slice a n cap ∧ n ≤ 1048576 ∧ (n = 0 ∨ ∃ b off, a = some ⟨b, off, none⟩ ∧ ∀ j, j < n → ∃ (r c l cap' : Nat) (a' : Option Addr), w.cell? ⟨b, off + j * 3, none⟩ = some (.int .i64 (r : Int)) ∧ w.cell? ⟨b, off + j * 3 + 1, none⟩ = some (.int .i64 (c : Int)) ∧ w.cell? ⟨b, off + j * 3 + 2, none⟩ = some (.slice a' l cap') ∧ ∃ zs k, Mx w (matv r c (.slice a' l cap')) r c zs k)
def ChkH (w : World) (n gk : Nat) (s : Value) (wx : World) : Prop := ∃ i : Nat, s = .int .i64 (i : Int) ∧ i ≤ n ∧ gk = n - i ∧ Below w.heap.size w wx
theorem checkAll_yes {w : World} {v : Value} {n : Nat} (h : Ms w v n) : Calls Tryz.prog 36 #[v] w fun e w' => e = .returned (.int .i64 0) ∧ Below w.heap.size w w' := by
 obtain ⟨a0, c0, rfl, hn, hel⟩ := h
 have EL := hid hel
 have H0 : Hid (ChkH w n n (.int .i64 0) w) := ⟨0, rfl, Nat.zero_le _, by omega, Below.refl _ _⟩
 clear hel
 go_enter Tryz.func36, Tryz.ntmps36
 go_wp2_with fail
 go_loopg [8] n (fun gk s8 wx => ChkH w n gk s8 wx)
 case atStart => exact H0.out
 case round =>
  clear H0
  obtain ⟨i, rfl, hin, hg, hG⟩ := hrel
  have G := hid hG
  have HG := hid hg
  clear hG hg
  by_cases hlt : i < n
  ·have hlt' : (i : Int) < (n : Int) := by omega
   obtain ⟨b1, o1, rfl, hel⟩ := EL.out.resolve_left (by omega)
   obtain ⟨r, c, l, cap', a', e0, e1, e2, zs, k, hm⟩ := hel i hlt
   have k0 := cnow G.out e0
   have k1 := cnow G.out e1
   have k2 := cnow G.out e2
   obtain ⟨V1, hV⟩ : ∃ V1, wr.alloc (matO r c (.slice a' l cap')) = V1 := ⟨_, rfl⟩
   obtain ⟨b1', sz1⟩ := alo1 wr (matO r c (.slice a' l cap'))
   rw [hV] at b1' sz1
   have P4 : Hid (Cel V1 wr.heap.size 24 (matc r c (.slice a' l cap'))) := by unfold Hid; rw [← hV]; exact Cel.new wr _ _
   have GV := hid (below_step G.out b1')
   have HS := hid (check_yes (hm.now GV.out))
   have x0 := P4.out.at (i := 0) rfl
   have x1 := P4.out.at (i := 1) rfl
   have x2 := P4.out.at (i := 2) rfl
   rw [← hV] at x0 x1 x2
   have EV := hid hV
   have hw := wrapI9 (i := i) (by omega)
   clear e0 e1 e2 hel hm b1' sz1 hV P4 G
   go_wp2_with fail
   rw [EV.out]
   refine HS.out.mono ?_
   rintro e w1 ⟨rfl, b⟩
   have HN1 : Hid (ChkH w n (n - (i + 1)) (.int .i64 ((i + 1 : Nat) : Int)) w1) := ⟨i + 1, rfl, by omega, rfl, below_step GV.out b⟩
   have HMM : Hid (n - (i + 1) < gk) := by unfold Hid; rw [HG.out]; omega
   clear HS GV b EV HG x0 x1 x2 k0 k1 k2
   go_wp2_with fail
   go_roundg (n - (i + 1))
   case rel => exact HN1.out
   case measure => exact HMM.out
  ·have hlt' : ¬ (i : Int) < (n : Int) := by omega
   clear HG
   go_wp2
   go_ret
   exact ⟨rfl, G.out⟩

abbrev twoO (r m m' c : Nat) (x y : Value) : Obj := .cells #[.int .i64 (r : Int), .int .i64 (m : Int), x, .int .i64 (m' : Int), .int .i64 (c : Int), y] 24
theorem ms_two {w W : World} {r m m' c la lb ca cb ka kb : Nat} {aa ab : Option Addr} {xs ys : List Int} (hW : w.alloc (twoO r m m' c (.slice aa la ca) (.slice ab lb cb)) = W) (ha : Mx w (matv r m (.slice aa la ca)) r m xs ka) (hb : Mx w (matv m' c (.slice ab lb cb)) m' c ys kb) : Ms W (.slice (some ⟨w.heap.size, 0, none⟩) 2 2) 2 := by
 have b0 := (alo1 w (twoO r m m' c (.slice aa la ca) (.slice ab lb cb))).1
 rw [hW] at b0
 have P : Cel W w.heap.size 24 [.int .i64 (r : Int), .int .i64 (m : Int), .slice aa la ca, .int .i64 (m' : Int), .int .i64 (c : Int), .slice ab lb cb] := by rw [← hW]; exact Cel.new w _ _
 refine ⟨_, _, rfl, by omega, .inr ⟨w.heap.size, 0, rfl, fun j hj => ?_⟩⟩
 match j, hj with
 | 0, _ => exact ⟨r, m, la, ca, aa, P.at rfl, P.at rfl, P.at rfl, xs, ka, ha.now b0⟩
 | 1, _ => exact ⟨m', c, lb, cb, ab, P.at rfl, P.at rfl, P.at rfl, ys, kb, hb.now b0⟩
/-- What a call answers that gives a matrix and an error. -/
def GivesMO (w : World) (r c : Nat) (zs : List Int) (k : Nat) (e : Ending) (w' : World) : Prop := ∃ v, e = .returned (.tuple #[v, .int .i64 0]) ∧ Mc w' v r c zs k ∧ Below w.heap.size w w'
abbrev mzero : Value := .agg #[.int .i64 0, .int .i64 0, .slice none 0 0]
def GivesME (w : World) (E : Int) (e : Ending) (w' : World) : Prop := e = .returned (.tuple #[mzero, .int .i64 E]) ∧ Below w.heap.size w w'
/-- Three boxes: two matrices and the answer's. -/
theorem three_boxes {w W0 : World} {o1 o2 : List Value} (hW : ((w.alloc (.cells o1.toArray 24)).alloc (.cells o2.toArray 24)).alloc mbox = W0) :
  Cel W0 w.heap.size 24 o1 ∧ Cel W0 (w.heap.size + 1) 24 o2 ∧ Cel W0 (w.heap.size + 1 + 1) 24 [.int .i64 0, .int .i64 0, .slice none 0 0] := by
 refine ⟨?_, ?_, ?_⟩
 ·rw [← hW]
  exact (((Cel.new w 24 o1).step ((Below.refl _ _).alloc (Nat.le_refl _) _)).step ((Below.refl _ _).alloc (Nat.le_refl _) _))
 ·rw [← hW]
  have := ((Cel.new (w.alloc (.cells o1.toArray 24)) 24 o2).step ((Below.refl _ _).alloc (Nat.le_refl _) mbox))
  simpa using this
 ·rw [← hW]
  have := Cel.new ((w.alloc (.cells o1.toArray 24)).alloc (.cells o2.toArray 24)) 24 [.int .i64 0, .int .i64 0, .slice none 0 0]
  simpa using this
theorem Mc.wk {w : World} {v : Value} {r c : Nat} {zs : List Int} {k b : Nat} (h : Mc w v r c zs k) {x0 x1 : Int} {a : Option Addr} {l n : Nat} (d : Cel w b 24 [.int .i64 x0, .int .i64 x1, .slice a l n]) (y0 y1 y2 : Value) : Mc (put3 w b y0 y1 y2) v r c zs k := by
 obtain ⟨at_, ps, h1, h2, h3, h4⟩ := h
 refine ⟨at_, ps, h1, ?_, h3.wk (d.wk3 _ _ _), h4⟩
 obtain ⟨a', c', e1, e2, e3, e4, e5⟩ := h2
 refine ⟨a', c', e1, e2, e3, e4, ?_⟩
 rcases e5 with e5 | ⟨b', off, e6, e7, e8, e9⟩
 ·exact .inl e5
 ·refine .inr ⟨b', off, e6, e7, by simpa using e8, fun j p hp => ?_⟩
  have hne : b ≠ b' := by
   intro e
   subst e
   have hz : zs[j]? = some (zs[j]'(by rw [← h3.1]; exact (List.getElem?_eq_some_iff.1 hp).1)) := List.getElem?_eq_getElem _
   obtain ⟨n1, a1, l1, c1, q⟩ := (h3.2 j p _ hp hz).zi.isI
   have q1 := (e9 j p hp).1
   rw [show p.1 = .bool n1 by rw [Prod.mk.injEq] at q; exact q.1] at q1
   have q2 : w.heap[b]? = some (.cells #[.int .i64 x0, .int .i64 x1, .slice a l n] 24 (0, 0)) := d
   simp only [World.cell?, q2] at q1
   simp at q1
   generalize off + j * 2 = o at q1
   match o, q1 with
   | 0, q1 => simp at q1
   | 1, q1 => simp at q1
   | 2, q1 => simp at q1
   | o + 3, q1 => simp at q1
  have e : ∀ o, (put3 w b y0 y1 y2).cell? ⟨b', o, none⟩ = w.cell? ⟨b', o, none⟩ := fun o => by
   rw [World.cell?_setCell_other _ _ _ _ (by simp <;> omega), World.cell?_setCell_other _ _ _ _ (by simp <;> omega), World.cell?_setCell_other _ _ _ _ (by simp <;> omega)]
  rw [e, e]
  exact e9 j p hp
theorem mul_yes {w : World} {va vb : Value} {r m c : Nat} {xs ys : List Int} {k l : Nat} (ha : Mx w va r m xs k) (hb : Mx w vb m c ys l) (hk : k + l + m < 35184372088832) :
  Calls Tryz.prog 15 #[va, vb] w (GivesMO w r c (prodL r m c xs ys) (k + l + m)) := by
 obtain ⟨aa, ca, rfl, hr, hm⟩ := ha.form
 obtain ⟨ab, cb, rfl, -, hc⟩ := hb.form
 generalize r * m = la at *
 generalize m * c = lb at *
 obtain ⟨W0, hW⟩ : ∃ W0, ((w.alloc (matO r m (.slice aa la ca))).alloc (matO m c (.slice ab lb cb))).alloc mbox = W0 := ⟨_, rfl⟩
 obtain ⟨b0, sz0⟩ := alloc3 w (matO r m (.slice aa la ca)) (matO m c (.slice ab lb cb)) mbox
 rw [hW] at b0 sz0
 obtain ⟨pa, pb, pr⟩ := three_boxes (o1 := matc r m (.slice aa la ca)) (o2 := matc m c (.slice ab lb cb)) hW
 obtain ⟨V1, hV⟩ : ∃ V1, W0.alloc (twoO r m m c (.slice aa la ca) (.slice ab lb cb)) = V1 := ⟨_, rfl⟩
 obtain ⟨b1, sz1⟩ := alo1 W0 (twoO r m m c (.slice aa la ca) (.slice ab lb cb))
 rw [hV] at b1 sz1
 have HCK := hid (checkAll_yes (ms_two hV (ha.now b0) (hb.now b0)))
 have A1 := hid ((ha.now b0).now b1)
 have B1 := hid ((hb.now b0).now b1)
 have x0 := pa.at (i := 0) rfl
 have x1 := pa.at (i := 1) rfl
 have x2 := pa.at (i := 2) rfl
 have y0 := pb.at (i := 0) rfl
 have y1 := pb.at (i := 1) rfl
 have y2 := pb.at (i := 2) rfl
 rw [← hW] at x0 x1 x2 y0 y1 y2
 have PA := hid (pa.step b1)
 have PB := hid (pb.step b1)
 have PR := hid (pr.step b1)
 have G1 := hid (below_step b0 b1)
 have SZ := hid sz0
 have HK := hid hk
 have EQ : Hid ((((w.alloc (matO r m (.slice aa la ca))).alloc (matO m c (.slice ab lb cb))).alloc mbox).alloc (twoO r m m c (.slice aa la ca) (.slice ab lb cb)) = V1) := by unfold Hid; rw [hW, hV]
 have ES : Hid ((((w.alloc (matO r m (.slice aa la ca))).alloc (matO m c (.slice ab lb cb))).alloc mbox).heap.size = W0.heap.size) := by unfold Hid; rw [hW]
 have q0 : ((m : Int) != (m : Int)) = false := by simp
 have SW : Hid (W0.heap.size = w.heap.size + 1 + 1 + 1) := sz0
 rw [SW.out] at HCK
 clear ha hb hk b0 sz0 hW pa pb pr b1 sz1 hV
 go_enter Tryz.func15, Tryz.ntmps15
 go_wp2_with fail
 rw [EQ.out]
 refine HCK.out.mono ?_
 rintro e w1 ⟨rfl, b⟩
 have HPR := hid (product_any (A1.out.now b) (B1.out.now b) HK.out)
 have PR1 := hid (PR.out.step b)
 have G2 := hid (below_step G1.out b)
 have z0 := (PA.out.step b).at (i := 0) rfl
 have z1 := (PA.out.step b).at (i := 1) rfl
 have z2 := (PA.out.step b).at (i := 2) rfl
 have t0 := (PB.out.step b).at (i := 0) rfl
 have t1 := (PB.out.step b).at (i := 1) rfl
 have t2 := (PB.out.step b).at (i := 2) rfl
 clear HCK b x0 x1 x2 y0 y1 y2 EQ ES PA PB PR G1
 go_wp2_with fail
 refine HPR.out.mono ?_
 rintro e w2 ⟨v, rfl, hmc, b⟩
 obtain ⟨av, cv, rfl, -, -⟩ := hmc.mx.form
 have PR2 := hid (PR1.out.step b)
 have G3 := hid (below_step G2.out b)
 generalize r * c = lv at *
 have FIN : Hid (GivesMO w r c (prodL r m c xs ys) (k + l + m) (.returned (.tuple #[.agg #[.int .i64 (r : Int), .int .i64 (c : Int), .slice av lv cv], .int .i64 0])) (put3 w2 (w.heap.size + 1 + 1) (.int .i64 (r : Int)) (.int .i64 (c : Int)) (.slice av lv cv))) :=
  ⟨_, rfl, hmc.wk PR2.out _ _ _, below_put3 G3.out (by omega) _ _ _⟩
 have PF := hid (PR2.out.put3 (.int .i64 (r : Int)) (.int .i64 (c : Int)) (.slice av lv cv))
 have r0 := PR2.out.at (i := 0) rfl
 have r1 := PR2.out.at (i := 1) rfl
 have r2 := PR2.out.at (i := 2) rfl
 have f0 := PR2.out.fz 0
 have f1 := PR2.out.fz 1
 have f2 := PR2.out.fz 2
 clear HPR hmc b z0 z1 z2 t0 t1 t2
 go_wp2
 exact bodyPost_ret (mback1 Tryz.results15 PF.out _ (by rfl) (by rfl)) rfl FIN.out
theorem mul_no {w : World} {va vb : Value} {r m m' c : Nat} {xs ys : List Int} {k l : Nat} (ha : Mx w va r m xs k) (hb : Mx w vb m' c ys l) (hne : m ≠ m') :
  Calls Tryz.prog 15 #[va, vb] w (GivesME w 2) := by
 obtain ⟨aa, ca, rfl, hr, hm⟩ := ha.form
 obtain ⟨ab, cb, rfl, -, hc⟩ := hb.form
 generalize r * m = la at *
 generalize m' * c = lb at *
 obtain ⟨W0, hW⟩ : ∃ W0, ((w.alloc (matO r m (.slice aa la ca))).alloc (matO m' c (.slice ab lb cb))).alloc mbox = W0 := ⟨_, rfl⟩
 obtain ⟨b0, sz0⟩ := alloc3 w (matO r m (.slice aa la ca)) (matO m' c (.slice ab lb cb)) mbox
 rw [hW] at b0 sz0
 obtain ⟨pa, pb, pr⟩ := three_boxes (o1 := matc r m (.slice aa la ca)) (o2 := matc m' c (.slice ab lb cb)) hW
 obtain ⟨V1, hV⟩ : ∃ V1, W0.alloc (twoO r m m' c (.slice aa la ca) (.slice ab lb cb)) = V1 := ⟨_, rfl⟩
 obtain ⟨b1, sz1⟩ := alo1 W0 (twoO r m m' c (.slice aa la ca) (.slice ab lb cb))
 rw [hV] at b1 sz1
 have HCK := hid (checkAll_yes (ms_two hV (ha.now b0) (hb.now b0)))
 have x0 := pa.at (i := 0) rfl
 have x1 := pa.at (i := 1) rfl
 have x2 := pa.at (i := 2) rfl
 have y0 := pb.at (i := 0) rfl
 have y1 := pb.at (i := 1) rfl
 have y2 := pb.at (i := 2) rfl
 rw [← hW] at x0 x1 x2 y0 y1 y2
 have PA := hid (pa.step b1)
 have PB := hid (pb.step b1)
 have PR := hid (pr.step b1)
 have G1 := hid (below_step b0 b1)
 have EQ : Hid ((((w.alloc (matO r m (.slice aa la ca))).alloc (matO m' c (.slice ab lb cb))).alloc mbox).alloc (twoO r m m' c (.slice aa la ca) (.slice ab lb cb)) = V1) := by unfold Hid; rw [hW, hV]
 have q0 : ((m : Int) != (m' : Int)) = true := by simp; omega
 have SW : Hid (W0.heap.size = w.heap.size + 1 + 1 + 1) := sz0
 rw [SW.out] at HCK
 clear ha hb b0 sz0 hW pa pb pr b1 sz1 hV hne
 go_enter Tryz.func15, Tryz.ntmps15
 go_wp2_with fail
 rw [EQ.out]
 refine HCK.out.mono ?_
 rintro e w1 ⟨rfl, b⟩
 have PR1 := hid (PR.out.step b)
 have G2 := hid (below_step G1.out b)
 have z0 := (PA.out.step b).at (i := 0) rfl
 have z1 := (PA.out.step b).at (i := 1) rfl
 have z2 := (PA.out.step b).at (i := 2) rfl
 have t0 := (PB.out.step b).at (i := 0) rfl
 have t1 := (PB.out.step b).at (i := 1) rfl
 have t2 := (PB.out.step b).at (i := 2) rfl
 have r0 := PR1.out.at (i := 0) rfl
 have r1 := PR1.out.at (i := 1) rfl
 have r2 := PR1.out.at (i := 2) rfl
 have f0 := PR1.out.fz 0
 have f1 := PR1.out.fz 1
 have f2 := PR1.out.fz 2
 have FIN : Hid (GivesME w 2 (.returned (.tuple #[mzero, .int .i64 2])) (put3 w1 (w.heap.size + 1 + 1) (.int .i64 0) (.int .i64 0) (.slice none 0 0))) := ⟨rfl, below_put3 G2.out (by omega) _ _ _⟩
 have PF := hid (PR1.out.put3 (.int .i64 0) (.int .i64 0) (.slice none 0 0))
 clear HCK b x0 x1 x2 y0 y1 y2 EQ PA PB PR G1 PR1
 go_wp2
 exact bodyPost_ret (mback1 Tryz.results15 PF.out _ (by rfl) (by rfl)) rfl FIN.out
end Go.Proofs.YtnpcfohimlfbdaaGreat
