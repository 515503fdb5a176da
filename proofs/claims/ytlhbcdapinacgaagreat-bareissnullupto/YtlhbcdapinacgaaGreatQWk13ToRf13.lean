/-
  QWk13ToRf13: Wk13, Rf13, joined.
-/
import Derived.Test.YtlhbcdapinacgaaGreatQLd13
import Derived.Test.YtlhbcdapinacgaaGreatQLaw9ToMWord
import Derived.Test.YtlhbcdapinacgaaGreatQExact0ToZlaw0

/- Wk13 -/
namespace Go.Proofs.YtlhbcdapinacgaaGreat
open Go.RowKit
set_option linter.unusedVariables false

set_option maxHeartbeats 3200000 in
set_option maxRecDepth 100000 in
theorem of13 {n : Int} (h0 : 0 ≤ n) (h1 : n ≤ 18446744073709551615) (w : World) :
    Calls Tryz.prog 33 #[.int .u64 n] w fun e w' => ∃ a c, e = .returned (.agg #[.bool false, .slice a 1 c]) ∧ Zi w' (.agg #[.bool false, .slice a 1 c]) n 1 ∧ Below w.heap.size w w' := by
  obtain ⟨WX, hWX⟩ : ∃ WX, (w.alloc (duo (.bool false) (.slice (some ⟨w.heap.size + 1, 0, none⟩) 1 1))).alloc (.cells #[.int .u64 n] 64) = WX := ⟨_, rfl⟩
  obtain ⟨b0, sz0⟩ := alloc2 w (duo (.bool false) (.slice (some ⟨w.heap.size + 1, 0, none⟩) 1 1)) (.cells #[.int .u64 n] 64)
  rw [hWX] at b0 sz0
  have dX : Duo WX w.heap.size (.bool false) (.slice (some ⟨w.heap.size + 1, 0, none⟩) 1 1) := by rw [← hWX]; exact duo_late (duo_at rfl) _
  have sX : Sl WX.heap.size WX (.slice (some ⟨w.heap.size + 1, 0, none⟩) 1 1) [n] := by
    have := word_one (w.alloc (duo (.bool false) (.slice (some ⟨w.heap.size + 1, 0, none⟩) 1 1))) n ⟨h0, h1⟩
    rw [hWX] at this
    simpa using this
  have eV : iv false [n] = n := by simp [iv, val]
  have FIN : Hid (Zi WX (.agg #[.bool false, .slice (some ⟨w.heap.size + 1, 0, none⟩) 1 1]) n 1) := ⟨false, [n], _, _, rfl, sX, eV, by simp⟩
  have EW := hid hWX
  have DX := hid dX
  have BX := hid b0
  clear sX dX eV b0 hWX
  go_enter Tryz.func33, Tryz.ntmps33
  go_wp2
  rw [EW.out]
  exact bodyPost_ret (zback Tryz.results33 DX.out _ (by rfl)) rfl ⟨_, _, rfl, FIN.out, BX.out⟩
theorem mx_four {V : World} {g : Nat} {n0 n1 n2 n3 : Bool} {a0 a1 a2 a3 : Option Addr} {l0 l1 l2 l3 c0 c1 c2 c3 : Nat} {z0 z1 z2 z3 : Int} {k : Nat} (d : Cel V g 30 [.bool n0, .slice a0 l0 c0, .bool n1, .slice a1 l1 c1, .bool n2, .slice a2 l2 c2, .bool n3, .slice a3 l3 c3])
    (h0 : Zi V (.agg #[.bool n0, .slice a0 l0 c0]) z0 k) (h1 : Zi V (.agg #[.bool n1, .slice a1 l1 c1]) z1 k) (h2 : Zi V (.agg #[.bool n2, .slice a2 l2 c2]) z2 k) (h3 : Zi V (.agg #[.bool n3, .slice a3 l3 c3]) z3 k) :
    Mx V (.agg #[.int .i64 2, .int .i64 2, .slice (some ⟨g, 0, none⟩) 4 4]) 2 2 [z0, z1, z2, z3] k := by
  have ar : Arr V g [(.bool n0, .slice a0 l0 c0), (.bool n1, .slice a1 l1 c1), (.bool n2, .slice a2 l2 c2), (.bool n3, .slice a3 l3 c3)] := ⟨d, fun p hp => by
    simp at hp
    rcases hp with rfl | rfl | rfl | rfl <;> exact ⟨_, _, _, _, rfl⟩⟩
  refine ⟨_, _, rfl, ar.prs (Nat.zero_le _) (by simp) (Nat.le_refl _), ⟨rfl, fun j p z hp hz => ?_⟩, rfl, by decide, by decide⟩
  match j, hp, hz with
  | 0, hp, hz => simp at hp hz; subst hp hz; exact h0
  | 1, hp, hz => simp at hp hz; subst hp hz; exact h1
  | 2, hp, hz => simp at hp hz; subst hp hz; exact h2
  | 3, hp, hz => simp at hp hz; subst hp hz; exact h3
  | j + 4, hp, hz => simp at hp
theorem can_two : Canon [2] := ⟨wf_word (by omega) WF.nil, by decide⟩
theorem det_four : det 2 (en 2 [1, 2, 3, 4]) = -2 := by decide
set_option maxHeartbeats 3200000 in
set_option maxRecDepth 100000 in
theorem awake13 (w : World) : Calls Tryz.prog 10 #[] w fun e w' => e = .returned (.bool true) ∧ Below w.heap.size w w' := by
  have H1 := hid (of13 (n := 1) (by decide) (by decide) w)
  go_enter Tryz.func10, Tryz.ntmps10
  go_wp2_with fail
  refine H1.out.mono ?_
  rintro e w1 ⟨a1, c1, rfl, z1, b1⟩
  have G := hid b1
  have Z1 := hid z1
  have H2 := hid (of13 (n := 2) (by decide) (by decide) w1)
  clear z1 b1 H1
  go_wp2_with fail
  refine H2.out.mono ?_
  rintro e w2 ⟨a2, c2, rfl, z2, b⟩
  replace G := hid (below_step G.out b)
  replace Z1 := hid (Z1.out.now b)
  have Z2 := hid z2
  have H3 := hid (of13 (n := 3) (by decide) (by decide) w2)
  clear z2 b H2
  go_wp2_with fail
  refine H3.out.mono ?_
  rintro e w3 ⟨a3, c3, rfl, z3, b⟩
  replace G := hid (below_step G.out b)
  replace Z1 := hid (Z1.out.now b)
  replace Z2 := hid (Z2.out.now b)
  have Z3 := hid z3
  have H4 := hid (of13 (n := 4) (by decide) (by decide) w3)
  clear z3 b H3
  go_wp2_with fail
  refine H4.out.mono ?_
  rintro e w4 ⟨a4, c4, rfl, z4, b⟩
  replace G := hid (below_step G.out b)
  replace Z1 := hid (Z1.out.now b)
  replace Z2 := hid (Z2.out.now b)
  replace Z3 := hid (Z3.out.now b)
  obtain ⟨V, hV⟩ : ∃ V, w4.alloc (.cells #[.bool false, .slice a1 1 c1, .bool false, .slice a2 1 c2, .bool false, .slice a3 1 c3, .bool false, .slice a4 1 c4] 30) = V := ⟨_, rfl⟩
  obtain ⟨bv, szv⟩ := alo1 w4 (.cells #[.bool false, .slice a1 1 c1, .bool false, .slice a2 1 c2, .bool false, .slice a3 1 c3, .bool false, .slice a4 1 c4] 30)
  rw [hV] at bv szv
  have d : Cel V w4.heap.size 30 [.bool false, .slice a1 1 c1, .bool false, .slice a2 1 c2, .bool false, .slice a3 1 c3, .bool false, .slice a4 1 c4] := by rw [← hV]; exact Cel.new _ _ _
  have MM := mx_four d (Z1.out.now bv) (Z2.out.now bv) (Z3.out.now bv) (z4.now bv)
  have HD := hid (det_sq MM (by decide))
  rw [det_four] at HD
  replace G := hid (below_step G.out bv)
  have EV := hid hV
  clear z4 b H4 hV bv szv d MM Z1 Z2 Z3
  go_wp2_with fail
  rw [EV.out]
  clear EV
  refine HD.out.mono ?_
  rintro e w5 ⟨rq, rfl, m, b⟩
  obtain ⟨nq, xq, aq, cq, rfl, hmine, hcan, hsg, hiv, hlen⟩ := m
  obtain ⟨rfl, rfl⟩ := iv_one (n := nq) (m := true) (xs := xq) (ys := [2]) (by rw [hiv]; rfl) hcan can_two hsg (fun h => by cases h)
  obtain ⟨W0, hW⟩ : ∃ W0, (w5.alloc (duo (.bool true) (.slice aq 1 cq))).alloc (.cells #[.int .u64 2] 64) = W0 := ⟨_, rfl⟩
  obtain ⟨bv, szv⟩ := alloc2 w5 (duo (.bool true) (.slice aq 1 cq)) (.cells #[.int .u64 2] 64)
  rw [hW] at bv szv
  have d0 : Duo (w5.alloc (duo (.bool true) (.slice aq 1 cq))) w5.heap.size (.bool true) (.slice aq 1 cq) := Duo.new _ _ _
  have x0 := d0.c0
  have x1 := d0.c1
  have sX : Sl W0.heap.size W0 (.slice (some ⟨w5.heap.size + 1, 0, none⟩) 1 1) [2] := by
    have := word_one (w5.alloc (duo (.bool true) (.slice aq 1 cq))) 2 ⟨by decide, by decide⟩
    rw [hW] at this
    simpa using this
  have HS := hid (same_yes (hmine.sl.now bv) sX rfl)
  replace G := hid (below_step (below_step G.out b) bv)
  have EW := hid hW
  clear HD b hmine hcan hsg hiv hlen bv szv hW d0 sX
  go_wp2_with fail
  rw [EW.out]
  clear EW
  refine HS.out.mono ?_
  rintro e w6 ⟨rfl, b⟩
  replace G := hid (below_step G.out b)
  clear HS b
  go_wp2
  go_ret
  exact ⟨rfl, G.out⟩
set_option maxHeartbeats 800000 in
set_option maxRecDepth 100000 in
theorem core_un {w : World} {r c : Int} {a : Option Addr} {l cap : Nat} (h : ¬ Snd r c l) : Calls Tryz.prog 21 #[.agg #[.int .i64 r, .int .i64 c, .slice a l cap]] w fun e w' => e = .returned (.tuple #[.slice none 0 0, .slice none 0 0, .agg #[.bool false, .slice none 0 0], .int .i64 1]) ∧ Below w.heap.size w w' := by
  obtain ⟨W0, hW⟩ : ∃ W0, (w.alloc (.cells #[.int .i64 r, .int .i64 c, .slice a l cap] 24)).alloc zbox = W0 := ⟨_, rfl⟩
  obtain ⟨b0, sz0⟩ := alloc2 w (.cells #[.int .i64 r, .int .i64 c, .slice a l cap] 24) zbox
  rw [hW] at b0 sz0
  have PR : Hid (Duo W0 (w.heap.size + 1) (.bool false) (.slice none 0 0)) := by
    unfold Hid; rw [← hW]
    have := Duo.new (w.alloc (.cells #[.int .i64 r, .int .i64 c, .slice a l cap] 24)) (.bool false) (.slice none 0 0)
    simpa using this
  have HC := hid (check_no (w := W0) (a := a) (cap := cap) h)
  have G := hid b0
  have EW := hid hW
  clear h b0 sz0 hW
  go_enter Tryz.func21, Tryz.ntmps21
  go_wp2_with fail
  rw [EW.out]
  refine HC.out.mono ?_
  rintro e w1 ⟨rfl, b⟩
  have PR1 := hid (PR.out.step b)
  have r0 := PR1.out.c0
  have r1 := PR1.out.c1
  have f0 := PR1.out.fz 0
  have f1 := PR1.out.fz 1
  have FIN : Hid (Below w.heap.size w ((w1.setCell ⟨w.heap.size + 1, 0, none⟩ (.bool false)).setCell ⟨w.heap.size + 1, 1, none⟩ (.slice none 0 0))) := bset (bset (below_step G.out b) (by omega)) (by omega)
  have D2 := hid (PR1.out.set (.bool false) (.slice none 0 0))
  have z0 := D2.out.c0
  have z1 := D2.out.c1
  clear HC b
  go_wp2_with fail
  exact bodyPost_ret (by simp [results, Tryz.results21, go_sem, z0, z1]) rfl ⟨rfl, FIN.out⟩
set_option maxHeartbeats 800000 in
set_option maxRecDepth 100000 in
theorem rank_un {w : World} {r c : Int} {a : Option Addr} {l cap : Nat} (h : ¬ Snd r c l) : Calls Tryz.prog 22 #[.agg #[.int .i64 r, .int .i64 c, .slice a l cap]] w fun e w' => e = .returned (.tuple #[.int .i64 0, .int .i64 1]) ∧ Below w.heap.size w w' := by
  obtain ⟨W0, hW⟩ : ∃ W0, w.alloc (.cells #[.int .i64 r, .int .i64 c, .slice a l cap] 24) = W0 := ⟨_, rfl⟩
  obtain ⟨b0, sz0⟩ := alo1 w (.cells #[.int .i64 r, .int .i64 c, .slice a l cap] 24)
  rw [hW] at b0 sz0
  have HC := hid (core_un (w := W0) (a := a) (cap := cap) h)
  have G := hid b0
  have EW := hid hW
  clear h b0 sz0 hW
  go_enter Tryz.func22, Tryz.ntmps22
  go_wp2_with fail
  rw [EW.out]
  refine HC.out.mono ?_
  rintro e w1 ⟨rfl, b⟩
  have FIN : Hid (Below w.heap.size w (w1.alloc (.cells #[.bool false, .slice none 0 0] 30))) := below_step (below_step G.out b) ((Below.refl _ _).alloc (Nat.le_refl _) _)
  clear HC b
  go_wp2
  go_ret2
  exact ⟨rfl, FIN.out⟩
end Go.Proofs.YtlhbcdapinacgaaGreat

/- Rf13 -/
namespace Go.Proofs.YtlhbcdapinacgaaGreat
open Go.RowKit
set_option linter.unusedVariables false

def GivesZT (w : World) (z : Int) (k : Nat) (e : Ending) (w' : World) : Prop := ∃ n a l c, e = .returned (.tuple #[.agg #[.bool n, .slice a l c], .bool true]) ∧ Zm w.heap.size w' (.agg #[.bool n, .slice a l c]) z k ∧ Below w.heap.size w w'
set_option maxHeartbeats 1600000 in
set_option maxRecDepth 100000 in
theorem ldet_sq {w : World} {v : Value} {n : Nat} {zs : List Int} {k : Nat} (h : Mx w v n n zs k) (hk : k ≤ 4000000000) : Calls Tryz.prog 11 #[v] w (GivesZT w (det n (en n zs)) (64 * k + 7)) := by
  have M0 := h
  obtain ⟨aa, ca, rfl, hn, -⟩ := h.form
  obtain ⟨la, hla⟩ : ∃ la, n * n = la := ⟨_, rfl⟩
  rw [hla] at M0 ⊢
  obtain ⟨W0, hW⟩ : ∃ W0, (w.alloc (matO n n (.slice aa la ca))).alloc zbox = W0 := ⟨_, rfl⟩
  obtain ⟨b0, sz0⟩ := alloc2 w (matO n n (.slice aa la ca)) zbox
  rw [hW] at b0 sz0
  have PR : Hid (Duo W0 (w.heap.size + 1) (.bool false) (.slice none 0 0)) := by
    unfold Hid; rw [← hW]
    have := Duo.new (w.alloc (matO n n (.slice aa la ca))) (.bool false) (.slice none 0 0)
    simpa using this
  have HD := hid (det_sq (M0.now b0) hk)
  have G := hid b0
  have EW := hid hW
  have SZ := hid sz0
  clear h M0 b0 sz0 hW hk hla
  go_enter Tryz.func11, Tryz.ntmps11
  go_wp2_with fail
  rw [EW.out]
  clear EW
  refine HD.out.mono ?_
  rintro e w1 ⟨rq, rfl, m, b⟩
  obtain ⟨nq, xq, aq, cq, rfl⟩ := m.parts
  obtain ⟨V, hV⟩ : ∃ V, w1.alloc (duo (.bool nq) (.slice aq xq.length cq)) = V := ⟨_, rfl⟩
  obtain ⟨bv, szv⟩ := alo1 w1 (duo (.bool nq) (.slice aq xq.length cq))
  rw [hV] at bv szv
  have PR1 := hid ((PR.out.step b).step bv)
  have r0 := PR1.out.c0
  have r1 := PR1.out.c1
  have f0 := PR1.out.fz 0
  have f1 := PR1.out.fz 1
  rw [← hV] at r0 r1 f0 f1
  have FIN : Hid (GivesZT w (det n (en n zs)) (64 * k + 7) (.returned (.tuple #[.agg #[.bool nq, .slice aq xq.length cq], .bool true])) ((V.setCell ⟨w.heap.size + 1, 0, none⟩ (.bool nq)).setCell ⟨w.heap.size + 1, 1, none⟩ (.slice aq xq.length cq))) := by
    obtain ⟨_, e, g1, g2⟩ := zfin13 (m.now bv) (below_step (below_step G.out b) bv) (show w.heap.size ≤ w.heap.size + 1 by omega) (by have := SZ.out; omega)
    simp only [Ending.returned.injEq] at e
    subst e
    exact ⟨_, _, _, _, rfl, g1, g2⟩
  have EV := hid hV
  clear HD b m bv szv hV
  go_wp2_with fail
  rw [EV.out]
  exact bodyPost_ret (zback1 Tryz.results11 (PR1.out.set _ _) _ (by rfl) (by rfl)) rfl FIN.out
def RefD (w : World) (d : Bool) (e : Ending) (w' : World) : Prop := e = .returned (.tuple #[.bool true, .bool d]) ∧ Below w.heap.size w w'
set_option maxHeartbeats 3200000 in
set_option maxRecDepth 100000 in
theorem refused_un {w : World} {r c : Int} {a : Option Addr} {l cap : Nat} (h : ¬ Snd r c l) : Calls Tryz.prog 9 #[.agg #[.int .i64 r, .int .i64 c, .slice a l cap]] w (RefD w true) := by
  obtain ⟨W0, hW⟩ : ∃ W0, w.alloc (.cells #[.int .i64 r, .int .i64 c, .slice a l cap] 24) = W0 := ⟨_, rfl⟩
  obtain ⟨b0, sz0⟩ := alo1 w (.cells #[.int .i64 r, .int .i64 c, .slice a l cap] 24)
  rw [hW] at b0 sz0
  have PM : Hid (Cel W0 w.heap.size 24 [.int .i64 r, .int .i64 c, .slice a l cap]) := by unfold Hid; rw [← hW]; exact Cel.new w _ _
  have HD := hid (det_un (w := W0) (a := a) (cap := cap) h)
  have HU := hid h
  have G := hid b0
  have EW := hid hW
  clear b0 sz0 hW h
  go_enter Tryz.func9, Tryz.ntmps9
  go_wp2_with fail
  rw [EW.out]
  clear EW
  refine HD.out.mono ?_
  rintro e w1 ⟨rq, rfl, m, b⟩
  obtain ⟨nq, xq, aq, cq, rfl⟩ := m.parts
  obtain ⟨V, hV⟩ : ∃ V, w1.alloc (duo (.bool nq) (.slice aq xq.length cq)) = V := ⟨_, rfl⟩
  obtain ⟨bv, szv⟩ := alo1 w1 (duo (.bool nq) (.slice aq xq.length cq))
  rw [hV] at bv szv
  have DD : Hid (Duo V w1.heap.size (.bool nq) (.slice aq xq.length cq)) := by unfold Hid; rw [← hV]; exact Duo.new w1 _ _
  have MD := hid (m.now bv)
  replace PM := hid ((PM.out.step b).step bv)
  replace G := hid (below_step (below_step G.out b) bv)
  have HL := hid (lead_un (w := V) (a := a) (cap := cap) HU.out)
  have x0 := PM.out.at (i := 0) rfl
  have x1 := PM.out.at (i := 1) rfl
  have x2 := PM.out.at (i := 2) rfl
  rw [← hV] at x0 x1 x2
  have EV := hid hV
  clear b bv szv hV m HD
  go_wp2_with fail
  rw [EV.out]
  clear EV x0 x1 x2
  refine HL.out.mono ?_
  rintro e w2 ⟨rfl, b⟩
  replace DD := hid (DD.out.step b)
  replace MD := hid (MD.out.now b)
  replace PM := hid (PM.out.step b)
  replace G := hid (below_step G.out b)
  have HC := hid (check_no (w := w2) (a := a) (cap := cap) HU.out)
  have x0 := PM.out.at (i := 0) rfl
  have x1 := PM.out.at (i := 1) rfl
  have x2 := PM.out.at (i := 2) rfl
  clear b HL
  go_wp2_with fail
  refine HC.out.mono ?_
  rintro e w3 ⟨rfl, b⟩
  replace DD := hid (DD.out.step b)
  replace MD := hid (MD.out.now b)
  replace PM := hid (PM.out.step b)
  replace G := hid (below_step G.out b)
  have HR := hid (rank_un (w := w3) (a := a) (cap := cap) HU.out)
  clear x0 x1 x2
  have x0 := PM.out.at (i := 0) rfl
  have x1 := PM.out.at (i := 1) rfl
  have x2 := PM.out.at (i := 2) rfl
  clear b HC
  go_wp2_with fail
  refine HR.out.mono ?_
  rintro e w4 ⟨rfl, b⟩
  replace DD := hid (DD.out.step b)
  replace MD := hid (MD.out.now b)
  replace G := hid (below_step G.out b)
  have HS := hid (sign_z MD.out.zi)
  have y0 := DD.out.c0
  have y1 := DD.out.c1
  clear b HR x0 x1 x2 PM
  go_wp2_with fail
  refine HS.out.mono ?_
  rintro e w5 ⟨rfl, b⟩
  have FIN : Hid (Below w.heap.size w w5) := below_step G.out b
  have hq := cmpI_self 0
  rw [hq]
  clear b HS MD y0 y1 hq
  go_wp2
  go_ret2
  exact ⟨rfl, FIN.out⟩
set_option maxHeartbeats 3200000 in
set_option maxRecDepth 100000 in
theorem refused_fit {w : World} {v : Value} {r c : Nat} {zs : List Int} {k : Nat} (h : Mx w v r c zs k) (hrc : r ≠ c) : Calls Tryz.prog 9 #[v] w (RefD w true) := by
  have M0 := h
  obtain ⟨a, cap, rfl, hr, hc⟩ := h.form
  obtain ⟨l, hla⟩ : ∃ l, r * c = l := ⟨_, rfl⟩
  rw [hla] at M0 ⊢
  obtain ⟨W0, hW⟩ : ∃ W0, w.alloc (matO r c (.slice a l cap)) = W0 := ⟨_, rfl⟩
  obtain ⟨b0, sz0⟩ := alo1 w (matO r c (.slice a l cap))
  rw [hW] at b0 sz0
  have PM : Hid (Cel W0 w.heap.size 24 (matc r c (.slice a l cap))) := by unfold Hid; rw [← hW]; exact Cel.new w _ _
  have MM := hid (M0.now b0)
  have HD := hid (det_fit MM.out hrc)
  have HU := hid hrc
  have G := hid b0
  have EW := hid hW
  have hne : ¬ (r : Int) = (c : Int) := by omega
  have hnb : ((r : Int) != (c : Int)) = true := by simp; omega
  clear b0 sz0 hW h M0 hla hrc
  go_enter Tryz.func9, Tryz.ntmps9
  go_wp2_with fail
  rw [EW.out]
  clear EW
  refine HD.out.mono ?_
  rintro e w1 ⟨rq, rfl, m, b⟩
  obtain ⟨nq, xq, aq, cq, rfl⟩ := m.parts
  obtain ⟨V, hV⟩ : ∃ V, w1.alloc (duo (.bool nq) (.slice aq xq.length cq)) = V := ⟨_, rfl⟩
  obtain ⟨bv, szv⟩ := alo1 w1 (duo (.bool nq) (.slice aq xq.length cq))
  rw [hV] at bv szv
  have DD : Hid (Duo V w1.heap.size (.bool nq) (.slice aq xq.length cq)) := by unfold Hid; rw [← hV]; exact Duo.new w1 _ _
  have MD := hid (m.now bv)
  replace PM := hid ((PM.out.step b).step bv)
  replace MM := hid ((MM.out.now b).now bv)
  replace G := hid (below_step (below_step G.out b) bv)
  have HL := hid (lead_fit MM.out HU.out)
  have x0 := PM.out.at (i := 0) rfl
  have x1 := PM.out.at (i := 1) rfl
  have x2 := PM.out.at (i := 2) rfl
  rw [← hV] at x0 x1 x2
  have EV := hid hV
  clear b bv szv hV m HD
  go_wp2_with fail
  rw [EV.out]
  clear EV x0 x1 x2
  refine HL.out.mono ?_
  rintro e w2 ⟨rfl, b⟩
  replace DD := hid (DD.out.step b)
  replace MD := hid (MD.out.now b)
  replace PM := hid (PM.out.step b)
  replace MM := hid (MM.out.now b)
  replace G := hid (below_step G.out b)
  have HC := hid (check_yes MM.out)
  have x0 := PM.out.at (i := 0) rfl
  have x1 := PM.out.at (i := 1) rfl
  have x2 := PM.out.at (i := 2) rfl
  clear b HL
  go_wp2_with fail
  refine HC.out.mono ?_
  rintro e w3 ⟨rfl, b⟩
  replace DD := hid (DD.out.step b)
  replace MD := hid (MD.out.now b)
  replace PM := hid (PM.out.step b)
  replace G := hid (below_step G.out b)
  have HS := hid (sign_z MD.out.zi)
  clear x0 x1 x2
  have x0 := PM.out.at (i := 0) rfl
  have x1 := PM.out.at (i := 1) rfl
  have y0 := DD.out.c0
  have y1 := DD.out.c1
  clear b HC PM
  go_wp2_with fail
  refine HS.out.mono ?_
  rintro e w5 ⟨rfl, b⟩
  have FIN : Hid (Below w.heap.size w w5) := below_step G.out b
  have hq := cmpI_self 0
  rw [hq]
  clear b HS MD y0 y1 hq
  go_wp2
  go_ret2
  exact ⟨rfl, FIN.out⟩
set_option maxHeartbeats 3200000 in
set_option maxRecDepth 100000 in
theorem refused_no {w : World} {v : Value} {n : Nat} {zs : List Int} {k : Nat} (h : Mx w v n n zs k) (hk : k ≤ 4000000000) : Calls Tryz.prog 9 #[v] w (RefD w false) := by
  have M0 := h
  obtain ⟨a, cap, rfl, hr, hc⟩ := h.form
  obtain ⟨l, hla⟩ : ∃ l, n * n = l := ⟨_, rfl⟩
  rw [hla] at M0 ⊢
  obtain ⟨W0, hW⟩ : ∃ W0, w.alloc (matO n n (.slice a l cap)) = W0 := ⟨_, rfl⟩
  obtain ⟨b0, sz0⟩ := alo1 w (matO n n (.slice a l cap))
  rw [hW] at b0 sz0
  have PM : Hid (Cel W0 w.heap.size 24 (matc n n (.slice a l cap))) := by unfold Hid; rw [← hW]; exact Cel.new w _ _
  have MM := hid (M0.now b0)
  have HD := hid (det_sq MM.out hk)
  have HU := hid hk
  have G := hid b0
  have EW := hid hW
  clear b0 sz0 hW h M0 hla hk
  go_enter Tryz.func9, Tryz.ntmps9
  go_wp2_with fail
  rw [EW.out]
  clear EW
  refine HD.out.mono ?_
  rintro e w1 ⟨rq, rfl, m, b⟩
  obtain ⟨nq, xq, aq, cq, rfl⟩ := m.parts
  obtain ⟨V, hV⟩ : ∃ V, w1.alloc (duo (.bool nq) (.slice aq xq.length cq)) = V := ⟨_, rfl⟩
  obtain ⟨bv, szv⟩ := alo1 w1 (duo (.bool nq) (.slice aq xq.length cq))
  rw [hV] at bv szv
  replace PM := hid ((PM.out.step b).step bv)
  replace MM := hid ((MM.out.now b).now bv)
  replace G := hid (below_step (below_step G.out b) bv)
  have HL := hid (lead_sq MM.out HU.out)
  have x0 := PM.out.at (i := 0) rfl
  have x1 := PM.out.at (i := 1) rfl
  have x2 := PM.out.at (i := 2) rfl
  rw [← hV] at x0 x1 x2
  have EV := hid hV
  clear b bv szv hV m HD
  go_wp2_with fail
  rw [EV.out]
  clear EV x0 x1 x2
  refine HL.out.mono ?_
  rintro e w2 ⟨lv, qs, rfl, ho, hz, b⟩
  have hql : qs.length = n + 1 := by rw [hz.1]; simp [ldL]
  obtain ⟨al, cl, rfl⟩ : ∃ al cl, lv = .slice al (n + 1) cl := by
    obtain ⟨_, ⟨q1, q2⟩ | ⟨g, cp, cur, q1, _⟩⟩ := ho
    · rw [q2] at hql; omega
    · exact ⟨_, cp, by rw [q1, hql]⟩
  replace PM := hid (PM.out.step b)
  replace MM := hid (MM.out.now b)
  replace G := hid (below_step G.out b)
  have HC := hid (check_yes MM.out)
  have x0 := PM.out.at (i := 0) rfl
  have x1 := PM.out.at (i := 1) rfl
  have x2 := PM.out.at (i := 2) rfl
  clear b HL ho hz hql
  go_wp2_with fail
  refine HC.out.mono ?_
  rintro e w3 ⟨rfl, b⟩
  replace PM := hid (PM.out.step b)
  replace G := hid (below_step G.out b)
  clear x0 x1 x2
  have x0 := PM.out.at (i := 0) rfl
  have x1 := PM.out.at (i := 1) rfl
  have hw := wrapI9 (i := n) (by omega)
  clear b HC PM
  go_wp2
  go_ret2
  exact ⟨rfl, G.out⟩
end Go.Proofs.YtlhbcdapinacgaaGreat
