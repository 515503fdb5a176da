/-
  StepsNil11: StepsNil.
-/
import Derived.Test.YtbalcjjeakdjkaaQNil11
namespace Go.Proofs.Ytbalcjjeakdjkaa
open Go.RowKit
set_option linter.unusedVariables false

theorem mx_one11 {W : World} {b : Nat} {n : Bool} {a : Option Addr} {l c : Nat} {z : Int} {k : Nat} (d : Cel W b 28 [.bool n, .slice a l c]) (h : Zi W (.agg #[.bool n, .slice a l c]) z k) : Mx W (.agg #[.int .i64 1, .int .i64 1, .slice (some ⟨b, 0, none⟩) 1 1]) 1 1 [z] k := mx_one d h
set_option maxHeartbeats 4000000 in
set_option maxRecDepth 100000 in
theorem stepsNil_any {w : World} : Calls Try.prog 3 #[] w fun e w' => e = .returned (.bool true) ∧ Below w.heap.size w w' := by
  go_enter Try.func3, Try.ntmps3
  go_wp2_with fail
  refine (awake11 _).mono ?_
  rintro e w1 ⟨rfl, b⟩
  have G := hid b
  clear b
  go_wp2_with fail
  refine do_nil.mono ?_
  rintro e w2 ⟨rfl, b⟩
  replace G := hid (below_step G.out b)
  clear b
  go_wp2_with fail
  refine sides_nil.mono ?_
  rintro e w3 ⟨rfl, b⟩
  replace G := hid (below_step G.out b)
  obtain ⟨V, hV⟩ : ∃ V, (w3.alloc mbox).alloc mbox = V := ⟨_, rfl⟩
  obtain ⟨bv, szv⟩ := alloc2 w3 mbox mbox
  rw [hV] at bv szv
  have P1 : Hid (Cel V w3.heap.size 33 [.int .i64 0, .int .i64 0, .slice none 0 0]) := by unfold Hid; rw [← hV]; exact (Cel.new w3 _ _).step ((Below.refl _ _).alloc (Nat.le_refl _) _)
  have P2 : Hid (Cel V (w3.heap.size + 1) 33 [.int .i64 0, .int .i64 0, .slice none 0 0]) := by
    unfold Hid; rw [← hV]
    have := Cel.new (w3.alloc mbox) 33 [.int .i64 0, .int .i64 0, .slice none 0 0]
    simpa using this
  replace G := hid (below_step G.out bv)
  have EV := hid hV
  clear b bv szv hV
  go_wp2_with fail
  rw [EV.out]
  clear EV
  refine now_nil.mono ?_
  rintro e w4 ⟨rfl, b⟩
  obtain ⟨V2, hV⟩ : ∃ V2, w4.alloc mbox = V2 := ⟨_, rfl⟩
  obtain ⟨bv, szv⟩ := alo1 w4 mbox
  rw [hV] at bv szv
  have P3 : Hid (Cel V2 w4.heap.size 33 [.int .i64 0, .int .i64 0, .slice none 0 0]) := by unfold Hid; rw [← hV]; exact Cel.new w4 _ _
  have hub := below_step b bv
  replace P1 := hid (P1.out.step hub)
  replace P2 := hid (P2.out.step hub)
  replace G := hid (below_step G.out hub)
  have EV := hid hV
  clear b bv szv hV hub
  go_wp2_with fail
  rw [EV.out]
  clear EV
  refine log_nil.mono ?_
  rintro e w5 ⟨rfl, hw⟩
  have hw' := hw.symm
  subst hw'
  clear hw
  go_wp2_with fail
  refine undo_nil.mono ?_
  rintro e w5 ⟨rfl, hw⟩
  have hw' := hw.symm
  subst hw'
  clear hw
  go_wp2_with fail
  refine redo_nil.mono ?_
  rintro e w5 ⟨rfl, hw⟩
  have hw' := hw.symm
  subst hw'
  clear hw
  have x0 := P1.out.at (i := 0) rfl
  have x1 := P1.out.at (i := 1) rfl
  have x2 := P1.out.at (i := 2) rfl
  go_wp2_with fail
  refine noMat_zero.mono ?_
  rintro e w5 ⟨rfl, b⟩
  replace P2 := hid (P2.out.step b)
  replace P3 := hid (P3.out.step b)
  replace G := hid (below_step G.out b)
  clear b x0 x1 x2 P1
  have x0 := P2.out.at (i := 0) rfl
  have x1 := P2.out.at (i := 1) rfl
  have x2 := P2.out.at (i := 2) rfl
  go_wp2_with fail
  refine noMat_zero.mono ?_
  rintro e w6 ⟨rfl, b⟩
  replace P3 := hid (P3.out.step b)
  replace G := hid (below_step G.out b)
  clear b x0 x1 x2 P2
  have x0 := P3.out.at (i := 0) rfl
  have x1 := P3.out.at (i := 1) rfl
  have x2 := P3.out.at (i := 2) rfl
  go_wp2_with fail
  refine noMat_zero.mono ?_
  rintro e w7 ⟨rfl, b⟩
  replace G := hid (below_step G.out b)
  clear b x0 x1 x2 P3
  go_wp2_with fail
  refine num_3.mono ?_
  rintro e w8 ⟨a3, l3, c3, rfl, hz, b⟩
  obtain ⟨V3, hV⟩ : ∃ V3, w8.alloc (duo (.bool false) (.slice a3 l3 c3)) = V3 := ⟨_, rfl⟩
  obtain ⟨bv, szv⟩ := alo1 w8 (duo (.bool false) (.slice a3 l3 c3))
  rw [hV] at bv szv
  have d : Cel V3 w8.heap.size 28 [.bool false, .slice a3 l3 c3] := by rw [← hV]; exact Cel.new w8 _ _
  have MX := hid (mx_one11 d (hz.zi.now bv))
  replace G := hid (below_step (below_step G.out b) bv)
  have EV := hid hV
  clear hz b bv szv hV d
  go_wp2_with fail
  rw [EV.out]
  clear EV
  refine (new_yes MX.out).mono ?_
  rintro e w9 ⟨g, c, a, n, q, rfl, hc, b⟩
  replace G := hid (below_step G.out b)
  have TP := hid hc
  clear hc b MX
  go_wp2_with fail
  refine (undo_new TP.out).mono ?_
  rintro e w10 ⟨rfl, hw⟩
  have hw' := hw.symm
  subst hw'
  clear hw
  go_wp2_with fail
  refine (redo_new TP.out).mono ?_
  rintro e w10 ⟨rfl, hw⟩
  have hw' := hw.symm
  subst hw'
  clear hw TP
  go_wp2_with fail
  refine num_3.mono ?_
  rintro e w11 ⟨a4, l4, c4, rfl, hz, b⟩
  obtain ⟨V4, hV⟩ : ∃ V4, w11.alloc (duo (.bool false) (.slice a4 l4 c4)) = V4 := ⟨_, rfl⟩
  obtain ⟨bv, szv⟩ := alo1 w11 (duo (.bool false) (.slice a4 l4 c4))
  rw [hV] at bv szv
  replace G := hid (below_step (below_step G.out b) bv)
  have EV := hid hV
  clear hz b bv szv hV
  go_wp2_with fail
  rw [EV.out]
  clear EV
  refine (new_no (r := 1) (c := 2) (l := 1) (by unfold Snd; decide)).mono ?_
  rintro e w12 ⟨rfl, b⟩
  replace G := hid (below_step G.out b)
  clear b
  go_wp2
  go_ret
  exact ⟨rfl, G.out⟩
end Go.Proofs.Ytbalcjjeakdjkaa
