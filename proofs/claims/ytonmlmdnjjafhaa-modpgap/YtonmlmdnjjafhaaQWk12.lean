/-
  Wk12: the law's small numbers; wakes.
-/
import Derived.Test.YtonmlmdnjjafhaaQDt12
namespace Go.Proofs.Ytonmlmdnjjafhaa
open Go.RowKit
set_option linter.unusedVariables false

set_option maxHeartbeats 3200000 in
set_option maxRecDepth 100000 in
theorem of12 {n : Int} (h0 : 0 ≤ n) (h1 : n ≤ 18446744073709551615) (w : World) :
    Calls Try.prog 9 #[.int .u64 n] w fun e w' => ∃ r, e = .returned r ∧ Zi w' r n 1 ∧ Below w.heap.size w w' := by
  obtain ⟨WX, hWX⟩ : ∃ WX, (w.alloc (duo (.bool false) (.slice (some ⟨w.heap.size + 1, 0, none⟩) 1 1))).alloc (.cells #[.int .u64 n] 22) = WX := ⟨_, rfl⟩
  obtain ⟨b0, sz0⟩ := alloc2 w (duo (.bool false) (.slice (some ⟨w.heap.size + 1, 0, none⟩) 1 1)) (.cells #[.int .u64 n] 22)
  rw [hWX] at b0 sz0
  have dX : Duo WX w.heap.size (.bool false) (.slice (some ⟨w.heap.size + 1, 0, none⟩) 1 1) := by rw [← hWX]; exact duo_late (duo_at rfl) _
  have sX : Sl WX.heap.size WX (.slice (some ⟨w.heap.size + 1, 0, none⟩) 1 1) [n] := by
    have := word_one (w.alloc (duo (.bool false) (.slice (some ⟨w.heap.size + 1, 0, none⟩) 1 1))) n ⟨h0, h1⟩
    rw [hWX] at this
    simpa using this
  have eV : iv false [n] = n := by simp [iv, val]
  have FIN : Hid (Zi WX (.agg #[.bool false, .slice (some ⟨w.heap.size + 1, 0, none⟩) 1 1]) n 1) := ⟨false, [n], _, _, rfl, sX, eV, by simp⟩
  have EW := hid hWX
  have DX := hid dX
  have BX := hid b0
  clear sX dX eV b0 hWX
  go_enter Try.func9, Try.ntmps9
  go_wp2
  rw [EW.out]
  exact bodyPost_ret (zback Try.results9 DX.out _ (by rfl)) rfl ⟨_, rfl, FIN.out, BX.out⟩
theorem det_nine : detN 7 1 [9] = 2 := by decide
theorem blw_ten : blw 10 = 7 := by decide
theorem gd_seven : gdB 7 = true := by decide
set_option maxHeartbeats 3200000 in
set_option maxRecDepth 100000 in
theorem wakes12 (w : World) : Calls Try.prog 4 #[] w fun e w' => e = .returned (.bool true) ∧ Below w.heap.size w w' := by
  have HB := hid (below_any (w := w) (n := 10) (by omega))
  rw [blw_ten] at HB
  have HO := hid (of12 (n := 9) (by omega) (by omega) w)
  go_enter Try.func4, Try.ntmps4
  go_wp2_with fail
  refine HB.out.mono ?_
  rintro e w1 ⟨rfl, hw1⟩
  have hw1' := hw1.symm
  subst hw1'
  clear hw1 HB
  go_wp2_with fail
  refine HO.out.mono ?_
  rintro e w2 ⟨r, rfl, hz, b2⟩
  have hz0 := hz
  obtain ⟨n2, x2, a2, c2, rfl, -, -, -⟩ := hz
  obtain ⟨V, hV⟩ : ∃ V, w2.alloc (.cells #[.bool n2, .slice a2 x2.length c2] 35) = V := ⟨_, rfl⟩
  obtain ⟨bV, szV⟩ := alo12 w2 (.cells #[.bool n2, .slice a2 x2.length c2] 35)
  rw [hV] at bV szV
  have DV : Cel V w2.heap.size 35 [.bool n2, .slice a2 x2.length c2] := by rw [← hV]; exact Cel.new w2 _ _
  have MX : Mx V (matv 1 1 (.slice (some ⟨w2.heap.size, 0, none⟩) 1 1)) 1 1 [9] 1 := by
    refine ⟨_, [(.bool n2, .slice a2 x2.length c2)], rfl, ⟨_, 1, rfl, by simp, by simp, (fun q => by cases q), .inr ⟨w2.heap.size, 0, rfl, Nat.zero_le _, DV.blk, fun j p hj => ?_⟩⟩, ⟨rfl, fun j p z hp hz => ?_⟩, rfl, by omega, by omega⟩
    · match j, hj with
      | 0, hj =>
        simp at hj
        subst hj
        exact ⟨DV.at (i := 0) rfl, DV.at (i := 1) rfl⟩
    · match j, hp, hz with
      | 0, hp, hz =>
        simp at hp hz
        subst hp hz
        exact hz0.now bV
  have HD := hid (det12 gd_seven MX (by omega))
  rw [det_nine] at HD
  have G := hid (below_step b2 bV)
  have EV := hid hV
  clear HO hz0 b2 bV szV hV DV MX
  go_wp2_with fail
  rw [EV.out]
  refine HD.out.mono ?_
  rintro e w3 ⟨rfl, b3⟩
  have G3 := hid (below_step G.out b3)
  clear HD b3 EV
  go_wp2
  go_ret
  exact ⟨rfl, G3.out⟩
end Go.Proofs.Ytonmlmdnjjafhaa
