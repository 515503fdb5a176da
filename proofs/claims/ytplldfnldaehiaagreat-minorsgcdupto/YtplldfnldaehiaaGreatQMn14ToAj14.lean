/-
 QMn14ToAj14: Mn14, Aj14, joined.
-/
import Derived.Test.YtplldfnldaehiaaGreatQDt13ToTm14
import Derived.Test.YtplldfnldaehiaaGreatQPickB9ToNt14
import Derived.Test.YtplldfnldaehiaaGreatQMi14ToCj14
import Derived.Test.YtplldfnldaehiaaGreatQSr13ToUq13
import Derived.Test.YtplldfnldaehiaaGreatQEach9ToZFloor

set_option maxRecDepth 100000
set_option maxHeartbeats 6400000
set_option linter.unusedVariables false
set_option linter.unusedSimpArgs false
namespace Go.Proofs.YtplldfnldaehiaaGreat
open Go.RowKit
theorem minor_yes {w : World} {va ra ca : Value} {r c k s : Nat} {zs : List Int} {is js : List Nat} (ha : Mx w va r c zs k) (hi : In9 w ra (natv is)) (hj : In9 w ca (natv js)) (hil : ∀ i ∈ is, i < r) (hjl : ∀ j ∈ js, j < c) (his : is.length = s) (hjs : js.length = s) (hs : s ≤ 64) (hk : k ≤ 4000000000) :
  Calls Tryz.prog 11 #[va, ra, ca] w (zpA 0 w (det s fun a b => en c zs (is.getD a 0) (js.getD b 0)) (64 * k + 7)) := by
 have M0 := ha; obtain ⟨aa, qa, rfl, hr, hc⟩ := ha.form; obtain ⟨la, hla⟩ : ∃ la, r * c = la := ⟨_, rfl⟩
 rw [hla] at M0 ⊢; obtain ⟨W0, hW⟩ : ∃ W0, (w.alloc (matO r c (.slice aa la qa))).alloc zbox = W0 := ⟨_, rfl⟩
 obtain ⟨b0, sz0⟩ := zeA w (matO r c (.slice aa la qa)) zbox; rw [hW] at b0 sz0; have PR : Hid (Duo W0 (w.heap.size + 1) (.bool false) (.slice none 0 0)) := by
  unfold Hid; rw [← hW]; have := Duo.new (w.alloc (matO r c (.slice aa la qa))) (.bool false) (.slice none 0 0)
  simpa using this
 have PM : Hid (Cel W0 w.heap.size 24 (matc r c (.slice aa la qa))) := by
  unfold Hid; rw [← hW]; exact (Cel.new w 24 (matc r c (.slice aa la qa))).step ((Below.refl _ _).alloc (Nat.le_refl _) _)
 have MA := hid (M0.now b0); have IA := hid (hi.now b0); have JA := hid (hj.now b0); have HC := hid (zxA MA.out); have HIL := hid hil; have HJL := hid hjl; obtain ⟨ia, ci, hvi, -, -, -⟩ := hi.form; obtain ⟨ja, cj, hvj, -, -, -⟩ := hj.form; rw [show (natv is).length = s by simp [natv, his]] at hvi; rw [show (natv js).length = s by simp [natv, hjs]] at hvj; subst hvi hvj; have HIS := hid his; have HJS := hid hjs; have G := hid b0; have EW := hid hW; have SZ := hid sz0; have hss : ((s : Int) != (s : Int)) = false := by simp
 clear ha M0 b0 sz0 hW hla hi hj hil hjl his hjs; go_enter Tryz.func11, Tryz.ntmps11; go_wp2_with fail; rw [EW.out]; clear EW; refine HC.out.mono ?_; rintro e w1 ⟨rfl, b⟩; replace PR := hid (PR.out.step b); replace PM := hid (PM.out.step b); replace MA := hid (MA.out.now b); replace IA := hid (IA.out.now b); replace JA := hid (JA.out.now b); replace G := hid (below_step G.out b); have x0 := PM.out.at (i := 0) rfl; have x1 := PM.out.at (i := 1) rfl; have x2 := PM.out.at (i := 2) rfl; have HP := hid (zjG MA.out IA.out JA.out HIL.out HJL.out (by rw [HIS.out]; exact hs) (by rw [HJS.out]; exact hs)); rw [HIS.out, HJS.out] at HP; have lz1 := b.size; clear HC b; go_wp2_with fail; refine HP.out.mono ?_; rintro e w2 ⟨vp, rfl, mp, b⟩; obtain ⟨ap, qp, hvp, -, -⟩ := mp.mx.form; obtain ⟨lp, hlp⟩ : ∃ lp, s * s = lp := ⟨_, rfl⟩
 rw [hlp] at hvp; subst hvp; obtain ⟨V, hV⟩ : ∃ V, w2.alloc (matO s s (.slice ap lp qp)) = V := ⟨_, rfl⟩
 obtain ⟨bv, szv⟩ := alo1 w2 (matO s s (.slice ap lp qp)); rw [hV] at bv szv; have PP : Hid (Cel V w2.heap.size 24 (matc s s (.slice ap lp qp))) := by unfold Hid; rw [← hV]; exact Cel.new w2 _ _
 have HD := hid (zIJ (mp.mx.now bv) hk); rw [zkG HIL.out HJL.out HIS.out HJS.out] at HD; replace PR := hid ((PR.out.step b).step bv); replace G := hid (below_step (below_step G.out b) bv); have lz2 := b.size; have lzv : Hid (w.heap.size + 1 < V.heap.size) := by
  unfold Hid; have h1 := SZ.out; omega
 have y0 := PP.out.at (i := 0) rfl; have y1 := PP.out.at (i := 1) rfl; have y2 := PP.out.at (i := 2) rfl; rw [← hV] at y0 y1 y2; have EV := hid hV; clear HP mp b bv szv hV hlp MA IA JA PM x0 x1 x2; go_wp2_with fail; rw [EV.out]; clear EV; refine HD.out.mono ?_; rintro e w3 ⟨rq, rfl, m, b⟩; obtain ⟨nq, xq, aq, cq, rfl⟩ := m.parts; obtain ⟨lq, hlq⟩ : ∃ lq, xq.length = lq := ⟨_, rfl⟩
 rw [hlq] at m ⊢; replace PR := hid (PR.out.step b); have e0 := PR.out.c0; have e1 := PR.out.c1; have e2 := PR.out.fz 0; have e3 := PR.out.fz 1; have lz3 := b.size; have FIN : Hid (zpA 0 w (det s fun a b => en c zs (is.getD a 0) (js.getD b 0)) (64 * k + 7) (.returned (.tuple #[.agg #[.bool nq, .slice aq lq cq], .int .i64 0])) ((w3.setCell ⟨w.heap.size + 1, 0, none⟩ (.bool nq)).setCell ⟨w.heap.size + 1, 1, none⟩ (.slice aq lq cq)) ∧ Duo ((w3.setCell ⟨w.heap.size + 1, 0, none⟩ (.bool nq)).setCell ⟨w.heap.size + 1, 1, none⟩ (.slice aq lq cq)) (w.heap.size + 1) (.bool nq) (.slice aq lq cq)) := by
  unfold Hid; obtain ⟨_, e, g1, g2⟩ := zaC m (below_step G.out b) (show w.heap.size ≤ w.heap.size + 1 by omega) lzv.out; simp only [Ending.returned.injEq] at e; subst e; exact ⟨⟨_, rfl, g1, g2⟩, PR.out.set _ _⟩
 clear HD b m G; go_wp2_with fail; exact bodyPost_ret (zRC Tryz.results11 FIN.out.2 _ (by rfl) (by rfl)) rfl FIN.out.1
def zyA (n : Bool) (w : World) (z : Int) (e : Ending) (w' : World) : Prop := ∃ a l c, e = .returned (.agg #[.bool n, .slice a l c]) ∧ Zc w' (.agg #[.bool n, .slice a l c]) z 1 ∧ Below w.heap.size w w'
theorem num14_1 {w : World} : Calls Tryz.prog 22 #[.int .i64 1] w (zyA false w 1) := by
 obtain ⟨W0, hW⟩ : ∃ W0, w.alloc (duo (.bool false) (.slice (some ⟨w.heap.size + 1, 0, none⟩) 1 1)) = W0 := ⟨_, rfl⟩
 obtain ⟨b0, sz0⟩ := alo1 w (duo (.bool false) (.slice (some ⟨w.heap.size + 1, 0, none⟩) 1 1)); rw [hW] at b0 sz0; obtain ⟨V, hV⟩ : ∃ V, W0.alloc (.cells #[.int .u64 1] 54) = V := ⟨_, rfl⟩
 obtain ⟨bv, szv⟩ := alo1 W0 (.cells #[.int .u64 1] 54); rw [hV] at bv szv; have hsl : Sl V.heap.size V (.slice (some ⟨W0.heap.size, 0, none⟩) 1 1) [1] := by
  rw [← hV]; have := Row.new_sl W0 [1] (zyB (by omega) WF.nil) (by decide)
  simpa [ws] using this
 rw [sz0] at hsl; have PF : Hid (Duo V w.heap.size (.bool false) (.slice (some ⟨w.heap.size + 1, 0, none⟩) 1 1)) := by unfold Hid; refine Duo.step ?_ bv; rw [← hW]; exact Duo.new w _ _
 have FIN : Hid (zyA false w 1 (.returned (.agg #[.bool false, .slice (some ⟨w.heap.size + 1, 0, none⟩) 1 1])) V) := ⟨_, _, _, rfl, ⟨false, [1], _, _, rfl, hsl, ⟨hsl.1, by decide⟩, by simp, by decide, by simp⟩, below_step b0 bv⟩
 rw [← hV, ← hW] at FIN PF; clear b0 sz0 hW bv szv hV hsl; go_enter Tryz.func22, Tryz.ntmps22; go_wp2; exact bodyPost_ret (zlA Tryz.results22 PF.out _ (by rfl)) rfl FIN.out
theorem num14_2 {w : World} : Calls Tryz.prog 22 #[.int .i64 2] w (zyA false w 2) := by
 obtain ⟨W0, hW⟩ : ∃ W0, w.alloc (duo (.bool false) (.slice (some ⟨w.heap.size + 1, 0, none⟩) 1 1)) = W0 := ⟨_, rfl⟩
 obtain ⟨b0, sz0⟩ := alo1 w (duo (.bool false) (.slice (some ⟨w.heap.size + 1, 0, none⟩) 1 1)); rw [hW] at b0 sz0; obtain ⟨V, hV⟩ : ∃ V, W0.alloc (.cells #[.int .u64 2] 54) = V := ⟨_, rfl⟩
 obtain ⟨bv, szv⟩ := alo1 W0 (.cells #[.int .u64 2] 54); rw [hV] at bv szv; have hsl : Sl V.heap.size V (.slice (some ⟨W0.heap.size, 0, none⟩) 1 1) [2] := by
  rw [← hV]; have := Row.new_sl W0 [2] (zyB (by omega) WF.nil) (by decide)
  simpa [ws] using this
 rw [sz0] at hsl; have PF : Hid (Duo V w.heap.size (.bool false) (.slice (some ⟨w.heap.size + 1, 0, none⟩) 1 1)) := by unfold Hid; refine Duo.step ?_ bv; rw [← hW]; exact Duo.new w _ _
 have FIN : Hid (zyA false w 2 (.returned (.agg #[.bool false, .slice (some ⟨w.heap.size + 1, 0, none⟩) 1 1])) V) := ⟨_, _, _, rfl, ⟨false, [2], _, _, rfl, hsl, ⟨hsl.1, by decide⟩, by simp, by decide, by simp⟩, below_step b0 bv⟩
 rw [← hV, ← hW] at FIN PF; clear b0 sz0 hW bv szv hV hsl; go_enter Tryz.func22, Tryz.ntmps22; go_wp2; exact bodyPost_ret (zlA Tryz.results22 PF.out _ (by rfl)) rfl FIN.out
theorem num14_3 {w : World} : Calls Tryz.prog 22 #[.int .i64 3] w (zyA false w 3) := by
 obtain ⟨W0, hW⟩ : ∃ W0, w.alloc (duo (.bool false) (.slice (some ⟨w.heap.size + 1, 0, none⟩) 1 1)) = W0 := ⟨_, rfl⟩
 obtain ⟨b0, sz0⟩ := alo1 w (duo (.bool false) (.slice (some ⟨w.heap.size + 1, 0, none⟩) 1 1)); rw [hW] at b0 sz0; obtain ⟨V, hV⟩ : ∃ V, W0.alloc (.cells #[.int .u64 3] 54) = V := ⟨_, rfl⟩
 obtain ⟨bv, szv⟩ := alo1 W0 (.cells #[.int .u64 3] 54); rw [hV] at bv szv; have hsl : Sl V.heap.size V (.slice (some ⟨W0.heap.size, 0, none⟩) 1 1) [3] := by
  rw [← hV]; have := Row.new_sl W0 [3] (zyB (by omega) WF.nil) (by decide)
  simpa [ws] using this
 rw [sz0] at hsl; have PF : Hid (Duo V w.heap.size (.bool false) (.slice (some ⟨w.heap.size + 1, 0, none⟩) 1 1)) := by unfold Hid; refine Duo.step ?_ bv; rw [← hW]; exact Duo.new w _ _
 have FIN : Hid (zyA false w 3 (.returned (.agg #[.bool false, .slice (some ⟨w.heap.size + 1, 0, none⟩) 1 1])) V) := ⟨_, _, _, rfl, ⟨false, [3], _, _, rfl, hsl, ⟨hsl.1, by decide⟩, by simp, by decide, by simp⟩, below_step b0 bv⟩
 rw [← hV, ← hW] at FIN PF; clear b0 sz0 hW bv szv hV hsl; go_enter Tryz.func22, Tryz.ntmps22; go_wp2; exact bodyPost_ret (zlA Tryz.results22 PF.out _ (by rfl)) rfl FIN.out
theorem num14_4 {w : World} : Calls Tryz.prog 22 #[.int .i64 4] w (zyA false w 4) := by
 obtain ⟨W0, hW⟩ : ∃ W0, w.alloc (duo (.bool false) (.slice (some ⟨w.heap.size + 1, 0, none⟩) 1 1)) = W0 := ⟨_, rfl⟩
 obtain ⟨b0, sz0⟩ := alo1 w (duo (.bool false) (.slice (some ⟨w.heap.size + 1, 0, none⟩) 1 1)); rw [hW] at b0 sz0; obtain ⟨V, hV⟩ : ∃ V, W0.alloc (.cells #[.int .u64 4] 54) = V := ⟨_, rfl⟩
 obtain ⟨bv, szv⟩ := alo1 W0 (.cells #[.int .u64 4] 54); rw [hV] at bv szv; have hsl : Sl V.heap.size V (.slice (some ⟨W0.heap.size, 0, none⟩) 1 1) [4] := by
  rw [← hV]; have := Row.new_sl W0 [4] (zyB (by omega) WF.nil) (by decide)
  simpa [ws] using this
 rw [sz0] at hsl; have PF : Hid (Duo V w.heap.size (.bool false) (.slice (some ⟨w.heap.size + 1, 0, none⟩) 1 1)) := by unfold Hid; refine Duo.step ?_ bv; rw [← hW]; exact Duo.new w _ _
 have FIN : Hid (zyA false w 4 (.returned (.agg #[.bool false, .slice (some ⟨w.heap.size + 1, 0, none⟩) 1 1])) V) := ⟨_, _, _, rfl, ⟨false, [4], _, _, rfl, hsl, ⟨hsl.1, by decide⟩, by simp, by decide, by simp⟩, below_step b0 bv⟩
 rw [← hV, ← hW] at FIN PF; clear b0 sz0 hW bv szv hV hsl; go_enter Tryz.func22, Tryz.ntmps22; go_wp2; exact bodyPost_ret (zlA Tryz.results22 PF.out _ (by rfl)) rfl FIN.out
theorem num14_5 {w : World} : Calls Tryz.prog 22 #[.int .i64 5] w (zyA false w 5) := by
 obtain ⟨W0, hW⟩ : ∃ W0, w.alloc (duo (.bool false) (.slice (some ⟨w.heap.size + 1, 0, none⟩) 1 1)) = W0 := ⟨_, rfl⟩
 obtain ⟨b0, sz0⟩ := alo1 w (duo (.bool false) (.slice (some ⟨w.heap.size + 1, 0, none⟩) 1 1)); rw [hW] at b0 sz0; obtain ⟨V, hV⟩ : ∃ V, W0.alloc (.cells #[.int .u64 5] 54) = V := ⟨_, rfl⟩
 obtain ⟨bv, szv⟩ := alo1 W0 (.cells #[.int .u64 5] 54); rw [hV] at bv szv; have hsl : Sl V.heap.size V (.slice (some ⟨W0.heap.size, 0, none⟩) 1 1) [5] := by
  rw [← hV]; have := Row.new_sl W0 [5] (zyB (by omega) WF.nil) (by decide)
  simpa [ws] using this
 rw [sz0] at hsl; have PF : Hid (Duo V w.heap.size (.bool false) (.slice (some ⟨w.heap.size + 1, 0, none⟩) 1 1)) := by unfold Hid; refine Duo.step ?_ bv; rw [← hW]; exact Duo.new w _ _
 have FIN : Hid (zyA false w 5 (.returned (.agg #[.bool false, .slice (some ⟨w.heap.size + 1, 0, none⟩) 1 1])) V) := ⟨_, _, _, rfl, ⟨false, [5], _, _, rfl, hsl, ⟨hsl.1, by decide⟩, by simp, by decide, by simp⟩, below_step b0 bv⟩
 rw [← hV, ← hW] at FIN PF; clear b0 sz0 hW bv szv hV hsl; go_enter Tryz.func22, Tryz.ntmps22; go_wp2; exact bodyPost_ret (zlA Tryz.results22 PF.out _ (by rfl)) rfl FIN.out
theorem num14_6 {w : World} : Calls Tryz.prog 22 #[.int .i64 6] w (zyA false w 6) := by
 obtain ⟨W0, hW⟩ : ∃ W0, w.alloc (duo (.bool false) (.slice (some ⟨w.heap.size + 1, 0, none⟩) 1 1)) = W0 := ⟨_, rfl⟩
 obtain ⟨b0, sz0⟩ := alo1 w (duo (.bool false) (.slice (some ⟨w.heap.size + 1, 0, none⟩) 1 1)); rw [hW] at b0 sz0; obtain ⟨V, hV⟩ : ∃ V, W0.alloc (.cells #[.int .u64 6] 54) = V := ⟨_, rfl⟩
 obtain ⟨bv, szv⟩ := alo1 W0 (.cells #[.int .u64 6] 54); rw [hV] at bv szv; have hsl : Sl V.heap.size V (.slice (some ⟨W0.heap.size, 0, none⟩) 1 1) [6] := by
  rw [← hV]; have := Row.new_sl W0 [6] (zyB (by omega) WF.nil) (by decide)
  simpa [ws] using this
 rw [sz0] at hsl; have PF : Hid (Duo V w.heap.size (.bool false) (.slice (some ⟨w.heap.size + 1, 0, none⟩) 1 1)) := by unfold Hid; refine Duo.step ?_ bv; rw [← hW]; exact Duo.new w _ _
 have FIN : Hid (zyA false w 6 (.returned (.agg #[.bool false, .slice (some ⟨w.heap.size + 1, 0, none⟩) 1 1])) V) := ⟨_, _, _, rfl, ⟨false, [6], _, _, rfl, hsl, ⟨hsl.1, by decide⟩, by simp, by decide, by simp⟩, below_step b0 bv⟩
 rw [← hV, ← hW] at FIN PF; clear b0 sz0 hW bv szv hV hsl; go_enter Tryz.func22, Tryz.ntmps22; go_wp2; exact bodyPost_ret (zlA Tryz.results22 PF.out _ (by rfl)) rfl FIN.out
theorem num14_m6 {w : World} : Calls Tryz.prog 22 #[.int .i64 (-6)] w (zyA true w (-6)) := by
 obtain ⟨W0, hW⟩ : ∃ W0, w.alloc (duo (.bool true) (.slice (some ⟨w.heap.size + 1, 0, none⟩) 1 1)) = W0 := ⟨_, rfl⟩
 obtain ⟨b0, sz0⟩ := alo1 w (duo (.bool true) (.slice (some ⟨w.heap.size + 1, 0, none⟩) 1 1)); rw [hW] at b0 sz0; obtain ⟨V, hV⟩ : ∃ V, W0.alloc (.cells #[.int .u64 6] 54) = V := ⟨_, rfl⟩
 obtain ⟨bv, szv⟩ := alo1 W0 (.cells #[.int .u64 6] 54); rw [hV] at bv szv; have hsl : Sl V.heap.size V (.slice (some ⟨W0.heap.size, 0, none⟩) 1 1) [6] := by
  rw [← hV]; have := Row.new_sl W0 [6] (zyB (by omega) WF.nil) (by decide)
  simpa [ws] using this
 rw [sz0] at hsl; have PF : Hid (Duo V w.heap.size (.bool true) (.slice (some ⟨w.heap.size + 1, 0, none⟩) 1 1)) := by unfold Hid; refine Duo.step ?_ bv; rw [← hW]; exact Duo.new w _ _
 have FIN : Hid (zyA true w (-6) (.returned (.agg #[.bool true, .slice (some ⟨w.heap.size + 1, 0, none⟩) 1 1])) V) := ⟨_, _, _, rfl, ⟨true, [6], _, _, rfl, hsl, ⟨hsl.1, by decide⟩, by simp, by decide, by simp⟩, below_step b0 bv⟩
 rw [← hV, ← hW] at FIN PF; clear b0 sz0 hW bv szv hV hsl; go_enter Tryz.func22, Tryz.ntmps22; go_wp2; exact bodyPost_ret (zlA Tryz.results22 PF.out _ (by rfl)) rfl FIN.out
theorem zMF : ∀ d k, d < k → cho d k = 0
 | 0, k + 1, _ => rfl
 | d + 1, k + 1, h => by show cho d k + cho d (k + 1) = 0; rw [zMF d k (by omega), zMF d (k + 1) (by omega)]
theorem cho_full : ∀ d, cho d d = 1
 | 0 => rfl
 | d + 1 => by show cho d d + cho d (d + 1) = 1; rw [cho_full d, zMF d (d + 1) (by omega)]
theorem zF_more (m n : Nat) (F : Nat → Nat → Int) : zF (m + 1) n F = zF m n F ++ (List.range n).map (F m) := by
 unfold zF; rw [Nat.succ_mul, List.range_add, List.map_append, List.map_map]
 congr 1
 refine List.map_congr_left fun t ht => ?_
 have ht' : t < n := by simpa using ht
 obtain ⟨e1, e2⟩ := zQJ (i := m) ht'
 show F ((m * n + t) / n) ((m * n + t) % n) = _
 rw [e1, e2]
theorem zHI (A : Nat → Nat → Int) (m n k C : Nat) : ∀ t, cpL A m n k C t 0 = zF t C (cpE A m n k)
 | 0 => by simp [cpL, zF]
 | t + 1 => by
  rw [← zTE, zF_more, ← zHI A m n k C t]; unfold cpL
  simp
section
variable {A : Nat → Nat → Int} {n i j r c : Nat}
end
end Go.Proofs.YtplldfnldaehiaaGreat
