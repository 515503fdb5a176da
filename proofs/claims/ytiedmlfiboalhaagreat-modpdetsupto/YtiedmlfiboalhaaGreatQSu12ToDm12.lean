/-
  QSu12ToDm12: Su12, Un12, Dm12, joined.
-/
import Derived.Test.YtiedmlfiboalhaaGreatQAd12
import Derived.Test.YtiedmlfiboalhaaGreatQWk12ToLw12
import Derived.Test.YtiedmlfiboalhaaGreatQDe12ToSa12
import Derived.Test.YtiedmlfiboalhaaGreatQIn12

/- Su12 -/
namespace Go.Proofs.YtiedmlfiboalhaaGreat
open Go.RowKit
set_option linter.unusedVariables false

set_option maxHeartbeats 3200000 in
set_option maxRecDepth 100000 in
theorem rsub12 {w : World} {va vb : Value} {r c : Nat} {xs ys : List Int} {ka kb : Nat} (ha : Mx w va r c xs ka) (hb : Mx w vb r c ys kb) (hk : ka + kb + 2 ≤ 1099511627776) :
    Calls Tryz.prog 14 #[va, vb] w (GivesMO w r c (adZ (r * c) xs (scZ (r * c) (-1) ys)) (ka + (1 + kb) + 1)) := by
  have MA := hid ha
  have MB_ := hid hb
  obtain ⟨a, cap, rfl, hr, hc⟩ := ha.form
  obtain ⟨a', cap', rfl, -, -⟩ := hb.form
  obtain ⟨N, hN⟩ : ∃ N, r * c = N := ⟨_, rfl⟩
  have HNN := hid hN
  rw [hN] at MA MB_ ⊢
  obtain ⟨W0, hW⟩ : ∃ W0, ((w.alloc (matO r c (.slice a N cap))).alloc (matO r c (.slice a' N cap'))).alloc mbox = W0 := ⟨_, rfl⟩
  obtain ⟨b0, sz0⟩ := alloc3 w (matO r c (.slice a N cap)) (matO r c (.slice a' N cap')) mbox
  rw [hW] at b0 sz0
  obtain ⟨W1, hW1⟩ : ∃ W1, W0.alloc (.cells #[.int .u64 1] 25) = W1 := ⟨_, rfl⟩
  obtain ⟨b1, sz1⟩ := alo1 W0 (.cells #[.int .u64 1] 25)
  have sX := word_one W0 1 (by decide)
  rw [hW1] at b1 sz1 sX
  have ZM : Hid (Zi W1 (.agg #[.bool true, .slice (some ⟨W0.heap.size, 0, none⟩) 1 1]) (-1) 1) := ⟨true, [1], _, _, rfl, sX, by simp [iv, val], by simp⟩
  have PA : Hid (Cel W1 w.heap.size 24 (matc r c (.slice a N cap))) := by
    unfold Hid
    refine Cel.step ?_ b1
    rw [← hW]
    exact (((Cel.new w 24 (matc r c (.slice a N cap))).step ((Below.refl _ _).alloc (Nat.le_refl _) _)).step ((Below.refl _ _).alloc (Nat.le_refl _) _))
  have PB0 : Cel W0 (w.heap.size + 1) 24 (matc r c (.slice a' N cap')) := by
    rw [← hW]
    have := ((Cel.new (w.alloc (matO r c (.slice a N cap))) 24 (matc r c (.slice a' N cap'))).step ((Below.refl _ _).alloc (Nat.le_refl _) mbox))
    simpa using this
  have PR : Hid (Cel W1 (w.heap.size + 1 + 1) 24 [.int .i64 0, .int .i64 0, .slice none 0 0]) := by
    unfold Hid
    refine Cel.step ?_ b1
    rw [← hW]
    have := Cel.new ((w.alloc (matO r c (.slice a N cap))).alloc (matO r c (.slice a' N cap'))) 24 [.int .i64 0, .int .i64 0, .slice none 0 0]
    simpa using this
  have PB := PB0.step b1
  have y0 := PB.at (i := 0) rfl
  have y1 := PB.at (i := 1) rfl
  have y2 := PB.at (i := 2) rfl
  rw [← hW1, ← hW] at y0 y1 y2
  have G0 := hid (below_step b0 b1)
  have SZ := hid sz0
  have HK := hid hk
  have E1 : Hid ((((w.alloc (matO r c (.slice a N cap))).alloc (matO r c (.slice a' N cap'))).alloc mbox).alloc (.cells #[.int .u64 1] 25) = W1) := by unfold Hid; rw [hW, hW1]
  have HSC := hid (rscale12 ZM.out (MB_.out.now G0.out) (by omega))
  rw [HNN.out] at HSC
  have hsz : W0.heap.size = w.heap.size + 1 + 1 + 1 := by omega
  rw [hsz] at HSC
  clear b0 sz0 hW b1 sz1 hW1 sX ha hb hk hN PB0 PB ZM
  go_enter Tryz.func14, Tryz.ntmps14
  go_wp2_with fail
  rw [E1.out]
  refine HSC.out.mono ?_
  rintro e w2 ⟨v_, rfl, hm, b⟩
  obtain ⟨an, qn, rfl, -, -⟩ := hm.mx.form
  rw [HNN.out] at hm ⊢
  obtain ⟨V, hV⟩ : ∃ V, w2.alloc (matO r c (.slice an N qn)) = V := ⟨_, rfl⟩
  obtain ⟨bV, szV⟩ := alo1 w2 (matO r c (.slice an N qn))
  rw [hV] at bV szV
  have b2 := below_step b bV
  have G := hid (below_step G0.out b2)
  replace PA := hid (PA.out.step b2)
  replace PR := hid (PR.out.step b2)
  have PN : Hid (Cel V w2.heap.size 24 (matc r c (.slice an N qn))) := by unfold Hid; rw [← hV]; exact Cel.new _ _ _
  have HAD := hid (radd12 (MA.out.now G.out) (hm.now bV).mx (by have := HK.out; omega))
  rw [HNN.out] at HAD
  have x0 := PA.out.at (i := 0) rfl
  have x1 := PA.out.at (i := 1) rfl
  have x2 := PA.out.at (i := 2) rfl
  have z0 := PN.out.at (i := 0) rfl
  have z1 := PN.out.at (i := 1) rfl
  have z2 := PN.out.at (i := 2) rfl
  rw [← hV] at x0 x1 x2 z0 z1 z2
  have EV := hid hV
  have q0 : ((0 : Int) != 0) = false := rfl
  clear hm b bV szV b2 hV HSC G0 y0 y1 y2 E1
  go_wp2_with fail
  rw [EV.out]
  refine HAD.out.mono ?_
  rintro e w3 ⟨v_, rfl, hm, b⟩
  obtain ⟨as_, qs, rfl, -, -⟩ := hm.mx.form
  rw [HNN.out] at hm ⊢
  have PR3 := hid (PR.out.step b)
  have G3 := hid (below_step G.out b)
  have r0 := PR3.out.at (i := 0) rfl
  have r1 := PR3.out.at (i := 1) rfl
  have r2 := PR3.out.at (i := 2) rfl
  have f0 := PR3.out.fz 0
  have f1 := PR3.out.fz 1
  have f2 := PR3.out.fz 2
  have FIN : Hid (GivesMO w r c (adZ N xs (scZ N (-1) ys)) (ka + (1 + kb) + 1) (.returned (.tuple #[.agg #[.int .i64 (r : Int), .int .i64 (c : Int), .slice as_ N qs], .int .i64 0])) (put3 w3 (w.heap.size + 1 + 1) (.int .i64 (r : Int)) (.int .i64 (c : Int)) (.slice as_ N qs))) :=
    ⟨_, rfl, hm.wk PR3.out _ _ _, below_put3 G3.out (by omega) _ _ _⟩
  have PF := hid (PR3.out.put3 (.int .i64 (r : Int)) (.int .i64 (c : Int)) (.slice as_ N qs))
  clear hm b HAD EV x0 x1 x2 z0 z1 z2 PA PN PR PR3 G G3
  go_wp2
  exact bodyPost_ret (mback1 Tryz.results14 PF.out _ (by rfl) (by rfl)) rfl FIN.out
theorem routside12 {n : Nat} (hn : n ≤ 64) (w : World) : Calls Tryz.prog 46 #[.int .i64 (n : Int)] w fun e w' => e = .returned (.bool false) ∧ w' = w := by
  have h1 : ¬ (n : Int) < 0 := by omega
  have h2 : ¬ (64 : Int) < (n : Int) := by omega
  go_enter Tryz.func46, Tryz.ntmps46
  go_wp2
  go_ret
  exact ⟨rfl, rfl⟩
set_option maxHeartbeats 3200000 in
set_option maxRecDepth 100000 in
theorem rzero12 {w : World} {r c : Nat} (hr : r ≤ 64) (hc : c ≤ 64) : Calls Tryz.prog 27 #[.int .i64 (r : Int), .int .i64 (c : Int)] w (Zeroed w r c (r * c)) := by
  obtain ⟨W0, hW⟩ : ∃ W0, w.alloc mbox = W0 := ⟨_, rfl⟩
  obtain ⟨b0, sz0⟩ := alo1 w mbox
  rw [hW] at b0 sz0
  have P4 := hid (mbox_new hW)
  obtain ⟨n, hn⟩ : ∃ n, r * c = n := ⟨_, rfl⟩
  have HB := hid (rblank12 (w := W0) hr hc hn)
  rw [hn]
  have G0 := hid b0
  have EW := hid hW
  have SZ := hid sz0
  clear b0 hW sz0 hn
  go_enter Tryz.func27, Tryz.ntmps27
  go_wp2_with fail
  rw [EW.out]
  refine (routside12 hr W0).mono ?_
  rintro e w1 ⟨rfl, rfl⟩
  go_wp2_with fail
  refine (routside12 hc _).mono ?_
  rintro e w1 ⟨rfl, rfl⟩
  go_wp2_with fail
  refine HB.out.mono ?_
  rintro e w2 ⟨g, rfl, hge, harr, b2⟩
  have PR := hid (P4.out.step b2)
  have r0 := PR.out.at (i := 0) rfl
  have r1 := PR.out.at (i := 1) rfl
  have r2 := PR.out.at (i := 2) rfl
  have f0 := PR.out.fz 0
  have f1 := PR.out.fz 1
  have f2 := PR.out.fz 2
  have FIN : Hid (Zeroed w r c n (.returned (.tuple #[.agg #[.int .i64 (r : Int), .int .i64 (c : Int), .slice (some ⟨g, 0, none⟩) n n], .int .i64 0])) (put3 w2 w.heap.size (.int .i64 (r : Int)) (.int .i64 (c : Int)) (.slice (some ⟨g, 0, none⟩) n n))) :=
    ⟨_, rfl, by have := SZ.out; omega, harr.put3 (by have := SZ.out; omega) _ _ _, below_put3 (below_step G0.out b2) (Nat.le_refl _) _ _ _⟩
  have PF := hid (PR.out.put3 (.int .i64 (r : Int)) (.int .i64 (c : Int)) (.slice (some ⟨g, 0, none⟩) n n))
  clear P4 harr b2 G0 EW HB hge
  go_wp2
  exact bodyPost_ret (mback1 Tryz.results27 PF.out _ (by rfl) (by rfl)) rfl FIN.out
end Go.Proofs.YtiedmlfiboalhaaGreat

/- Un12 -/
namespace Go.Proofs.YtiedmlfiboalhaaGreat
open Go.RowKit
set_option linter.unusedVariables false

def UnH (w : World) (g bu n N : Nat) (gk : Nat) (s : Value) (wx : World) : Prop :=
  ∃ i : Nat, s = .int .i64 (i : Int) ∧ i ≤ n ∧ gk = n - i ∧ (∃ ps, Arr wx g ps ∧ ps.length = N ∧ Zcs wx ps (unitL n i) 1) ∧ Cel wx bu 24 (matc n n (.slice (some ⟨g, 0, none⟩) N N)) ∧ Cel wx w.heap.size 24 [.int .i64 0, .int .i64 0, .slice none 0 0] ∧ Below w.heap.size w wx
set_option maxHeartbeats 3200000 in
set_option maxRecDepth 100000 in
theorem runit12 {w : World} {n : Nat} (hn : n ≤ 64) : Calls Tryz.prog 10 #[.int .i64 (n : Int)] w (GivesMO w n n (unitL n n) 1) := by
  obtain ⟨W0, hW⟩ : ∃ W0, w.alloc mbox = W0 := ⟨_, rfl⟩
  obtain ⟨b0, sz0⟩ := alo1 w mbox
  rw [hW] at b0 sz0
  have P2 := hid (mbox_new hW)
  have HS := hid (rzero12 (w := W0) hn hn)
  have G0 := hid b0
  have EW := hid hW
  have SZ := hid sz0
  have hnn : n * n ≤ 64 * 64 := Nat.mul_le_mul hn hn
  obtain ⟨N, hN⟩ : ∃ N, n * n = N := ⟨_, rfl⟩
  have HNN := hid hN
  rw [hN] at HS hnn
  clear b0 hW sz0 hN
  go_enter Tryz.func10, Tryz.ntmps10
  go_wp2_with fail
  rw [EW.out]
  refine HS.out.mono ?_
  rintro e w1 ⟨g, rfl, hge, harr, b⟩
  obtain ⟨V1, hV⟩ : ∃ V1, w1.alloc (matO n n (.slice (some ⟨g, 0, none⟩) N N)) = V1 := ⟨_, rfl⟩
  obtain ⟨b1, sz1⟩ := alo1 w1 (matO n n (.slice (some ⟨g, 0, none⟩) N N))
  rw [hV] at b1 sz1
  have PU : Hid (Cel V1 w1.heap.size 24 (matc n n (.slice (some ⟨g, 0, none⟩) N N))) := by unfold Hid; rw [← hV]; exact Cel.new w1 _ _
  have HGW : Hid (w.heap.size < g) := by unfold Hid; have h1 := SZ.out; omega
  have H0 : Hid (UnH w g w1.heap.size n N n (.int .i64 0) V1) := by
    refine ⟨0, rfl, Nat.zero_le _, by omega, ⟨_, harr.step b1, by simp, ?_⟩, PU.out, (P2.out.step b).step b1, below_step (below_step G0.out b) b1⟩
    rw [unitL, HNN.out]; exact zcs_zero _ _ _
  have EV := hid hV
  clear HS P2 G0 EW harr b b1 sz1 PU hV hge
  go_wp2_with fail
  rw [EV.out]
  clear EV
  obtain ⟨bu, hbu⟩ : ∃ bu, w1.heap.size = bu := ⟨_, rfl⟩
  rw [hbu] at H0 ⊢
  clear hbu
  go_loopg [6] n (fun gk s6 wx => UnH w g bu n N gk s6 wx)
  case atStart => exact H0.out
  case round =>
    clear H0
    obtain ⟨i, rfl, hin, hg, ⟨ps, harr, hpl, hzc⟩, hbu, hre, hG⟩ := hrel
    have AR := hid harr
    have PL := hid hpl
    have ZC := hid hzc
    have PU := hid hbu
    have PR := hid hre
    have G := hid hG
    have HG := hid hg
    clear harr hpl hzc hbu hre hG hg
    have x0 := PU.out.at (i := 0) rfl
    by_cases hlt : i < n
    · have hlt' : (i : Int) < (n : Int) := by omega
      have hw := wrapI9 (i := i) (by omega)
      have hm0 := wrapM9 (i := i) (c := n) (by omega) hn
      have hix : i * n + i < N := by rw [← HNN.out]; exact place12 hlt hlt
      have UL : Hid (unitL n (i + 1) = (unitL n i).set (i * n + i) 1) := rfl
      obtain ⟨lo, hlo⟩ : ∃ lo, i * n = lo := ⟨_, rfl⟩
      rw [hlo] at hm0 hix UL
      obtain ⟨ix, hix2⟩ : ∃ ix, lo + i = ix := ⟨_, rfl⟩
      rw [hix2] at hix UL
      have ha0 : IntKind.i64.wrap ((lo : Int) + (i : Int)) = (ix : Int) := by rw [wrap_is] <;> omega
      have ha1 := ha0
      have hm1 := hm0
      rw [IntKind.wrap_i64] at ha1 hm1
      have hixN : (ix : Int) < (N : Int) := by omega
      have HMM : Hid (n - (i + 1) < gk) := by unfold Hid; rw [HG.out]; omega
      obtain ⟨X, hX⟩ : ∃ X, wr.alloc (.cells #[.int .u64 1] 25) = X := ⟨_, rfl⟩
      obtain ⟨bX, szX⟩ := alo1 wr (.cells #[.int .u64 1] 25)
      have sX := word_one wr 1 (by decide)
      rw [hX] at bX szX sX
      have ZX : Zc X (.agg #[.bool false, .slice (some ⟨wr.heap.size, 0, none⟩) 1 1]) 1 1 := ⟨false, [1], _, _, rfl, sX, ⟨wf_word (by omega) WF.nil, by first | rfl | decide | simp [lst]⟩, by simp, by simp [iv, val], by simp⟩
      have AX := AR.out.step bX
      have hpx : ix < ps.length := by rw [PL.out]; exact hix
      have hp : ps[ix]? = some (ps[ix]) := List.getElem?_eq_getElem hpx
      obtain ⟨m0, a0, l0, c0, e0⟩ := AX.2 _ (List.getElem_mem hpx)
      have q := AX.at hp
      rw [e0] at q
      obtain ⟨e1, e2⟩ := q
      have e3 := AX.1.fz (ix * 2)
      have e4 := AX.1.fz (ix * 2 + 1)
      have HN1 : Hid (UnH w g bu n N (n - (i + 1)) (.int .i64 ((i + 1 : Nat) : Int)) ((X.setCell ⟨g, ix * 2, none⟩ (.bool false)).setCell ⟨g, ix * 2 + 1, none⟩ (.slice (some ⟨wr.heap.size, 0, none⟩) 1 1))) := by
        have hwk := AX.wk hpx (.bool false) (.slice (some ⟨wr.heap.size, 0, none⟩) 1 1)
        have hty := AX.ty12 (t := ix) (.bool false) (.slice (some ⟨wr.heap.size, 0, none⟩) 1 1)
        refine ⟨i + 1, rfl, by omega, rfl, ⟨_, AX.put hpx ZX.zi.isI, by simpa using PL.out, ?_⟩, (PU.out.step bX).ty12 hty (by decide), (PR.out.step bX).ty12 hty (by decide), bset (bset (below_step G.out bX) (by have := HGW.out; omega)) (by have := HGW.out; omega)⟩
        rw [UL.out]
        exact (ZC.out.now bX).set hwk (ZX.wk hwk)
      have x2 := (PU.out.step bX).at (i := 2) rfl
      have x2' := PU.out.at (i := 2) rfl
      rw [← hX] at x2 e1 e2 e3 e4
      have EX := hid hX
      rw [← hX] at HN1
      clear hlo hix2 AR PL ZC PU PR G HG bX szX sX ZX AX hp e0 hX EX
      go_wp2_with fail
      go_roundg (n - (i + 1))
      case rel => exact HN1.out
      case measure => exact HMM.out
    · have hlt' : ¬ (i : Int) < (n : Int) := by omega
      obtain rfl : i = n := by omega
      have m1 := PU.out.at (i := 1) rfl
      have m2 := PU.out.at (i := 2) rfl
      have r0 := PR.out.at (i := 0) rfl
      have r1 := PR.out.at (i := 1) rfl
      have r2 := PR.out.at (i := 2) rfl
      have f0 := PR.out.fz 0
      have f1 := PR.out.fz 1
      have f2 := PR.out.fz 2
      have FIN : Hid (GivesMO w i i (unitL i i) 1 (.returned (.tuple #[.agg #[.int .i64 (i : Int), .int .i64 (i : Int), .slice (some ⟨g, 0, none⟩) N N], .int .i64 0])) (put3 wr w.heap.size (.int .i64 (i : Int)) (.int .i64 (i : Int)) (.slice (some ⟨g, 0, none⟩) N N))) := by
        have hpr : Prs 0 (put3 wr w.heap.size (.int .i64 (i : Int)) (.int .i64 (i : Int)) (.slice (some ⟨g, 0, none⟩) N N)) (.slice (some ⟨g, 0, none⟩) N N) ps := by
          have := (AR.out.put3 (b := w.heap.size) (by have := HGW.out; omega) (.int .i64 (i : Int)) (.int .i64 (i : Int)) (.slice (some ⟨g, 0, none⟩) N N)).prs (Nat.zero_le _) (by rw [PL.out]; omega) (Nat.le_refl _)
          rw [PL.out] at this
          exact this
        exact ⟨_, rfl, ⟨_, ps, rfl, hpr, ZC.out.wk (PR.out.wk3 _ _ _), by rw [unitL_length], hn, hn⟩, below_put3 G.out (Nat.le_refl _) _ _ _⟩
      have PG := hid (PR.out.put3 (.int .i64 (i : Int)) (.int .i64 (i : Int)) (.slice (some ⟨g, 0, none⟩) N N))
      clear AR PL ZC PU PR G HG
      go_wp2
      exact bodyPost_ret (mback1 Tryz.results10 PG.out _ (by rfl) (by rfl)) rfl FIN.out
end Go.Proofs.YtiedmlfiboalhaaGreat

/- Dm12 -/
namespace Go.Proofs.YtiedmlfiboalhaaGreat
open Go.RowKit
set_option linter.unusedVariables false

def ez (r : Nat) (zs : List Int) (i j : Nat) : Int := zs.getD (i * r + j) 0
theorem detN_det {p r : Nat} {zs : List Int} (hp : IsPr p) (hl : zs.length = r * r) : detN p r zs = det r (ez r zs) % (p : Int) := by
  have hp2 := hp.1
  haveI : NeZero p := ⟨by omega⟩
  have h := red_det hp (linesL_wide (p := p) hl) (linesL_res (by omega)) (linesL_len _ _ _ _)
  have e : det r (ent (linesL p r r zs)) % (p : Int) = det r (ez r zs) % (p : Int) := fp_eq.1 (fp_det (p := p) fun i j hi hj => by rw [ent_lines hl hi hj, fp_mod]; rfl)
  unfold detN
  rw [h, e]
theorem detN_range {p r : Nat} {zs : List Int} (hp : IsPr p) (hl : zs.length = r * r) : 0 ≤ detN p r zs ∧ detN p r zs < (p : Int) := by
  have hp2 := hp.1
  rw [detN_det hp hl]
  exact emod_isR (by omega) _
theorem detN_mul {p r : Nat} {xs ys : List Int} (hp : IsPr p) (hx : xs.length = r * r) (hy : ys.length = r * r) : detN p r (mulL r r r xs ys) = detN p r xs * detN p r ys % (p : Int) := by
  rw [detN_det hp (mulL_len _ _ _ _ _), detN_det hp hx, detN_det hp hy, ← Int.mul_emod, ← det_mul]
  congr 1
  exact det_congr fun i j hi hj => by
    show (mulL r r r xs ys).getD (i * r + j) 0 = _
    rw [mulL_at hi hj]
    rfl
theorem turnZ_len (r c : Nat) (zs : List Int) : (turnZ r c zs).length = c * r := by unfold turnZ; exact tnL_len _ _ _ _ _
theorem detN_turn {p r : Nat} {zs : List Int} (hp : IsPr p) (hl : zs.length = r * r) : detN p r (turnZ r r zs) = detN p r zs := by
  rw [detN_det hp (turnZ_len r r zs), detN_det hp hl, ← det_turn]
  congr 1
  exact det_congr fun i j hi hj => turnZ_at hi hj
theorem unitL_at {n : Nat} : ∀ {k i j : Nat}, k ≤ n → i < n → j < n → (unitL n k).getD (i * n + j) 0 = if i = j ∧ i < k then 1 else 0
  | 0, i, j, _, hi, hj => by
    rw [if_neg (by omega)]
    unfold unitL
    simp [List.getElem?_replicate]
    split <;> rfl
  | k + 1, i, j, hk, hi, hj => by
    have ih := unitL_at (k := k) (i := i) (j := j) (by omega) hi hj
    show ((unitL n k).set (k * n + k) 1).getD (i * n + j) 0 = _
    have hlt : i * n + j < (unitL n k).length := by rw [unitL_length]; exact place12 hi hj
    rw [List.getD_eq_getElem?_getD, List.getElem?_set]
    by_cases q : k * n + k = i * n + j
    · have h1 : k = i := by
        have e1 : (k * n + k) / n = k := by rw [Nat.mul_comm, Nat.mul_add_div (by omega), Nat.div_eq_of_lt (by omega)]; omega
        have e2 : (i * n + j) / n = i := by rw [Nat.mul_comm, Nat.mul_add_div (by omega), Nat.div_eq_of_lt hj]; omega
        rw [q, e2] at e1; exact e1.symm
      subst h1
      have h2 : k = j := by omega
      subst h2
      rw [if_pos rfl, if_pos (by omega), if_pos (by omega)]
      rfl
    · rw [if_neg q, ← List.getD_eq_getElem?_getD, ih]
      have : ¬ (i = j ∧ i = k) := fun h => q (by rw [← h.1, h.2])
      by_cases q2 : i = j ∧ i < k
      · rw [if_pos q2, if_pos (by omega)]
      · rw [if_neg q2, if_neg (by omega)]
theorem unitL_dlz {n i j : Nat} (hi : i < n) (hj : j < n) : (unitL n n).getD (i * n + j) 0 = dlz i j := by
  rw [unitL_at (Nat.le_refl n) hi hj]
  unfold dlz
  by_cases q : i = j
  · rw [if_pos ⟨q, hi⟩, if_pos q]
  · rw [if_neg (fun h => q h.1), if_neg q]
theorem detN_unit {p r : Nat} (hp : IsPr p) : detN p r (unitL r r) = 1 := by
  have hp2 := hp.1
  have e : det r (ez r (unitL r r)) = det r dlz := det_congr fun i j hi hj => unitL_dlz hi hj
  rw [detN_det hp (unitL_length r r), e, det_unit]
  exact Int.emod_eq_of_lt (by omega) (by omega)
section
variable {p : Nat} [NeZero p]
/-- The factor is never 0. -/
theorem step_fac (hp : IsPr p) {n c r : Nat} {s : St12} (ho : Ok12 p n c r s) (h : (fp s.f : Fin p) ≠ 0) : (fp (step12 p c s).f : Fin p) ≠ 0 := by
  have hp2 := hp.1
  have hl := ho.len
  have F := fld_of hp
  unfold step12
  split
  · exact h
  · rename_i k hf
    obtain ⟨hk1, hk2, -⟩ := List.findIdx?_eq_some_iff_getElem.1 hf
    rw [List.length_drop] at hk1
    have hkn : ent s.m (s.pv.length + k) c ≠ 0 := by
      unfold ent
      rw [rowE_at (by omega)]
      rw [List.getElem_drop] at hk2
      simpa using hk2
    have rx : IsR p (ent s.m (s.pv.length + k) c) := (ho.res.at _).getD (by omega) c
    have hx : (fp (ent s.m (s.pv.length + k) c) : Fin p) ≠ 0 := fun q => hkn ((fp_is_zero rx).1 q)
    show (fp ((if 0 < k then ((p : Int) - s.f) % (p : Int) else s.f) * ent (if 0 < k then swE s.m s.pv.length (s.pv.length + k) else s.m) s.pv.length c % (p : Int)) : Fin p) ≠ 0
    have e1 : ent (if 0 < k then swE s.m s.pv.length (s.pv.length + k) else s.m) s.pv.length c = ent s.m (s.pv.length + k) c := by
      split
      · rw [ent_sw (by omega) (by omega) (by omega), if_pos rfl]
      · obtain rfl : k = 0 := by omega
        rfl
    have e2 : (fp (if 0 < k then ((p : Int) - s.f) % (p : Int) else s.f) : Fin p) ≠ 0 := by
      split
      · rw [fp_mod, fp_sub, fp_p]
        intro q
        apply h
        grind
      · exact h
    rw [e1, fp_mod, fp_mul]
    obtain ⟨y, hy⟩ := F.1 _ hx
    intro q
    apply e2
    have : (fp (if 0 < k then ((p : Int) - s.f) % (p : Int) else s.f) : Fin p) * fp (ent s.m (s.pv.length + k) c) * y = 0 := by rw [q]; grind
    grind
theorem red_fac (hp : IsPr p) {n r : Nat} {m : List (List Int)} (hw : WidE n m) (hr : ResM p m) (hl : m.length = r) : ∀ c, (fp (red12 p m c).f : Fin p) ≠ 0
  | 0 => by
    show (fp 1 : Fin p) ≠ 0
    rw [fp_one hp.1]; exact (fld_of hp).2
  | c + 1 => step_fac hp (Ok12.red hp.1 hw hr hl c) (red_fac hp hw hr hl c)
omit [NeZero p] in
theorem cnt_red {m : List (List Int)} {n r c : Nat} (hp : 2 ≤ p) (hw : WidE n m) (hr : ResM p m) (hl : m.length = r) : ∀ k, cntB (red12 p m (c + k)).pv c = (red12 p m c).pv.length
  | 0 => by
    have h := (Ok12.red hp hw hr hl c).pvc
    unfold cntB
    rw [Nat.add_zero, List.countP_eq_length]
    exact fun a ha => by simpa using h a ha
  | k + 1 => by
    rw [← cnt_red hp hw hr hl k]
    show cntB (step12 p (c + k) (red12 p m (c + k))).pv c = _
    unfold step12
    split
    · rfl
    · show cntB ((red12 p m (c + k)).pv ++ [c + k]) c = _
      unfold cntB
      rw [List.countP_append]
      simp
/-- How many pivots stand at the left is the rank. -/
theorem wkR_rank (hp : IsPr p) {r c : Nat} {zs : List Int} (hl : zs.length = r * c) : wkR p r c zs = (red12 p (linesL p r c zs) c).pv.length := by
  have hp2 := hp.1
  have hwd := wideL_wide (r := r) (linesL_wide (p := p) hl) (linesL_len _ _ _ _)
  have hrs := wideL_res (r := r) hp2 (linesL_res (p := p) (r := r) (c := c) (zs := zs) (by omega))
  unfold wkR wkS
  rw [cnt_red hp2 hwd hrs (wideL_len _ _) r]
  obtain ⟨h1, h2⟩ := red_rref hp hwd hrs (wideL_len _ _) c (by omega)
  obtain ⟨g1, g2⟩ := form12 hp hl
  have wl : ∀ k j, k < r → j < c → (mt (wideL r (linesL p r c zs)) k j : Fin p) = mz c zs k j := fun k j hk hj => by
    rw [← mt_lines hl hk hj]
    unfold mt ent
    congr 1
    have e : rowE (wideL r (linesL p r c zs)) k = rowE (linesL p r c zs) k ++ uniR r k := by unfold rowE; rw [List.getD_eq_getElem?_getD, wideL_at hk]; rfl
    rw [e]
    have hlen := (linesL_wide (p := p) hl).at (i := k) (by rw [linesL_len]; exact hk)
    simp [List.getElem?_append_left (show j < (rowE (linesL p r c zs) k).length by omega)]
  have h3 : Eqv c r (mt (p := p) (red12 p (wideL r (linesL p r c zs)) c).m) (mz c zs) := by
    obtain ⟨⟨X, hX⟩, ⟨Y, hY⟩⟩ := h2
    refine ⟨⟨X, fun i j hi hj => ?_⟩, ⟨Y, fun i j hi hj => ?_⟩⟩
    · rw [hX i j hi (by omega)]
      exact vm_congr (fun _ _ => rfl) fun k hk => wl k j hk hj
    · rw [← wl i j hi hj, hY i j hi (by omega)]
  rw [(h1.unique (fld_of hp) g1 (h3.trans g2.symm)).1]
theorem full_iff (hp : IsPr p) {r : Nat} {zs : List Int} (hl : zs.length = r * r) : wkR p r r zs < r ↔ detN p r zs = 0 := by
  have hp2 := hp.1
  rw [wkR_rank hp hl]
  unfold detN
  constructor
  · intro h; rw [if_pos h]
  · intro h
    by_cases q : (red12 p (linesL p r r zs) r).pv.length < r
    · exact q
    · rw [if_neg q] at h
      have := red_fac hp (linesL_wide (p := p) hl) (linesL_res (by omega)) (linesL_len _ _ _ _) r
      rw [h, fp_zero] at this
      exact absurd rfl this
/-- The inverse, from both sides. -/
theorem inv_both (hp : IsPr p) {r : Nat} {zs : List Int} (hl : zs.length = r * r) (hf : ¬ wkR p r r zs < r) : (∀ i j, i < r → j < r → vm r (fun t => fp (ent (invL p r zs) i t)) (mz (p := p) r zs) j = dlt i j) ∧ (∀ i j, i < r → j < r → vm r (mz (p := p) r zs i) (fun k t => fp (ent (invL p r zs) k t)) j = dlt i j) := by
  have hp2 := hp.1
  have hwd := wideL_wide (r := r) (linesL_wide (p := p) hl) (linesL_len _ _ _ _)
  have hrs := wideL_res (r := r) hp2 (linesL_res (p := p) (r := r) (c := r) (zs := zs) (by omega))
  obtain ⟨h1, h2⟩ := red_rref hp hwd hrs (wideL_len _ _) (r + r) (Nat.le_refl _)
  have ho := wk_ok (p := p) (c := r) (r := r) hp2 hl
  change Rref r (r + r) (mt (p := p) (wkS p r r zs).m) (wkS p r r zs).pv at h1
  change Eqv (r + r) r (mt (p := p) (wkS p r r zs).m) (mt (p := p) (wideL r (linesL p r r zs))) at h2
  have hcl : cntB (wkS p r r zs).pv r = (wkS p r r zs).pv.length := by
    have := cntB_le (wkS p r r zs).pv r
    have := h1.len
    have : ¬ cntB (wkS p r r zs).pv r < r := hf
    omega
  have hlen : (wkS p r r zs).pv.length = r := by
    have := h1.len
    have : ¬ cntB (wkS p r r zs).pv r < r := hf
    omega
  have hlt : ∀ (t a : Nat), (wkS p r r zs).pv[t]? = some a → a < r := fun t a ha => by
    unfold cntB at hcl
    rw [List.countP_eq_length] at hcl
    simpa using hcl a (List.mem_of_getElem? ha)
  have hpv := inc_full hlen h1.inc hlt
  have hM : ∀ i j, i < r → j < r → (mt (wkS p r r zs).m i j : Fin p) = dlt i j := fun i j hi hj => h1.one j j i (hpv j hj) hi
  have hE : ∀ i t, i < r → t < r → ent (invL p r zs) i t = ent (wkS p r r zs).m i (r + t) := fun i t hi ht => by
    unfold invL cornL ent rowE
    simp only [List.getD_eq_getElem?_getD, List.getElem?_map, List.drop_zero]
    have hb : i < (wkS p r r zs).m.length := by rw [ho.len]; omega
    rw [List.getElem?_eq_getElem hb]
    simp [List.getElem?_drop]
  have wl : ∀ k j, k < r → j < r → (mt (wideL r (linesL p r r zs)) k j : Fin p) = mz r zs k j := fun k j hk hj => by
    rw [← mt_lines hl hk hj]
    unfold mt ent
    congr 1
    have e : rowE (wideL r (linesL p r r zs)) k = rowE (linesL p r r zs) k ++ uniR r k := by unfold rowE; rw [List.getD_eq_getElem?_getD, wideL_at hk]; rfl
    rw [e]
    have hlen := (linesL_wide (p := p) hl).at (i := k) (by rw [linesL_len]; exact hk)
    simp [List.getElem?_append_left (show j < (rowE (linesL p r r zs) k).length by omega)]
  have wr_ : ∀ k t, k < r → t < r → (mt (wideL r (linesL p r r zs)) k (r + t) : Fin p) = dlt k t := fun k t hk ht => by
    unfold mt ent
    have e : rowE (wideL r (linesL p r r zs)) k = rowE (linesL p r r zs) k ++ uniR r k := by unfold rowE; rw [List.getD_eq_getElem?_getD, wideL_at hk]; rfl
    have hlen := (linesL_wide (p := p) hl).at (i := k) (by rw [linesL_len]; exact hk)
    have e2 : (rowE (linesL p r r zs) k ++ uniR r k).getD (r + t) 0 = if k = t then 1 else 0 := by
      rw [List.getD_eq_getElem?_getD, List.getElem?_append_right (by omega), hlen, Nat.add_sub_cancel_left]
      simp [uniR, ht]
    rw [e, e2]
    unfold dlt
    split
    · exact fp_one hp2
    · exact fp_zero
  have vd : ∀ (x : Nat → Fin p) (t : Nat), t < r → vm r x dlt t = x t := fun x t ht => by
    unfold vm
    rw [sm_one (i := t) ht fun k _ hne => by unfold dlt; rw [if_neg hne]; grind]
    unfold dlt; grind
  obtain ⟨⟨X, hX⟩, ⟨Y, hY⟩⟩ := h2
  have eX : ∀ i t, i < r → t < r → (fp (ent (invL p r zs) i t) : Fin p) = X i t := fun i t hi ht => by
    rw [hE i t hi ht]
    have := hX i (r + t) hi (by omega)
    change (fp (ent (wkS p r r zs).m i (r + t)) : Fin p) = _ at this
    rw [this, ← vd (X i) t ht]
    unfold vm
    exact sm_congr fun k hk => by rw [wr_ k t hk ht]
  constructor
  · intro i j hi hj
    rw [← hM i j hi hj, hX i j hi (by omega)]
    exact vm_congr (fun t ht => eX i t hi ht) fun k hk => (wl k j hk hj).symm
  · intro i j hi hj
    have eY : ∀ k, k < r → mz (p := p) r zs i k = Y i k := fun k hk => by
      rw [← wl i k hi hk, hY i k hi (by omega), ← vd (Y i) k hk]
      exact vm_congr (fun _ _ => rfl) fun t ht => hM t k ht hk
    rw [← wr_ i j hi hj, hY i (r + j) hi (by omega)]
    unfold vm
    refine sm_congr fun k hk => ?_
    show _ * (fp (ent (invL p r zs) k j) : Fin p) = _ * fp (ent (wkS p r r zs).m k (r + j))
    rw [hE k j hk hj, eY k hk]
end
theorem adZ_at {N t : Nat} {xs ys : List Int} (h : t < N) : (adZ N xs (scZ N (-1) ys)).getD t 0 = xs.getD t 0 - ys.getD t 0 := by
  simp [adZ, scZ, h]
  omega
theorem sub_zero12 {p r : Nat} {xs : List Int} (hp : IsPr p) (h : haveI : NeZero p := ⟨by have := hp.1; omega⟩; ∀ i j, i < r → j < r → (fp (xs.getD (i * r + j) 0) : Fin p) = dlt i j) : ∀ z ∈ adZ (r * r) xs (scZ (r * r) (-1) (unitL r r)), z % (p : Int) = 0 := fun z hz => by
  have hp2 := hp.1
  haveI : NeZero p := ⟨by omega⟩
  obtain ⟨t, ht, e⟩ := List.mem_iff_getElem.1 hz
  have ht' : t < r * r := by simpa [adZ] using ht
  have hr : 0 < r := Nat.pos_of_ne_zero fun q => by rw [q] at ht'; simp at ht'
  have h1 : t / r < r := (Nat.div_lt_iff_lt_mul hr).2 ht'
  have h2 : t % r < r := Nat.mod_lt _ hr
  have h3 := h _ _ h1 h2
  have h4 := unitL_dlz h1 h2
  rw [show t / r * r + t % r = t by rw [Nat.mul_comm]; exact Nat.div_add_mod t r] at h3 h4
  have h5 := adZ_at (xs := xs) (ys := unitL r r) ht'
  rw [List.getD_eq_getElem?_getD, List.getElem?_eq_getElem ht] at h5
  have h6 : z = xs.getD t 0 - (unitL r r).getD t 0 := by rw [← e]; exact h5
  refine Int.emod_eq_zero_of_dvd ?_
  rw [h6]
  refine dvd_fp (p := p) ?_
  rw [h3, h4]
  unfold dlt dlz
  split
  · exact (fp_one hp2).symm
  · exact fp_zero.symm
theorem dets_zero {p r : Nat} {zs : List Int} (hp : IsPr p) (hl : zs.length = r * r) (hf : ¬ wkR p r r zs < r) :
    (∀ z ∈ adZ (r * r) (mulL r r r zs (invL p r zs).flatten) (scZ (r * r) (-1) (unitL r r)), z % (p : Int) = 0) ∧ (∀ z ∈ adZ (r * r) (mulL r r r (invL p r zs).flatten zs) (scZ (r * r) (-1) (unitL r r)), z % (p : Int) = 0) := by
  have hp2 := hp.1
  haveI : NeZero p := ⟨by omega⟩
  obtain ⟨h1, h2⟩ := inv_both hp hl hf
  have ho := wk_ok (p := p) (c := r) (r := r) hp2 hl
  have hw : WidE r (invL p r zs) := by
    have := cornL_wide (top := 0) (left := r) ho.wid
    rwa [Nat.add_sub_cancel_left] at this
  have hll : (invL p r zs).length = r := cornL_len ho.len
  have fe : ∀ i j, i < r → j < r → (mz (p := p) r (invL p r zs).flatten i j) = fp (ent (invL p r zs) i j) := fun i j hi hj => by
    unfold mz
    rw [flat_ent hw (by omega) hj]
  refine ⟨sub_zero12 hp fun i j hi hj => ?_, sub_zero12 hp fun i j hi hj => ?_⟩
  · rw [← h2 i j hi hj]
    have := mz_mul (p := p) (r := r) (m := r) (c := r) (xs := zs) (ys := (invL p r zs).flatten) hi hj
    unfold mz at this
    rw [this]
    exact vm_congr (fun _ _ => rfl) fun k hk => fe k j hk hj
  · rw [← h1 i j hi hj]
    have := mz_mul (p := p) (r := r) (m := r) (c := r) (xs := (invL p r zs).flatten) (ys := zs) hi hj
    unfold mz at this
    rw [this]
    exact vm_congr (fun k hk => fe i k hi hk) fun k hk => rfl
end Go.Proofs.YtiedmlfiboalhaaGreat
