/-
 QCo13ToGcdAll6: Co13, GcdAll6, joined.
-/
import Derived.Test.YtplldfnldaehiaaGreatQDt13ToTm14
import Derived.Test.YtplldfnldaehiaaGreatQGf14ToSl13
import Derived.Test.YtplldfnldaehiaaGreatQListP6ToCv14
import Derived.Test.YtplldfnldaehiaaGreatQExtPureToRf11
import Derived.Test.YtplldfnldaehiaaGreatQFil9ToRowsOf9
import Derived.Test.YtplldfnldaehiaaGreatQZEuclidToMWord

set_option maxRecDepth 100000
set_option maxHeartbeats 6400000
set_option linter.unusedVariables false
set_option linter.unusedSimpArgs false
namespace Go.Proofs.YtplldfnldaehiaaGreat
open Go.RowKit
def zlJ (w : World) (r c : Nat) (zs : List Int) (kw : Nat) (e : Ending) (w' : World) : Prop :=
 ∃ rs cs odd rv cv n a l cc, e = .returned (.tuple #[rv, cv, .agg #[.bool n, .slice a l cc], .int .i64 0]) ∧ Stz (en c zs) c r rs cs odd ∧ Ivs w.heap.size w' rv rs ∧ Ivs w.heap.size w' cv (srt cs) ∧ Zm w.heap.size w' (.agg #[.bool n, .slice a l cc]) (detS (en c zs) rs cs odd) kw ∧ (∀ b, rv.ownBlock = some b → cv.ownBlock ≠ some b) ∧ Below w.heap.size w w'
theorem core_yes {w : World} {v : Value} {r c : Nat} {zs : List Int} {k : Nat} (h : Mx w v r c zs k) (hk : k ≤ 4000000000) : Calls Tryz.prog 38 #[v] w (zlJ w r c zs (64 * k + 7)) := by
 have M0 := h; obtain ⟨aa, qa, rfl, hr64, hc64⟩ := h.form; obtain ⟨la, hla⟩ : ∃ la, r * c = la := ⟨_, rfl⟩
 rw [hla] at M0 ⊢; obtain ⟨W0, hW⟩ : ∃ W0, (w.alloc (matO r c (.slice aa la qa))).alloc zbox = W0 := ⟨_, rfl⟩
 obtain ⟨b0, sz0⟩ := zeA w (matO r c (.slice aa la qa)) zbox; rw [hW] at b0 sz0; have PR : Hid (Duo W0 (w.heap.size + 1) (.bool false) (.slice none 0 0)) := by
  unfold Hid; rw [← hW]; have := Duo.new (w.alloc (matO r c (.slice aa la qa))) (.bool false) (.slice none 0 0)
  simpa using this
 have PM : Hid (Cel W0 w.heap.size 24 (matc r c (.slice aa la qa))) := by
  unfold Hid; rw [← hW]; exact (Cel.new w 24 (matc r c (.slice aa la qa))).step ((Below.refl _ _).alloc (Nat.le_refl _) _)
 have M1 := hid (M0.now b0); have HC := hid (zxA M1.out); have G := hid b0; have EW := hid hW; have SZ := hid sz0; have HKK := hid hk; clear h M0 b0 sz0 hW hk hla; go_enter Tryz.func38, Tryz.ntmps38; go_wp2_with fail; rw [EW.out]; clear EW; refine HC.out.mono ?_; rintro e w1 ⟨rfl, b⟩; replace PR := hid (PR.out.step b); replace PM := hid (PM.out.step b); replace M1 := hid (M1.out.now b); have G1 := hid (below_step G.out b); have HST := hid (zND M1.out HKK.out); have lz1 := b.size; have x0 := PM.out.at (i := 0) rfl; have x1 := PM.out.at (i := 1) rfl; have x2 := PM.out.at (i := 2) rfl; clear HC b M1 G; go_wp2_with fail; clear x0 x1 x2; refine HST.out.mono ?_; rintro e w2 ⟨Bs, B, rs, cs, odd, ks, rfl, hs1, hz1, hb1, hb2, b⟩; have HS1 := hid hs1; have HZ1 := hid hz1; obtain ⟨rv, cv, lv, s1, s2, s3, s4, s5⟩ := hs1; obtain ⟨ra, rcap, rfl, -, -⟩ := s2.form; obtain ⟨ca, ccap, rfl, -, -⟩ := s3.form; have x0 := s1.at (i := 0) rfl; have x1 := s1.at (i := 1) rfl; have HR64 : Hid (rs.length ≤ 64) := Nat.le_trans hz1.le hr64; have HL64 : Hid (cs.length ≤ 64) := by unfold Hid; rw [hz1.len]; exact HR64.out
 have HSS := hid hz1.srt; obtain ⟨rl, hrl⟩ : ∃ rl, rs.length = rl := ⟨_, rfl⟩
 obtain ⟨cl, hcl⟩ : ∃ cl, cs.length = cl := ⟨_, rfl⟩
 have HSL : Hid ((srt cs).length = cl) := by unfold Hid; rw [hz1.srt.2.1, hcl]
 rw [hrl] at x0 s2; rw [hcl] at x1 s3; have HI2 := hid s2; have HI3 := hid s3; have HBB : Hid (w.heap.size ≤ B) := by unfold Hid; have := G1.out.size; omega
 replace PR := hid (PR.out.step b); replace G1 := hid (below_step G1.out b); have hsz := SZ.out; have lz2 := b.size; clear s1 s2 s3 s4 s5 hz1 hb1 hb2 b HST PM hrl hcl; go_upto_region 5 with fail
 have KB : Hid (∀ w', Below w2.heap.size w2 w' → w'.cell? ⟨Bs, 0, none⟩ = some (.slice ra rl rcap) ∧ w'.cell? ⟨Bs, 1, none⟩ = some (.slice ca cl ccap)) := fun w' h => ⟨cnow h x0, cnow h x1⟩
 refine zCA (fun w' => w'.cell? ⟨Bs, 0, none⟩ = some (.slice ra rl rcap) ∧ w'.cell? ⟨Bs, 1, none⟩ = some (.slice ca cl ccap)) 12 (by kernel_rfl) ?_; obtain ⟨D41, hD⟩ : ∃ D41, w2.drew = D41 := ⟨_, rfl⟩
 have GB : Hid (Below w2.heap.size w2 D41) := by unfold Hid; rw [← hD]; exact (Below.refl _ _).drew
 rw [hD]; clear hD; have D5Z := GB.out.size; refine zBA [(0, (.pointer (some ⟨Bs, 0, none⟩))), (1, (.pointer (some ⟨Bs, 0, none⟩))), (2, (.pointer (some ⟨Bs, 0, none⟩))), (3, (.slice ra rl rcap)), (4, (.pointer (some ⟨Bs, 0, none⟩))), (5, (.pointer (some ⟨Bs, 0, none⟩))), (6, (.pointer (some ⟨Bs, 1, none⟩))), (7, (.slice ca cl ccap)), (10, (.pointer (some ⟨Bs, 0, none⟩)))] 9 ?_ (KB.out _ GB.out) ?_
 ·simp only [zJA, gA9, g09, g19, Act.put, sI9, s09, s19]; (repeat' (first | exact trivial | refine And.intro (Or.inl ⟨by rfl, ?_⟩) ?_)) <;> (intro w hSw; (try dsimp only at hSw); go_simp)
 simp only [actV, gA9, g09, g19, Act.put, sI9, s09, s19]; refine zAA (i := 8) (o := ⟨some 24, .call { callee := .value (.func 63), args := #[.tmp 23], argTypes := #[34] }, 100, "bareiss.go:44", #[⟨7, .data⟩], none⟩) (by kernel_rfl) rfl (fun K hK => ?_); go_simp; go_at_call 63; refine values13.mono ?_; rintro e w42 ⟨rfl, hw8⟩; have b : Below D41.heap.size D41 w42 := by rw [hw8]; exact (Below.refl _ _).alloc (Nat.le_refl _) _
 have CB : Hid (w42.cell? ⟨D41.heap.size, 0, none⟩ = some (.slice ca cl ccap)) := by unfold Hid; rw [hw8]; exact (Cel.new D41 34 [(.slice ca cl ccap)]).at (i := 0) rfl
 replace GB := hid (below_step GB.out b); have lz8 := b.size; clear hw8 b; refine hK.out _ _ (fun _ => KB.out _ GB.out) ?_; clear hK; refine zAA (i := 9) (o := ⟨some 25, .call { callee := .value (.func 62), args := #[.tmp 24], argTypes := #[100] }, 34, "bareiss.go:44", #[⟨8, .data⟩, ⟨8, .chain⟩], none⟩) (by kernel_rfl) rfl (fun K hK => ?_); go_simp; go_at_call 62; refine (sorted13 (HI3.out.now GB.out) CB.out HL64.out HSS.out).mono ?_; rintro e w43 ⟨sv, rfl, hsv, b⟩; have lz43 := (show Below _ _ _ from b).size; replace GB := hid (below_step GB.out b); have SV := hid hsv; obtain ⟨sa, scap, hsvf, -, -⟩ := hsv.form; rw [HSL.out] at hsvf; subst hsvf; clear hsv CB; clear b; refine hK.out _ _ (fun _ => KB.out _ GB.out) ?_; clear hK; refine zAA (i := 11) (o := ⟨some 27, .call { callee := .value (.func 64), args := #[.tmp 26], argTypes := #[91] }, 37, "bareiss.go:44", #[⟨10, .data⟩, ⟨9, .chain⟩], none⟩) (by kernel_rfl) rfl (fun K hK => ?_); go_simp; go_at_call 64; refine (zgG (HS1.out.now GB.out) HZ1.out (by omega) hc64 HR64.out).mono ?_; rintro e w44 ⟨r0, rfl, m1, b⟩; have lz44 := (show Below _ _ _ from b).size; replace GB := hid (below_step GB.out b); replace SV := hid (SV.out.now b); obtain ⟨nr, xr, ar, cr, rfl⟩ := m1.parts; have M1 := hid m1; clear m1; clear b; refine hK.out _ _ (fun _ => KB.out _ GB.out) ?_; clear hK; refine zAA (i := 12) (o := ⟨some 2, .assign (.tmp 19), 34, "bareiss.go:44", #[⟨3, .data⟩, ⟨11, .chain⟩, ⟨0, .phase⟩, ⟨1, .phase⟩, ⟨2, .phase⟩, ⟨3, .phase⟩, ⟨4, .textOnly .lateStores⟩, ⟨5, .textOnly .lateStores⟩, ⟨6, .textOnly .lateStores⟩, ⟨7, .textOnly .lateStores⟩, ⟨8, .textOnly .lateStoresUnsure⟩, ⟨9, .textOnly .lateStoresUnsure⟩, ⟨10, .textOnly .lateStores⟩, ⟨11, .textOnly .lateStoresUnsure⟩], none⟩) (by kernel_rfl) rfl (fun K hK => ?_); go_simp; refine hK.out _ _ (fun h => absurd h (by decide)) ?_; clear hK
 try simp only [Act.put]
 refine zAA (i := 13) (o := ⟨some 3, .assign (.tmp 25), 34, "bareiss.go:44", #[⟨9, .data⟩, ⟨12, .chain⟩, ⟨0, .phase⟩, ⟨1, .phase⟩, ⟨2, .phase⟩, ⟨3, .phase⟩, ⟨4, .phase⟩, ⟨5, .phase⟩, ⟨6, .phase⟩, ⟨7, .phase⟩, ⟨8, .phase⟩, ⟨9, .phase⟩, ⟨10, .textOnly .lateStores⟩, ⟨11, .textOnly .lateStoresUnsure⟩, ⟨12, .phase⟩], none⟩) (by kernel_rfl) rfl (fun K hK => ?_); go_simp; refine hK.out _ _ (fun h => absurd h (by decide)) ?_; clear hK
 try simp only [Act.put]
 refine zAA (i := 14) (o := ⟨none, .store 37 (.tmp 4) (.tmp 27), 0, "bareiss.go:44", #[⟨11, .data⟩, ⟨13, .chain⟩, ⟨0, .phase⟩, ⟨1, .phase⟩, ⟨2, .phase⟩, ⟨3, .phase⟩, ⟨4, .phase⟩, ⟨5, .phase⟩, ⟨6, .phase⟩, ⟨7, .phase⟩, ⟨8, .phase⟩, ⟨9, .phase⟩, ⟨10, .phase⟩, ⟨11, .phase⟩, ⟨12, .phase⟩, ⟨13, .phase⟩], none⟩) (by kernel_rfl) rfl (fun K hK => ?_); replace PR := hid (PR.out.step GB.out); have e0 := PR.out.c0; have e1 := PR.out.c1; have e2 := PR.out.fz 0; have e3 := PR.out.fz 1; go_simp; clear e0 e1 e2 e3; obtain ⟨V45, hW⟩ : ∃ V45, ((w44.setCell ⟨w.heap.size + 1, 0, none⟩ (.bool nr)).setCell ⟨w.heap.size + 1, 1, none⟩ (.slice ar xr.length cr)) = V45 := ⟨_, rfl⟩
 have FIN : Hid (zlJ w r c zs (64 * k + 7) (.returned (.tuple #[(.slice ra rl rcap), .slice sa cl scap, .agg #[.bool nr, .slice ar xr.length cr], .int .i64 0])) V45 ∧ Duo V45 (w.heap.size + 1) (.bool nr) (.slice ar xr.length cr)) := by
  unfold Hid; rw [← hW]; have ty := PR.out.ty13 (.bool nr) (.slice ar xr.length cr); have g := zaC M1.out (below_step G1.out GB.out) (show w.heap.size ≤ w.heap.size + 1 by omega) (show w.heap.size + 1 < _ by omega); obtain ⟨_, e, g1, g2⟩ := g; simp only [Ending.returned.injEq] at e; subst e; have i1 : Ivs w.heap.size _ (.slice ra rl rcap) rs := zkB ((HI2.out.now GB.out).ty ty (by decide)) HBB.out; have i2 : Ivs w.heap.size _ (.slice sa cl scap) (srt cs) := zkB (SV.out.ty ty (by decide)) (by omega); refine ⟨⟨rs, cs, odd, _, _, _, _, _, _, rfl, HZ1.out, i1, i2, g1, fun b hb1 hb2 => ?_, g2⟩, PR.out.set _ _⟩; have l1 := (Array.getElem?_eq_some_iff.1 (HI2.out.blk hb1).2.choose_spec).1; have l2 := (SV.out.blk hb2).1; omega
 rw [hW]; clear hW; refine hK.out _ _ (fun h => absurd h (by decide)) ?_; clear hK
 try simp only [Act.put]
 refine zAA (i := 15) (o := ⟨some 5, .assign (.const (.int .i64 0)), 26, "bareiss.go:44", #[⟨14, .chain⟩, ⟨0, .phase⟩, ⟨1, .phase⟩, ⟨2, .phase⟩, ⟨3, .phase⟩, ⟨4, .phase⟩, ⟨5, .phase⟩, ⟨6, .phase⟩, ⟨7, .phase⟩, ⟨8, .phase⟩, ⟨9, .phase⟩, ⟨10, .phase⟩, ⟨11, .phase⟩, ⟨12, .phase⟩, ⟨13, .phase⟩, ⟨14, .phase⟩], none⟩) (by kernel_rfl) rfl (fun K hK => ?_); go_simp; refine hK.out _ _ (fun h => absurd h (by decide)) ?_; clear hK
 try simp only [Act.put]
 refine zDA (by kernel_rfl) ?_ _; clear HS1 HZ1 M1 GB KB SV HI2 HI3; have z0 := FIN.out.2.c0; have z1 := FIN.out.2.c1; go_wp2_with fail; exact bodyPost_ret (by simp [results, Tryz.results38, go_sem, z0, z1]) rfl FIN.out.1
def Num1 (w : World) (x : Int) (e : Ending) (w' : World) : Prop := e = .returned (.tuple #[.int .i64 x, .int .i64 0]) ∧ Below w.heap.size w w'
theorem ziG {w : World} {v : Value} {r c : Nat} {zs : List Int} {k : Nat} (h : Mx w v r c zs k) (hk : k ≤ 4000000000) : Calls Tryz.prog 17 #[v] w fun e w' => ∃ rs cs odd, Stz (en c zs) c r rs cs odd ∧ Num1 w (rs.length : Int) e w' := by
 have M0 := h; obtain ⟨aa, qa, rfl, hr64, hc64⟩ := h.form; obtain ⟨la, hla⟩ : ∃ la, r * c = la := ⟨_, rfl⟩
 rw [hla] at M0 ⊢; obtain ⟨W0, hW⟩ : ∃ W0, w.alloc (matO r c (.slice aa la qa)) = W0 := ⟨_, rfl⟩
 obtain ⟨b0, sz0⟩ := alo1 w (matO r c (.slice aa la qa)); rw [hW] at b0 sz0; have HC := hid (core_yes (M0.now b0) hk); have G := hid b0; have EW := hid hW; clear h M0 b0 sz0 hW hk hla; go_enter Tryz.func17, Tryz.ntmps17; go_wp2_with fail; rw [EW.out]; clear EW; refine HC.out.mono ?_; rintro e w1 ⟨rs, cs, odd, rv, cv, n, a, l, cc, rfl, hz, i1, i2, m, -, b⟩; obtain ⟨ra, rcap, rfl, -, -⟩ := i1.form; obtain ⟨ca, ccap, rfl, -, -⟩ := i2.form; have FIN : Hid (∃ rs' cs' odd', Stz (en c zs) c r rs' cs' odd' ∧ Num1 w (rs'.length : Int) (.returned (.tuple #[.int .i64 (rs.length : Int), .int .i64 0])) (w1.alloc (.cells #[.bool n, .slice a l cc] 37))) := ⟨rs, cs, odd, hz, rfl, below_step (below_step G.out b) ((Below.refl _ _).alloc (Nat.le_refl _) _)⟩
 clear hz i1 i2 m b HC; generalize rs.length = rl at *; generalize (srt cs).length = cl at *; go_wp2; go_ret2; exact FIN.out
def GAH (w : World) (L : List Int) (k n gk : Nat) (s : Value) (wx : World) : Prop :=
 ∃ i : Nat, s = .int .i64 (i : Int) ∧ i ≤ n ∧ gk = n - i ∧ (∃ m a l c, Duo wx (w.heap.size + 1) (.bool m) (.slice a l c) ∧ Zm 0 wx (.agg #[.bool m, .slice a l c]) (gcdL (L.take i)) k) ∧ Duo wx w.heap.size (.bool false) (.slice none 0 0) ∧ Below w.heap.size w wx
theorem zm_zero9 (w : World) (k : Nat) : Zm 0 w (.agg #[.bool false, .slice none 0 0]) 0 k := ⟨false, [], none, 0, rfl, Mine.nil _ _, ⟨WF.nil, rfl⟩, fun _ => rfl, by simp [iv, val], Nat.zero_le _⟩
theorem gcdAll6 {w : World} {v : Value} {L : List Int} {k : Nat} (hv : Zl w v L k) (hk : k ≤ 68719476736) :
  Calls Tryz.prog 19 #[v] w fun e w' => ∃ r, e = .returned r ∧ Zm 0 w' r (gcdL L) k ∧ Below w.heap.size w w' := by
 have V0 := hid hv; obtain ⟨a0, c0, rfl, hc0, hn0, hf0⟩ := hv.form9; have GT : Hid (gcdL L = gcdL (L.take L.length)) := by unfold Hid; rw [List.take_length]
 obtain ⟨n, hn⟩ : ∃ n, L.length = n := ⟨_, rfl⟩
 rw [hn] at V0 hc0 hn0 GT ⊢; have HN := hid hn; have F0 := hid hf0; have HK := hid hk; clear hv hf0 hn hk; obtain ⟨W0, hW⟩ : ∃ W0, (w.alloc zbox).alloc zbox = W0 := ⟨_, rfl⟩
 obtain ⟨b0, sz0⟩ := zeA w zbox zbox; rw [hW] at b0 sz0; have p2 : Duo W0 w.heap.size (.bool false) (.slice none 0 0) := by rw [← hW]; exact (Duo.new w _ _).later (by simp) _
 have p3 : Duo W0 (w.heap.size + 1) (.bool false) (.slice none 0 0) := by
  rw [← hW]; have := Duo.new (w.alloc zbox) (.bool false) (.slice none 0 0)
  simpa using this
 have H0 : Hid (GAH w L k n n (.int .i64 0) W0) := ⟨0, rfl, Nat.zero_le _, by omega, ⟨_, _, _, _, p3, zm_zero9 _ _⟩, p2, b0⟩
 have EW := hid hW; clear b0 sz0 hW p2 p3; go_enter Tryz.func19, Tryz.ntmps19; go_wp2_with fail; rw [EW.out]; clear EW
 go_loopg [8] n (fun gk s8 wx => GAH w L k n gk s8 wx)
 case atStart => exact H0.out
 case round =>
  clear H0; obtain ⟨i, rfl, hin, hg, ⟨m, ag, lg, cg, hd, hz⟩, hr, hG⟩ := hrel; have PG := hid hd; have ZG := hid hz; have PR := hid hr; have G := hid hG; have HG := hid hg; clear hd hz hr hG hg
  by_cases hlt : i < n
  ·have hlt' : (i : Int) < (n : Int) := by omega
   obtain ⟨b1, o1, rfl⟩ := F0.out (fun e => by have := HN.out; rw [e] at this; simp at this; omega); obtain ⟨nf, xf, adf, qf, k0, k1, zf⟩ := (V0.out.now G.out).at9 (i := i) (by rw [HN.out]; exact hlt); obtain ⟨V1, hV⟩ : ∃ V1, wr.alloc (duo (.bool nf) (.slice adf xf.length qf)) = V1 := ⟨_, rfl⟩
   obtain ⟨b, sz1⟩ := alo1 wr (duo (.bool nf) (.slice adf xf.length qf)); rw [hV] at b sz1; have PN : Hid (Duo V1 wr.heap.size (.bool nf) (.slice adf xf.length qf)) := by unfold Hid; rw [← hV]; exact Duo.new wr _ _
   have HS := hid (ziJ (ZG.out.now b).zi (zf.now b) HK.out); have EG : Hid ((Int.gcd (gcdL (L.take i)) (L[i]'(by rw [HN.out]; exact hlt)) : Int) = gcdL (L.take (i + 1))) := (gcdL_take (by rw [HN.out]; exact hlt)).symm; rw [EG.out] at HS; have PG1 := hid (PG.out.step b); have PR1 := hid (PR.out.step b); have G1 := hid (below_step G.out b); have n0 := PN.out.c0; have n1 := PN.out.c1; have g0 := PG1.out.c0; have g1 := PG1.out.c1; rw [← hV] at n0 n1 g0 g1; have EV := hid hV; have hw := zSA (i := i) (by omega); clear zf b sz1 hV PN G EG PG PR ZG; go_wp2_with fail; rw [EV.out]; refine HS.out.mono ?_; rintro e w1 ⟨r, rfl, m1, b⟩; have PG2 := hid (PG1.out.step b); have PR2 := hid (PR1.out.step b); have G2 := hid (below_step G1.out b); have M1 := hid (m1.mono (Nat.zero_le _)); obtain ⟨nr, xr, ar, cr, rfl⟩ := m1.parts; have e0 := PG2.out.c0; have e1 := PG2.out.c1; have e2 := PG2.out.fz 0; have e3 := PG2.out.fz 1; have HN1 : Hid (GAH w L k n (n - (i + 1)) (.int .i64 ((i + 1 : Nat) : Int)) ((w1.setCell ⟨w.heap.size + 1, 0, none⟩ (.bool nr)).setCell ⟨w.heap.size + 1, 1, none⟩ (.slice ar xr.length cr))) :=
    ⟨i + 1, rfl, by omega, rfl, ⟨_, _, _, _, PG2.out.set _ _, M1.out.box PG2.out _ _⟩, PR2.out.box (by omega) _ _, bset (bset G2.out (by omega)) (by omega)⟩
   have HMM : Hid (n - (i + 1) < gk) := by unfold Hid; rw [HG.out]; omega
   clear HS HG m1 b k0 k1 n0 n1 g0 g1 EV PG1 PR1 G1 PG2 PR2 G2 M1; go_wp2_with fail; go_roundg (n - (i + 1))
   case rel => exact HN1.out
   case measure => exact HMM.out
  ·have hlt' : ¬ (i : Int) < (n : Int) := by omega
   obtain rfl : i = n := by omega
   rw [← GT.out] at ZG; have g0 := PG.out.c0; have g1 := PG.out.c1; have r0 := PR.out.c0; have r1 := PR.out.c1; have f0 := PR.out.fz 0; have f1 := PR.out.fz 1; have FIN : Hid (∃ r, Ending.returned (.agg #[.bool m, .slice ag lg cg]) = .returned r ∧ Zm 0 ((wr.setCell ⟨w.heap.size, 0, none⟩ (.bool m)).setCell ⟨w.heap.size, 1, none⟩ (.slice ag lg cg)) r (gcdL L) k ∧ Below w.heap.size w ((wr.setCell ⟨w.heap.size, 0, none⟩ (.bool m)).setCell ⟨w.heap.size, 1, none⟩ (.slice ag lg cg))) := ⟨_, rfl, ZG.out.box PR.out _ _, bset (bset G.out (Nat.le_refl _)) (Nat.le_refl _)⟩
   clear HG ZG G; go_wp2; exact bodyPost_ret (zlA Tryz.results19 (PR.out.set _ _) _ (by rfl)) rfl FIN.out
end Go.Proofs.YtplldfnldaehiaaGreat
