/-
 QCm14ToSz14: Cm14, Ns14, Sm14, Sz14, joined.
-/
import Derived.Test.YtplldfnldaehiaaGreatQCp14
import Derived.Test.YtplldfnldaehiaaGreatQMn14ToAj14
import Derived.Test.YtplldfnldaehiaaGreatQDo14ToIx14
import Derived.Test.YtplldfnldaehiaaGreatQRn14ToIt14
import Derived.Test.YtplldfnldaehiaaGreatQPure9ToLeastA9
import Derived.Test.YtplldfnldaehiaaGreatQCz14ToCg14

set_option maxRecDepth 100000
set_option maxHeartbeats 6400000
set_option linter.unusedVariables false
set_option linter.unusedSimpArgs false
namespace Go.Proofs.YtplldfnldaehiaaGreat
open Go.RowKit
theorem msz_no {w : World} {r c : Int} {a : Option Addr} {l cap : Nat} {kv : Int} (h : ¬ Snd r c l) : Calls Tryz.prog 23 #[.agg #[.int .i64 r, .int .i64 c, .slice a l cap], .int .i64 kv] w fun e w' => e = .returned (.int .i64 1) ∧ Below w.heap.size w w' := by
 obtain ⟨W0, hW⟩ : ∃ W0, w.alloc (.cells #[.int .i64 r, .int .i64 c, .slice a l cap] 24) = W0 := ⟨_, rfl⟩
 obtain ⟨b0, sz0⟩ := alo1 w (.cells #[.int .i64 r, .int .i64 c, .slice a l cap] 24); rw [hW] at b0 sz0; have HC := hid (check_no (w := W0) (a := a) (cap := cap) h); have G := hid b0; have EW := hid hW; clear h b0 sz0 hW; go_enter Tryz.func23, Tryz.ntmps23; go_wp2_with fail; rw [EW.out]; refine HC.out.mono ?_; rintro e w1 ⟨rfl, b⟩; have G1 := hid (below_step G.out b); clear HC b; go_wp2; go_ret; exact ⟨rfl, G1.out⟩
theorem msz_neg {w : World} {v : Value} {r c : Nat} {kv : Int} {zs : List Int} {k : Nat} (h : Mx w v r c zs k) (hk : kv < 0) : Calls Tryz.prog 23 #[v, .int .i64 kv] w fun e w' => e = .returned (.int .i64 3) ∧ Below w.heap.size w w' := by
 have M0 := h; obtain ⟨aa, ca, rfl, hr, hc⟩ := h.form; obtain ⟨la, hla⟩ : ∃ la, r * c = la := ⟨_, rfl⟩
 rw [hla] at M0 ⊢; obtain ⟨W0, hW⟩ : ∃ W0, w.alloc (matO r c (.slice aa la ca)) = W0 := ⟨_, rfl⟩
 obtain ⟨b0, sz0⟩ := alo1 w (matO r c (.slice aa la ca)); rw [hW] at b0 sz0; have P0 : Hid (Cel W0 w.heap.size 24 (matc r c (.slice aa la ca))) := by unfold Hid; rw [← hW]; exact Cel.new w _ _
 have HC := hid (zxA (M0.now b0)); have G := hid b0; have EW := hid hW; have q1d : decide (kv < 0) = true := decide_eq_true hk; clear h M0 b0 sz0 hW hla hk; go_enter Tryz.func23, Tryz.ntmps23; go_wp2_with fail; rw [EW.out]; refine HC.out.mono ?_; rintro e w1 ⟨rfl, b⟩; have G1 := hid (below_step G.out b); have x0 := (P0.out.step b).at (i := 0) rfl; have x1 := (P0.out.step b).at (i := 1) rfl; clear HC b; go_wp2; go_ret; exact ⟨rfl, G1.out⟩
theorem msz_big {w : World} {v : Value} {r c : Nat} {kv : Int} {zs : List Int} {k : Nat} (h : Mx w v r c zs k) (hk : 0 ≤ kv ∧ ((r : Int) < kv ∨ (c : Int) < kv)) : Calls Tryz.prog 23 #[v, .int .i64 kv] w fun e w' => e = .returned (.int .i64 3) ∧ Below w.heap.size w w' := by
 have M0 := h; obtain ⟨aa, ca, rfl, hr, hc⟩ := h.form; obtain ⟨la, hla⟩ : ∃ la, r * c = la := ⟨_, rfl⟩
 rw [hla] at M0 ⊢; obtain ⟨W0, hW⟩ : ∃ W0, w.alloc (matO r c (.slice aa la ca)) = W0 := ⟨_, rfl⟩
 obtain ⟨b0, sz0⟩ := alo1 w (matO r c (.slice aa la ca)); rw [hW] at b0 sz0; have P0 : Hid (Cel W0 w.heap.size 24 (matc r c (.slice aa la ca))) := by unfold Hid; rw [← hW]; exact Cel.new w _ _
 have HC := hid (zxA (M0.now b0)); have G := hid b0; have EW := hid hW; have q1d : decide (kv < 0) = false := decide_eq_false (by omega); have q2d : decide (min (r : Int) (c : Int) < kv) = true := decide_eq_true (by omega); clear h M0 b0 sz0 hW hla hk; go_enter Tryz.func23, Tryz.ntmps23; go_wp2_with fail; rw [EW.out]; refine HC.out.mono ?_; rintro e w1 ⟨rfl, b⟩; have G1 := hid (below_step G.out b); have x0 := (P0.out.step b).at (i := 0) rfl; have x1 := (P0.out.step b).at (i := 1) rfl; clear HC b; go_wp2; go_ret; exact ⟨rfl, G1.out⟩
theorem zyE {w : World} {v : Value} {r c : Nat} {kv : Int} {zs : List Int} {k : Nat} (h : Mx w v r c zs k) (hk : 0 ≤ kv ∧ kv ≤ (r : Int) ∧ kv ≤ (c : Int)) : Calls Tryz.prog 23 #[v, .int .i64 kv] w fun e w' => e = .returned (.int .i64 0) ∧ Below w.heap.size w w' := by
 have M0 := h; obtain ⟨aa, ca, rfl, hr, hc⟩ := h.form; obtain ⟨la, hla⟩ : ∃ la, r * c = la := ⟨_, rfl⟩
 rw [hla] at M0 ⊢; obtain ⟨W0, hW⟩ : ∃ W0, w.alloc (matO r c (.slice aa la ca)) = W0 := ⟨_, rfl⟩
 obtain ⟨b0, sz0⟩ := alo1 w (matO r c (.slice aa la ca)); rw [hW] at b0 sz0; have P0 : Hid (Cel W0 w.heap.size 24 (matc r c (.slice aa la ca))) := by unfold Hid; rw [← hW]; exact Cel.new w _ _
 have HC := hid (zxA (M0.now b0)); have G := hid b0; have EW := hid hW; have q1d : decide (kv < 0) = false := decide_eq_false (by omega); have q2d : decide (min (r : Int) (c : Int) < kv) = false := decide_eq_false (by omega); clear h M0 b0 sz0 hW hla hk; go_enter Tryz.func23, Tryz.ntmps23; go_wp2_with fail; rw [EW.out]; refine HC.out.mono ?_; rintro e w1 ⟨rfl, b⟩; have G1 := hid (below_step G.out b); have x0 := (P0.out.step b).at (i := 0) rfl; have x1 := (P0.out.step b).at (i := 1) rfl; clear HC b; go_wp2; go_ret; exact ⟨rfl, G1.out⟩
theorem com_big {w : World} {va : Value} {m n k kk : Nat} {zs : List Int} (ha : Mx w va m n zs kk) (hkk : 64 * kk + 7 ≤ 4000000000) (hkm : k ≤ m) (hkn : k ≤ n) (hc : 64 < cho m k ∨ 64 < cho n k) :
  Calls Tryz.prog 6 #[va, .int .i64 (k : Int)] w (zYI w 5) := by
 have M0 := ha; obtain ⟨aa, ca, rfl, hm64, hn64⟩ := ha.form; obtain ⟨la, hla⟩ : ∃ la, m * n = la := ⟨_, rfl⟩
 rw [hla] at M0 ⊢; have ENN := hid hla; obtain ⟨cm, hcm⟩ : ∃ cm, cho m k = cm := ⟨_, rfl⟩
 obtain ⟨cn, hcn⟩ : ∃ cn, cho n k = cn := ⟨_, rfl⟩
 have ECM := hid hcm; have ECN := hid hcn; have q1 : (64 : Int) < max (cm : Int) (cn : Int) := by omega
 have q1d : decide ((64 : Int) < max (cm : Int) (cn : Int)) = true := decide_eq_true q1; obtain ⟨W0, hW⟩ : ∃ W0, (w.alloc (matO m n (.slice aa la ca))).alloc mbox = W0 := ⟨_, rfl⟩
 obtain ⟨b0, sz0⟩ := zeA w (matO m n (.slice aa la ca)) mbox; rw [hW] at b0 sz0; have PA : Hid (Cel W0 w.heap.size 24 (matc m n (.slice aa la ca))) := by
  unfold Hid; rw [← hW]; exact (Cel.new w 24 (matc m n (.slice aa la ca))).step ((Below.refl _ _).alloc (Nat.le_refl _) _)
 have PR : Hid (Cel W0 (w.heap.size + 1) 24 [.int .i64 0, .int .i64 0, .slice none 0 0]) := by
  unfold Hid; rw [← hW]; have := Cel.new (w.alloc (matO m n (.slice aa la ca))) 24 [.int .i64 0, .int .i64 0, .slice none 0 0]
  simpa using this
 have HC := hid (zyE (M0.now b0) (kv := (k : Int)) (by omega)); have MA := hid (M0.now b0); have G := hid b0; have EW := hid hW; have SZ := hid sz0; clear ha M0 b0 hW hla sz0 hcm hcn; go_enter Tryz.func6, Tryz.ntmps6; go_wp2_with fail; rw [EW.out]; clear EW; refine HC.out.mono ?_; rintro e w1 ⟨rfl, b⟩; replace MA := hid (MA.out.now b); replace PA := hid (PA.out.step b); replace PR := hid (PR.out.step b); replace G := hid (below_step G.out b); have lz1 : Hid (w.heap.size + 1 < w1.heap.size) := by unfold Hid; have := SZ.out; have := b.size; omega
 have x0 := PA.out.at (i := 0) rfl; have x1 := PA.out.at (i := 1) rfl; clear HC b; go_wp2_with fail; have KB : Hid (∀ w', Below w1.heap.size w1 w' → w'.cell? ⟨w.heap.size, 0, none⟩ = some (.int .i64 (m : Int)) ∧ w'.cell? ⟨w.heap.size, 1, none⟩ = some (.int .i64 (n : Int))) := fun w' h => ⟨cnow h x0, cnow h x1⟩
 refine zCA (fun w' => w'.cell? ⟨w.heap.size, 0, none⟩ = some (.int .i64 (m : Int)) ∧ w'.cell? ⟨w.heap.size, 1, none⟩ = some (.int .i64 (n : Int))) 9 (by kernel_rfl) ?_; obtain ⟨D21, hD⟩ : ∃ D21, w1.drew = D21 := ⟨_, rfl⟩
 have GB : Hid (Below w1.heap.size w1 D21) := by unfold Hid; rw [← hD]; exact (Below.refl _ _).drew
 rw [hD]; clear hD; refine zBA [(0, (.pointer (some ⟨w.heap.size, 0, none⟩))), (1, (.int .i64 (m : Int))), (2, (.int .i64 (k : Int))), (4, (.pointer (some ⟨w.heap.size, 1, none⟩))), (5, (.int .i64 (n : Int))), (6, (.int .i64 (k : Int)))] 6 ?_ (KB.out _ GB.out) ?_
 ·simp only [zJA, gA9, g09, g19, Act.put, sI9, s09, s19]; (repeat' (first | exact trivial | refine And.intro (Or.inl ⟨by rfl, ?_⟩) ?_)) <;> (intro w hSw; (try dsimp only at hSw); go_simp)
 simp only [actV, gA9, g09, g19, Act.put, sI9, s09, s19]; refine zAA (i := 3) (o := ⟨some 17, .call { callee := .value (.func 24), args := #[.tmp 15, .tmp 16], argTypes := #[3, 3] }, 54, "minors.go:47", #[⟨1, .data⟩, ⟨2, .data⟩], none⟩) (by kernel_rfl) rfl (fun K hK => ?_); go_simp; go_at_call 24; refine ((show Calls _ _ _ _ _ from zsA (n := m) hm64 hkm)).mono ?_; rintro e w22 ⟨rfl, b⟩; have lz22 := (show Below _ _ _ from b).size; replace GB := hid (below_step GB.out b); rw [ECM.out]; clear b; refine hK.out _ _ (fun _ => KB.out _ GB.out) ?_; clear hK; refine zAA (i := 7) (o := ⟨some 21, .call { callee := .value (.func 24), args := #[.tmp 19, .tmp 20], argTypes := #[3, 3] }, 54, "minors.go:47", #[⟨5, .data⟩, ⟨6, .data⟩, ⟨3, .chain⟩], none⟩) (by kernel_rfl) rfl (fun K hK => ?_); go_simp; go_at_call 24; refine (zsA (n := n) hn64 hkn).mono ?_; rintro e w23 ⟨rfl, b⟩; have lz23 := (show Below _ _ _ from b).size; replace GB := hid (below_step GB.out b); rw [ECN.out]; clear b; refine hK.out _ _ (fun _ => KB.out _ GB.out) ?_; clear hK; refine zBA [(8, (.int .u64 (max (cm : Int) (cn : Int))))] 1 ?_ (KB.out _ GB.out) ?_
 ·simp only [zJA, gA9, g09, g19, Act.put, sI9, s09, s19]; (repeat' (first | exact trivial | refine And.intro (Or.inl ⟨by rfl, ?_⟩) ?_)) <;> (intro w hSw; (try dsimp only at hSw); go_simp)
 simp only [actV, gA9, g09, g19, Act.put, sI9, s09, s19]; refine zAA (i := 9) (o := ⟨some 23, .binOp .gtr 54 (.tmp 22) (.const (.int .u64 64)) 54, 4, "minors.go:47", #[⟨8, .data⟩], none⟩) (by kernel_rfl) rfl (fun K hK => ?_); go_simp; refine hK.out _ _ (fun h => absurd h (by decide)) ?_; clear hK
 try simp only [Act.put]
 refine zDA (by kernel_rfl) ?_ _; have PR1 := hid (PR.out.step GB.out); have G1 := hid (below_step G.out GB.out); have r0 := PR1.out.at (i := 0) rfl; have r1 := PR1.out.at (i := 1) rfl; have r2 := PR1.out.at (i := 2) rfl; have f0 := PR1.out.fz 0; have f1 := PR1.out.fz 1; have f2 := PR1.out.fz 2; have FIN : Hid (zYI w 5 (.returned (.tuple #[zgJ, .int .i64 5])) (put3 w23 (w.heap.size + 1) (.int .i64 0) (.int .i64 0) (.slice none 0 0))) := ⟨rfl, ztA G1.out (by omega) _ _ _⟩
 have PF := hid (PR1.out.put3 (.int .i64 0) (.int .i64 0) (.slice none 0 0)); clear KB GB x0 x1; go_wp2_with fail; exact bodyPost_ret (zfF Tryz.results6 PF.out _ (by rfl) (by rfl)) rfl FIN.out
theorem com_yes {w : World} {va : Value} {m n k kk : Nat} {zs : List Int} (ha : Mx w va m n zs kk) (hkk : 64 * kk + 7 ≤ 4000000000) (hkm : k ≤ m) (hkn : k ≤ n) (hc1 : cho m k ≤ 64) (hc2 : cho n k ≤ 64) :
  Calls Tryz.prog 6 #[va, .int .i64 (k : Int)] w (zQF w (cho m k) (cho n k) (zF (cho m k) (cho n k) (cpE (en n zs) m n k)) (64 * kk + 7)) := by
 have M0 := ha; obtain ⟨aa, ca, rfl, hm64, hn64⟩ := ha.form; obtain ⟨la, hla⟩ : ∃ la, m * n = la := ⟨_, rfl⟩
 rw [hla] at M0 ⊢; have ENN := hid hla; obtain ⟨cm, hcm⟩ : ∃ cm, cho m k = cm := ⟨_, rfl⟩
 obtain ⟨cn, hcn⟩ : ∃ cn, cho n k = cn := ⟨_, rfl⟩
 have ECM := hid hcm; have ECN := hid hcn; have q1 : ¬ (64 : Int) < max (cm : Int) (cn : Int) := by omega
 have q1d : decide ((64 : Int) < max (cm : Int) (cn : Int)) = false := decide_eq_false q1; have hc1' : Hid (cm ≤ 64) := by unfold Hid; omega
 have hc2' : Hid (cn ≤ 64) := by unfold Hid; omega
 obtain ⟨W0, hW⟩ : ∃ W0, (w.alloc (matO m n (.slice aa la ca))).alloc mbox = W0 := ⟨_, rfl⟩
 obtain ⟨b0, sz0⟩ := zeA w (matO m n (.slice aa la ca)) mbox; rw [hW] at b0 sz0; have PA : Hid (Cel W0 w.heap.size 24 (matc m n (.slice aa la ca))) := by
  unfold Hid; rw [← hW]; exact (Cel.new w 24 (matc m n (.slice aa la ca))).step ((Below.refl _ _).alloc (Nat.le_refl _) _)
 have PR : Hid (Cel W0 (w.heap.size + 1) 24 [.int .i64 0, .int .i64 0, .slice none 0 0]) := by
  unfold Hid; rw [← hW]; have := Cel.new (w.alloc (matO m n (.slice aa la ca))) 24 [.int .i64 0, .int .i64 0, .slice none 0 0]
  simpa using this
 have HC := hid (zyE (M0.now b0) (kv := (k : Int)) (by omega)); have MA := hid (M0.now b0); have G := hid b0; have EW := hid hW; have SZ := hid sz0; clear ha M0 b0 hW hla sz0 hcm hcn; go_enter Tryz.func6, Tryz.ntmps6; go_wp2_with fail; rw [EW.out]; clear EW; refine HC.out.mono ?_; rintro e w1 ⟨rfl, b⟩; replace MA := hid (MA.out.now b); replace PA := hid (PA.out.step b); replace PR := hid (PR.out.step b); replace G := hid (below_step G.out b); have lz1 : Hid (w.heap.size + 1 < w1.heap.size) := by unfold Hid; have := SZ.out; have := b.size; omega
 have x0 := PA.out.at (i := 0) rfl; have x1 := PA.out.at (i := 1) rfl; clear HC b; go_wp2_with fail; have KB : Hid (∀ w', Below w1.heap.size w1 w' → w'.cell? ⟨w.heap.size, 0, none⟩ = some (.int .i64 (m : Int)) ∧ w'.cell? ⟨w.heap.size, 1, none⟩ = some (.int .i64 (n : Int))) := fun w' h => ⟨cnow h x0, cnow h x1⟩
 refine zCA (fun w' => w'.cell? ⟨w.heap.size, 0, none⟩ = some (.int .i64 (m : Int)) ∧ w'.cell? ⟨w.heap.size, 1, none⟩ = some (.int .i64 (n : Int))) 9 (by kernel_rfl) ?_; obtain ⟨D21, hD⟩ : ∃ D21, w1.drew = D21 := ⟨_, rfl⟩
 have GB : Hid (Below w1.heap.size w1 D21) := by unfold Hid; rw [← hD]; exact (Below.refl _ _).drew
 rw [hD]; clear hD; refine zBA [(0, (.pointer (some ⟨w.heap.size, 0, none⟩))), (1, (.int .i64 (m : Int))), (2, (.int .i64 (k : Int))), (4, (.pointer (some ⟨w.heap.size, 1, none⟩))), (5, (.int .i64 (n : Int))), (6, (.int .i64 (k : Int)))] 6 ?_ (KB.out _ GB.out) ?_
 ·simp only [zJA, gA9, g09, g19, Act.put, sI9, s09, s19]; (repeat' (first | exact trivial | refine And.intro (Or.inl ⟨by rfl, ?_⟩) ?_)) <;> (intro w hSw; (try dsimp only at hSw); go_simp)
 simp only [actV, gA9, g09, g19, Act.put, sI9, s09, s19]; refine zAA (i := 3) (o := ⟨some 17, .call { callee := .value (.func 24), args := #[.tmp 15, .tmp 16], argTypes := #[3, 3] }, 54, "minors.go:47", #[⟨1, .data⟩, ⟨2, .data⟩], none⟩) (by kernel_rfl) rfl (fun K hK => ?_); go_simp; go_at_call 24; refine ((show Calls _ _ _ _ _ from zsA (n := m) hm64 hkm)).mono ?_; rintro e w22 ⟨rfl, b⟩; have lz22 := (show Below _ _ _ from b).size; replace GB := hid (below_step GB.out b); rw [ECM.out]; clear b; refine hK.out _ _ (fun _ => KB.out _ GB.out) ?_; clear hK; refine zAA (i := 7) (o := ⟨some 21, .call { callee := .value (.func 24), args := #[.tmp 19, .tmp 20], argTypes := #[3, 3] }, 54, "minors.go:47", #[⟨5, .data⟩, ⟨6, .data⟩, ⟨3, .chain⟩], none⟩) (by kernel_rfl) rfl (fun K hK => ?_); go_simp; go_at_call 24; refine (zsA (n := n) hn64 hkn).mono ?_; rintro e w23 ⟨rfl, b⟩; have lz23 := (show Below _ _ _ from b).size; replace GB := hid (below_step GB.out b); rw [ECN.out]; clear b; refine hK.out _ _ (fun _ => KB.out _ GB.out) ?_; clear hK; refine zBA [(8, (.int .u64 (max (cm : Int) (cn : Int))))] 1 ?_ (KB.out _ GB.out) ?_
 ·simp only [zJA, gA9, g09, g19, Act.put, sI9, s09, s19]; (repeat' (first | exact trivial | refine And.intro (Or.inl ⟨by rfl, ?_⟩) ?_)) <;> (intro w hSw; (try dsimp only at hSw); go_simp)
 simp only [actV, gA9, g09, g19, Act.put, sI9, s09, s19]; refine zAA (i := 9) (o := ⟨some 23, .binOp .gtr 54 (.tmp 22) (.const (.int .u64 64)) 54, 4, "minors.go:47", #[⟨8, .data⟩], none⟩) (by kernel_rfl) rfl (fun K hK => ?_); go_simp; refine hK.out _ _ (fun h => absurd h (by decide)) ?_; clear hK
 try simp only [Act.put]
 refine zDA (by kernel_rfl) ?_ _; replace PA := hid (PA.out.step GB.out); replace PR := hid (PR.out.step GB.out); replace G := hid (below_step G.out GB.out); have HA := hid (compound_any (MA.out.now GB.out) hkk hkm hkn hc1 hc2); have lz2 : Hid (w.heap.size + 1 < w23.heap.size) := by unfold Hid; have := lz1.out; have := GB.out.size; omega
 have x0 := PA.out.at (i := 0) rfl; have x1 := PA.out.at (i := 1) rfl; have x2 := PA.out.at (i := 2) rfl; clear KB GB MA; go_wp2_with fail; refine HA.out.mono ?_; rintro e w9 ⟨v9, ps, rfl, hown, hzms, b⟩; rw [zHI] at hzms; rw [ECM.out, ECN.out] at hzms; rw [ECM.out, ECN.out]; have hlp : ps.length = cm * cn := by rw [hzms.1, zNB]
 have hlq : cm * cn ≤ 64 * 64 := Nat.mul_le_mul hc1'.out hc2'.out; have MC : Hid (Mc w9 (matv cm cn v9) cm cn (zF cm cn (cpE (en n zs) m n k)) (64 * kk + 7)) := ⟨_, ps, rfl, (hown.prsT (by omega)).1, hzms.zcs, zNB _ _ _, hc1'.out, hc2'.out⟩
 obtain ⟨a9, q9, hf, -, -⟩ := MC.out.mx.form; obtain ⟨l9, hl9⟩ : ∃ l9, cm * cn = l9 := ⟨_, rfl⟩
 rw [hl9] at hf; obtain rfl : v9 = .slice a9 l9 q9 := by simpa [matv] using hf
 replace PR := hid (PR.out.step b); have r0 := PR.out.at (i := 0) rfl; have r1 := PR.out.at (i := 1) rfl; have r2 := PR.out.at (i := 2) rfl; have f0 := PR.out.fz 0; have f1 := PR.out.fz 1; have f2 := PR.out.fz 2; have FIN : Hid (zQF w (cho m k) (cho n k) (zF (cho m k) (cho n k) (cpE (en n zs) m n k)) (64 * kk + 7) (.returned (.tuple #[.agg #[.int .i64 (cm : Int), .int .i64 (cn : Int), .slice a9 l9 q9], .int .i64 0])) (put3 w9 (w.heap.size + 1) (.int .i64 (cm : Int)) (.int .i64 (cn : Int)) (.slice a9 l9 q9))) := by
  rw [ECM.out, ECN.out]; exact ⟨_, rfl, MC.out.wk PR.out _ _ _, ztA (below_step G.out b) (by omega) _ _ _⟩
 have PF := hid (PR.out.put3 (.int .i64 (cm : Int)) (.int .i64 (cn : Int)) (.slice a9 l9 q9)); clear HA b hown hzms hf hl9 hlp hlq MC x0 x1 x2 G PR; go_wp2_with fail; exact bodyPost_ret (zfF Tryz.results6 PF.out _ (by rfl) (by rfl)) rfl FIN.out


theorem zEC : ∀ d k, cho (d + 2) k + cho (d + 2) (k + 1) + 1 ≤ 2 ^ (d + 2)
 | 0, 0 => by decide
 | 0, 1 => by decide
 | 0, 2 => by decide
 | 0, k + 3 => by
  have h1 : cho 2 (k + 3) = 0 := by simp [cho]
  have h2 : cho 2 (k + 3 + 1) = 0 := by simp [cho]
  rw [h1, h2]
  decide
 | d + 1, 0 => by
  have h : cho (d + 2) 0 + cho (d + 2) 1 + 1 ≤ 2 ^ (d + 2) := zEC d 0
  show 1 + (cho (d + 2) 0 + cho (d + 2) 1) + 1 ≤ 2 ^ (d + 2 + 1)
  rw [Nat.pow_succ]; have : 1 ≤ 2 ^ (d + 2) := Nat.one_le_two_pow; omega
 | d + 1, k + 1 => by
  have h1 := zEC d k; have h2 := zEC d (k + 1)
  show (cho (d + 2) k + cho (d + 2) (k + 1)) + (cho (d + 2) (k + 1) + cho (d + 2) (k + 1 + 1)) + 1 ≤ 2 ^ (d + 2 + 1)
  rw [Nat.pow_succ]; omega
theorem cho_two14 {t i : Nat} (h : t ≤ 63) : cho t i + cho t (i + 1) < 9223372036854775808 := by
 match t with
 | 0 => have := zWB 0 i; omega
 | 1 => have := zWB 1 i; omega
 | t + 2 =>
  have h1 := zEC t i; have h2 : 2 ^ (t + 2) ≤ 2 ^ 63 := Nat.pow_le_pow_right (by omega) (by omega); omega
def SoH (w : World) (g n k gk : Nat) (s : Value) (wx : World) : Prop := ∃ t : Nat, s = .int .i64 (t : Int) ∧ t ≤ n ∧ gk = n - t ∧ Cel wx g 3 (wf (k + 1) fun j => (cho t j : Nat)) ∧ Below w.heap.size w wx
def SiZ (w : World) (g t k gk : Nat) (s : Value) (wx : World) : Prop := ∃ i : Nat, s = .int .i64 (i : Int) ∧ i ≤ k ∧ gk = i ∧ Cel wx g 3 (wf (k + 1) (chF t i)) ∧ Below w.heap.size w wx
theorem zJC {w : World} {n k : Nat} (hn : n ≤ 64) (hk : k ≤ n) : Calls Tryz.prog 8 #[.int .i64 (n : Int), .int .i64 (k : Int)] w fun e w' => e = .returned (.int .i64 (cho n k : Nat)) ∧ Below w.heap.size w w' := by
 have q1 : ¬ (k : Int) < 0 := by omega
 have q2 : ¬ (n : Int) < (k : Int) := by omega
 have q1d : decide ((k : Int) < 0) = false := decide_eq_false q1; have q2d : decide ((n : Int) < (k : Int)) = false := decide_eq_false q2; have q3d : decide ((64 : Int) < (n : Int)) = false := decide_eq_false (by omega); have hw := zSA (i := k) (by omega); go_enter Tryz.func8, Tryz.ntmps8; go_wp2_with (at_make; refine zzA _ rfl _ _ rfl _ _ (k + 1) (k + 1) rfl rfl rfl rfl (Nat.le_refl _) (by omega) ?_)
 intro w1 hrow hb1 hsz1; obtain ⟨g, hgg⟩ : ∃ g, w.heap.size = g := ⟨_, rfl⟩
 have EGG := hid hgg; rw [hgg] at hrow; have e0 := hrow.out.at (zaE (i := 0) (by omega)); have e1 := hrow.out.fz 0; have h0k : (0 : Int) < (k : Int) + 1 := by omega
 have H0 : Hid (SoH w g n k n (.int .i64 0) (w1.setCell ⟨g, 0, none⟩ (.int .i64 1))) := by
  refine ⟨0, rfl, Nat.zero_le _, rfl, ?_, bset hb1.out (by omega)⟩; have := hrow.out.set 0 (.int .i64 1); rw [zYG (by omega), zYA (G := fun j => (cho 0 j : Nat)) fun j hj => ?_] at this
  ·exact this
  ·match j with
   | 0 => rfl
   | j + 1 => simp [upF, cho]
 rw [hgg]; clear hrow hb1 hsz1 q1 q2 q1d q2d q3d hgg; go_wp2_with fail; clear e0 e1
 go_loopg [6] n (fun gk s6 wx => SoH w g n k gk s6 wx)
 case atStart => exact H0.out
 case round =>
  clear H0; obtain ⟨t, rfl, htn, hgk, hc, hb⟩ := hrel; have CC := hid hc; have BB := hid hb; have HG := hid hgk; clear hc hb hgk
  by_cases hlt : t < n
  ·have hlt' : (t : Int) < (n : Int) := by omega
   have hwt := zSA (i := t) (by omega); have HMM : Hid (n - (t + 1) < gk) := by unfold Hid; rw [HG.out]; omega
   have H1 : Hid (SiZ w g t k k (.int .i64 (k : Int)) wr) := ⟨k, rfl, Nat.le_refl _, rfl, by
    have := CC.out; rw [zYA (G := chF t k) fun j hj => by unfold chF; rw [if_neg (by omega)]] at this; exact this, BB.out⟩
   clear HG CC BB; go_wp2_with fail
   go_loopg [7] k (fun gk s7 wx => SiZ w g t k gk s7 wx)
   case atStart => exact H1.out
   case round =>
    clear H1; obtain ⟨i, rfl, hik, hgk, hc, hb⟩ := hrel; have CC := hid hc; have BB := hid hb; have HG := hid hgk; clear hc hb hgk
    by_cases hi : 0 < i
    ·obtain ⟨i, rfl⟩ : ∃ j, i = j + 1 := ⟨i - 1, by omega⟩
     have hi' : (0 : Int) < ((i + 1 : Nat) : Int) := by omega
     have hws : IntKind.i64.wrap (((i + 1 : Nat) : Int) - 1) = (i : Int) := by rw [zKA] <;> omega
     have hws2 : IntKind.i64.wrap ((i : Int) + 1 - 1) = (i : Int) := by rw [zKA] <;> omega
     have c0 := CC.out.at (zaE (i := i + 1) (by omega)); have c1 := CC.out.at (zaE (i := i) (by omega)); have c2 := CC.out.fz (i + 1); have b1 : cho t i + cho t (i + 1) < 9223372036854775808 := cho_two14 (by omega); have E0 : chF t (i + 1) (i + 1) = ((cho t (i + 1) : Nat) : Int) := if_neg (by omega); have E1 : chF t (i + 1) i = ((cho t i : Nat) : Int) := if_neg (by omega); rw [E0] at c0; rw [E1] at c1; have HN1 : Hid (∀ wx, Below wr.heap.size wr wx → SiZ w g t k i (.int .i64 (i : Int)) (wx.setCell ⟨g, i + 1, none⟩ (.int .i64 ((cho t (i + 1) + cho t i : Nat) : Int)))) := fun wx hb => ⟨i, rfl, by omega, rfl, by
      have := (CC.out.step hb).set (i + 1) (.int .i64 ((cho t (i + 1) + cho t i : Nat) : Int)); rw [zYG (by omega), zYA fun j _ => zJI] at this; exact this, bset (below_step BB.out hb) (by have := EGG.out; omega)⟩
     have HM2 : Hid (i < gk) := by unfold Hid; rw [HG.out]; omega
     have CX := hid CC.out; obtain ⟨ca, hca⟩ : ∃ ca, cho t (i + 1) = ca := ⟨_, rfl⟩
     obtain ⟨cb, hcb⟩ : ∃ cb, cho t i = cb := ⟨_, rfl⟩
     rw [hca] at c0 b1 HN1; rw [hcb] at c1 b1 HN1; have hwu : IntKind.i64.wrap ((ca : Int) + (cb : Int)) = ((ca + cb : Nat) : Int) := by rw [zKA] <;> omega
     obtain ⟨i1, hi1⟩ : ∃ i1, i + 1 = i1 := ⟨_, rfl⟩
     obtain ⟨cs, hcs⟩ : ∃ cs, ca + cb = cs := ⟨_, rfl⟩
     rw [hcs] at hwu HN1; rw [hi1] at hws c0 c2 HN1 hi' ⊢; have hik1 : (i1 : Int) < (k : Int) + 1 := by omega
     have hik0 : (i : Int) < (k : Int) + 1 := by omega
     clear HG CC BB hca hcb E0 E1 b1 hcs hws2; go_wp2_with fail; have KB : Hid (∀ w', Below wr.heap.size wr w' → w'.cell? ⟨g, i1, none⟩ = some (.int .i64 (ca : Int)) ∧ w'.cell? ⟨g, i, none⟩ = some (.int .i64 (cb : Int))) := fun w' h => ⟨cnow h c0, cnow h c1⟩
     refine zCA (fun w' => w'.cell? ⟨g, i1, none⟩ = some (.int .i64 (ca : Int)) ∧ w'.cell? ⟨g, i, none⟩ = some (.int .i64 (cb : Int))) 13 (by kernel_rfl) ?_; obtain ⟨D1, hD⟩ : ∃ D1, wr.drew = D1 := ⟨_, rfl⟩
     have GB : Hid (Below wr.heap.size wr D1) := by unfold Hid; rw [← hD]; exact (Below.refl _ _).drew
     rw [hD]; clear hD; refine zBA [(0, (.slice (some ⟨g, 0, none⟩) (k + 1) (k + 1))), (1, (.int .i64 (i1 : Int))), (2, (.slice (some ⟨g, 0, none⟩) (k + 1) (k + 1))), (3, (.int .i64 (i1 : Int))), (4, (.pointer (some ⟨g, i1, none⟩))), (5, (.int .i64 (ca : Int))), (6, (.slice (some ⟨g, 0, none⟩) (k + 1) (k + 1))), (7, (.int .i64 (i1 : Int))), (8, (.int .i64 (i : Int))), (9, (.pointer (some ⟨g, i, none⟩))), (10, (.int .i64 (cb : Int))), (11, (.int .i64 (cs : Int))), (12, (.pointer (some ⟨g, i1, none⟩)))] 13 ?_ (KB.out _ GB.out) ?_
     ·simp only [zJA, gA9, g09, g19, Act.put, sI9, s09, s19]; (repeat' (first | exact trivial | refine And.intro (Or.inl ⟨by rfl, ?_⟩) ?_)) <;> (intro w hSw; (try dsimp only at hSw); go_simp)
     simp only [actV, gA9, g09, g19, Act.put, sI9, s09, s19]; refine zAA (i := 13) (o := ⟨none, .store 3 (.tmp 46) (.tmp 45), 0, "outright.go:117", #[⟨12, .data⟩, ⟨11, .data⟩, ⟨0, .phase⟩, ⟨1, .phase⟩, ⟨2, .phase⟩, ⟨3, .phase⟩, ⟨4, .phase⟩, ⟨5, .phase⟩, ⟨6, .phase⟩, ⟨7, .phase⟩, ⟨8, .phase⟩, ⟨9, .phase⟩, ⟨10, .phase⟩, ⟨11, .phase⟩], none⟩) (by kernel_rfl) rfl (fun K hK => ?_); have h0 := (CX.out.step GB.out).at (zaE (i := i1) (by omega)); have h1 := (CX.out.step GB.out).fz i1; go_simp; clear h0 h1; obtain ⟨V2, hW⟩ : ∃ V2, (D1.setCell ⟨g, i1, none⟩ (.int .i64 (cs : Int))) = V2 := ⟨_, rfl⟩
     have HN2 : Hid (SiZ w g t k i (.int .i64 (i : Int)) V2) := by unfold Hid; rw [← hW]; exact HN1.out _ GB.out
     rw [hW]; clear hW; refine hK.out _ _ (fun h => absurd h (by decide)) ?_; clear hK
     try simp only [Act.put]
     refine zDA (by kernel_rfl) ?_ _; clear GB KB HN1 c0 c1 c2 CX; go_wp2_with fail; go_roundg i
     case rel => exact HN2.out
     case measure => exact HM2.out
    ·have hi' : ¬ (0 : Int) < (i : Int) := by omega
     obtain rfl : i = 0 := by omega
     have HN1 : Hid (SoH w g n k (n - (t + 1)) (.int .i64 ((t + 1 : Nat) : Int)) wr) := ⟨t + 1, rfl, by omega, rfl, by
      have := CC.out; rw [zYA fun j _ => zKI] at this; exact this, BB.out⟩
     clear HG CC BB; go_wp2_with fail; go_roundg (n - (t + 1))
     case rel => exact HN1.out
     case measure => exact HMM.out
  ·have hlt' : ¬ (t : Int) < (n : Int) := by omega
   obtain rfl : t = n := by omega
   have c0 := CC.out.at (zaE (i := k) (by omega)); have hkk : (k : Int) < (k : Int) + 1 := by omega
   clear HG CC; go_wp2; go_ret; exact ⟨rfl, BB.out⟩
end Go.Proofs.YtplldfnldaehiaaGreat
