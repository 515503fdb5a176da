import Derived.Test.YtplldfnldaehiaaGreatQCe14
import Derived.Test.YtplldfnldaehiaaGreatQCm14ToSz14
import Derived.Test.YtplldfnldaehiaaGreatQProdToByWord
set_option maxRecDepth 100000
set_option maxHeartbeats 6400000
set_option linter.unusedVariables false
set_option linter.unusedSimpArgs false
namespace Go.Proofs.YtplldfnldaehiaaGreat
open Go.RowKit
theorem zhD {n k : Nat} (hn : n ≤ 64) : cho n k < 18446744073709551616 := by
 match n with
 | 0 => have := zWB 0 k; omega
 | 1 => have := zWB 1 k; omega
 | t + 2 =>
  have h1 := zEC t k; have h2 : 2 ^ (t + 2) ≤ 2 ^ 64 := Nat.pow_le_pow_right (by omega) (by omega); omega
theorem zCJ {w : World} {r c : Int} {a : Option Addr} {l cap : Nat} {E kv : Int} (hE : E = 1 ∨ E = 3)
  (h : ∀ w', Below w.heap.size w w' → Calls Tryz.prog 23 #[.agg #[.int .i64 r, .int .i64 c, .slice a l cap], .int .i64 kv] w' fun e w'' => e = .returned (.int .i64 E) ∧ Below w'.heap.size w' w'') :
  Calls Tryz.prog 16 #[.agg #[.int .i64 r, .int .i64 c, .slice a l cap], .int .i64 kv] w (zpA E w 0 0) := by
 obtain ⟨W0, hW⟩ : ∃ W0, (w.alloc (.cells #[.int .i64 r, .int .i64 c, .slice a l cap] 24)).alloc zbox = W0 := ⟨_, rfl⟩
 obtain ⟨b0, sz0⟩ := zeA w (.cells #[.int .i64 r, .int .i64 c, .slice a l cap] 24) zbox; rw [hW] at b0 sz0; have PR : Hid (Duo W0 (w.heap.size + 1) (.bool false) (.slice none 0 0)) := by
  unfold Hid; rw [← hW]; have := Duo.new (w.alloc (.cells #[.int .i64 r, .int .i64 c, .slice a l cap] 24)) (.bool false) (.slice none 0 0)
  simpa using this
 have HC := hid (h W0 b0); have G := hid b0; have EW := hid hW; have SZ := hid sz0; have hne : ¬ E = 0 := by omega
 have hnb : (E != 0) = true := by simp; omega
 clear h b0 sz0 hW hE; go_enter Tryz.func16, Tryz.ntmps16; go_wp2_with fail; rw [EW.out]; refine HC.out.mono ?_; rintro e w1 ⟨rfl, b⟩; have PR1 := hid (PR.out.step b); have r0 := PR1.out.c0; have r1 := PR1.out.c1; have f0 := PR1.out.fz 0; have f1 := PR1.out.fz 1; have FIN : Hid (zpA E w 0 0 (.returned (.tuple #[.agg #[.bool false, .slice none 0 0], .int .i64 E])) ((w1.setCell ⟨w.heap.size + 1, 0, none⟩ (.bool false)).setCell ⟨w.heap.size + 1, 1, none⟩ (.slice none 0 0))) :=
  ⟨_, rfl, zm_nil _ _ _, bset (bset (below_step G.out b) (by omega)) (by omega)⟩
 clear HC b; go_wp2_with fail; exact bodyPost_ret (zRC Tryz.results16 (PR1.out.set _ _) _ (by rfl) (by rfl)) rfl FIN.out
theorem mgd_un {w : World} {r c kv : Int} {a : Option Addr} {l cap : Nat} (h : ¬ Snd r c l) : Calls Tryz.prog 16 #[.agg #[.int .i64 r, .int .i64 c, .slice a l cap], .int .i64 kv] w (zpA 1 w 0 0) := zCJ (.inl rfl) fun w' _ => msz_no h
theorem mgd_arg {w : World} {v : Value} {r c : Nat} {kv : Int} {zs : List Int} {k : Nat} (h : Mx w v r c zs k) (hk : kv < 0 ∨ (r : Int) < kv ∨ (c : Int) < kv) : Calls Tryz.prog 16 #[v, .int .i64 kv] w (zpA 3 w 0 0) := by
 have M0 := h; obtain ⟨aa, ca, rfl, hr, hc⟩ := h.form; refine zCJ (.inr rfl) fun w' b => ?_
 by_cases hn : kv < 0
 ·exact msz_neg (M0.now b) hn
 ·exact msz_big (M0.now b) (by omega)
theorem zzI {w : World} {f : Nat} {args : Array Value} {E : Ending} (h : Calls Tryz.prog f args w fun e w' => e = E ∧ w' = w) : Calls Tryz.prog f args w fun e w' => e = E ∧ Below w.heap.size w w' := h.mono fun e w' q => ⟨q.1, by rw [q.2]; exact Below.refl _ _⟩
theorem zLG {w : World} {va : Value} {m n k kk : Nat} {zs : List Int} (ha : Mx w va m n zs kk) (hkk : 64 * kk + 7 ≤ 4000000000) (hkm : k ≤ m) (hkn : k ≤ n) (hc : 4096 < cho m k * cho n k) :
  Calls Tryz.prog 16 #[va, .int .i64 (k : Int)] w (zpA 5 w 0 0) := by
 have M0 := ha; obtain ⟨aa, ca, rfl, hm64, hn64⟩ := ha.form; obtain ⟨la, hla⟩ : ∃ la, m * n = la := ⟨_, rfl⟩
 rw [hla] at M0 ⊢; obtain ⟨cm, hcm⟩ : ∃ cm, cho m k = cm := ⟨_, rfl⟩
 obtain ⟨cn, hcn⟩ : ∃ cn, cho n k = cn := ⟨_, rfl⟩
 have ECM := hid hcm; have ECN := hid hcn; have hcml : cm < 18446744073709551616 := by rw [← hcm]; exact zhD hm64
 have hcnl : cn < 18446744073709551616 := by rw [← hcn]; exact zhD hn64
 rw [hcm, hcn] at hc; obtain ⟨hi, hhi⟩ : ∃ hi, cm * cn / 18446744073709551616 = hi := ⟨_, rfl⟩
 obtain ⟨lo, hlo⟩ : ∃ lo, cm * cn % 18446744073709551616 = lo := ⟨_, rfl⟩
 have EHI := hid hhi; have ELO := hid hlo; have HHL : Hid (0 < hi ∨ (hi = 0 ∧ 4096 < lo)) := by unfold Hid; omega
 obtain ⟨W0, hW⟩ : ∃ W0, (w.alloc (matO m n (.slice aa la ca))).alloc zbox = W0 := ⟨_, rfl⟩
 obtain ⟨b0, sz0⟩ := zeA w (matO m n (.slice aa la ca)) zbox; rw [hW] at b0 sz0; have PA : Hid (Cel W0 w.heap.size 24 (matc m n (.slice aa la ca))) := by
  unfold Hid; rw [← hW]; exact (Cel.new w 24 (matc m n (.slice aa la ca))).step ((Below.refl _ _).alloc (Nat.le_refl _) _)
 have PR : Hid (Duo W0 (w.heap.size + 1) (.bool false) (.slice none 0 0)) := by
  unfold Hid; rw [← hW]; have := Duo.new (w.alloc (matO m n (.slice aa la ca))) (.bool false) (.slice none 0 0)
  simpa using this
 have HC := hid (zyE (M0.now b0) (kv := (k : Int)) (by omega)); have MA := hid (M0.now b0); have G := hid b0; have EW := hid hW; have SZ := hid sz0; clear ha M0 b0 hW hla sz0 hcm hcn hhi hlo; go_enter Tryz.func16, Tryz.ntmps16; go_wp2_with fail; rw [EW.out]; clear EW; refine HC.out.mono ?_; rintro e w1 ⟨rfl, b⟩; replace MA := hid (MA.out.now b); replace PA := hid (PA.out.step b); replace PR := hid (PR.out.step b); replace G := hid (below_step G.out b); have lz1 : Hid (w.heap.size + 1 < w1.heap.size) := by unfold Hid; have := SZ.out; have := b.size; omega
 have x0 := PA.out.at (i := 0) rfl; have x1 := PA.out.at (i := 1) rfl; clear HC b; go_wp2_with fail; have KB : Hid (∀ w', Below w1.heap.size w1 w' → w'.cell? ⟨w.heap.size, 0, none⟩ = some (.int .i64 (m : Int)) ∧ w'.cell? ⟨w.heap.size, 1, none⟩ = some (.int .i64 (n : Int))) := fun w' h => ⟨cnow h x0, cnow h x1⟩
 refine zCA (fun w' => w'.cell? ⟨w.heap.size, 0, none⟩ = some (.int .i64 (m : Int)) ∧ w'.cell? ⟨w.heap.size, 1, none⟩ = some (.int .i64 (n : Int))) 13 (by kernel_rfl) ?_; obtain ⟨D21, hD⟩ : ∃ D21, w1.drew = D21 := ⟨_, rfl⟩
 have GB : Hid (Below w1.heap.size w1 D21) := by unfold Hid; rw [← hD]; exact (Below.refl _ _).drew
 rw [hD]; clear hD; refine zBA [(0, (.pointer (some ⟨w.heap.size, 0, none⟩))), (1, (.int .i64 (m : Int))), (2, (.int .i64 (k : Int))), (4, (.pointer (some ⟨w.heap.size, 1, none⟩))), (5, (.int .i64 (n : Int))), (6, (.int .i64 (k : Int)))] 6 ?_ (KB.out _ GB.out) ?_
 ·simp only [zJA, gA9, g09, g19, Act.put, sI9, s09, s19]; (repeat' (first | exact trivial | refine And.intro (Or.inl ⟨by rfl, ?_⟩) ?_)) <;> (intro w hSw; (try dsimp only at hSw); go_simp)
 simp only [actV, gA9, g09, g19, Act.put, sI9, s09, s19]; refine zAA (i := 3) (o := ⟨some 20, .call { callee := .value (.func 24), args := #[.tmp 18, .tmp 19], argTypes := #[3, 3] }, 54, "minors.go:35", #[⟨1, .data⟩, ⟨2, .data⟩], none⟩) (by kernel_rfl) rfl (fun K hK => ?_); go_simp; go_at_call 24; refine (zsA (n := m) hm64 hkm).mono ?_; rintro e w22 ⟨rfl, b⟩; have lz22 := (show Below _ _ _ from b).size; replace GB := hid (below_step GB.out b); rw [ECM.out]; clear b; refine hK.out _ _ (fun _ => KB.out _ GB.out) ?_; clear hK; refine zAA (i := 7) (o := ⟨some 24, .call { callee := .value (.func 24), args := #[.tmp 22, .tmp 23], argTypes := #[3, 3] }, 54, "minors.go:35", #[⟨5, .data⟩, ⟨6, .data⟩, ⟨3, .chain⟩], none⟩) (by kernel_rfl) rfl (fun K hK => ?_); go_simp; go_at_call 24; refine (zsA (n := n) hn64 hkn).mono ?_; rintro e w23 ⟨rfl, b⟩; have lz23 := (show Below _ _ _ from b).size; replace GB := hid (below_step GB.out b); rw [ECN.out]; clear b; refine hK.out _ _ (fun _ => KB.out _ GB.out) ?_; clear hK; refine zAA (i := 8) (o := ⟨some 25, .call { callee := .value (.func 36), args := #[.tmp 20, .tmp 24], argTypes := #[54, 54] }, 66, "minors.go:35", #[⟨3, .data⟩, ⟨7, .data⟩, ⟨7, .chain⟩], none⟩) (by kernel_rfl) rfl (fun K hK => ?_); go_simp; go_at_call 36; refine (zzI (zzD cm cn hcml hcnl _)).mono ?_; rintro e w24 ⟨rfl, b⟩; have lz24 := (show Below _ _ _ from b).size; replace GB := hid (below_step GB.out b); rw [EHI.out, ELO.out]; clear b; refine hK.out _ _ (fun _ => KB.out _ GB.out) ?_; clear hK; refine zBA [(9, (.tuple #[(.int .u64 (hi : Int)), (.int .u64 (lo : Int))])), (10, (.int .u64 (hi : Int))), (11, (.int .u64 (lo : Int))), (12, (.int .u64 (hi : Int)))] 4 ?_ (KB.out _ GB.out) ?_
 ·simp only [zJA, gA9, g09, g19, Act.put, sI9, s09, s19]; (repeat' (first | exact trivial | refine And.intro (Or.inl ⟨by rfl, ?_⟩) ?_)) <;> (intro w hSw; (try dsimp only at hSw); go_simp)
 simp only [actV, gA9, g09, g19, Act.put, sI9, s09, s19]; refine zAA (i := 13) (o := ⟨some 8, .assign (.tmp 27), 54, "minors.go:35", #[⟨11, .data⟩, ⟨12, .chain⟩, ⟨0, .phase⟩, ⟨1, .phase⟩, ⟨2, .phase⟩, ⟨3, .phase⟩, ⟨4, .phase⟩, ⟨5, .phase⟩, ⟨6, .phase⟩, ⟨7, .phase⟩, ⟨8, .phase⟩, ⟨9, .phase⟩, ⟨10, .phase⟩, ⟨11, .phase⟩, ⟨12, .phase⟩], none⟩) (by kernel_rfl) rfl (fun K hK => ?_); go_simp; refine hK.out _ _ (fun h => absurd h (by decide)) ?_; clear hK
 try simp only [Act.put]
 refine zDA (by kernel_rfl) ?_ _; have PR1 := hid (PR.out.step GB.out); have G1 := hid (below_step G.out GB.out); have r0 := PR1.out.c0; have r1 := PR1.out.c1; have f0 := PR1.out.fz 0; have f1 := PR1.out.fz 1; have FIN : Hid (zpA 5 w 0 0 (.returned (.tuple #[.agg #[.bool false, .slice none 0 0], .int .i64 5])) ((w24.setCell ⟨w.heap.size + 1, 0, none⟩ (.bool false)).setCell ⟨w.heap.size + 1, 1, none⟩ (.slice none 0 0))) :=
  ⟨_, rfl, zm_nil _ _ _, bset (bset G1.out (by omega)) (by omega)⟩
 clear KB GB x0 x1; rcases HHL.out with q | ⟨q, q'⟩
 ·have q1d : decide ((0 : Int) < (hi : Int)) = true := decide_eq_true (by omega)
  go_wp2_with fail; exact bodyPost_ret (zRC Tryz.results16 (PR1.out.set _ _) _ (by rfl) (by rfl)) rfl FIN.out
 ·have q1d : decide ((0 : Int) < (hi : Int)) = false := decide_eq_false (by omega)
  have q2d : decide ((4096 : Int) < (lo : Int)) = true := decide_eq_true (by omega); go_wp2_with fail; exact bodyPost_ret (zRC Tryz.results16 (PR1.out.set _ _) _ (by rfl) (by rfl)) rfl FIN.out
theorem zBC {w : World} {va : Value} {m n k kk : Nat} {zs : List Int} (ha : Mx w va m n zs kk) (hkk : 64 * kk + 7 ≤ 4000000000) (hkm : k ≤ m) (hkn : k ≤ n) (hc : cho m k * cho n k ≤ 4096) :
  Calls Tryz.prog 16 #[va, .int .i64 (k : Int)] w (zpA 0 w (gcs (cpL (en n zs) m n k (cho n k) (cho m k) 0)) (64 * kk + 7)) := by
 have M0 := ha; obtain ⟨aa, ca, rfl, hm64, hn64⟩ := ha.form; obtain ⟨la, hla⟩ : ∃ la, m * n = la := ⟨_, rfl⟩
 rw [hla] at M0 ⊢; obtain ⟨cm, hcm⟩ : ∃ cm, cho m k = cm := ⟨_, rfl⟩
 obtain ⟨cn, hcn⟩ : ∃ cn, cho n k = cn := ⟨_, rfl⟩
 have ECM := hid hcm; have ECN := hid hcn; have hcml : cm < 18446744073709551616 := by rw [← hcm]; exact zhD hm64
 have hcnl : cn < 18446744073709551616 := by rw [← hcn]; exact zhD hn64
 rw [hcm, hcn] at hc; obtain ⟨hi, hhi⟩ : ∃ hi, cm * cn / 18446744073709551616 = hi := ⟨_, rfl⟩
 obtain ⟨lo, hlo⟩ : ∃ lo, cm * cn % 18446744073709551616 = lo := ⟨_, rfl⟩
 have EHI := hid hhi; have ELO := hid hlo; have q0 : hi = 0 := by omega
 have q0' : ¬ (4096 : Int) < (lo : Int) := by omega
 have q1d : decide ((0 : Int) < (hi : Int)) = false := decide_eq_false (by omega); have q2d : decide ((4096 : Int) < (lo : Int)) = false := decide_eq_false (by omega); obtain ⟨W0, hW⟩ : ∃ W0, (w.alloc (matO m n (.slice aa la ca))).alloc zbox = W0 := ⟨_, rfl⟩
 obtain ⟨b0, sz0⟩ := zeA w (matO m n (.slice aa la ca)) zbox; rw [hW] at b0 sz0; have PA : Hid (Cel W0 w.heap.size 24 (matc m n (.slice aa la ca))) := by
  unfold Hid; rw [← hW]; exact (Cel.new w 24 (matc m n (.slice aa la ca))).step ((Below.refl _ _).alloc (Nat.le_refl _) _)
 have PR : Hid (Duo W0 (w.heap.size + 1) (.bool false) (.slice none 0 0)) := by
  unfold Hid; rw [← hW]; have := Duo.new (w.alloc (matO m n (.slice aa la ca))) (.bool false) (.slice none 0 0)
  simpa using this
 have HC := hid (zyE (M0.now b0) (kv := (k : Int)) (by omega)); have MA := hid (M0.now b0); have G := hid b0; have EW := hid hW; have SZ := hid sz0; clear ha M0 b0 hW hla sz0 hcm hcn hhi hlo; go_enter Tryz.func16, Tryz.ntmps16; go_wp2_with fail; rw [EW.out]; clear EW; refine HC.out.mono ?_; rintro e w1 ⟨rfl, b⟩; replace MA := hid (MA.out.now b); replace PA := hid (PA.out.step b); replace PR := hid (PR.out.step b); replace G := hid (below_step G.out b); have lz1 : Hid (w.heap.size + 1 < w1.heap.size) := by unfold Hid; have := SZ.out; have := b.size; omega
 have x0 := PA.out.at (i := 0) rfl; have x1 := PA.out.at (i := 1) rfl; clear HC b; go_wp2_with fail; have KB : Hid (∀ w', Below w1.heap.size w1 w' → w'.cell? ⟨w.heap.size, 0, none⟩ = some (.int .i64 (m : Int)) ∧ w'.cell? ⟨w.heap.size, 1, none⟩ = some (.int .i64 (n : Int))) := fun w' h => ⟨cnow h x0, cnow h x1⟩
 refine zCA (fun w' => w'.cell? ⟨w.heap.size, 0, none⟩ = some (.int .i64 (m : Int)) ∧ w'.cell? ⟨w.heap.size, 1, none⟩ = some (.int .i64 (n : Int))) 13 (by kernel_rfl) ?_; obtain ⟨D21, hD⟩ : ∃ D21, w1.drew = D21 := ⟨_, rfl⟩
 have GB : Hid (Below w1.heap.size w1 D21) := by unfold Hid; rw [← hD]; exact (Below.refl _ _).drew
 rw [hD]; clear hD; refine zBA [(0, (.pointer (some ⟨w.heap.size, 0, none⟩))), (1, (.int .i64 (m : Int))), (2, (.int .i64 (k : Int))), (4, (.pointer (some ⟨w.heap.size, 1, none⟩))), (5, (.int .i64 (n : Int))), (6, (.int .i64 (k : Int)))] 6 ?_ (KB.out _ GB.out) ?_
 ·simp only [zJA, gA9, g09, g19, Act.put, sI9, s09, s19]; (repeat' (first | exact trivial | refine And.intro (Or.inl ⟨by rfl, ?_⟩) ?_)) <;> (intro w hSw; (try dsimp only at hSw); go_simp)
 simp only [actV, gA9, g09, g19, Act.put, sI9, s09, s19]; refine zAA (i := 3) (o := ⟨some 20, .call { callee := .value (.func 24), args := #[.tmp 18, .tmp 19], argTypes := #[3, 3] }, 54, "minors.go:35", #[⟨1, .data⟩, ⟨2, .data⟩], none⟩) (by kernel_rfl) rfl (fun K hK => ?_); go_simp; go_at_call 24; refine (zsA (n := m) hm64 hkm).mono ?_; rintro e w22 ⟨rfl, b⟩; have lz22 := (show Below _ _ _ from b).size; replace GB := hid (below_step GB.out b); rw [ECM.out]; clear b; refine hK.out _ _ (fun _ => KB.out _ GB.out) ?_; clear hK; refine zAA (i := 7) (o := ⟨some 24, .call { callee := .value (.func 24), args := #[.tmp 22, .tmp 23], argTypes := #[3, 3] }, 54, "minors.go:35", #[⟨5, .data⟩, ⟨6, .data⟩, ⟨3, .chain⟩], none⟩) (by kernel_rfl) rfl (fun K hK => ?_); go_simp; go_at_call 24; refine (zsA (n := n) hn64 hkn).mono ?_; rintro e w23 ⟨rfl, b⟩; have lz23 := (show Below _ _ _ from b).size; replace GB := hid (below_step GB.out b); rw [ECN.out]; clear b; refine hK.out _ _ (fun _ => KB.out _ GB.out) ?_; clear hK; refine zAA (i := 8) (o := ⟨some 25, .call { callee := .value (.func 36), args := #[.tmp 20, .tmp 24], argTypes := #[54, 54] }, 66, "minors.go:35", #[⟨3, .data⟩, ⟨7, .data⟩, ⟨7, .chain⟩], none⟩) (by kernel_rfl) rfl (fun K hK => ?_); go_simp; go_at_call 36; refine (zzI (zzD cm cn hcml hcnl _)).mono ?_; rintro e w24 ⟨rfl, b⟩; have lz24 := (show Below _ _ _ from b).size; replace GB := hid (below_step GB.out b); rw [EHI.out, ELO.out]; clear b; refine hK.out _ _ (fun _ => KB.out _ GB.out) ?_; clear hK; refine zBA [(9, (.tuple #[(.int .u64 (hi : Int)), (.int .u64 (lo : Int))])), (10, (.int .u64 (hi : Int))), (11, (.int .u64 (lo : Int))), (12, (.int .u64 (hi : Int)))] 4 ?_ (KB.out _ GB.out) ?_
 ·simp only [zJA, gA9, g09, g19, Act.put, sI9, s09, s19]; (repeat' (first | exact trivial | refine And.intro (Or.inl ⟨by rfl, ?_⟩) ?_)) <;> (intro w hSw; (try dsimp only at hSw); go_simp)
 simp only [actV, gA9, g09, g19, Act.put, sI9, s09, s19]; refine zAA (i := 13) (o := ⟨some 8, .assign (.tmp 27), 54, "minors.go:35", #[⟨11, .data⟩, ⟨12, .chain⟩, ⟨0, .phase⟩, ⟨1, .phase⟩, ⟨2, .phase⟩, ⟨3, .phase⟩, ⟨4, .phase⟩, ⟨5, .phase⟩, ⟨6, .phase⟩, ⟨7, .phase⟩, ⟨8, .phase⟩, ⟨9, .phase⟩, ⟨10, .phase⟩, ⟨11, .phase⟩, ⟨12, .phase⟩], none⟩) (by kernel_rfl) rfl (fun K hK => ?_); go_simp; refine hK.out _ _ (fun h => absurd h (by decide)) ?_; clear hK
 try simp only [Act.put]
 refine zDA (by kernel_rfl) ?_ _; replace PA := hid (PA.out.step GB.out); replace PR := hid (PR.out.step GB.out); replace G := hid (below_step G.out GB.out); have HA := hid (commonDivisor_any (MA.out.now GB.out) hkk hkm hkn); have lz2 : Hid (w.heap.size + 1 < w24.heap.size) := by unfold Hid; have := lz1.out; have := GB.out.size; omega
 have x0 := PA.out.at (i := 0) rfl; have x1 := PA.out.at (i := 1) rfl; have x2 := PA.out.at (i := 2) rfl; clear KB GB MA; go_wp2_with fail; refine HA.out.mono ?_; rintro e w9 ⟨r9, rfl, m9, b⟩; obtain ⟨n9, x9, a9, c9, rfl⟩ := m9.parts; obtain ⟨l9, hl9⟩ : ∃ l9, x9.length = l9 := ⟨_, rfl⟩
 rw [hl9] at m9 ⊢; replace PR := hid (PR.out.step b); have r0 := PR.out.c0; have r1 := PR.out.c1; have f0 := PR.out.fz 0; have f1 := PR.out.fz 1; have FIN : Hid (zpA 0 w (gcs (cpL (en n zs) m n k (cho n k) (cho m k) 0)) (64 * kk + 7) (.returned (.tuple #[.agg #[.bool n9, .slice a9 l9 c9], .int .i64 0])) ((w9.setCell ⟨w.heap.size + 1, 0, none⟩ (.bool n9)).setCell ⟨w.heap.size + 1, 1, none⟩ (.slice a9 l9 c9))) :=
  ⟨_, rfl, (m9.mono (by have := lz2.out; omega)).ty (PR.out.ty13 _ _) (by decide), bset (bset (below_step G.out b) (by omega)) (by omega)⟩
 clear HA b m9 hl9 x0 x1 x2 G; go_wp2_with fail; exact bodyPost_ret (zRC Tryz.results16 (PR.out.set _ _) _ (by rfl) (by rfl)) rfl FIN.out
end Go.Proofs.YtplldfnldaehiaaGreat
