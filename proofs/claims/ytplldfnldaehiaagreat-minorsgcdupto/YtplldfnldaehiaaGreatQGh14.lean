import Derived.Test.YtplldfnldaehiaaGreatQGf14ToSl13
import Derived.Test.YtplldfnldaehiaaGreatQCo13ToGcdAll6
import Derived.Test.YtplldfnldaehiaaGreatQZEuclidToMWord
import Derived.Test.YtplldfnldaehiaaGreatQLs14ToRs13
import Derived.Test.YtplldfnldaehiaaGreatQTa14ToDm14
set_option maxRecDepth 100000
set_option maxHeartbeats 6400000
set_option linter.unusedVariables false
set_option linter.unusedSimpArgs false
namespace Go.Proofs.YtplldfnldaehiaaGreat
open Go.RowKit
def rsF (A : Nat → Nat → Int) (i j u : Nat) : Nat → Nat → Int := fun a b => if a = i ∧ b < u then A i b - A j b else A a b
theorem zbD (A : Nat → Nat → Int) (i j : Nat) : rsF A i j 0 = A := by
 funext a b
 exact if_neg (by omega)
theorem zvE {A : Nat → Nat → Int} {i j u : Nat} : up2 (rsF A i j u) i u (A i u - A j u) = rsF A i j (u + 1) := by
 funext a b
 unfold up2 rsF
 by_cases h1 : a = i
 ·subst h1
  by_cases h2 : b = u
  ·subst h2; simp
  ·simp only [true_and, h2, if_false, and_false]
   by_cases h3 : b < u
   ·rw [if_pos h3, if_pos (by omega)]
   ·rw [if_neg h3, if_neg (by omega)]
 ·simp [h1]
def GlH (W4 : World) (gz r c i j K : Nat) (A : Nat → Nat → Int) (gd9 : Nat) (s : Value) (wx : World) : Prop := ∃ u : Nat, s = .int .i64 (u : Int) ∧ u ≤ c ∧ gd9 = c - u ∧ AZ wx gz (zF r c (rsF A i j u)) K ∧ zNA (· = gz) W4 wx
theorem zcD {x y : Int} {k : Nat} (hx : (x.natAbs : Int) < pw k) (hy : (y.natAbs : Int) < pw k) : ((x - y).natAbs : Int) < pw (k + 1) := by
 have h1 : pw (k + 1) = pw k * pw 1 := zAD k 1; have h2 : pw 1 = 18446744073709551616 := by decide
 have h3 := Int.natAbs_sub_le x y; rw [h1, h2]; omega
theorem zUF {g : Int} (h : 0 ≤ g) : cmpI g 0 = if g = 0 then 0 else 1 := by
 unfold cmpI; rw [if_neg (by omega)]
 split <;> split <;> omega
theorem zMGL {w : World} {va : Value} {r c k kk : Nat} {iv jv : Int} {xs : List Int} (ha : Mx w va r c xs kk) (hkk : 64 * (kk + 1) + 7 ≤ 4000000000) (hxl : xs.length = r * c) (hsd : Snd (r : Int) (c : Int) (r * c)) (hkr : k ≤ r) (hkc : k ≤ c) (hc : cho r k * cho c k ≤ 4096) (hbig : 64 < cho r k ∨ 64 < cho c k) :
  Calls Tryz.prog 4 #[va, .int .i64 (k : Int), .int .i64 iv, .int .i64 jv] w (Tru w) := by
 have HBIG := hid hbig; clear hbig; have HZA : Hid (∀ z ∈ xs, (z.natAbs : Int) < pw kk) := by obtain ⟨_, _, _, _, h, _⟩ := ha; exact h.lt
 have HXL := hid hxl; clear hxl; have HS := hid hsd; have M0 := ha; obtain ⟨aa, qa, rfl, hr64, hc64⟩ := ha.form; obtain ⟨la, hla⟩ : ∃ la, r * c = la := ⟨_, rfl⟩
 rw [hla] at M0 ⊢; have ELA := hid hla; have HSD : Hid (Snd (r : Int) (c : Int) la) := by unfold Hid; rw [← hla]; exact hsd
 clear hla hsd; rw [show matv r c (.slice aa la qa) = .agg #[.int .i64 (r : Int), .int .i64 (c : Int), .slice aa la qa] from rfl] at M0 ⊢; have q1d : decide ((k : Int) < 0) = false := decide_eq_false (by omega); have q2d : decide ((r : Int) < (k : Int)) = false := decide_eq_false (by omega); have q3d : decide ((c : Int) < (k : Int)) = false := decide_eq_false (by omega); obtain ⟨cm, hcm⟩ : ∃ cm, cho r k = cm := ⟨_, rfl⟩
 obtain ⟨cn, hcn⟩ : ∃ cn, cho c k = cn := ⟨_, rfl⟩
 have ECM := hid hcm; have ECN := hid hcn; clear hcm hcn; have hcn0 : 0 < cn := by rw [← ECN.out]; exact zrC hkc
 have hcn0' : ¬ (cn : Int) = 0 := by omega
 have hcn0n : ¬ cn = 0 := by omega
 obtain ⟨q8, hq8e⟩ : ∃ q8, 4096 / cn = q8 := ⟨_, rfl⟩
 have hq8t : (4096 : Int).tdiv (cn : Int) = (q8 : Int) := by rw [← hq8e]; rfl
 have hq8l : q8 ≤ 4096 := by rw [← hq8e]; exact Nat.div_le_self _ _
 have hq8 : IntKind.i64.wrap (q8 : Int) = (q8 : Int) := by rw [zKA] <;> omega
 have q4n : ¬ q8 < cm := by
  rw [← hq8e, zNG (a := cm) hcn0, ← ECM.out, ← ECN.out]; omega
 have q4d : decide ((q8 : Int) < (cm : Int)) = false := decide_eq_false (by omega); obtain ⟨A, hA⟩ : ∃ A, en c xs = A := ⟨_, rfl⟩
 have EA := hid hA; obtain ⟨gd9, hgk⟩ : ∃ gd9, gcs (cpL A r c k (cho c k) (cho r k) 0) = gd9 := ⟨_, rfl⟩
 have EGK := hid hgk; have hg0 : 0 ≤ gd9 := by rw [← hgk]; exact zOC _
 obtain ⟨sg, hsg⟩ : ∃ sg, cmpI gd9 0 = sg := ⟨_, rfl⟩
 have ECG := hid hsg; have hsg1 : sg = if gd9 = 0 then 0 else 1 := by rw [← hsg]; exact zUF hg0
 have hsgn : ¬ sg < 0 := by rw [hsg1]; split <;> decide
 have q5d : decide (sg < 0) = false := decide_eq_false hsgn; have HCG := hid hsg1; clear hA hgk hsg hsg1; obtain ⟨W0, hV⟩ : ∃ W0, w.alloc (.cells #[.int .i64 (r : Int), .int .i64 (c : Int), .slice aa la qa] 24) = W0 := ⟨_, rfl⟩
 obtain ⟨b0, sz0⟩ := alo1 w (.cells #[.int .i64 (r : Int), .int .i64 (c : Int), .slice aa la qa] 24); rw [hV] at b0 sz0; have PA : Hid (Cel W0 w.heap.size 24 [.int .i64 (r : Int), .int .i64 (c : Int), .slice aa la qa]) := by
  unfold Hid; rw [← hV]; exact Cel.new w 24 [.int .i64 (r : Int), .int .i64 (c : Int), .slice aa la qa]
 have G := hid b0; have MA := hid (M0.now b0); clear ha M0 HS; clear b0 sz0; have EV := hid hV; clear hV; go_enter Tryz.func4, Tryz.ntmps4; go_wp2_with fail; rw [EV.out]; clear EV; refine (zWE _).mono ?_; rintro e w1 ⟨rfl, b⟩; replace PA := hid (PA.out.step b); replace MA := hid (MA.out.now b); replace G := hid (below_step G.out b); clear b; have cA0 := PA.out.at (i := 0) rfl; have cA1 := PA.out.at (i := 1) rfl; have cA2 := PA.out.at (i := 2) rfl; go_wp2_with fail; clear cA0 cA1 cA2; have HGD := hid (zBC MA.out (by omega) hkr hkc hc); rw [EA.out, EGK.out] at HGD; refine (HGD.out).mono ?_; rintro e w2 ⟨vg, rfl, m, b⟩; replace PA := hid (PA.out.step b); replace MA := hid (MA.out.now b); replace G := hid (below_step G.out b); obtain ⟨ng, xg_, ag, cg, rfl⟩ := m.parts; obtain ⟨lg, hl_⟩ : ∃ lg, xg_.length = lg := ⟨_, rfl⟩
 rw [hl_] at m ⊢; have Zg := hid (m.mono (Nat.zero_le _)); clear m hl_; clear b; clear HGD; obtain ⟨V3, hV⟩ : ∃ V3, w2.alloc (duo (.bool ng) (.slice ag lg cg)) = V3 := ⟨_, rfl⟩
 obtain ⟨b, sz3⟩ := alo1 w2 (duo (.bool ng) (.slice ag lg cg)); rw [hV] at b sz3; replace PA := hid (PA.out.step b); replace MA := hid (MA.out.now b); replace Zg := hid (Zg.out.now b); replace G := hid (below_step G.out b); clear b sz3; have Dg : Hid (Duo V3 w2.heap.size (.bool ng) (.slice ag lg cg)) := by unfold Hid; rw [← hV]; exact Duo.new w2 _ _
 have cA0 := PA.out.at (i := 0) rfl; have cA1 := PA.out.at (i := 1) rfl; have cA2 := PA.out.at (i := 2) rfl; rw [← hV] at cA0 cA1 cA2; have EV : Hid (w2.alloc (duo (.bool ng) (.slice ag lg cg)) = V3) := hV; clear hV; go_wp2_with fail; rw [EV.out]; clear EV; clear cA0 cA1 cA2; obtain ⟨bG, hbG⟩ : ∃ bG, w2.heap.size = bG := ⟨_, rfl⟩
 rw [hbG] at Dg ⊢; clear hbG; refine (ziC).mono ?_; rintro e w4 ⟨rfl, b⟩; replace PA := hid (PA.out.step b); replace MA := hid (MA.out.now b); replace Zg := hid (Zg.out.now b); replace Dg := hid (Dg.out.step b); replace G := hid (below_step G.out b); rw [if_pos HSD.out]; clear b; have cA0 := PA.out.at (i := 0) rfl; have cA1 := PA.out.at (i := 1) rfl; go_wp2_with fail; have KB : Hid (∀ w', Below w4.heap.size w4 w' → w'.cell? ⟨w.heap.size, 0, none⟩ = some (.int .i64 (r : Int)) ∧ w'.cell? ⟨w.heap.size, 1, none⟩ = some (.int .i64 (c : Int))) := fun w' h => ⟨cnow h cA0, cnow h cA1⟩
 refine zCA (fun w' => w'.cell? ⟨w.heap.size, 0, none⟩ = some (.int .i64 (r : Int)) ∧ w'.cell? ⟨w.heap.size, 1, none⟩ = some (.int .i64 (c : Int))) 9 (by kernel_rfl) ?_; obtain ⟨D61, hD⟩ : ∃ D61, w4.drew = D61 := ⟨_, rfl⟩
 have GB : Hid (Below w4.heap.size w4 D61) := by unfold Hid; rw [← hD]; exact (Below.refl _ _).drew
 rw [hD]; clear hD; refine zBA [(0, (.pointer (some ⟨w.heap.size, 0, none⟩))), (1, (.int .i64 (r : Int))), (2, (.int .i64 (k : Int))), (4, (.pointer (some ⟨w.heap.size, 1, none⟩))), (5, (.int .i64 (c : Int))), (6, (.int .i64 (k : Int)))] 6 ?_ (KB.out _ GB.out) ?_
 ·simp only [zJA, gA9, g09, g19, Act.put, sI9, s09, s19]; (repeat' (first | exact trivial | refine And.intro (Or.inl ⟨by rfl, ?_⟩) ?_)) <;> (intro w hSw; (try dsimp only at hSw); go_simp)
 simp only [actV, gA9, g09, g19, Act.put, sI9, s09, s19]; refine zAA (i := 3) (o := ⟨some 56, .call { callee := .value (.func 8), args := #[.tmp 54, .tmp 55], argTypes := #[3, 3] }, 3, "outright.go:170", #[⟨1, .data⟩, ⟨2, .data⟩], none⟩) (by kernel_rfl) rfl (fun K hK => ?_); go_simp; go_at_call 8; refine (zJC hr64 hkr).mono ?_; rintro e w62 ⟨rfl, b⟩; have lz62 := (show Below _ _ _ from b).size; replace GB := hid (below_step GB.out b); rw [ECM.out]; clear b; refine hK.out _ _ (fun _ => KB.out _ GB.out) ?_; clear hK; refine zAA (i := 7) (o := ⟨some 60, .call { callee := .value (.func 8), args := #[.tmp 58, .tmp 59], argTypes := #[3, 3] }, 3, "outright.go:170", #[⟨5, .data⟩, ⟨6, .data⟩, ⟨3, .chain⟩], none⟩) (by kernel_rfl) rfl (fun K hK => ?_); go_simp; go_at_call 8; refine (zJC hc64 hkc).mono ?_; rintro e w63 ⟨rfl, b⟩; have lz63 := (show Below _ _ _ from b).size; replace GB := hid (below_step GB.out b); rw [ECN.out]; clear b; refine hK.out _ _ (fun _ => KB.out _ GB.out) ?_; clear hK; refine zBA [(8, (.int .i64 (q8 : Int)))] 1 ?_ (KB.out _ GB.out) ?_
 ·simp only [zJA, gA9, g09, g19, Act.put, sI9, s09, s19]; (repeat' (first | exact trivial | refine And.intro (Or.inl ⟨by rfl, ?_⟩) ?_)) <;> (intro w hSw; (try dsimp only at hSw); go_simp)
 simp only [actV, gA9, g09, g19, Act.put, sI9, s09, s19]; refine zAA (i := 9) (o := ⟨some 62, .binOp .gtr 3 (.tmp 56) (.tmp 61) 3, 4, "outright.go:170", #[⟨3, .data⟩, ⟨8, .data⟩], none⟩) (by kernel_rfl) rfl (fun K hK => ?_); go_simp; refine hK.out _ _ (fun h => absurd h (by decide)) ?_; clear hK
 try simp only [Act.put]
 refine zDA (by kernel_rfl) ?_ _; clear KB; replace PA := hid (PA.out.step GB.out); replace MA := hid (MA.out.now GB.out); replace Zg := hid (Zg.out.now GB.out); replace Dg := hid (Dg.out.step GB.out); replace G := hid (below_step G.out GB.out); clear GB cA0 cA1; have cA0 := PA.out.at (i := 0) rfl; have cA1 := PA.out.at (i := 1) rfl; have cA2 := PA.out.at (i := 2) rfl; go_wp2_with fail; clear cA0 cA1 cA2; have hbig := HBIG.out; clear HBIG
 ·skip
  refine (com_big MA.out (by omega) hkr hkc hbig).mono ?_; rintro e w5 ⟨rfl, b⟩; replace PA := hid (PA.out.step b); replace MA := hid (MA.out.now b); replace Zg := hid (Zg.out.now b); replace Dg := hid (Dg.out.step b); replace G := hid (below_step G.out b); clear b; obtain ⟨V6, hV⟩ : ∃ V6, w5.alloc (.cells #[.int .i64 (0), .int .i64 (0), .slice none 0 0] 24) = V6 := ⟨_, rfl⟩
  obtain ⟨b, sz6⟩ := alo1 w5 (.cells #[.int .i64 (0), .int .i64 (0), .slice none 0 0] 24); rw [hV] at b sz6; replace PA := hid (PA.out.step b); replace MA := hid (MA.out.now b); replace Zg := hid (Zg.out.now b); replace Dg := hid (Dg.out.step b); replace G := hid (below_step G.out b); clear b sz6; have PC : Hid (Cel V6 w5.heap.size 24 [.int .i64 (0), .int .i64 (0), .slice none 0 0]) := by unfold Hid; rw [← hV]; exact Cel.new w5 _ _
  obtain ⟨bC, hbC⟩ : ∃ bC, w5.heap.size = bC := ⟨_, rfl⟩
  rw [hbC] at PC; have cA0 := PA.out.at (i := 0) rfl; have cA1 := PA.out.at (i := 1) rfl; have cA2 := PA.out.at (i := 2) rfl; rw [← hV] at cA0 cA1 cA2; have EV : Hid (w5.alloc (.cells #[.int .i64 (0), .int .i64 (0), .slice none 0 0] 24) = V6) := hV; clear hV; go_wp2_with fail; rw [EV.out]; clear EV; clear cA0 cA1 cA2; clear hbC; refine (ziG MA.out (by omega)).mono ?_; rintro e w7 ⟨rs, cs, odd, hst, rfl, b⟩; replace PA := hid (PA.out.step b); replace MA := hid (MA.out.now b); replace Zg := hid (Zg.out.now b); replace Dg := hid (Dg.out.step b); replace PC := hid (PC.out.step b); replace G := hid (below_step G.out b); rw [EA.out] at hst; have hz12 := zyG (k := k) hst; rw [EGK.out] at hz12; obtain ⟨rk, hrk⟩ : ∃ rk, rs.length = rk := ⟨_, rfl⟩
  rw [hrk] at hz12 ⊢; clear hst hrk; obtain ⟨B0, hB0⟩ : ∃ B0, decide (rk < k) = B0 := ⟨_, rfl⟩
  have q21 : decide ((rk : Int) < (k : Int)) = B0 := by rw [← hB0]; exact decide_eq_decide.2 (by omega)
  have q22 : decide (sg = 0) = B0 := by
   rw [← hB0]; refine decide_eq_decide.2 ?_; rw [← hz12, HCG.out]
   split
   ·rename_i h; simp [h]
   ·rename_i h; simp [h]
  have q23 : (sg == 0) = B0 := by rw [← q22]; rfl
  have q24 : (B0 != B0) = false := by simp
  clear b; have cg0 := Dg.out.c0; have cg1 := Dg.out.c1; go_wp2_with fail; have KB : Hid (∀ w', Below w7.heap.size w7 w' → w'.cell? ⟨bG, 0, none⟩ = some (.bool ng) ∧ w'.cell? ⟨bG, 1, none⟩ = some (.slice ag lg cg)) := fun w' h => ⟨cnow h cg0, cnow h cg1⟩
  refine zCA (fun w' => w'.cell? ⟨bG, 0, none⟩ = some (.bool ng) ∧ w'.cell? ⟨bG, 1, none⟩ = some (.slice ag lg cg)) 31 (by kernel_rfl) ?_; obtain ⟨D101, hD⟩ : ∃ D101, w7.drew = D101 := ⟨_, rfl⟩
  have GB : Hid (Below w7.heap.size w7 D101) := by unfold Hid; rw [← hD]; exact (Below.refl _ _).drew
  rw [hD]; clear hD; refine zBA [(0, (.int .i64 0)), (1, (.bool false)), (2, (.bool false)), (3, (.int .i64 0)), (4, (.bool false)), (5, (.bool false)), (6, (.bool false)), (7, (.agg #[.bool ng, .slice ag lg cg])), (10, (.int .i64 (k : Int))), (11, (.int .i64 (rk : Int))), (12, (.bool B0))] 11 ?_ (KB.out _ GB.out) ?_
  ·simp only [zJA, gA9, g09, g19, Act.put, sI9, s09, s19]; (repeat' (first | exact trivial | refine And.intro (Or.inl ⟨by rfl, ?_⟩) ?_)) <;> (intro w hSw; (try dsimp only at hSw); go_simp)
  simp only [actV, gA9, g09, g19, Act.put, sI9, s09, s19]; refine zAA (i := 8) (o := ⟨some 84, .call { callee := .value (.func 18), args := #[.tmp 83], argTypes := #[37] }, 3, "outright.go:175", #[⟨7, .data⟩, ⟨6, .chain⟩, ⟨6, .guard⟩], some (6, false)⟩) (by kernel_rfl) rfl (fun K hK => ?_); go_simp; go_at_call 18; refine (zuA (Zg.out.now GB.out).zi).mono ?_; rintro e w102 ⟨rfl, b⟩; have lz102 := (show Below _ _ _ from b).size; replace GB := hid (below_step GB.out b); rw [ECG.out]; clear b; refine hK.out _ _ (fun _ => KB.out _ GB.out) ?_; clear hK; refine zBA [(9, (.bool B0)), (13, (.bool false)), (14, (.bool false)), (15, (.bool false)), (16, (.agg #[.bool ng, .slice ag lg cg]))] 5 ?_ (KB.out _ GB.out) ?_
  ·simp only [zJA, gA9, g09, g19, Act.put, sI9, s09, s19]; (repeat' (first | exact trivial | refine And.intro (Or.inl ⟨by rfl, ?_⟩) ?_)) <;> (intro w hSw; (try dsimp only at hSw); go_simp)
  simp only [actV, gA9, g09, g19, Act.put, sI9, s09, s19]; refine zAA (i := 17) (o := ⟨some 93, .call { callee := .value (.func 18), args := #[.tmp 92], argTypes := #[37] }, 3, "outright.go:175", #[⟨16, .data⟩, ⟨15, .chain⟩, ⟨15, .guard⟩], some (15, false)⟩) (by kernel_rfl) rfl (fun K hK => ?_); go_simp; go_at_call 18; refine (zuA (Zg.out.now GB.out).zi).mono ?_; rintro e w103 ⟨rfl, b⟩; have lz103 := (show Below _ _ _ from b).size; replace GB := hid (below_step GB.out b); rw [ECG.out]; clear b; refine hK.out _ _ (fun _ => KB.out _ GB.out) ?_; clear hK; refine zBA [(18, (.bool false)), (19, (.bool false)), (20, (.bool false)), (21, (.int .i64 5)), (22, (.bool false)), (23, (.bool false))] 6 ?_ (KB.out _ GB.out) ?_
  ·simp only [zJA, gA9, g09, g19, Act.put, sI9, s09, s19]; (repeat' (first | exact trivial | refine And.intro (Or.inl ⟨by rfl, ?_⟩) ?_)) <;> (intro w hSw; (try dsimp only at hSw); go_simp)
  simp only [actV, gA9, g09, g19, Act.put, sI9, s09, s19]; refine zUA (i := 24) (oi := ⟨some 100, .load 37 (.tmp 9), 37, "outright.go:175", #[⟨23, .guard⟩], some (23, true)⟩) (v := undef) rfl (by kernel_rfl) (fun _ _ _ h => h) (Or.inr ⟨by rfl, rfl⟩) (KB.out _ GB.out) ?_; simp only [Act.put, sIb, sC0, sC1]; refine zUA (i := 25) (oi := ⟨some 101, .fieldAddr 24 (.tmp 11) 2, 0, "outright.go:175", #[⟨23, .guard⟩], some (23, true)⟩) (v := undef) rfl (by kernel_rfl) (fun _ _ _ h => h) (Or.inr ⟨by rfl, rfl⟩) (KB.out _ GB.out) ?_; simp only [Act.put, sIb, sC0, sC1]; refine zUA (i := 26) (oi := ⟨some 102, .load 22 (.tmp 101), 22, "outright.go:175", #[⟨25, .data⟩, ⟨23, .guard⟩], some (23, true)⟩) (v := undef) rfl (by kernel_rfl) (fun _ _ _ h => h) (Or.inr ⟨by rfl, rfl⟩) (KB.out _ GB.out) ?_; simp only [Act.put, sIb, sC0, sC1]; refine zUA (i := 27) (oi := ⟨some 103, .call { callee := .value (.func 19), args := #[.tmp 102], argTypes := #[22] }, 37, "outright.go:175", #[⟨26, .data⟩, ⟨23, .chain⟩, ⟨23, .guard⟩], some (23, true)⟩) (v := undef) rfl (by kernel_rfl) (fun _ _ _ h => h) (Or.inr ⟨by rfl, rfl⟩) (KB.out _ GB.out) ?_; simp only [Act.put, sIb, sC0, sC1]; refine zUA (i := 28) (oi := ⟨some 104, .call { callee := .value (.func 12), args := #[.tmp 100, .tmp 103], argTypes := #[37, 37] }, 4, "outright.go:175", #[⟨24, .data⟩, ⟨27, .data⟩, ⟨27, .chain⟩, ⟨23, .guard⟩], some (23, true)⟩) (v := undef) rfl (by kernel_rfl) (fun _ _ _ h => h) (Or.inr ⟨by rfl, rfl⟩) (KB.out _ GB.out) ?_; simp only [Act.put, sIb, sC0, sC1]; refine zUA (i := 29) (oi := ⟨some 105, .unOp .not 4 (.tmp 104), 4, "outright.go:175", #[⟨28, .data⟩, ⟨23, .guard⟩], some (23, true)⟩) (v := undef) rfl (by kernel_rfl) (fun _ _ _ h => h) (Or.inr ⟨by rfl, rfl⟩) (KB.out _ GB.out) ?_; simp only [Act.put, sIb, sC0, sC1]; refine zBA [(30, (.bool false))] 1 ?_ (KB.out _ GB.out) ?_
  ·simp only [zJA, gA9, g09, g19, Act.put, sI9, s09, s19]; (repeat' (first | exact trivial | refine And.intro (Or.inl ⟨by rfl, ?_⟩) ?_)) <;> (intro w hSw; (try dsimp only at hSw); go_simp)
  simp only [actV, gA9, g09, g19, Act.put, sI9, s09, s19]; refine zAA (i := 31) (o := ⟨some 107, .pick (.tmp 96) (.const (.bool true)) (.tmp 106), 4, "outright.go:175", #[⟨20, .data⟩, ⟨30, .data⟩], none⟩) (by kernel_rfl) rfl (fun K hK => ?_); go_simp; refine hK.out _ _ (fun h => absurd h (by decide)) ?_; clear hK
  try simp only [Act.put]
  refine zDA (by kernel_rfl) ?_ _; clear KB; replace PA := hid (PA.out.step GB.out); replace MA := hid (MA.out.now GB.out); replace Zg := hid (Zg.out.now GB.out); replace Dg := hid (Dg.out.step GB.out); replace PC := hid (PC.out.step GB.out); replace G := hid (below_step G.out GB.out); clear GB cg0 cg1
  by_cases hk0 : k = 0
  ·have qk0 : decide ((0 : Int) < (k : Int)) = false := decide_eq_false (by omega)
   have qk1 : ¬ 0 < k := by omega
   clear hk0; have cA0 := PA.out.at (i := 0) rfl; go_upto_region 25 with fail
   go_cut [158] from 136 (fun s1 wx => s1 = .bool (decide (iv < 0 ∨ jv < 0 ∨ (r : Int) ≤ iv ∨ (r : Int) ≤ jv ∨ iv = jv)) ∧ wx = w103)
   case first =>
    by_cases ht0 : iv < 0
    ·have qt0 : decide (iv < 0) = true := decide_eq_true ht0
     go_wp2_with fail; go_meet; exact ⟨congrArg Value.bool (decide_eq_true (p := iv < 0 ∨ jv < 0 ∨ (r : Int) ≤ iv ∨ (r : Int) ≤ jv ∨ iv = jv) (by omega)).symm, rfl⟩
    have qt0 : decide (iv < 0) = false := decide_eq_false ht0
    by_cases ht1 : jv < 0
    ·have qt1 : decide (jv < 0) = true := decide_eq_true ht1
     go_wp2_with fail; go_meet; exact ⟨congrArg Value.bool (decide_eq_true (p := iv < 0 ∨ jv < 0 ∨ (r : Int) ≤ iv ∨ (r : Int) ≤ jv ∨ iv = jv) (by omega)).symm, rfl⟩
    have qt1 : decide (jv < 0) = false := decide_eq_false ht1
    by_cases ht2 : (r : Int) ≤ iv
    ·have qt2 : decide ((r : Int) ≤ iv) = true := decide_eq_true ht2
     go_wp2_with fail; go_meet; exact ⟨congrArg Value.bool (decide_eq_true (p := iv < 0 ∨ jv < 0 ∨ (r : Int) ≤ iv ∨ (r : Int) ≤ jv ∨ iv = jv) (by omega)).symm, rfl⟩
    have qt2 : decide ((r : Int) ≤ iv) = false := decide_eq_false ht2
    by_cases ht3 : (r : Int) ≤ jv
    ·have qt3 : decide ((r : Int) ≤ jv) = true := decide_eq_true ht3
     go_wp2_with fail; go_meet; exact ⟨congrArg Value.bool (decide_eq_true (p := iv < 0 ∨ jv < 0 ∨ (r : Int) ≤ iv ∨ (r : Int) ≤ jv ∨ iv = jv) (by omega)).symm, rfl⟩
    have qt3 : decide ((r : Int) ≤ jv) = false := decide_eq_false ht3
    by_cases ht4 : iv = jv
    ·have qt4 : (iv == jv) = true := by simpa using ht4
     have HT4 := hid ht4; clear ht4; go_wp2_with fail; go_meet; exact ⟨congrArg Value.bool (decide_eq_true (p := iv < 0 ∨ jv < 0 ∨ (r : Int) ≤ iv ∨ (r : Int) ≤ jv ∨ iv = jv) (by have := HT4.out; omega)).symm, rfl⟩
    have qt4 : (iv == jv) = false := by simpa using ht4
    go_wp2_with fail; go_meet; exact ⟨congrArg Value.bool (decide_eq_false (p := iv < 0 ∨ jv < 0 ∨ (r : Int) ≤ iv ∨ (r : Int) ≤ jv ∨ iv = jv) (by omega)).symm, rfl⟩
   case rest =>
   obtain ⟨rfl, hwc⟩ := hcut; rw [hwc]; clear hwc wc
   by_cases hbad : iv < 0 ∨ jv < 0 ∨ (r : Int) ≤ iv ∨ (r : Int) ≤ jv ∨ iv = jv
   ·have hd : decide (iv < 0 ∨ jv < 0 ∨ (r : Int) ≤ iv ∨ (r : Int) ≤ jv ∨ iv = jv) = true := decide_eq_true hbad
    rw [hd]; go_wp2; go_ret; exact ⟨rfl, G.out⟩
   have hd : decide (iv < 0 ∨ jv < 0 ∨ (r : Int) ≤ iv ∨ (r : Int) ≤ jv ∨ iv = jv) = false := decide_eq_false hbad; rw [hd]; clear hd; obtain ⟨i, rfl⟩ : ∃ i : Nat, iv = (i : Int) := ⟨iv.toNat, by omega⟩
   obtain ⟨j, rfl⟩ : ∃ j : Nat, jv = (j : Int) := ⟨jv.toNat, by omega⟩
   have hir : i < r := by omega
   have hjr : j < r := by omega
   have hij : i ≠ j := by omega
   have cA1 := PA.out.at (i := 1) rfl; have cA2 := PA.out.at (i := 2) rfl; go_wp2_with fail; clear cA0 cA1 cA2; clear PC; have hPAb := PA.out.blk; have hDgb := Dg.out.blk; refine (zbB MA.out).mono ?_; rintro e w8 ⟨gz, nz, ps, rfl, hgz, hpl, harr, hzms, b⟩; replace PA := hid (PA.out.step b); replace MA := hid (MA.out.now b); replace Zg := hid (Zg.out.now b); replace Dg := hid (Dg.out.step b); replace G := hid (below_step G.out b); have hnz : nz = la := by rw [← hpl, hzms.1, HXL.out, ELA.out]
   subst hnz; have hxz : xs = zF r c (en c xs) := zAF (r := r) (c := c) HXL.out (zNB _ _ _) fun a b_ ha hb => by rw [zZE ha hb]; rfl
   have haz : AZ w8 gz (zF r c (rsF A i j 0)) (kk + 1) := by
    rw [zbD, ← EA.out, ← hxz]; exact ⟨ps, harr, hzms.1, fun j_ p z hp hz => (hzms.2 j_ p z hp hz).more (by omega)⟩
   have AZ0 := hid haz; have HGZ : Hid (w.heap.size < gz ∧ bG ≠ gz) := ⟨by omega, by omega⟩
   clear harr hzms hxz haz hpl hgz; clear b; have HGL : Hid (gz < w8.heap.size) := AZ0.out.blk; obtain ⟨V9, hV⟩ : ∃ V9, w8.alloc (.cells #[.int .i64 ((r : Int)), .int .i64 ((c : Int)), .slice (some ⟨gz, 0, none⟩) nz nz] 24) = V9 := ⟨_, rfl⟩
   obtain ⟨b, sz9⟩ := alo1 w8 (.cells #[.int .i64 ((r : Int)), .int .i64 ((c : Int)), .slice (some ⟨gz, 0, none⟩) nz nz] 24); rw [hV] at b sz9; replace PA := hid (PA.out.step b); replace MA := hid (MA.out.now b); replace Zg := hid (Zg.out.now b); replace Dg := hid (Dg.out.step b); replace AZ0 := hid (AZ0.out.step b); replace G := hid (below_step G.out b); clear b sz9; have PB : Hid (Cel V9 w8.heap.size 24 [.int .i64 ((r : Int)), .int .i64 ((c : Int)), .slice (some ⟨gz, 0, none⟩) nz nz]) := by unfold Hid; rw [← hV]; exact Cel.new w8 _ _
   have HN4 : Hid (w8.heap.size ≠ gz) := by unfold Hid; have := HGL.out; omega
   obtain ⟨bB, hbB⟩ : ∃ bB, w8.heap.size = bB := ⟨_, rfl⟩
   rw [hbB] at PB HN4; have H0 : Hid (GlH V9 gz r c i j (kk + 1) A c (.int .i64 0) V9) := ⟨0, rfl, Nat.zero_le _, by omega, AZ0.out, zNA.refl _ _⟩
   have EV : Hid (w8.alloc (.cells #[.int .i64 ((r : Int)), .int .i64 ((c : Int)), .slice (some ⟨gz, 0, none⟩) nz nz] 24) = V9) := hV; clear hV; go_wp2_with fail; rw [EV.out]; clear EV hbB
   go_loopg [21] c (fun gk s21 wx => GlH V9 gz r c i j (kk + 1) A gk s21 wx)
   case atStart => exact H0.out
   case round =>
    clear H0; obtain ⟨u, rfl, huc, hgk, haz, htw⟩ := hrel; have AZ1 := hid haz; have TW := hid htw; have HG := hid hgk; have TY : Hid (Ty 37 V9 wr) := AZ0.out.touch TW.out; have PA1 : Hid (Cel wr w.heap.size 24 [.int .i64 (r : Int), .int .i64 (c : Int), .slice aa nz qa]) := (TW.out.block _ PA.out.blk (by have := HGZ.out.1; omega)).trans PA.out; have PB1 : Hid (Cel wr bB 24 [.int .i64 (r : Int), .int .i64 (c : Int), .slice (some ⟨gz, 0, none⟩) nz nz]) := (TW.out.block _ PB.out.blk HN4.out).trans PB.out; have Dg1 : Hid (Duo wr bG (.bool ng) (.slice ag lg cg)) := (TW.out.block _ Dg.out.blk HGZ.out.2).trans Dg.out; have Zg1 := hid (Zg.out.ty TY.out (by decide)); have G1 : Hid (Below w.heap.size w wr) := G.out.trans ⟨TW.out.os, TW.out.tape, TW.out.output, TW.out.size, fun b hb => TW.out.block b (by have := G.out.size; omega) (by have := HGZ.out.1; omega)⟩; clear haz htw hgk; have cA1 := PA1.out.at (i := 1) rfl
    by_cases hlt : u < c
    ·have hlt' : (u : Int) < (c : Int) := by omega
     have hwu := zSA (i := u) (by omega); have HMM : Hid (c - (u + 1) < gk) := by unfold Hid; rw [HG.out]; omega
     clear HG; obtain ⟨nx, ax, lx_, cx, x0, x1, x2, x3, zx⟩ := AZ1.out.at hir hlt; obtain ⟨ny, ay, ly, cy, y0, y1, -, -, zy⟩ := AZ1.out.at hjr hlt; have hmi : i * c ≤ 64 * 64 := Nat.mul_le_mul (by omega) hc64; have hmj : j * c ≤ 64 * 64 := Nat.mul_le_mul (by omega) hc64; have hpi : i * c + u < nz := by rw [← ELA.out]; exact zxB hir hlt
     have hpj : j * c + u < nz := by rw [← ELA.out]; exact zxB hjr hlt
     have hi1 : (i : Int) * (c : Int) = ((i * c : Nat) : Int) := by simp
     have hj1 : (j : Int) * (c : Int) = ((j * c : Nat) : Int) := by simp
     have zx' : Zm 0 wr (.agg #[.bool nx, .slice ax lx_ cx]) (A i u) (kk + 1) := by
      have e : rsF A i j u i u = A i u := if_neg (by omega); rw [e] at zx; exact zx
     have zy' : Zm 0 wr (.agg #[.bool ny, .slice ay ly cy]) (A j u) (kk + 1) := by
      have e : rsF A i j u j u = A j u := if_neg (by omega); rw [e] at zy; exact zy
     have ZX := hid zx'; have ZY := hid zy'; have HFT : Hid (((A i u - A j u).natAbs : Int) < pw (kk + 1)) := by
      have key : ∀ a, a < r → ((A a u).natAbs : Int) < pw kk := fun a ha => by
       refine HZA.out _ ?_; rw [← EA.out]; have h : a * c + u < xs.length := by rw [HXL.out]; exact zxB ha hlt
       show xs.getD (a * c + u) 0 ∈ xs
       rw [List.getD_eq_getElem?_getD, List.getElem?_eq_getElem h]; exact List.getElem_mem h
      exact zcD (key i hir) (key j hjr)
     obtain ⟨ic, hic⟩ : ∃ ic, i * c = ic := ⟨_, rfl⟩
     obtain ⟨jc, hjc⟩ : ∃ jc, j * c = jc := ⟨_, rfl⟩
     have EIC := hid hic; rw [hic] at hmi hpi hi1 x0 x1 x2 x3; rw [hjc] at hmj hpj hj1 y0 y1; have hi2 : IntKind.i64.wrap ((i : Int) * (c : Int)) = (ic : Int) := by rw [hi1, zKA] <;> omega
     have hj2 : IntKind.i64.wrap ((j : Int) * (c : Int)) = (jc : Int) := by rw [hj1, zKA] <;> omega
     obtain ⟨pi, hpie⟩ : ∃ pi, ic + u = pi := ⟨_, rfl⟩
     obtain ⟨pj, hpje⟩ : ∃ pj, jc + u = pj := ⟨_, rfl⟩
     have hi3 : IntKind.i64.wrap ((ic : Int) + (u : Int)) = (pi : Int) := by rw [zKA] <;> omega
     have hj3 : IntKind.i64.wrap ((jc : Int) + (u : Int)) = (pj : Int) := by rw [zKA] <;> omega
     have EPI := hid hpie; rw [hpie] at hpi x0 x1 x2 x3; rw [hpje] at hpj y0 y1; have hpi' : (pi : Int) < (nz : Int) := by omega
     have hpj' : (pj : Int) < (nz : Int) := by omega
     have cB2 := PB1.out.at (i := 2) rfl; clear zx zy zx' zy' hic hjc hpie hpje hi1 hj1; go_wp2_with fail; have KB : Hid (∀ w', Below wr.heap.size wr w' → w'.cell? ⟨w.heap.size, 1, none⟩ = some (.int .i64 (c : Int)) ∧ w'.cell? ⟨bB, 2, none⟩ = some (.slice (some ⟨gz, 0, none⟩) nz nz) ∧ w'.cell? ⟨gz, pi * 2, none⟩ = some (.bool nx) ∧ w'.cell? ⟨gz, pi * 2 + 1, none⟩ = some (.slice ax lx_ cx) ∧ w'.cell? ⟨gz, pj * 2, none⟩ = some (.bool ny) ∧ w'.cell? ⟨gz, pj * 2 + 1, none⟩ = some (.slice ay ly cy)) := fun w' h => ⟨cnow h cA1, cnow h cB2, cnow h x0, cnow h x1, cnow h y0, cnow h y1⟩
     refine zCA (fun w' => w'.cell? ⟨w.heap.size, 1, none⟩ = some (.int .i64 (c : Int)) ∧ w'.cell? ⟨bB, 2, none⟩ = some (.slice (some ⟨gz, 0, none⟩) nz nz) ∧ w'.cell? ⟨gz, pi * 2, none⟩ = some (.bool nx) ∧ w'.cell? ⟨gz, pi * 2 + 1, none⟩ = some (.slice ax lx_ cx) ∧ w'.cell? ⟨gz, pj * 2, none⟩ = some (.bool ny) ∧ w'.cell? ⟨gz, pj * 2 + 1, none⟩ = some (.slice ay ly cy)) 30 (by kernel_rfl) ?_; obtain ⟨D201, hD⟩ : ∃ D201, wr.drew = D201 := ⟨_, rfl⟩
     have GB : Hid (Below wr.heap.size wr D201) := by unfold Hid; rw [← hD]; exact (Below.refl _ _).drew
     rw [hD]; clear hD; refine zBA [(0, (.pointer (some ⟨bB, 2, none⟩))), (1, (.slice (some ⟨gz, 0, none⟩) nz nz)), (2, (.int .i64 (i : Int))), (3, (.pointer (some ⟨w.heap.size, 1, none⟩))), (4, (.int .i64 (c : Int))), (5, (.int .i64 (ic : Int))), (6, (.int .i64 (u : Int))), (7, (.int .i64 (pi : Int))), (8, (.pointer (some ⟨bB, 2, none⟩))), (9, (.slice (some ⟨gz, 0, none⟩) nz nz)), (10, (.int .i64 (i : Int))), (11, (.pointer (some ⟨w.heap.size, 1, none⟩))), (12, (.int .i64 (c : Int))), (13, (.int .i64 (ic : Int))), (14, (.int .i64 (u : Int))), (15, (.int .i64 (pi : Int))), (16, (.pointer (some ⟨gz, pi * 2, none⟩))), (17, (.agg #[.bool nx, .slice ax lx_ cx])), (18, (.pointer (some ⟨bB, 2, none⟩))), (19, (.slice (some ⟨gz, 0, none⟩) nz nz)), (20, (.int .i64 (j : Int))), (21, (.pointer (some ⟨w.heap.size, 1, none⟩))), (22, (.int .i64 (c : Int))), (23, (.int .i64 (jc : Int))), (24, (.int .i64 (u : Int))), (25, (.int .i64 (pj : Int))), (26, (.pointer (some ⟨gz, pj * 2, none⟩))), (27, (.agg #[.bool ny, .slice ay ly cy]))] 28 ?_ (KB.out _ GB.out) ?_
     ·simp only [zJA, gA9, g09, g19, Act.put, sI9, s09, s19]; (repeat' (first | exact trivial | refine And.intro (Or.inl ⟨by rfl, ?_⟩) ?_)) <;> (intro w hSw; (try dsimp only at hSw); go_simp)
     simp only [actV, gA9, g09, g19, Act.put, sI9, s09, s19]; refine zAA (i := 28) (o := ⟨some 198, .call { callee := .value (.func 21), args := #[.tmp 187, .tmp 197], argTypes := #[37, 37] }, 37, "outright.go:199", #[⟨17, .data⟩, ⟨27, .data⟩], none⟩) (by kernel_rfl) rfl (fun K hK => ?_); go_simp; go_at_call 21; refine (zzC (ZX.out.now GB.out).zi (ZY.out.now GB.out).zi (by omega) (by omega)).mono ?_; rintro e w202 ⟨r1, rfl, m1, b⟩; have lz202 := (show Below _ _ _ from b).size; replace GB := hid (below_step GB.out b); have MS := hid ((m1.mono (Nat.zero_le _)).fit HFT.out); obtain ⟨nm, xm, am, cm_, rfl⟩ := m1.parts; obtain ⟨lm, hlm⟩ : ∃ lm, xm.length = lm := ⟨_, rfl⟩
     rw [hlm] at MS ⊢; clear m1 hlm; clear b; refine hK.out _ _ (fun _ => KB.out _ GB.out) ?_; clear hK; refine zBA [(29, (.pointer (some ⟨gz, pi * 2, none⟩)))] 1 ?_ (KB.out _ GB.out) ?_
     ·simp only [zJA, gA9, g09, g19, Act.put, sI9, s09, s19]; (repeat' (first | exact trivial | refine And.intro (Or.inl ⟨by rfl, ?_⟩) ?_)) <;> (intro w hSw; (try dsimp only at hSw); go_simp)
     simp only [actV, gA9, g09, g19, Act.put, sI9, s09, s19]; refine zAA (i := 30) (o := ⟨none, .store 37 (.tmp 199) (.tmp 198), 0, "outright.go:199", #[⟨29, .data⟩, ⟨28, .data⟩, ⟨28, .chain⟩, ⟨0, .phase⟩, ⟨1, .phase⟩, ⟨2, .phase⟩, ⟨3, .phase⟩, ⟨4, .phase⟩, ⟨5, .phase⟩, ⟨6, .phase⟩, ⟨7, .phase⟩, ⟨8, .phase⟩, ⟨9, .phase⟩, ⟨10, .phase⟩, ⟨11, .phase⟩, ⟨12, .phase⟩, ⟨13, .phase⟩, ⟨14, .phase⟩, ⟨15, .phase⟩, ⟨16, .phase⟩, ⟨17, .phase⟩, ⟨18, .phase⟩, ⟨19, .phase⟩, ⟨20, .phase⟩, ⟨21, .phase⟩, ⟨22, .phase⟩, ⟨23, .phase⟩, ⟨24, .phase⟩, ⟨25, .phase⟩, ⟨26, .phase⟩, ⟨27, .phase⟩, ⟨28, .phase⟩], none⟩) (by kernel_rfl) rfl (fun K hK => ?_); have AZ2 := hid (AZ1.out.step GB.out); obtain ⟨_, _, _, _, f0, f1, f2, f3, -⟩ := AZ2.out.at hir hlt; rw [EIC.out, EPI.out] at f0 f1 f2 f3; go_simp; clear f0 f1 f2 f3; obtain ⟨V203, hW⟩ : ∃ V203, ((w202.setCell ⟨gz, pi * 2, none⟩ (.bool nm)).setCell ⟨gz, pi * 2 + 1, none⟩ (.slice am lm cm_)) = V203 := ⟨_, rfl⟩
     have HN1 : Hid (GlH V9 gz r c i j (kk + 1) A (c - (u + 1)) (.int .i64 ((u + 1 : Nat) : Int)) V203) := by
      unfold Hid; have u1 := AZ2.out.put hir hlt (z := A i u - A j u) MS.out; rw [zvE, EIC.out, EPI.out, hW] at u1; refine ⟨u + 1, rfl, by omega, rfl, u1, ?_⟩; rw [← hW]; exact ((TW.out.trans (.ofBelow GB.out)).setCell (.inr rfl) _ _).setCell (.inr rfl) _ _
     rw [hW]; clear hW; refine hK.out _ _ (fun h => absurd h (by decide)) ?_; clear hK
     try simp only [Act.put]
     refine zDA (by kernel_rfl) ?_ _; clear GB KB AZ2 AZ1 TW MS ZX ZY x0 x1 x2 x3 y0 y1 cB2 cA1; go_wp2_with fail; go_roundg (c - (u + 1))
     case rel => exact HN1.out
     case measure => exact HMM.out
    ·have hlt' : ¬ (u : Int) < (c : Int) := by omega
     obtain rfl : u = c := by omega
     clear HG; have MB := hid (AZ1.out.mx hr64 hc64); have HGB := hid (zBC MB.out (by omega) hkr hkc hc); rw [ELA.out] at HGB; have HEB : Hid (gcs (cpL (en u (zF r u (rsF A i j u))) r u k (cho u k) (cho r k) 0) = gd9) := by
      unfold Hid; rw [← EGK.out]; refine zfD hir hjr hij fun a b ha hb => ?_
      show (zF r u (rsF A i j u)).getD (a * u + b) 0 = _
      rw [zZE ha hb]; unfold rsF
      by_cases q : a = i
      ·subst q; rw [if_pos ⟨rfl, hb⟩, if_pos rfl]
      ·rw [if_neg (fun h => q h.1), if_neg q]
     rw [HEB.out] at HGB; have cB0 := PB1.out.at (i := 0) rfl; have cB1 := PB1.out.at (i := 1) rfl; have cB2 := PB1.out.at (i := 2) rfl; clear G; have G := G1; clear G1; go_wp2_with fail; clear cA1 cB0 cB1 cB2; refine (HGB.out).mono ?_; rintro e w10 ⟨vz9, rfl, m, b⟩; replace Dg1 := hid (Dg1.out.step b); replace Zg1 := hid (Zg1.out.now b); replace G := hid (below_step G.out b); obtain ⟨nz9, xz9_, az9, cz9, rfl⟩ := m.parts; obtain ⟨lz9, hl_⟩ : ∃ lz9, xz9_.length = lz9 := ⟨_, rfl⟩
     rw [hl_] at m ⊢; have Zz9 := hid (m.mono (Nat.zero_le _)); clear m hl_; clear b; obtain ⟨V11, hV⟩ : ∃ V11, w10.alloc (duo (.bool nz9) (.slice az9 lz9 cz9)) = V11 := ⟨_, rfl⟩
     obtain ⟨b, sz11⟩ := alo1 w10 (duo (.bool nz9) (.slice az9 lz9 cz9)); rw [hV] at b sz11; replace Dg1 := hid (Dg1.out.step b); replace Zg1 := hid (Zg1.out.now b); replace Zz9 := hid (Zz9.out.now b); replace G := hid (below_step G.out b); clear b sz11; have Dz : Hid (Duo V11 w10.heap.size (.bool nz9) (.slice az9 lz9 cz9)) := by unfold Hid; rw [← hV]; exact Duo.new w10 _ _
     have cz0 := Dz.out.c0; have cz1 := Dz.out.c1; have ch0 := Dg1.out.c0; have ch1 := Dg1.out.c1; rw [← hV] at cz0 cz1 ch0 ch1; have EV : Hid (w10.alloc (duo (.bool nz9) (.slice az9 lz9 cz9)) = V11) := hV; clear hV; go_wp2_with fail; rw [EV.out]; clear EV; clear cz0 cz1 ch0 ch1; refine (zMC Zz9.out.zc Zg1.out.zc rfl).mono ?_; rintro e w12 ⟨rfl, b⟩; replace Dg1 := hid (Dg1.out.step b); replace Zg1 := hid (Zg1.out.now b); replace Zz9 := hid (Zz9.out.now b); replace Dz := hid (Dz.out.step b); replace G := hid (below_step G.out b); clear b; go_wp2; go_ret; exact ⟨rfl, G.out⟩
  ·have qk0 : decide ((0 : Int) < (k : Int)) = true := decide_eq_true (by omega)
   have qk1 : 0 < k := by omega
   obtain ⟨k', hk'⟩ : ∃ k', k = k' + 1 := ⟨k - 1, by omega⟩
   have hwk : IntKind.i64.wrap ((k : Int) - 1) = (k' : Int) := by rw [zKA] <;> omega
   have hkr' : k' ≤ r := by omega
   have hkc' : k' ≤ c := by omega
   have HKP := hid hk'; clear hk' hk0; have cA0 := PA.out.at (i := 0) rfl; have cA1 := PA.out.at (i := 1) rfl; have cA2 := PA.out.at (i := 2) rfl; go_wp2_with fail; clear cA0 cA1 cA2
   by_cases hl : cho r k' * cho c k' ≤ 4096
   ·have HGL := hid (zBC MA.out (by omega) hkr' hkc' hl)
    rw [EA.out] at HGL; obtain ⟨lk, hlk⟩ : ∃ lk, gcs (cpL A r c k' (cho c k') (cho r k') 0) = lk := ⟨_, rfl⟩
    rw [hlk] at HGL; have hdv : lk ∣ gd9 := by
     rw [← hlk, ← EGK.out, HKP.out]; exact zzG
    clear hlk; refine (HGL.out).mono ?_; rintro e w13 ⟨vl, rfl, m, b⟩; replace PA := hid (PA.out.step b); replace MA := hid (MA.out.now b); replace Zg := hid (Zg.out.now b); replace Dg := hid (Dg.out.step b); replace PC := hid (PC.out.step b); replace G := hid (below_step G.out b); obtain ⟨nl, xl_, al, cl, rfl⟩ := m.parts; obtain ⟨ll, hl_⟩ : ∃ ll, xl_.length = ll := ⟨_, rfl⟩
    rw [hl_] at m ⊢; have Zl := hid (m.mono (Nat.zero_le _)); clear m hl_; clear b; clear HGL; obtain ⟨V14, hV⟩ : ∃ V14, w13.alloc (duo (.bool nl) (.slice al ll cl)) = V14 := ⟨_, rfl⟩
    obtain ⟨b, sz14⟩ := alo1 w13 (duo (.bool nl) (.slice al ll cl)); rw [hV] at b sz14; replace PA := hid (PA.out.step b); replace MA := hid (MA.out.now b); replace Zg := hid (Zg.out.now b); replace Dg := hid (Dg.out.step b); replace PC := hid (PC.out.step b); replace Zl := hid (Zl.out.now b); replace G := hid (below_step G.out b); clear b sz14; have Dl : Hid (Duo V14 w13.heap.size (.bool nl) (.slice al ll cl)) := by unfold Hid; rw [← hV]; exact Duo.new w13 _ _
    have cl0 := Dl.out.c0; have cl1 := Dl.out.c1; rw [← hV] at cl0 cl1; have EV : Hid (w13.alloc (duo (.bool nl) (.slice al ll cl)) = V14) := hV; clear hV; go_wp2_with fail; rw [EV.out]; clear EV; clear cl0 cl1; refine (zuA Zl.out.zi).mono ?_; rintro e w15 ⟨rfl, b⟩; replace PA := hid (PA.out.step b); replace MA := hid (MA.out.now b); replace Zg := hid (Zg.out.now b); replace Dg := hid (Dg.out.step b); replace PC := hid (PC.out.step b); replace Zl := hid (Zl.out.now b); replace Dl := hid (Dl.out.step b); replace G := hid (below_step G.out b); clear b
    by_cases hl0 : lk = 0
    ·have hgz : gd9 = 0 := by rw [hl0] at hdv; exact Int.zero_dvd.1 hdv
     rw [show cmpI lk 0 = 0 by rw [hl0]; rfl]; have cg0 := Dg.out.c0; have cg1 := Dg.out.c1; go_wp2_with fail; clear cg0 cg1; refine (zuA Zg.out.zi).mono ?_; rintro e w16 ⟨rfl, b⟩; replace PA := hid (PA.out.step b); replace MA := hid (MA.out.now b); replace Zg := hid (Zg.out.now b); replace Dg := hid (Dg.out.step b); replace PC := hid (PC.out.step b); replace Zl := hid (Zl.out.now b); replace Dl := hid (Dl.out.step b); replace G := hid (below_step G.out b); rw [show cmpI gd9 0 = 0 by rw [hgz]; rfl]; clear b; go_wp2; go_ret; exact ⟨rfl, G.out⟩
    ·obtain ⟨cl_, hcl⟩ : ∃ cl_, cmpI lk 0 = cl_ := ⟨_, rfl⟩
     have hcl0 : ¬ cl_ = 0 := by
      rw [← hcl]; unfold cmpI
      split <;> (try split) <;> omega
     have hcl1 : (cl_ == 0) = false := by simpa using hcl0
     rw [hcl]; clear hcl; have cg0 := Dg.out.c0; have cg1 := Dg.out.c1; have cl0 := Dl.out.c0; have cl1 := Dl.out.c1; go_wp2_with fail; clear cg0 cg1 cl0 cl1; have HMO := hid (zhJ Zg.out.zi Zl.out.zi hl0 (by omega) (by omega)); rw [Int.emod_eq_zero_of_dvd hdv] at HMO; refine (HMO.out).mono ?_; rintro e w17 ⟨vq, rfl, m, b⟩; replace PA := hid (PA.out.step b); replace MA := hid (MA.out.now b); replace Zg := hid (Zg.out.now b); replace Dg := hid (Dg.out.step b); replace PC := hid (PC.out.step b); replace Zl := hid (Zl.out.now b); replace Dl := hid (Dl.out.step b); replace G := hid (below_step G.out b); obtain ⟨nq, xq_, aq, cq, rfl⟩ := m.parts; obtain ⟨lq, hl_⟩ : ∃ lq, xq_.length = lq := ⟨_, rfl⟩
     rw [hl_] at m ⊢; have Zq := hid (m.mono (Nat.zero_le _)); clear m hl_; clear b; clear HMO; obtain ⟨V18, hV⟩ : ∃ V18, w17.alloc (duo (.bool nq) (.slice aq lq cq)) = V18 := ⟨_, rfl⟩
     obtain ⟨b, sz18⟩ := alo1 w17 (duo (.bool nq) (.slice aq lq cq)); rw [hV] at b sz18; replace PA := hid (PA.out.step b); replace MA := hid (MA.out.now b); replace Zg := hid (Zg.out.now b); replace Dg := hid (Dg.out.step b); replace PC := hid (PC.out.step b); replace Zl := hid (Zl.out.now b); replace Dl := hid (Dl.out.step b); replace Zq := hid (Zq.out.now b); replace G := hid (below_step G.out b); clear b sz18; have Dq : Hid (Duo V18 w17.heap.size (.bool nq) (.slice aq lq cq)) := by unfold Hid; rw [← hV]; exact Duo.new w17 _ _
     have cq0 := Dq.out.c0; have cq1 := Dq.out.c1; rw [← hV] at cq0 cq1; have EV : Hid (w17.alloc (duo (.bool nq) (.slice aq lq cq)) = V18) := hV; clear hV; go_wp2_with fail; rw [EV.out]; clear EV; clear cq0 cq1; refine (zuA Zq.out.zi).mono ?_; rintro e w19 ⟨rfl, b⟩; replace PA := hid (PA.out.step b); replace MA := hid (MA.out.now b); replace Zg := hid (Zg.out.now b); replace Dg := hid (Dg.out.step b); replace PC := hid (PC.out.step b); replace Zl := hid (Zl.out.now b); replace Dl := hid (Dl.out.step b); replace Zq := hid (Zq.out.now b); replace Dq := hid (Dq.out.step b); replace G := hid (below_step G.out b); rw [show cmpI (0 : Int) 0 = 0 from rfl]; clear b; have cA0 := PA.out.at (i := 0) rfl; go_upto_region 25 with fail
     go_cut [158] from 136 (fun s1 wx => s1 = .bool (decide (iv < 0 ∨ jv < 0 ∨ (r : Int) ≤ iv ∨ (r : Int) ≤ jv ∨ iv = jv)) ∧ wx = w19)
     case first =>
      by_cases ht0 : iv < 0
      ·have qt0 : decide (iv < 0) = true := decide_eq_true ht0
       go_wp2_with fail; go_meet; exact ⟨congrArg Value.bool (decide_eq_true (p := iv < 0 ∨ jv < 0 ∨ (r : Int) ≤ iv ∨ (r : Int) ≤ jv ∨ iv = jv) (by omega)).symm, rfl⟩
      have qt0 : decide (iv < 0) = false := decide_eq_false ht0
      by_cases ht1 : jv < 0
      ·have qt1 : decide (jv < 0) = true := decide_eq_true ht1
       go_wp2_with fail; go_meet; exact ⟨congrArg Value.bool (decide_eq_true (p := iv < 0 ∨ jv < 0 ∨ (r : Int) ≤ iv ∨ (r : Int) ≤ jv ∨ iv = jv) (by omega)).symm, rfl⟩
      have qt1 : decide (jv < 0) = false := decide_eq_false ht1
      by_cases ht2 : (r : Int) ≤ iv
      ·have qt2 : decide ((r : Int) ≤ iv) = true := decide_eq_true ht2
       go_wp2_with fail; go_meet; exact ⟨congrArg Value.bool (decide_eq_true (p := iv < 0 ∨ jv < 0 ∨ (r : Int) ≤ iv ∨ (r : Int) ≤ jv ∨ iv = jv) (by omega)).symm, rfl⟩
      have qt2 : decide ((r : Int) ≤ iv) = false := decide_eq_false ht2
      by_cases ht3 : (r : Int) ≤ jv
      ·have qt3 : decide ((r : Int) ≤ jv) = true := decide_eq_true ht3
       go_wp2_with fail; go_meet; exact ⟨congrArg Value.bool (decide_eq_true (p := iv < 0 ∨ jv < 0 ∨ (r : Int) ≤ iv ∨ (r : Int) ≤ jv ∨ iv = jv) (by omega)).symm, rfl⟩
      have qt3 : decide ((r : Int) ≤ jv) = false := decide_eq_false ht3
      by_cases ht4 : iv = jv
      ·have qt4 : (iv == jv) = true := by simpa using ht4
       have HT4 := hid ht4; clear ht4; go_wp2_with fail; go_meet; exact ⟨congrArg Value.bool (decide_eq_true (p := iv < 0 ∨ jv < 0 ∨ (r : Int) ≤ iv ∨ (r : Int) ≤ jv ∨ iv = jv) (by have := HT4.out; omega)).symm, rfl⟩
      have qt4 : (iv == jv) = false := by simpa using ht4
      go_wp2_with fail; go_meet; exact ⟨congrArg Value.bool (decide_eq_false (p := iv < 0 ∨ jv < 0 ∨ (r : Int) ≤ iv ∨ (r : Int) ≤ jv ∨ iv = jv) (by omega)).symm, rfl⟩
     case rest =>
     obtain ⟨rfl, hwc⟩ := hcut; rw [hwc]; clear hwc wc
     by_cases hbad : iv < 0 ∨ jv < 0 ∨ (r : Int) ≤ iv ∨ (r : Int) ≤ jv ∨ iv = jv
     ·have hd : decide (iv < 0 ∨ jv < 0 ∨ (r : Int) ≤ iv ∨ (r : Int) ≤ jv ∨ iv = jv) = true := decide_eq_true hbad
      rw [hd]; go_wp2; go_ret; exact ⟨rfl, G.out⟩
     have hd : decide (iv < 0 ∨ jv < 0 ∨ (r : Int) ≤ iv ∨ (r : Int) ≤ jv ∨ iv = jv) = false := decide_eq_false hbad; rw [hd]; clear hd; obtain ⟨i, rfl⟩ : ∃ i : Nat, iv = (i : Int) := ⟨iv.toNat, by omega⟩
     obtain ⟨j, rfl⟩ : ∃ j : Nat, jv = (j : Int) := ⟨jv.toNat, by omega⟩
     have hir : i < r := by omega
     have hjr : j < r := by omega
     have hij : i ≠ j := by omega
     have cA1 := PA.out.at (i := 1) rfl; have cA2 := PA.out.at (i := 2) rfl; go_wp2_with fail; clear cA0 cA1 cA2; clear PC; clear Zl; clear Dl; clear Zq; clear Dq; have hPAb := PA.out.blk; have hDgb := Dg.out.blk; refine (zbB MA.out).mono ?_; rintro e w20 ⟨gz, nz, ps, rfl, hgz, hpl, harr, hzms, b⟩; replace PA := hid (PA.out.step b); replace MA := hid (MA.out.now b); replace Zg := hid (Zg.out.now b); replace Dg := hid (Dg.out.step b); replace G := hid (below_step G.out b); have hnz : nz = la := by rw [← hpl, hzms.1, HXL.out, ELA.out]
     subst hnz; have hxz : xs = zF r c (en c xs) := zAF (r := r) (c := c) HXL.out (zNB _ _ _) fun a b_ ha hb => by rw [zZE ha hb]; rfl
     have haz : AZ w20 gz (zF r c (rsF A i j 0)) (kk + 1) := by
      rw [zbD, ← EA.out, ← hxz]; exact ⟨ps, harr, hzms.1, fun j_ p z hp hz => (hzms.2 j_ p z hp hz).more (by omega)⟩
     have AZ0 := hid haz; have HGZ : Hid (w.heap.size < gz ∧ bG ≠ gz) := ⟨by omega, by omega⟩
     clear harr hzms hxz haz hpl hgz; clear b; have HGL : Hid (gz < w20.heap.size) := AZ0.out.blk; obtain ⟨V21, hV⟩ : ∃ V21, w20.alloc (.cells #[.int .i64 ((r : Int)), .int .i64 ((c : Int)), .slice (some ⟨gz, 0, none⟩) nz nz] 24) = V21 := ⟨_, rfl⟩
     obtain ⟨b, sz21⟩ := alo1 w20 (.cells #[.int .i64 ((r : Int)), .int .i64 ((c : Int)), .slice (some ⟨gz, 0, none⟩) nz nz] 24); rw [hV] at b sz21; replace PA := hid (PA.out.step b); replace MA := hid (MA.out.now b); replace Zg := hid (Zg.out.now b); replace Dg := hid (Dg.out.step b); replace AZ0 := hid (AZ0.out.step b); replace G := hid (below_step G.out b); clear b sz21; have PB : Hid (Cel V21 w20.heap.size 24 [.int .i64 ((r : Int)), .int .i64 ((c : Int)), .slice (some ⟨gz, 0, none⟩) nz nz]) := by unfold Hid; rw [← hV]; exact Cel.new w20 _ _
     have HN4 : Hid (w20.heap.size ≠ gz) := by unfold Hid; have := HGL.out; omega
     obtain ⟨bB, hbB⟩ : ∃ bB, w20.heap.size = bB := ⟨_, rfl⟩
     rw [hbB] at PB HN4; have H0 : Hid (GlH V21 gz r c i j (kk + 1) A c (.int .i64 0) V21) := ⟨0, rfl, Nat.zero_le _, by omega, AZ0.out, zNA.refl _ _⟩
     have EV : Hid (w20.alloc (.cells #[.int .i64 ((r : Int)), .int .i64 ((c : Int)), .slice (some ⟨gz, 0, none⟩) nz nz] 24) = V21) := hV; clear hV; go_wp2_with fail; rw [EV.out]; clear EV hbB
     go_loopg [21] c (fun gk s21 wx => GlH V21 gz r c i j (kk + 1) A gk s21 wx)
     case atStart => exact H0.out
     case round =>
      clear H0; obtain ⟨u, rfl, huc, hgk, haz, htw⟩ := hrel; have AZ1 := hid haz; have TW := hid htw; have HG := hid hgk; have TY : Hid (Ty 37 V21 wr) := AZ0.out.touch TW.out; have PA1 : Hid (Cel wr w.heap.size 24 [.int .i64 (r : Int), .int .i64 (c : Int), .slice aa nz qa]) := (TW.out.block _ PA.out.blk (by have := HGZ.out.1; omega)).trans PA.out; have PB1 : Hid (Cel wr bB 24 [.int .i64 (r : Int), .int .i64 (c : Int), .slice (some ⟨gz, 0, none⟩) nz nz]) := (TW.out.block _ PB.out.blk HN4.out).trans PB.out; have Dg1 : Hid (Duo wr bG (.bool ng) (.slice ag lg cg)) := (TW.out.block _ Dg.out.blk HGZ.out.2).trans Dg.out; have Zg1 := hid (Zg.out.ty TY.out (by decide)); have G1 : Hid (Below w.heap.size w wr) := G.out.trans ⟨TW.out.os, TW.out.tape, TW.out.output, TW.out.size, fun b hb => TW.out.block b (by have := G.out.size; omega) (by have := HGZ.out.1; omega)⟩; clear haz htw hgk; have cA1 := PA1.out.at (i := 1) rfl
      by_cases hlt : u < c
      ·have hlt' : (u : Int) < (c : Int) := by omega
       have hwu := zSA (i := u) (by omega); have HMM : Hid (c - (u + 1) < gk) := by unfold Hid; rw [HG.out]; omega
       clear HG; obtain ⟨nx, ax, lx_, cx, x0, x1, x2, x3, zx⟩ := AZ1.out.at hir hlt; obtain ⟨ny, ay, ly, cy, y0, y1, -, -, zy⟩ := AZ1.out.at hjr hlt; have hmi : i * c ≤ 64 * 64 := Nat.mul_le_mul (by omega) hc64; have hmj : j * c ≤ 64 * 64 := Nat.mul_le_mul (by omega) hc64; have hpi : i * c + u < nz := by rw [← ELA.out]; exact zxB hir hlt
       have hpj : j * c + u < nz := by rw [← ELA.out]; exact zxB hjr hlt
       have hi1 : (i : Int) * (c : Int) = ((i * c : Nat) : Int) := by simp
       have hj1 : (j : Int) * (c : Int) = ((j * c : Nat) : Int) := by simp
       have zx' : Zm 0 wr (.agg #[.bool nx, .slice ax lx_ cx]) (A i u) (kk + 1) := by
        have e : rsF A i j u i u = A i u := if_neg (by omega); rw [e] at zx; exact zx
       have zy' : Zm 0 wr (.agg #[.bool ny, .slice ay ly cy]) (A j u) (kk + 1) := by
        have e : rsF A i j u j u = A j u := if_neg (by omega); rw [e] at zy; exact zy
       have ZX := hid zx'; have ZY := hid zy'; have HFT : Hid (((A i u - A j u).natAbs : Int) < pw (kk + 1)) := by
        have key : ∀ a, a < r → ((A a u).natAbs : Int) < pw kk := fun a ha => by
         refine HZA.out _ ?_; rw [← EA.out]; have h : a * c + u < xs.length := by rw [HXL.out]; exact zxB ha hlt
         show xs.getD (a * c + u) 0 ∈ xs
         rw [List.getD_eq_getElem?_getD, List.getElem?_eq_getElem h]; exact List.getElem_mem h
        exact zcD (key i hir) (key j hjr)
       obtain ⟨ic, hic⟩ : ∃ ic, i * c = ic := ⟨_, rfl⟩
       obtain ⟨jc, hjc⟩ : ∃ jc, j * c = jc := ⟨_, rfl⟩
       have EIC := hid hic; rw [hic] at hmi hpi hi1 x0 x1 x2 x3; rw [hjc] at hmj hpj hj1 y0 y1; have hi2 : IntKind.i64.wrap ((i : Int) * (c : Int)) = (ic : Int) := by rw [hi1, zKA] <;> omega
       have hj2 : IntKind.i64.wrap ((j : Int) * (c : Int)) = (jc : Int) := by rw [hj1, zKA] <;> omega
       obtain ⟨pi, hpie⟩ : ∃ pi, ic + u = pi := ⟨_, rfl⟩
       obtain ⟨pj, hpje⟩ : ∃ pj, jc + u = pj := ⟨_, rfl⟩
       have hi3 : IntKind.i64.wrap ((ic : Int) + (u : Int)) = (pi : Int) := by rw [zKA] <;> omega
       have hj3 : IntKind.i64.wrap ((jc : Int) + (u : Int)) = (pj : Int) := by rw [zKA] <;> omega
       have EPI := hid hpie; rw [hpie] at hpi x0 x1 x2 x3; rw [hpje] at hpj y0 y1; have hpi' : (pi : Int) < (nz : Int) := by omega
       have hpj' : (pj : Int) < (nz : Int) := by omega
       have cB2 := PB1.out.at (i := 2) rfl; clear zx zy zx' zy' hic hjc hpie hpje hi1 hj1; go_wp2_with fail; have KB : Hid (∀ w', Below wr.heap.size wr w' → w'.cell? ⟨w.heap.size, 1, none⟩ = some (.int .i64 (c : Int)) ∧ w'.cell? ⟨bB, 2, none⟩ = some (.slice (some ⟨gz, 0, none⟩) nz nz) ∧ w'.cell? ⟨gz, pi * 2, none⟩ = some (.bool nx) ∧ w'.cell? ⟨gz, pi * 2 + 1, none⟩ = some (.slice ax lx_ cx) ∧ w'.cell? ⟨gz, pj * 2, none⟩ = some (.bool ny) ∧ w'.cell? ⟨gz, pj * 2 + 1, none⟩ = some (.slice ay ly cy)) := fun w' h => ⟨cnow h cA1, cnow h cB2, cnow h x0, cnow h x1, cnow h y0, cnow h y1⟩
       refine zCA (fun w' => w'.cell? ⟨w.heap.size, 1, none⟩ = some (.int .i64 (c : Int)) ∧ w'.cell? ⟨bB, 2, none⟩ = some (.slice (some ⟨gz, 0, none⟩) nz nz) ∧ w'.cell? ⟨gz, pi * 2, none⟩ = some (.bool nx) ∧ w'.cell? ⟨gz, pi * 2 + 1, none⟩ = some (.slice ax lx_ cx) ∧ w'.cell? ⟨gz, pj * 2, none⟩ = some (.bool ny) ∧ w'.cell? ⟨gz, pj * 2 + 1, none⟩ = some (.slice ay ly cy)) 30 (by kernel_rfl) ?_; obtain ⟨D301, hD⟩ : ∃ D301, wr.drew = D301 := ⟨_, rfl⟩
       have GB : Hid (Below wr.heap.size wr D301) := by unfold Hid; rw [← hD]; exact (Below.refl _ _).drew
       rw [hD]; clear hD; refine zBA [(0, (.pointer (some ⟨bB, 2, none⟩))), (1, (.slice (some ⟨gz, 0, none⟩) nz nz)), (2, (.int .i64 (i : Int))), (3, (.pointer (some ⟨w.heap.size, 1, none⟩))), (4, (.int .i64 (c : Int))), (5, (.int .i64 (ic : Int))), (6, (.int .i64 (u : Int))), (7, (.int .i64 (pi : Int))), (8, (.pointer (some ⟨bB, 2, none⟩))), (9, (.slice (some ⟨gz, 0, none⟩) nz nz)), (10, (.int .i64 (i : Int))), (11, (.pointer (some ⟨w.heap.size, 1, none⟩))), (12, (.int .i64 (c : Int))), (13, (.int .i64 (ic : Int))), (14, (.int .i64 (u : Int))), (15, (.int .i64 (pi : Int))), (16, (.pointer (some ⟨gz, pi * 2, none⟩))), (17, (.agg #[.bool nx, .slice ax lx_ cx])), (18, (.pointer (some ⟨bB, 2, none⟩))), (19, (.slice (some ⟨gz, 0, none⟩) nz nz)), (20, (.int .i64 (j : Int))), (21, (.pointer (some ⟨w.heap.size, 1, none⟩))), (22, (.int .i64 (c : Int))), (23, (.int .i64 (jc : Int))), (24, (.int .i64 (u : Int))), (25, (.int .i64 (pj : Int))), (26, (.pointer (some ⟨gz, pj * 2, none⟩))), (27, (.agg #[.bool ny, .slice ay ly cy]))] 28 ?_ (KB.out _ GB.out) ?_
       ·simp only [zJA, gA9, g09, g19, Act.put, sI9, s09, s19]; (repeat' (first | exact trivial | refine And.intro (Or.inl ⟨by rfl, ?_⟩) ?_)) <;> (intro w hSw; (try dsimp only at hSw); go_simp)
       simp only [actV, gA9, g09, g19, Act.put, sI9, s09, s19]; refine zAA (i := 28) (o := ⟨some 198, .call { callee := .value (.func 21), args := #[.tmp 187, .tmp 197], argTypes := #[37, 37] }, 37, "outright.go:199", #[⟨17, .data⟩, ⟨27, .data⟩], none⟩) (by kernel_rfl) rfl (fun K hK => ?_); go_simp; go_at_call 21; refine (zzC (ZX.out.now GB.out).zi (ZY.out.now GB.out).zi (by omega) (by omega)).mono ?_; rintro e w302 ⟨r1, rfl, m1, b⟩; have lz302 := (show Below _ _ _ from b).size; replace GB := hid (below_step GB.out b); have MS := hid ((m1.mono (Nat.zero_le _)).fit HFT.out); obtain ⟨nm, xm, am, cm_, rfl⟩ := m1.parts; obtain ⟨lm, hlm⟩ : ∃ lm, xm.length = lm := ⟨_, rfl⟩
       rw [hlm] at MS ⊢; clear m1 hlm; clear b; refine hK.out _ _ (fun _ => KB.out _ GB.out) ?_; clear hK; refine zBA [(29, (.pointer (some ⟨gz, pi * 2, none⟩)))] 1 ?_ (KB.out _ GB.out) ?_
       ·simp only [zJA, gA9, g09, g19, Act.put, sI9, s09, s19]; (repeat' (first | exact trivial | refine And.intro (Or.inl ⟨by rfl, ?_⟩) ?_)) <;> (intro w hSw; (try dsimp only at hSw); go_simp)
       simp only [actV, gA9, g09, g19, Act.put, sI9, s09, s19]; refine zAA (i := 30) (o := ⟨none, .store 37 (.tmp 199) (.tmp 198), 0, "outright.go:199", #[⟨29, .data⟩, ⟨28, .data⟩, ⟨28, .chain⟩, ⟨0, .phase⟩, ⟨1, .phase⟩, ⟨2, .phase⟩, ⟨3, .phase⟩, ⟨4, .phase⟩, ⟨5, .phase⟩, ⟨6, .phase⟩, ⟨7, .phase⟩, ⟨8, .phase⟩, ⟨9, .phase⟩, ⟨10, .phase⟩, ⟨11, .phase⟩, ⟨12, .phase⟩, ⟨13, .phase⟩, ⟨14, .phase⟩, ⟨15, .phase⟩, ⟨16, .phase⟩, ⟨17, .phase⟩, ⟨18, .phase⟩, ⟨19, .phase⟩, ⟨20, .phase⟩, ⟨21, .phase⟩, ⟨22, .phase⟩, ⟨23, .phase⟩, ⟨24, .phase⟩, ⟨25, .phase⟩, ⟨26, .phase⟩, ⟨27, .phase⟩, ⟨28, .phase⟩], none⟩) (by kernel_rfl) rfl (fun K hK => ?_); have AZ2 := hid (AZ1.out.step GB.out); obtain ⟨_, _, _, _, f0, f1, f2, f3, -⟩ := AZ2.out.at hir hlt; rw [EIC.out, EPI.out] at f0 f1 f2 f3; go_simp; clear f0 f1 f2 f3; obtain ⟨V303, hW⟩ : ∃ V303, ((w302.setCell ⟨gz, pi * 2, none⟩ (.bool nm)).setCell ⟨gz, pi * 2 + 1, none⟩ (.slice am lm cm_)) = V303 := ⟨_, rfl⟩
       have HN1 : Hid (GlH V21 gz r c i j (kk + 1) A (c - (u + 1)) (.int .i64 ((u + 1 : Nat) : Int)) V303) := by
        unfold Hid; have u1 := AZ2.out.put hir hlt (z := A i u - A j u) MS.out; rw [zvE, EIC.out, EPI.out, hW] at u1; refine ⟨u + 1, rfl, by omega, rfl, u1, ?_⟩; rw [← hW]; exact ((TW.out.trans (.ofBelow GB.out)).setCell (.inr rfl) _ _).setCell (.inr rfl) _ _
       rw [hW]; clear hW; refine hK.out _ _ (fun h => absurd h (by decide)) ?_; clear hK
       try simp only [Act.put]
       refine zDA (by kernel_rfl) ?_ _; clear GB KB AZ2 AZ1 TW MS ZX ZY x0 x1 x2 x3 y0 y1 cB2 cA1; go_wp2_with fail; go_roundg (c - (u + 1))
       case rel => exact HN1.out
       case measure => exact HMM.out
      ·have hlt' : ¬ (u : Int) < (c : Int) := by omega
       obtain rfl : u = c := by omega
       clear HG; have MB := hid (AZ1.out.mx hr64 hc64); have HGB := hid (zBC MB.out (by omega) hkr hkc hc); rw [ELA.out] at HGB; have HEB : Hid (gcs (cpL (en u (zF r u (rsF A i j u))) r u k (cho u k) (cho r k) 0) = gd9) := by
        unfold Hid; rw [← EGK.out]; refine zfD hir hjr hij fun a b ha hb => ?_
        show (zF r u (rsF A i j u)).getD (a * u + b) 0 = _
        rw [zZE ha hb]; unfold rsF
        by_cases q : a = i
        ·subst q; rw [if_pos ⟨rfl, hb⟩, if_pos rfl]
        ·rw [if_neg (fun h => q h.1), if_neg q]
       rw [HEB.out] at HGB; have cB0 := PB1.out.at (i := 0) rfl; have cB1 := PB1.out.at (i := 1) rfl; have cB2 := PB1.out.at (i := 2) rfl; clear G; have G := G1; clear G1; go_wp2_with fail; clear cA1 cB0 cB1 cB2; refine (HGB.out).mono ?_; rintro e w22 ⟨vz9, rfl, m, b⟩; replace Dg1 := hid (Dg1.out.step b); replace Zg1 := hid (Zg1.out.now b); replace G := hid (below_step G.out b); obtain ⟨nz9, xz9_, az9, cz9, rfl⟩ := m.parts; obtain ⟨lz9, hl_⟩ : ∃ lz9, xz9_.length = lz9 := ⟨_, rfl⟩
       rw [hl_] at m ⊢; have Zz9 := hid (m.mono (Nat.zero_le _)); clear m hl_; clear b; obtain ⟨V23, hV⟩ : ∃ V23, w22.alloc (duo (.bool nz9) (.slice az9 lz9 cz9)) = V23 := ⟨_, rfl⟩
       obtain ⟨b, sz23⟩ := alo1 w22 (duo (.bool nz9) (.slice az9 lz9 cz9)); rw [hV] at b sz23; replace Dg1 := hid (Dg1.out.step b); replace Zg1 := hid (Zg1.out.now b); replace Zz9 := hid (Zz9.out.now b); replace G := hid (below_step G.out b); clear b sz23; have Dz : Hid (Duo V23 w22.heap.size (.bool nz9) (.slice az9 lz9 cz9)) := by unfold Hid; rw [← hV]; exact Duo.new w22 _ _
       have cz0 := Dz.out.c0; have cz1 := Dz.out.c1; have ch0 := Dg1.out.c0; have ch1 := Dg1.out.c1; rw [← hV] at cz0 cz1 ch0 ch1; have EV : Hid (w22.alloc (duo (.bool nz9) (.slice az9 lz9 cz9)) = V23) := hV; clear hV; go_wp2_with fail; rw [EV.out]; clear EV; clear cz0 cz1 ch0 ch1; refine (zMC Zz9.out.zc Zg1.out.zc rfl).mono ?_; rintro e w24 ⟨rfl, b⟩; replace Dg1 := hid (Dg1.out.step b); replace Zg1 := hid (Zg1.out.now b); replace Zz9 := hid (Zz9.out.now b); replace Dz := hid (Dz.out.step b); replace G := hid (below_step G.out b); clear b; go_wp2; go_ret; exact ⟨rfl, G.out⟩
   ·skip
    refine (zLG MA.out (by omega) hkr' hkc' (by omega)).mono ?_; rintro e w25 ⟨vl, rfl, m, b⟩; replace PA := hid (PA.out.step b); replace MA := hid (MA.out.now b); replace Zg := hid (Zg.out.now b); replace Dg := hid (Dg.out.step b); replace PC := hid (PC.out.step b); replace G := hid (below_step G.out b); obtain ⟨nl, xl_, al, cl, rfl⟩ := m.parts; obtain ⟨ll, hl_⟩ : ∃ ll, xl_.length = ll := ⟨_, rfl⟩
    rw [hl_] at m ⊢; have Zl := hid (m.mono (Nat.zero_le _)); clear m hl_; clear b; obtain ⟨V26, hV⟩ : ∃ V26, w25.alloc (duo (.bool nl) (.slice al ll cl)) = V26 := ⟨_, rfl⟩
    obtain ⟨b, sz26⟩ := alo1 w25 (duo (.bool nl) (.slice al ll cl)); rw [hV] at b sz26; replace PA := hid (PA.out.step b); replace MA := hid (MA.out.now b); replace Zg := hid (Zg.out.now b); replace Dg := hid (Dg.out.step b); replace PC := hid (PC.out.step b); replace Zl := hid (Zl.out.now b); replace G := hid (below_step G.out b); clear b sz26; have Dl : Hid (Duo V26 w25.heap.size (.bool nl) (.slice al ll cl)) := by unfold Hid; rw [← hV]; exact Duo.new w25 _ _
    have EV : Hid (w25.alloc (duo (.bool nl) (.slice al ll cl)) = V26) := hV; clear hV; go_wp2; rw [EV.out]; go_ret; exact ⟨rfl, G.out⟩
theorem mgc_small {w : World} {va : Value} {r c k kk : Nat} {iv jv : Int} {xs : List Int} (ha : Mx w va r c xs kk) (hkk : 64 * (kk + 1) + 7 ≤ 4000000000) (hxl : xs.length = r * c) (hsd : Snd (r : Int) (c : Int) (r * c)) (hkr : k ≤ r) (hkc : k ≤ c) (hc : cho r k * cho c k ≤ 4096) (hbig : ¬ (64 < cho r k ∨ 64 < cho c k)) :
  Calls Tryz.prog 4 #[va, .int .i64 (k : Int), .int .i64 iv, .int .i64 jv] w (Tru w) := by
 have HBIG := hid hbig; clear hbig; have HZA : Hid (∀ z ∈ xs, (z.natAbs : Int) < pw kk) := by obtain ⟨_, _, _, _, h, _⟩ := ha; exact h.lt
 have HXL := hid hxl; clear hxl; have HS := hid hsd; have M0 := ha; obtain ⟨aa, qa, rfl, hr64, hc64⟩ := ha.form; obtain ⟨la, hla⟩ : ∃ la, r * c = la := ⟨_, rfl⟩
 rw [hla] at M0 ⊢; have ELA := hid hla; have HSD : Hid (Snd (r : Int) (c : Int) la) := by unfold Hid; rw [← hla]; exact hsd
 clear hla hsd; rw [show matv r c (.slice aa la qa) = .agg #[.int .i64 (r : Int), .int .i64 (c : Int), .slice aa la qa] from rfl] at M0 ⊢; have q1d : decide ((k : Int) < 0) = false := decide_eq_false (by omega); have q2d : decide ((r : Int) < (k : Int)) = false := decide_eq_false (by omega); have q3d : decide ((c : Int) < (k : Int)) = false := decide_eq_false (by omega); obtain ⟨cm, hcm⟩ : ∃ cm, cho r k = cm := ⟨_, rfl⟩
 obtain ⟨cn, hcn⟩ : ∃ cn, cho c k = cn := ⟨_, rfl⟩
 have ECM := hid hcm; have ECN := hid hcn; clear hcm hcn; have hcn0 : 0 < cn := by rw [← ECN.out]; exact zrC hkc
 have hcn0' : ¬ (cn : Int) = 0 := by omega
 have hcn0n : ¬ cn = 0 := by omega
 obtain ⟨q8, hq8e⟩ : ∃ q8, 4096 / cn = q8 := ⟨_, rfl⟩
 have hq8t : (4096 : Int).tdiv (cn : Int) = (q8 : Int) := by rw [← hq8e]; rfl
 have hq8l : q8 ≤ 4096 := by rw [← hq8e]; exact Nat.div_le_self _ _
 have hq8 : IntKind.i64.wrap (q8 : Int) = (q8 : Int) := by rw [zKA] <;> omega
 have q4n : ¬ q8 < cm := by
  rw [← hq8e, zNG (a := cm) hcn0, ← ECM.out, ← ECN.out]; omega
 have q4d : decide ((q8 : Int) < (cm : Int)) = false := decide_eq_false (by omega); obtain ⟨A, hA⟩ : ∃ A, en c xs = A := ⟨_, rfl⟩
 have EA := hid hA; obtain ⟨gd9, hgk⟩ : ∃ gd9, gcs (cpL A r c k (cho c k) (cho r k) 0) = gd9 := ⟨_, rfl⟩
 have EGK := hid hgk; have hg0 : 0 ≤ gd9 := by rw [← hgk]; exact zOC _
 obtain ⟨sg, hsg⟩ : ∃ sg, cmpI gd9 0 = sg := ⟨_, rfl⟩
 have ECG := hid hsg; have hsg1 : sg = if gd9 = 0 then 0 else 1 := by rw [← hsg]; exact zUF hg0
 have hsgn : ¬ sg < 0 := by rw [hsg1]; split <;> decide
 have q5d : decide (sg < 0) = false := decide_eq_false hsgn; have HCG := hid hsg1; clear hA hgk hsg hsg1; obtain ⟨W0, hV⟩ : ∃ W0, w.alloc (.cells #[.int .i64 (r : Int), .int .i64 (c : Int), .slice aa la qa] 24) = W0 := ⟨_, rfl⟩
 obtain ⟨b0, sz0⟩ := alo1 w (.cells #[.int .i64 (r : Int), .int .i64 (c : Int), .slice aa la qa] 24); rw [hV] at b0 sz0; have PA : Hid (Cel W0 w.heap.size 24 [.int .i64 (r : Int), .int .i64 (c : Int), .slice aa la qa]) := by
  unfold Hid; rw [← hV]; exact Cel.new w 24 [.int .i64 (r : Int), .int .i64 (c : Int), .slice aa la qa]
 have G := hid b0; have MA := hid (M0.now b0); clear ha M0 HS; clear b0 sz0; have EV := hid hV; clear hV; go_enter Tryz.func4, Tryz.ntmps4; go_wp2_with fail; rw [EV.out]; clear EV; refine (zWE _).mono ?_; rintro e w1 ⟨rfl, b⟩; replace PA := hid (PA.out.step b); replace MA := hid (MA.out.now b); replace G := hid (below_step G.out b); clear b; have cA0 := PA.out.at (i := 0) rfl; have cA1 := PA.out.at (i := 1) rfl; have cA2 := PA.out.at (i := 2) rfl; go_wp2_with fail; clear cA0 cA1 cA2; have HGD := hid (zBC MA.out (by omega) hkr hkc hc); rw [EA.out, EGK.out] at HGD; refine (HGD.out).mono ?_; rintro e w2 ⟨vg, rfl, m, b⟩; replace PA := hid (PA.out.step b); replace MA := hid (MA.out.now b); replace G := hid (below_step G.out b); obtain ⟨ng, xg_, ag, cg, rfl⟩ := m.parts; obtain ⟨lg, hl_⟩ : ∃ lg, xg_.length = lg := ⟨_, rfl⟩
 rw [hl_] at m ⊢; have Zg := hid (m.mono (Nat.zero_le _)); clear m hl_; clear b; clear HGD; obtain ⟨V3, hV⟩ : ∃ V3, w2.alloc (duo (.bool ng) (.slice ag lg cg)) = V3 := ⟨_, rfl⟩
 obtain ⟨b, sz3⟩ := alo1 w2 (duo (.bool ng) (.slice ag lg cg)); rw [hV] at b sz3; replace PA := hid (PA.out.step b); replace MA := hid (MA.out.now b); replace Zg := hid (Zg.out.now b); replace G := hid (below_step G.out b); clear b sz3; have Dg : Hid (Duo V3 w2.heap.size (.bool ng) (.slice ag lg cg)) := by unfold Hid; rw [← hV]; exact Duo.new w2 _ _
 have cA0 := PA.out.at (i := 0) rfl; have cA1 := PA.out.at (i := 1) rfl; have cA2 := PA.out.at (i := 2) rfl; rw [← hV] at cA0 cA1 cA2; have EV : Hid (w2.alloc (duo (.bool ng) (.slice ag lg cg)) = V3) := hV; clear hV; go_wp2_with fail; rw [EV.out]; clear EV; clear cA0 cA1 cA2; obtain ⟨bG, hbG⟩ : ∃ bG, w2.heap.size = bG := ⟨_, rfl⟩
 rw [hbG] at Dg ⊢; clear hbG; refine (ziC).mono ?_; rintro e w4 ⟨rfl, b⟩; replace PA := hid (PA.out.step b); replace MA := hid (MA.out.now b); replace Zg := hid (Zg.out.now b); replace Dg := hid (Dg.out.step b); replace G := hid (below_step G.out b); rw [if_pos HSD.out]; clear b; have cA0 := PA.out.at (i := 0) rfl; have cA1 := PA.out.at (i := 1) rfl; go_wp2_with fail; have KB : Hid (∀ w', Below w4.heap.size w4 w' → w'.cell? ⟨w.heap.size, 0, none⟩ = some (.int .i64 (r : Int)) ∧ w'.cell? ⟨w.heap.size, 1, none⟩ = some (.int .i64 (c : Int))) := fun w' h => ⟨cnow h cA0, cnow h cA1⟩
 refine zCA (fun w' => w'.cell? ⟨w.heap.size, 0, none⟩ = some (.int .i64 (r : Int)) ∧ w'.cell? ⟨w.heap.size, 1, none⟩ = some (.int .i64 (c : Int))) 9 (by kernel_rfl) ?_; obtain ⟨D61, hD⟩ : ∃ D61, w4.drew = D61 := ⟨_, rfl⟩
 have GB : Hid (Below w4.heap.size w4 D61) := by unfold Hid; rw [← hD]; exact (Below.refl _ _).drew
 rw [hD]; clear hD; refine zBA [(0, (.pointer (some ⟨w.heap.size, 0, none⟩))), (1, (.int .i64 (r : Int))), (2, (.int .i64 (k : Int))), (4, (.pointer (some ⟨w.heap.size, 1, none⟩))), (5, (.int .i64 (c : Int))), (6, (.int .i64 (k : Int)))] 6 ?_ (KB.out _ GB.out) ?_
 ·simp only [zJA, gA9, g09, g19, Act.put, sI9, s09, s19]; (repeat' (first | exact trivial | refine And.intro (Or.inl ⟨by rfl, ?_⟩) ?_)) <;> (intro w hSw; (try dsimp only at hSw); go_simp)
 simp only [actV, gA9, g09, g19, Act.put, sI9, s09, s19]; refine zAA (i := 3) (o := ⟨some 56, .call { callee := .value (.func 8), args := #[.tmp 54, .tmp 55], argTypes := #[3, 3] }, 3, "outright.go:170", #[⟨1, .data⟩, ⟨2, .data⟩], none⟩) (by kernel_rfl) rfl (fun K hK => ?_); go_simp; go_at_call 8; refine (zJC hr64 hkr).mono ?_; rintro e w62 ⟨rfl, b⟩; have lz62 := (show Below _ _ _ from b).size; replace GB := hid (below_step GB.out b); rw [ECM.out]; clear b; refine hK.out _ _ (fun _ => KB.out _ GB.out) ?_; clear hK; refine zAA (i := 7) (o := ⟨some 60, .call { callee := .value (.func 8), args := #[.tmp 58, .tmp 59], argTypes := #[3, 3] }, 3, "outright.go:170", #[⟨5, .data⟩, ⟨6, .data⟩, ⟨3, .chain⟩], none⟩) (by kernel_rfl) rfl (fun K hK => ?_); go_simp; go_at_call 8; refine (zJC hc64 hkc).mono ?_; rintro e w63 ⟨rfl, b⟩; have lz63 := (show Below _ _ _ from b).size; replace GB := hid (below_step GB.out b); rw [ECN.out]; clear b; refine hK.out _ _ (fun _ => KB.out _ GB.out) ?_; clear hK; refine zBA [(8, (.int .i64 (q8 : Int)))] 1 ?_ (KB.out _ GB.out) ?_
 ·simp only [zJA, gA9, g09, g19, Act.put, sI9, s09, s19]; (repeat' (first | exact trivial | refine And.intro (Or.inl ⟨by rfl, ?_⟩) ?_)) <;> (intro w hSw; (try dsimp only at hSw); go_simp)
 simp only [actV, gA9, g09, g19, Act.put, sI9, s09, s19]; refine zAA (i := 9) (o := ⟨some 62, .binOp .gtr 3 (.tmp 56) (.tmp 61) 3, 4, "outright.go:170", #[⟨3, .data⟩, ⟨8, .data⟩], none⟩) (by kernel_rfl) rfl (fun K hK => ?_); go_simp; refine hK.out _ _ (fun h => absurd h (by decide)) ?_; clear hK
 try simp only [Act.put]
 refine zDA (by kernel_rfl) ?_ _; clear KB; replace PA := hid (PA.out.step GB.out); replace MA := hid (MA.out.now GB.out); replace Zg := hid (Zg.out.now GB.out); replace Dg := hid (Dg.out.step GB.out); replace G := hid (below_step G.out GB.out); clear GB cA0 cA1; have cA0 := PA.out.at (i := 0) rfl; have cA1 := PA.out.at (i := 1) rfl; have cA2 := PA.out.at (i := 2) rfl; go_wp2_with fail; clear cA0 cA1 cA2; have hbig := HBIG.out; clear HBIG
 ·skip
  refine (com_yes MA.out (by omega) hkr hkc (by omega) (by omega)).mono ?_; rintro e w27 ⟨vC, rfl, m, b⟩; replace PA := hid (PA.out.step b); replace MA := hid (MA.out.now b); replace Zg := hid (Zg.out.now b); replace Dg := hid (Dg.out.step b); replace G := hid (below_step G.out b); rw [EA.out] at m; have HEQ : Hid (gd9 = gcdL (zF (cho r k) (cho c k) (cpE A r c k))) := by unfold Hid; rw [← EGK.out, zHI]; rfl
  rw [ECM.out, ECN.out] at m HEQ; obtain ⟨aC, qC, rfl, -, -⟩ := m.mx.form; obtain ⟨lC, hlC⟩ : ∃ lC, cm * cn = lC := ⟨_, rfl⟩
  rw [hlC] at m ⊢; have MC := hid m; clear m hlC; clear b; obtain ⟨V28, hV⟩ : ∃ V28, w27.alloc (.cells #[.int .i64 ((cm : Int)), .int .i64 ((cn : Int)), .slice aC lC qC] 24) = V28 := ⟨_, rfl⟩
  obtain ⟨b, sz28⟩ := alo1 w27 (.cells #[.int .i64 ((cm : Int)), .int .i64 ((cn : Int)), .slice aC lC qC] 24); rw [hV] at b sz28; replace PA := hid (PA.out.step b); replace MA := hid (MA.out.now b); replace Zg := hid (Zg.out.now b); replace Dg := hid (Dg.out.step b); replace MC := hid (MC.out.now b); replace G := hid (below_step G.out b); clear b sz28; have PC : Hid (Cel V28 w27.heap.size 24 [.int .i64 ((cm : Int)), .int .i64 ((cn : Int)), .slice aC lC qC]) := by unfold Hid; rw [← hV]; exact Cel.new w27 _ _
  obtain ⟨bC, hbC⟩ : ∃ bC, w27.heap.size = bC := ⟨_, rfl⟩
  rw [hbC] at PC; have cA0 := PA.out.at (i := 0) rfl; have cA1 := PA.out.at (i := 1) rfl; have cA2 := PA.out.at (i := 2) rfl; rw [← hV] at cA0 cA1 cA2; have EV : Hid (w27.alloc (.cells #[.int .i64 ((cm : Int)), .int .i64 ((cn : Int)), .slice aC lC qC] 24) = V28) := hV; clear hV; go_wp2_with fail; rw [EV.out]; clear EV; clear cA0 cA1 cA2; clear hbC; refine (ziG MA.out (by omega)).mono ?_; rintro e w29 ⟨rs, cs, odd, hst, rfl, b⟩; replace PA := hid (PA.out.step b); replace MA := hid (MA.out.now b); replace Zg := hid (Zg.out.now b); replace Dg := hid (Dg.out.step b); replace MC := hid (MC.out.now b); replace PC := hid (PC.out.step b); replace G := hid (below_step G.out b); rw [EA.out] at hst; have hz12 := zyG (k := k) hst; rw [EGK.out] at hz12; obtain ⟨rk, hrk⟩ : ∃ rk, rs.length = rk := ⟨_, rfl⟩
  rw [hrk] at hz12 ⊢; clear hst hrk; obtain ⟨B0, hB0⟩ : ∃ B0, decide (rk < k) = B0 := ⟨_, rfl⟩
  have q21 : decide ((rk : Int) < (k : Int)) = B0 := by rw [← hB0]; exact decide_eq_decide.2 (by omega)
  have q22 : decide (sg = 0) = B0 := by
   rw [← hB0]; refine decide_eq_decide.2 ?_; rw [← hz12, HCG.out]
   split
   ·rename_i h; simp [h]
   ·rename_i h; simp [h]
  have q23 : (sg == 0) = B0 := by rw [← q22]; rfl
  have q24 : (B0 != B0) = false := by simp
  clear b; have cg0 := Dg.out.c0; have cg1 := Dg.out.c1; have cC2 := PC.out.at (i := 2) rfl; go_wp2_with fail; have KB : Hid (∀ w', Below w29.heap.size w29 w' → w'.cell? ⟨bG, 0, none⟩ = some (.bool ng) ∧ w'.cell? ⟨bG, 1, none⟩ = some (.slice ag lg cg) ∧ w'.cell? ⟨bC, 2, none⟩ = some (.slice aC lC qC)) := fun w' h => ⟨cnow h cg0, cnow h cg1, cnow h cC2⟩
  refine zCA (fun w' => w'.cell? ⟨bG, 0, none⟩ = some (.bool ng) ∧ w'.cell? ⟨bG, 1, none⟩ = some (.slice ag lg cg) ∧ w'.cell? ⟨bC, 2, none⟩ = some (.slice aC lC qC)) 31 (by kernel_rfl) ?_; obtain ⟨D401, hD⟩ : ∃ D401, w29.drew = D401 := ⟨_, rfl⟩
  have GB : Hid (Below w29.heap.size w29 D401) := by unfold Hid; rw [← hD]; exact (Below.refl _ _).drew
  rw [hD]; clear hD; refine zBA [(0, (.int .i64 0)), (1, (.bool false)), (2, (.bool false)), (3, (.int .i64 0)), (4, (.bool false)), (5, (.bool false)), (6, (.bool false)), (7, (.agg #[.bool ng, .slice ag lg cg])), (10, (.int .i64 (k : Int))), (11, (.int .i64 (rk : Int))), (12, (.bool B0))] 11 ?_ (KB.out _ GB.out) ?_
  ·simp only [zJA, gA9, g09, g19, Act.put, sI9, s09, s19]; (repeat' (first | exact trivial | refine And.intro (Or.inl ⟨by rfl, ?_⟩) ?_)) <;> (intro w hSw; (try dsimp only at hSw); go_simp)
  simp only [actV, gA9, g09, g19, Act.put, sI9, s09, s19]; refine zAA (i := 8) (o := ⟨some 84, .call { callee := .value (.func 18), args := #[.tmp 83], argTypes := #[37] }, 3, "outright.go:175", #[⟨7, .data⟩, ⟨6, .chain⟩, ⟨6, .guard⟩], some (6, false)⟩) (by kernel_rfl) rfl (fun K hK => ?_); go_simp; go_at_call 18; refine (zuA (Zg.out.now GB.out).zi).mono ?_; rintro e w402 ⟨rfl, b⟩; have lz402 := (show Below _ _ _ from b).size; replace GB := hid (below_step GB.out b); rw [ECG.out]; clear b; refine hK.out _ _ (fun _ => KB.out _ GB.out) ?_; clear hK; refine zBA [(9, (.bool B0)), (13, (.bool false)), (14, (.bool false)), (15, (.bool false)), (16, (.agg #[.bool ng, .slice ag lg cg]))] 5 ?_ (KB.out _ GB.out) ?_
  ·simp only [zJA, gA9, g09, g19, Act.put, sI9, s09, s19]; (repeat' (first | exact trivial | refine And.intro (Or.inl ⟨by rfl, ?_⟩) ?_)) <;> (intro w hSw; (try dsimp only at hSw); go_simp)
  simp only [actV, gA9, g09, g19, Act.put, sI9, s09, s19]; refine zAA (i := 17) (o := ⟨some 93, .call { callee := .value (.func 18), args := #[.tmp 92], argTypes := #[37] }, 3, "outright.go:175", #[⟨16, .data⟩, ⟨15, .chain⟩, ⟨15, .guard⟩], some (15, false)⟩) (by kernel_rfl) rfl (fun K hK => ?_); go_simp; go_at_call 18; refine (zuA (Zg.out.now GB.out).zi).mono ?_; rintro e w403 ⟨rfl, b⟩; have lz403 := (show Below _ _ _ from b).size; replace GB := hid (below_step GB.out b); rw [ECG.out]; clear b; refine hK.out _ _ (fun _ => KB.out _ GB.out) ?_; clear hK; refine zBA [(18, (.bool false)), (19, (.bool false)), (20, (.bool false)), (21, (.int .i64 0)), (22, (.bool true)), (23, (.bool true)), (24, (.agg #[.bool ng, .slice ag lg cg])), (25, (.pointer (some ⟨bC, 2, none⟩))), (26, (.slice aC lC qC))] 9 ?_ (KB.out _ GB.out) ?_
  ·simp only [zJA, gA9, g09, g19, Act.put, sI9, s09, s19]; (repeat' (first | exact trivial | refine And.intro (Or.inl ⟨by rfl, ?_⟩) ?_)) <;> (intro w hSw; (try dsimp only at hSw); go_simp)
  simp only [actV, gA9, g09, g19, Act.put, sI9, s09, s19]; refine zAA (i := 27) (o := ⟨some 103, .call { callee := .value (.func 19), args := #[.tmp 102], argTypes := #[22] }, 37, "outright.go:175", #[⟨26, .data⟩, ⟨23, .chain⟩, ⟨23, .guard⟩], some (23, true)⟩) (by kernel_rfl) rfl (fun K hK => ?_); go_simp; go_at_call 19; refine (gcdAll6 (MC.out.mx.now GB.out).zl.1 (by omega)).mono ?_; rintro e w404 ⟨rA, rfl, mA, b⟩; have lz404 := (show Below _ _ _ from b).size; replace GB := hid (below_step GB.out b); have ZA := hid mA; clear mA; clear b; refine hK.out _ _ (fun _ => KB.out _ GB.out) ?_; clear hK; refine zAA (i := 28) (o := ⟨some 104, .call { callee := .value (.func 12), args := #[.tmp 100, .tmp 103], argTypes := #[37, 37] }, 4, "outright.go:175", #[⟨24, .data⟩, ⟨27, .data⟩, ⟨27, .chain⟩, ⟨23, .guard⟩], some (23, true)⟩) (by kernel_rfl) rfl (fun K hK => ?_); go_simp; go_at_call 12; refine (zMC (Zg.out.now GB.out).zc ZA.out.zc HEQ.out).mono ?_; rintro e w405 ⟨rfl, b⟩; have lz405 := (show Below _ _ _ from b).size; replace GB := hid (below_step GB.out b); clear b; refine hK.out _ _ (fun _ => KB.out _ GB.out) ?_; clear hK; refine zBA [(29, (.bool false)), (30, (.bool false))] 2 ?_ (KB.out _ GB.out) ?_
  ·simp only [zJA, gA9, g09, g19, Act.put, sI9, s09, s19]; (repeat' (first | exact trivial | refine And.intro (Or.inl ⟨by rfl, ?_⟩) ?_)) <;> (intro w hSw; (try dsimp only at hSw); go_simp)
  simp only [actV, gA9, g09, g19, Act.put, sI9, s09, s19]; refine zAA (i := 31) (o := ⟨some 107, .pick (.tmp 96) (.const (.bool true)) (.tmp 106), 4, "outright.go:175", #[⟨20, .data⟩, ⟨30, .data⟩], none⟩) (by kernel_rfl) rfl (fun K hK => ?_); go_simp; refine hK.out _ _ (fun h => absurd h (by decide)) ?_; clear hK
  try simp only [Act.put]
  refine zDA (by kernel_rfl) ?_ _; clear KB; replace PA := hid (PA.out.step GB.out); replace MA := hid (MA.out.now GB.out); replace Zg := hid (Zg.out.now GB.out); replace Dg := hid (Dg.out.step GB.out); replace MC := hid (MC.out.now GB.out); replace PC := hid (PC.out.step GB.out); replace G := hid (below_step G.out GB.out); clear GB cg0 cg1 cC2; clear ZA
  by_cases hk0 : k = 0
  ·have qk0 : decide ((0 : Int) < (k : Int)) = false := decide_eq_false (by omega)
   have qk1 : ¬ 0 < k := by omega
   clear hk0; have cA0 := PA.out.at (i := 0) rfl; go_upto_region 25 with fail
   go_cut [158] from 136 (fun s1 wx => s1 = .bool (decide (iv < 0 ∨ jv < 0 ∨ (r : Int) ≤ iv ∨ (r : Int) ≤ jv ∨ iv = jv)) ∧ wx = w405)
   case first =>
    by_cases ht0 : iv < 0
    ·have qt0 : decide (iv < 0) = true := decide_eq_true ht0
     go_wp2_with fail; go_meet; exact ⟨congrArg Value.bool (decide_eq_true (p := iv < 0 ∨ jv < 0 ∨ (r : Int) ≤ iv ∨ (r : Int) ≤ jv ∨ iv = jv) (by omega)).symm, rfl⟩
    have qt0 : decide (iv < 0) = false := decide_eq_false ht0
    by_cases ht1 : jv < 0
    ·have qt1 : decide (jv < 0) = true := decide_eq_true ht1
     go_wp2_with fail; go_meet; exact ⟨congrArg Value.bool (decide_eq_true (p := iv < 0 ∨ jv < 0 ∨ (r : Int) ≤ iv ∨ (r : Int) ≤ jv ∨ iv = jv) (by omega)).symm, rfl⟩
    have qt1 : decide (jv < 0) = false := decide_eq_false ht1
    by_cases ht2 : (r : Int) ≤ iv
    ·have qt2 : decide ((r : Int) ≤ iv) = true := decide_eq_true ht2
     go_wp2_with fail; go_meet; exact ⟨congrArg Value.bool (decide_eq_true (p := iv < 0 ∨ jv < 0 ∨ (r : Int) ≤ iv ∨ (r : Int) ≤ jv ∨ iv = jv) (by omega)).symm, rfl⟩
    have qt2 : decide ((r : Int) ≤ iv) = false := decide_eq_false ht2
    by_cases ht3 : (r : Int) ≤ jv
    ·have qt3 : decide ((r : Int) ≤ jv) = true := decide_eq_true ht3
     go_wp2_with fail; go_meet; exact ⟨congrArg Value.bool (decide_eq_true (p := iv < 0 ∨ jv < 0 ∨ (r : Int) ≤ iv ∨ (r : Int) ≤ jv ∨ iv = jv) (by omega)).symm, rfl⟩
    have qt3 : decide ((r : Int) ≤ jv) = false := decide_eq_false ht3
    by_cases ht4 : iv = jv
    ·have qt4 : (iv == jv) = true := by simpa using ht4
     have HT4 := hid ht4; clear ht4; go_wp2_with fail; go_meet; exact ⟨congrArg Value.bool (decide_eq_true (p := iv < 0 ∨ jv < 0 ∨ (r : Int) ≤ iv ∨ (r : Int) ≤ jv ∨ iv = jv) (by have := HT4.out; omega)).symm, rfl⟩
    have qt4 : (iv == jv) = false := by simpa using ht4
    go_wp2_with fail; go_meet; exact ⟨congrArg Value.bool (decide_eq_false (p := iv < 0 ∨ jv < 0 ∨ (r : Int) ≤ iv ∨ (r : Int) ≤ jv ∨ iv = jv) (by omega)).symm, rfl⟩
   case rest =>
   obtain ⟨rfl, hwc⟩ := hcut; rw [hwc]; clear hwc wc
   by_cases hbad : iv < 0 ∨ jv < 0 ∨ (r : Int) ≤ iv ∨ (r : Int) ≤ jv ∨ iv = jv
   ·have hd : decide (iv < 0 ∨ jv < 0 ∨ (r : Int) ≤ iv ∨ (r : Int) ≤ jv ∨ iv = jv) = true := decide_eq_true hbad
    rw [hd]; go_wp2; go_ret; exact ⟨rfl, G.out⟩
   have hd : decide (iv < 0 ∨ jv < 0 ∨ (r : Int) ≤ iv ∨ (r : Int) ≤ jv ∨ iv = jv) = false := decide_eq_false hbad; rw [hd]; clear hd; obtain ⟨i, rfl⟩ : ∃ i : Nat, iv = (i : Int) := ⟨iv.toNat, by omega⟩
   obtain ⟨j, rfl⟩ : ∃ j : Nat, jv = (j : Int) := ⟨jv.toNat, by omega⟩
   have hir : i < r := by omega
   have hjr : j < r := by omega
   have hij : i ≠ j := by omega
   have cA1 := PA.out.at (i := 1) rfl; have cA2 := PA.out.at (i := 2) rfl; go_wp2_with fail; clear cA0 cA1 cA2; clear MC; clear PC; have hPAb := PA.out.blk; have hDgb := Dg.out.blk; refine (zbB MA.out).mono ?_; rintro e w30 ⟨gz, nz, ps, rfl, hgz, hpl, harr, hzms, b⟩; replace PA := hid (PA.out.step b); replace MA := hid (MA.out.now b); replace Zg := hid (Zg.out.now b); replace Dg := hid (Dg.out.step b); replace G := hid (below_step G.out b); have hnz : nz = la := by rw [← hpl, hzms.1, HXL.out, ELA.out]
   subst hnz; have hxz : xs = zF r c (en c xs) := zAF (r := r) (c := c) HXL.out (zNB _ _ _) fun a b_ ha hb => by rw [zZE ha hb]; rfl
   have haz : AZ w30 gz (zF r c (rsF A i j 0)) (kk + 1) := by
    rw [zbD, ← EA.out, ← hxz]; exact ⟨ps, harr, hzms.1, fun j_ p z hp hz => (hzms.2 j_ p z hp hz).more (by omega)⟩
   have AZ0 := hid haz; have HGZ : Hid (w.heap.size < gz ∧ bG ≠ gz) := ⟨by omega, by omega⟩
   clear harr hzms hxz haz hpl hgz; clear b; have HGL : Hid (gz < w30.heap.size) := AZ0.out.blk; obtain ⟨V31, hV⟩ : ∃ V31, w30.alloc (.cells #[.int .i64 ((r : Int)), .int .i64 ((c : Int)), .slice (some ⟨gz, 0, none⟩) nz nz] 24) = V31 := ⟨_, rfl⟩
   obtain ⟨b, sz31⟩ := alo1 w30 (.cells #[.int .i64 ((r : Int)), .int .i64 ((c : Int)), .slice (some ⟨gz, 0, none⟩) nz nz] 24); rw [hV] at b sz31; replace PA := hid (PA.out.step b); replace MA := hid (MA.out.now b); replace Zg := hid (Zg.out.now b); replace Dg := hid (Dg.out.step b); replace AZ0 := hid (AZ0.out.step b); replace G := hid (below_step G.out b); clear b sz31; have PB : Hid (Cel V31 w30.heap.size 24 [.int .i64 ((r : Int)), .int .i64 ((c : Int)), .slice (some ⟨gz, 0, none⟩) nz nz]) := by unfold Hid; rw [← hV]; exact Cel.new w30 _ _
   have HN4 : Hid (w30.heap.size ≠ gz) := by unfold Hid; have := HGL.out; omega
   obtain ⟨bB, hbB⟩ : ∃ bB, w30.heap.size = bB := ⟨_, rfl⟩
   rw [hbB] at PB HN4; have H0 : Hid (GlH V31 gz r c i j (kk + 1) A c (.int .i64 0) V31) := ⟨0, rfl, Nat.zero_le _, by omega, AZ0.out, zNA.refl _ _⟩
   have EV : Hid (w30.alloc (.cells #[.int .i64 ((r : Int)), .int .i64 ((c : Int)), .slice (some ⟨gz, 0, none⟩) nz nz] 24) = V31) := hV; clear hV; go_wp2_with fail; rw [EV.out]; clear EV hbB
   go_loopg [21] c (fun gk s21 wx => GlH V31 gz r c i j (kk + 1) A gk s21 wx)
   case atStart => exact H0.out
   case round =>
    clear H0; obtain ⟨u, rfl, huc, hgk, haz, htw⟩ := hrel; have AZ1 := hid haz; have TW := hid htw; have HG := hid hgk; have TY : Hid (Ty 37 V31 wr) := AZ0.out.touch TW.out; have PA1 : Hid (Cel wr w.heap.size 24 [.int .i64 (r : Int), .int .i64 (c : Int), .slice aa nz qa]) := (TW.out.block _ PA.out.blk (by have := HGZ.out.1; omega)).trans PA.out; have PB1 : Hid (Cel wr bB 24 [.int .i64 (r : Int), .int .i64 (c : Int), .slice (some ⟨gz, 0, none⟩) nz nz]) := (TW.out.block _ PB.out.blk HN4.out).trans PB.out; have Dg1 : Hid (Duo wr bG (.bool ng) (.slice ag lg cg)) := (TW.out.block _ Dg.out.blk HGZ.out.2).trans Dg.out; have Zg1 := hid (Zg.out.ty TY.out (by decide)); have G1 : Hid (Below w.heap.size w wr) := G.out.trans ⟨TW.out.os, TW.out.tape, TW.out.output, TW.out.size, fun b hb => TW.out.block b (by have := G.out.size; omega) (by have := HGZ.out.1; omega)⟩; clear haz htw hgk; have cA1 := PA1.out.at (i := 1) rfl
    by_cases hlt : u < c
    ·have hlt' : (u : Int) < (c : Int) := by omega
     have hwu := zSA (i := u) (by omega); have HMM : Hid (c - (u + 1) < gk) := by unfold Hid; rw [HG.out]; omega
     clear HG; obtain ⟨nx, ax, lx_, cx, x0, x1, x2, x3, zx⟩ := AZ1.out.at hir hlt; obtain ⟨ny, ay, ly, cy, y0, y1, -, -, zy⟩ := AZ1.out.at hjr hlt; have hmi : i * c ≤ 64 * 64 := Nat.mul_le_mul (by omega) hc64; have hmj : j * c ≤ 64 * 64 := Nat.mul_le_mul (by omega) hc64; have hpi : i * c + u < nz := by rw [← ELA.out]; exact zxB hir hlt
     have hpj : j * c + u < nz := by rw [← ELA.out]; exact zxB hjr hlt
     have hi1 : (i : Int) * (c : Int) = ((i * c : Nat) : Int) := by simp
     have hj1 : (j : Int) * (c : Int) = ((j * c : Nat) : Int) := by simp
     have zx' : Zm 0 wr (.agg #[.bool nx, .slice ax lx_ cx]) (A i u) (kk + 1) := by
      have e : rsF A i j u i u = A i u := if_neg (by omega); rw [e] at zx; exact zx
     have zy' : Zm 0 wr (.agg #[.bool ny, .slice ay ly cy]) (A j u) (kk + 1) := by
      have e : rsF A i j u j u = A j u := if_neg (by omega); rw [e] at zy; exact zy
     have ZX := hid zx'; have ZY := hid zy'; have HFT : Hid (((A i u - A j u).natAbs : Int) < pw (kk + 1)) := by
      have key : ∀ a, a < r → ((A a u).natAbs : Int) < pw kk := fun a ha => by
       refine HZA.out _ ?_; rw [← EA.out]; have h : a * c + u < xs.length := by rw [HXL.out]; exact zxB ha hlt
       show xs.getD (a * c + u) 0 ∈ xs
       rw [List.getD_eq_getElem?_getD, List.getElem?_eq_getElem h]; exact List.getElem_mem h
      exact zcD (key i hir) (key j hjr)
     obtain ⟨ic, hic⟩ : ∃ ic, i * c = ic := ⟨_, rfl⟩
     obtain ⟨jc, hjc⟩ : ∃ jc, j * c = jc := ⟨_, rfl⟩
     have EIC := hid hic; rw [hic] at hmi hpi hi1 x0 x1 x2 x3; rw [hjc] at hmj hpj hj1 y0 y1; have hi2 : IntKind.i64.wrap ((i : Int) * (c : Int)) = (ic : Int) := by rw [hi1, zKA] <;> omega
     have hj2 : IntKind.i64.wrap ((j : Int) * (c : Int)) = (jc : Int) := by rw [hj1, zKA] <;> omega
     obtain ⟨pi, hpie⟩ : ∃ pi, ic + u = pi := ⟨_, rfl⟩
     obtain ⟨pj, hpje⟩ : ∃ pj, jc + u = pj := ⟨_, rfl⟩
     have hi3 : IntKind.i64.wrap ((ic : Int) + (u : Int)) = (pi : Int) := by rw [zKA] <;> omega
     have hj3 : IntKind.i64.wrap ((jc : Int) + (u : Int)) = (pj : Int) := by rw [zKA] <;> omega
     have EPI := hid hpie; rw [hpie] at hpi x0 x1 x2 x3; rw [hpje] at hpj y0 y1; have hpi' : (pi : Int) < (nz : Int) := by omega
     have hpj' : (pj : Int) < (nz : Int) := by omega
     have cB2 := PB1.out.at (i := 2) rfl; clear zx zy zx' zy' hic hjc hpie hpje hi1 hj1; go_wp2_with fail; have KB : Hid (∀ w', Below wr.heap.size wr w' → w'.cell? ⟨w.heap.size, 1, none⟩ = some (.int .i64 (c : Int)) ∧ w'.cell? ⟨bB, 2, none⟩ = some (.slice (some ⟨gz, 0, none⟩) nz nz) ∧ w'.cell? ⟨gz, pi * 2, none⟩ = some (.bool nx) ∧ w'.cell? ⟨gz, pi * 2 + 1, none⟩ = some (.slice ax lx_ cx) ∧ w'.cell? ⟨gz, pj * 2, none⟩ = some (.bool ny) ∧ w'.cell? ⟨gz, pj * 2 + 1, none⟩ = some (.slice ay ly cy)) := fun w' h => ⟨cnow h cA1, cnow h cB2, cnow h x0, cnow h x1, cnow h y0, cnow h y1⟩
     refine zCA (fun w' => w'.cell? ⟨w.heap.size, 1, none⟩ = some (.int .i64 (c : Int)) ∧ w'.cell? ⟨bB, 2, none⟩ = some (.slice (some ⟨gz, 0, none⟩) nz nz) ∧ w'.cell? ⟨gz, pi * 2, none⟩ = some (.bool nx) ∧ w'.cell? ⟨gz, pi * 2 + 1, none⟩ = some (.slice ax lx_ cx) ∧ w'.cell? ⟨gz, pj * 2, none⟩ = some (.bool ny) ∧ w'.cell? ⟨gz, pj * 2 + 1, none⟩ = some (.slice ay ly cy)) 30 (by kernel_rfl) ?_; obtain ⟨D501, hD⟩ : ∃ D501, wr.drew = D501 := ⟨_, rfl⟩
     have GB : Hid (Below wr.heap.size wr D501) := by unfold Hid; rw [← hD]; exact (Below.refl _ _).drew
     rw [hD]; clear hD; refine zBA [(0, (.pointer (some ⟨bB, 2, none⟩))), (1, (.slice (some ⟨gz, 0, none⟩) nz nz)), (2, (.int .i64 (i : Int))), (3, (.pointer (some ⟨w.heap.size, 1, none⟩))), (4, (.int .i64 (c : Int))), (5, (.int .i64 (ic : Int))), (6, (.int .i64 (u : Int))), (7, (.int .i64 (pi : Int))), (8, (.pointer (some ⟨bB, 2, none⟩))), (9, (.slice (some ⟨gz, 0, none⟩) nz nz)), (10, (.int .i64 (i : Int))), (11, (.pointer (some ⟨w.heap.size, 1, none⟩))), (12, (.int .i64 (c : Int))), (13, (.int .i64 (ic : Int))), (14, (.int .i64 (u : Int))), (15, (.int .i64 (pi : Int))), (16, (.pointer (some ⟨gz, pi * 2, none⟩))), (17, (.agg #[.bool nx, .slice ax lx_ cx])), (18, (.pointer (some ⟨bB, 2, none⟩))), (19, (.slice (some ⟨gz, 0, none⟩) nz nz)), (20, (.int .i64 (j : Int))), (21, (.pointer (some ⟨w.heap.size, 1, none⟩))), (22, (.int .i64 (c : Int))), (23, (.int .i64 (jc : Int))), (24, (.int .i64 (u : Int))), (25, (.int .i64 (pj : Int))), (26, (.pointer (some ⟨gz, pj * 2, none⟩))), (27, (.agg #[.bool ny, .slice ay ly cy]))] 28 ?_ (KB.out _ GB.out) ?_
     ·simp only [zJA, gA9, g09, g19, Act.put, sI9, s09, s19]; (repeat' (first | exact trivial | refine And.intro (Or.inl ⟨by rfl, ?_⟩) ?_)) <;> (intro w hSw; (try dsimp only at hSw); go_simp)
     simp only [actV, gA9, g09, g19, Act.put, sI9, s09, s19]; refine zAA (i := 28) (o := ⟨some 198, .call { callee := .value (.func 21), args := #[.tmp 187, .tmp 197], argTypes := #[37, 37] }, 37, "outright.go:199", #[⟨17, .data⟩, ⟨27, .data⟩], none⟩) (by kernel_rfl) rfl (fun K hK => ?_); go_simp; go_at_call 21; refine (zzC (ZX.out.now GB.out).zi (ZY.out.now GB.out).zi (by omega) (by omega)).mono ?_; rintro e w502 ⟨r1, rfl, m1, b⟩; have lz502 := (show Below _ _ _ from b).size; replace GB := hid (below_step GB.out b); have MS := hid ((m1.mono (Nat.zero_le _)).fit HFT.out); obtain ⟨nm, xm, am, cm_, rfl⟩ := m1.parts; obtain ⟨lm, hlm⟩ : ∃ lm, xm.length = lm := ⟨_, rfl⟩
     rw [hlm] at MS ⊢; clear m1 hlm; clear b; refine hK.out _ _ (fun _ => KB.out _ GB.out) ?_; clear hK; refine zBA [(29, (.pointer (some ⟨gz, pi * 2, none⟩)))] 1 ?_ (KB.out _ GB.out) ?_
     ·simp only [zJA, gA9, g09, g19, Act.put, sI9, s09, s19]; (repeat' (first | exact trivial | refine And.intro (Or.inl ⟨by rfl, ?_⟩) ?_)) <;> (intro w hSw; (try dsimp only at hSw); go_simp)
     simp only [actV, gA9, g09, g19, Act.put, sI9, s09, s19]; refine zAA (i := 30) (o := ⟨none, .store 37 (.tmp 199) (.tmp 198), 0, "outright.go:199", #[⟨29, .data⟩, ⟨28, .data⟩, ⟨28, .chain⟩, ⟨0, .phase⟩, ⟨1, .phase⟩, ⟨2, .phase⟩, ⟨3, .phase⟩, ⟨4, .phase⟩, ⟨5, .phase⟩, ⟨6, .phase⟩, ⟨7, .phase⟩, ⟨8, .phase⟩, ⟨9, .phase⟩, ⟨10, .phase⟩, ⟨11, .phase⟩, ⟨12, .phase⟩, ⟨13, .phase⟩, ⟨14, .phase⟩, ⟨15, .phase⟩, ⟨16, .phase⟩, ⟨17, .phase⟩, ⟨18, .phase⟩, ⟨19, .phase⟩, ⟨20, .phase⟩, ⟨21, .phase⟩, ⟨22, .phase⟩, ⟨23, .phase⟩, ⟨24, .phase⟩, ⟨25, .phase⟩, ⟨26, .phase⟩, ⟨27, .phase⟩, ⟨28, .phase⟩], none⟩) (by kernel_rfl) rfl (fun K hK => ?_); have AZ2 := hid (AZ1.out.step GB.out); obtain ⟨_, _, _, _, f0, f1, f2, f3, -⟩ := AZ2.out.at hir hlt; rw [EIC.out, EPI.out] at f0 f1 f2 f3; go_simp; clear f0 f1 f2 f3; obtain ⟨V503, hW⟩ : ∃ V503, ((w502.setCell ⟨gz, pi * 2, none⟩ (.bool nm)).setCell ⟨gz, pi * 2 + 1, none⟩ (.slice am lm cm_)) = V503 := ⟨_, rfl⟩
     have HN1 : Hid (GlH V31 gz r c i j (kk + 1) A (c - (u + 1)) (.int .i64 ((u + 1 : Nat) : Int)) V503) := by
      unfold Hid; have u1 := AZ2.out.put hir hlt (z := A i u - A j u) MS.out; rw [zvE, EIC.out, EPI.out, hW] at u1; refine ⟨u + 1, rfl, by omega, rfl, u1, ?_⟩; rw [← hW]; exact ((TW.out.trans (.ofBelow GB.out)).setCell (.inr rfl) _ _).setCell (.inr rfl) _ _
     rw [hW]; clear hW; refine hK.out _ _ (fun h => absurd h (by decide)) ?_; clear hK
     try simp only [Act.put]
     refine zDA (by kernel_rfl) ?_ _; clear GB KB AZ2 AZ1 TW MS ZX ZY x0 x1 x2 x3 y0 y1 cB2 cA1; go_wp2_with fail; go_roundg (c - (u + 1))
     case rel => exact HN1.out
     case measure => exact HMM.out
    ·have hlt' : ¬ (u : Int) < (c : Int) := by omega
     obtain rfl : u = c := by omega
     clear HG; have MB := hid (AZ1.out.mx hr64 hc64); have HGB := hid (zBC MB.out (by omega) hkr hkc hc); rw [ELA.out] at HGB; have HEB : Hid (gcs (cpL (en u (zF r u (rsF A i j u))) r u k (cho u k) (cho r k) 0) = gd9) := by
      unfold Hid; rw [← EGK.out]; refine zfD hir hjr hij fun a b ha hb => ?_
      show (zF r u (rsF A i j u)).getD (a * u + b) 0 = _
      rw [zZE ha hb]; unfold rsF
      by_cases q : a = i
      ·subst q; rw [if_pos ⟨rfl, hb⟩, if_pos rfl]
      ·rw [if_neg (fun h => q h.1), if_neg q]
     rw [HEB.out] at HGB; have cB0 := PB1.out.at (i := 0) rfl; have cB1 := PB1.out.at (i := 1) rfl; have cB2 := PB1.out.at (i := 2) rfl; clear G; have G := G1; clear G1; go_wp2_with fail; clear cA1 cB0 cB1 cB2; refine (HGB.out).mono ?_; rintro e w32 ⟨vz9, rfl, m, b⟩; replace Dg1 := hid (Dg1.out.step b); replace Zg1 := hid (Zg1.out.now b); replace G := hid (below_step G.out b); obtain ⟨nz9, xz9_, az9, cz9, rfl⟩ := m.parts; obtain ⟨lz9, hl_⟩ : ∃ lz9, xz9_.length = lz9 := ⟨_, rfl⟩
     rw [hl_] at m ⊢; have Zz9 := hid (m.mono (Nat.zero_le _)); clear m hl_; clear b; obtain ⟨V33, hV⟩ : ∃ V33, w32.alloc (duo (.bool nz9) (.slice az9 lz9 cz9)) = V33 := ⟨_, rfl⟩
     obtain ⟨b, sz33⟩ := alo1 w32 (duo (.bool nz9) (.slice az9 lz9 cz9)); rw [hV] at b sz33; replace Dg1 := hid (Dg1.out.step b); replace Zg1 := hid (Zg1.out.now b); replace Zz9 := hid (Zz9.out.now b); replace G := hid (below_step G.out b); clear b sz33; have Dz : Hid (Duo V33 w32.heap.size (.bool nz9) (.slice az9 lz9 cz9)) := by unfold Hid; rw [← hV]; exact Duo.new w32 _ _
     have cz0 := Dz.out.c0; have cz1 := Dz.out.c1; have ch0 := Dg1.out.c0; have ch1 := Dg1.out.c1; rw [← hV] at cz0 cz1 ch0 ch1; have EV : Hid (w32.alloc (duo (.bool nz9) (.slice az9 lz9 cz9)) = V33) := hV; clear hV; go_wp2_with fail; rw [EV.out]; clear EV; clear cz0 cz1 ch0 ch1; refine (zMC Zz9.out.zc Zg1.out.zc rfl).mono ?_; rintro e w34 ⟨rfl, b⟩; replace Dg1 := hid (Dg1.out.step b); replace Zg1 := hid (Zg1.out.now b); replace Zz9 := hid (Zz9.out.now b); replace Dz := hid (Dz.out.step b); replace G := hid (below_step G.out b); clear b; go_wp2; go_ret; exact ⟨rfl, G.out⟩
  ·have qk0 : decide ((0 : Int) < (k : Int)) = true := decide_eq_true (by omega)
   have qk1 : 0 < k := by omega
   obtain ⟨k', hk'⟩ : ∃ k', k = k' + 1 := ⟨k - 1, by omega⟩
   have hwk : IntKind.i64.wrap ((k : Int) - 1) = (k' : Int) := by rw [zKA] <;> omega
   have hkr' : k' ≤ r := by omega
   have hkc' : k' ≤ c := by omega
   have HKP := hid hk'; clear hk' hk0; have cA0 := PA.out.at (i := 0) rfl; have cA1 := PA.out.at (i := 1) rfl; have cA2 := PA.out.at (i := 2) rfl; go_wp2_with fail; clear cA0 cA1 cA2
   by_cases hl : cho r k' * cho c k' ≤ 4096
   ·have HGL := hid (zBC MA.out (by omega) hkr' hkc' hl)
    rw [EA.out] at HGL; obtain ⟨lk, hlk⟩ : ∃ lk, gcs (cpL A r c k' (cho c k') (cho r k') 0) = lk := ⟨_, rfl⟩
    rw [hlk] at HGL; have hdv : lk ∣ gd9 := by
     rw [← hlk, ← EGK.out, HKP.out]; exact zzG
    clear hlk; refine (HGL.out).mono ?_; rintro e w35 ⟨vl, rfl, m, b⟩; replace PA := hid (PA.out.step b); replace MA := hid (MA.out.now b); replace Zg := hid (Zg.out.now b); replace Dg := hid (Dg.out.step b); replace MC := hid (MC.out.now b); replace PC := hid (PC.out.step b); replace G := hid (below_step G.out b); obtain ⟨nl, xl_, al, cl, rfl⟩ := m.parts; obtain ⟨ll, hl_⟩ : ∃ ll, xl_.length = ll := ⟨_, rfl⟩
    rw [hl_] at m ⊢; have Zl := hid (m.mono (Nat.zero_le _)); clear m hl_; clear b; clear HGL; obtain ⟨V36, hV⟩ : ∃ V36, w35.alloc (duo (.bool nl) (.slice al ll cl)) = V36 := ⟨_, rfl⟩
    obtain ⟨b, sz36⟩ := alo1 w35 (duo (.bool nl) (.slice al ll cl)); rw [hV] at b sz36; replace PA := hid (PA.out.step b); replace MA := hid (MA.out.now b); replace Zg := hid (Zg.out.now b); replace Dg := hid (Dg.out.step b); replace MC := hid (MC.out.now b); replace PC := hid (PC.out.step b); replace Zl := hid (Zl.out.now b); replace G := hid (below_step G.out b); clear b sz36; have Dl : Hid (Duo V36 w35.heap.size (.bool nl) (.slice al ll cl)) := by unfold Hid; rw [← hV]; exact Duo.new w35 _ _
    have cl0 := Dl.out.c0; have cl1 := Dl.out.c1; rw [← hV] at cl0 cl1; have EV : Hid (w35.alloc (duo (.bool nl) (.slice al ll cl)) = V36) := hV; clear hV; go_wp2_with fail; rw [EV.out]; clear EV; clear cl0 cl1; refine (zuA Zl.out.zi).mono ?_; rintro e w37 ⟨rfl, b⟩; replace PA := hid (PA.out.step b); replace MA := hid (MA.out.now b); replace Zg := hid (Zg.out.now b); replace Dg := hid (Dg.out.step b); replace MC := hid (MC.out.now b); replace PC := hid (PC.out.step b); replace Zl := hid (Zl.out.now b); replace Dl := hid (Dl.out.step b); replace G := hid (below_step G.out b); clear b
    by_cases hl0 : lk = 0
    ·have hgz : gd9 = 0 := by rw [hl0] at hdv; exact Int.zero_dvd.1 hdv
     rw [show cmpI lk 0 = 0 by rw [hl0]; rfl]; have cg0 := Dg.out.c0; have cg1 := Dg.out.c1; go_wp2_with fail; clear cg0 cg1; refine (zuA Zg.out.zi).mono ?_; rintro e w38 ⟨rfl, b⟩; replace PA := hid (PA.out.step b); replace MA := hid (MA.out.now b); replace Zg := hid (Zg.out.now b); replace Dg := hid (Dg.out.step b); replace MC := hid (MC.out.now b); replace PC := hid (PC.out.step b); replace Zl := hid (Zl.out.now b); replace Dl := hid (Dl.out.step b); replace G := hid (below_step G.out b); rw [show cmpI gd9 0 = 0 by rw [hgz]; rfl]; clear b; go_wp2; go_ret; exact ⟨rfl, G.out⟩
    ·obtain ⟨cl_, hcl⟩ : ∃ cl_, cmpI lk 0 = cl_ := ⟨_, rfl⟩
     have hcl0 : ¬ cl_ = 0 := by
      rw [← hcl]; unfold cmpI
      split <;> (try split) <;> omega
     have hcl1 : (cl_ == 0) = false := by simpa using hcl0
     rw [hcl]; clear hcl; have cg0 := Dg.out.c0; have cg1 := Dg.out.c1; have cl0 := Dl.out.c0; have cl1 := Dl.out.c1; go_wp2_with fail; clear cg0 cg1 cl0 cl1; have HMO := hid (zhJ Zg.out.zi Zl.out.zi hl0 (by omega) (by omega)); rw [Int.emod_eq_zero_of_dvd hdv] at HMO; refine (HMO.out).mono ?_; rintro e w39 ⟨vq, rfl, m, b⟩; replace PA := hid (PA.out.step b); replace MA := hid (MA.out.now b); replace Zg := hid (Zg.out.now b); replace Dg := hid (Dg.out.step b); replace MC := hid (MC.out.now b); replace PC := hid (PC.out.step b); replace Zl := hid (Zl.out.now b); replace Dl := hid (Dl.out.step b); replace G := hid (below_step G.out b); obtain ⟨nq, xq_, aq, cq, rfl⟩ := m.parts; obtain ⟨lq, hl_⟩ : ∃ lq, xq_.length = lq := ⟨_, rfl⟩
     rw [hl_] at m ⊢; have Zq := hid (m.mono (Nat.zero_le _)); clear m hl_; clear b; clear HMO; obtain ⟨V40, hV⟩ : ∃ V40, w39.alloc (duo (.bool nq) (.slice aq lq cq)) = V40 := ⟨_, rfl⟩
     obtain ⟨b, sz40⟩ := alo1 w39 (duo (.bool nq) (.slice aq lq cq)); rw [hV] at b sz40; replace PA := hid (PA.out.step b); replace MA := hid (MA.out.now b); replace Zg := hid (Zg.out.now b); replace Dg := hid (Dg.out.step b); replace MC := hid (MC.out.now b); replace PC := hid (PC.out.step b); replace Zl := hid (Zl.out.now b); replace Dl := hid (Dl.out.step b); replace Zq := hid (Zq.out.now b); replace G := hid (below_step G.out b); clear b sz40; have Dq : Hid (Duo V40 w39.heap.size (.bool nq) (.slice aq lq cq)) := by unfold Hid; rw [← hV]; exact Duo.new w39 _ _
     have cq0 := Dq.out.c0; have cq1 := Dq.out.c1; rw [← hV] at cq0 cq1; have EV : Hid (w39.alloc (duo (.bool nq) (.slice aq lq cq)) = V40) := hV; clear hV; go_wp2_with fail; rw [EV.out]; clear EV; clear cq0 cq1; refine (zuA Zq.out.zi).mono ?_; rintro e w41 ⟨rfl, b⟩; replace PA := hid (PA.out.step b); replace MA := hid (MA.out.now b); replace Zg := hid (Zg.out.now b); replace Dg := hid (Dg.out.step b); replace MC := hid (MC.out.now b); replace PC := hid (PC.out.step b); replace Zl := hid (Zl.out.now b); replace Dl := hid (Dl.out.step b); replace Zq := hid (Zq.out.now b); replace Dq := hid (Dq.out.step b); replace G := hid (below_step G.out b); rw [show cmpI (0 : Int) 0 = 0 from rfl]; clear b; have cA0 := PA.out.at (i := 0) rfl; go_upto_region 25 with fail
     go_cut [158] from 136 (fun s1 wx => s1 = .bool (decide (iv < 0 ∨ jv < 0 ∨ (r : Int) ≤ iv ∨ (r : Int) ≤ jv ∨ iv = jv)) ∧ wx = w41)
     case first =>
      by_cases ht0 : iv < 0
      ·have qt0 : decide (iv < 0) = true := decide_eq_true ht0
       go_wp2_with fail; go_meet; exact ⟨congrArg Value.bool (decide_eq_true (p := iv < 0 ∨ jv < 0 ∨ (r : Int) ≤ iv ∨ (r : Int) ≤ jv ∨ iv = jv) (by omega)).symm, rfl⟩
      have qt0 : decide (iv < 0) = false := decide_eq_false ht0
      by_cases ht1 : jv < 0
      ·have qt1 : decide (jv < 0) = true := decide_eq_true ht1
       go_wp2_with fail; go_meet; exact ⟨congrArg Value.bool (decide_eq_true (p := iv < 0 ∨ jv < 0 ∨ (r : Int) ≤ iv ∨ (r : Int) ≤ jv ∨ iv = jv) (by omega)).symm, rfl⟩
      have qt1 : decide (jv < 0) = false := decide_eq_false ht1
      by_cases ht2 : (r : Int) ≤ iv
      ·have qt2 : decide ((r : Int) ≤ iv) = true := decide_eq_true ht2
       go_wp2_with fail; go_meet; exact ⟨congrArg Value.bool (decide_eq_true (p := iv < 0 ∨ jv < 0 ∨ (r : Int) ≤ iv ∨ (r : Int) ≤ jv ∨ iv = jv) (by omega)).symm, rfl⟩
      have qt2 : decide ((r : Int) ≤ iv) = false := decide_eq_false ht2
      by_cases ht3 : (r : Int) ≤ jv
      ·have qt3 : decide ((r : Int) ≤ jv) = true := decide_eq_true ht3
       go_wp2_with fail; go_meet; exact ⟨congrArg Value.bool (decide_eq_true (p := iv < 0 ∨ jv < 0 ∨ (r : Int) ≤ iv ∨ (r : Int) ≤ jv ∨ iv = jv) (by omega)).symm, rfl⟩
      have qt3 : decide ((r : Int) ≤ jv) = false := decide_eq_false ht3
      by_cases ht4 : iv = jv
      ·have qt4 : (iv == jv) = true := by simpa using ht4
       have HT4 := hid ht4; clear ht4; go_wp2_with fail; go_meet; exact ⟨congrArg Value.bool (decide_eq_true (p := iv < 0 ∨ jv < 0 ∨ (r : Int) ≤ iv ∨ (r : Int) ≤ jv ∨ iv = jv) (by have := HT4.out; omega)).symm, rfl⟩
      have qt4 : (iv == jv) = false := by simpa using ht4
      go_wp2_with fail; go_meet; exact ⟨congrArg Value.bool (decide_eq_false (p := iv < 0 ∨ jv < 0 ∨ (r : Int) ≤ iv ∨ (r : Int) ≤ jv ∨ iv = jv) (by omega)).symm, rfl⟩
     case rest =>
     obtain ⟨rfl, hwc⟩ := hcut; rw [hwc]; clear hwc wc
     by_cases hbad : iv < 0 ∨ jv < 0 ∨ (r : Int) ≤ iv ∨ (r : Int) ≤ jv ∨ iv = jv
     ·have hd : decide (iv < 0 ∨ jv < 0 ∨ (r : Int) ≤ iv ∨ (r : Int) ≤ jv ∨ iv = jv) = true := decide_eq_true hbad
      rw [hd]; go_wp2; go_ret; exact ⟨rfl, G.out⟩
     have hd : decide (iv < 0 ∨ jv < 0 ∨ (r : Int) ≤ iv ∨ (r : Int) ≤ jv ∨ iv = jv) = false := decide_eq_false hbad; rw [hd]; clear hd; obtain ⟨i, rfl⟩ : ∃ i : Nat, iv = (i : Int) := ⟨iv.toNat, by omega⟩
     obtain ⟨j, rfl⟩ : ∃ j : Nat, jv = (j : Int) := ⟨jv.toNat, by omega⟩
     have hir : i < r := by omega
     have hjr : j < r := by omega
     have hij : i ≠ j := by omega
     have cA1 := PA.out.at (i := 1) rfl; have cA2 := PA.out.at (i := 2) rfl; go_wp2_with fail; clear cA0 cA1 cA2; clear MC; clear PC; clear Zl; clear Dl; clear Zq; clear Dq; have hPAb := PA.out.blk; have hDgb := Dg.out.blk; refine (zbB MA.out).mono ?_; rintro e w42 ⟨gz, nz, ps, rfl, hgz, hpl, harr, hzms, b⟩; replace PA := hid (PA.out.step b); replace MA := hid (MA.out.now b); replace Zg := hid (Zg.out.now b); replace Dg := hid (Dg.out.step b); replace G := hid (below_step G.out b); have hnz : nz = la := by rw [← hpl, hzms.1, HXL.out, ELA.out]
     subst hnz; have hxz : xs = zF r c (en c xs) := zAF (r := r) (c := c) HXL.out (zNB _ _ _) fun a b_ ha hb => by rw [zZE ha hb]; rfl
     have haz : AZ w42 gz (zF r c (rsF A i j 0)) (kk + 1) := by
      rw [zbD, ← EA.out, ← hxz]; exact ⟨ps, harr, hzms.1, fun j_ p z hp hz => (hzms.2 j_ p z hp hz).more (by omega)⟩
     have AZ0 := hid haz; have HGZ : Hid (w.heap.size < gz ∧ bG ≠ gz) := ⟨by omega, by omega⟩
     clear harr hzms hxz haz hpl hgz; clear b; have HGL : Hid (gz < w42.heap.size) := AZ0.out.blk; obtain ⟨V43, hV⟩ : ∃ V43, w42.alloc (.cells #[.int .i64 ((r : Int)), .int .i64 ((c : Int)), .slice (some ⟨gz, 0, none⟩) nz nz] 24) = V43 := ⟨_, rfl⟩
     obtain ⟨b, sz43⟩ := alo1 w42 (.cells #[.int .i64 ((r : Int)), .int .i64 ((c : Int)), .slice (some ⟨gz, 0, none⟩) nz nz] 24); rw [hV] at b sz43; replace PA := hid (PA.out.step b); replace MA := hid (MA.out.now b); replace Zg := hid (Zg.out.now b); replace Dg := hid (Dg.out.step b); replace AZ0 := hid (AZ0.out.step b); replace G := hid (below_step G.out b); clear b sz43; have PB : Hid (Cel V43 w42.heap.size 24 [.int .i64 ((r : Int)), .int .i64 ((c : Int)), .slice (some ⟨gz, 0, none⟩) nz nz]) := by unfold Hid; rw [← hV]; exact Cel.new w42 _ _
     have HN4 : Hid (w42.heap.size ≠ gz) := by unfold Hid; have := HGL.out; omega
     obtain ⟨bB, hbB⟩ : ∃ bB, w42.heap.size = bB := ⟨_, rfl⟩
     rw [hbB] at PB HN4; have H0 : Hid (GlH V43 gz r c i j (kk + 1) A c (.int .i64 0) V43) := ⟨0, rfl, Nat.zero_le _, by omega, AZ0.out, zNA.refl _ _⟩
     have EV : Hid (w42.alloc (.cells #[.int .i64 ((r : Int)), .int .i64 ((c : Int)), .slice (some ⟨gz, 0, none⟩) nz nz] 24) = V43) := hV; clear hV; go_wp2_with fail; rw [EV.out]; clear EV hbB
     go_loopg [21] c (fun gk s21 wx => GlH V43 gz r c i j (kk + 1) A gk s21 wx)
     case atStart => exact H0.out
     case round =>
      clear H0; obtain ⟨u, rfl, huc, hgk, haz, htw⟩ := hrel; have AZ1 := hid haz; have TW := hid htw; have HG := hid hgk; have TY : Hid (Ty 37 V43 wr) := AZ0.out.touch TW.out; have PA1 : Hid (Cel wr w.heap.size 24 [.int .i64 (r : Int), .int .i64 (c : Int), .slice aa nz qa]) := (TW.out.block _ PA.out.blk (by have := HGZ.out.1; omega)).trans PA.out; have PB1 : Hid (Cel wr bB 24 [.int .i64 (r : Int), .int .i64 (c : Int), .slice (some ⟨gz, 0, none⟩) nz nz]) := (TW.out.block _ PB.out.blk HN4.out).trans PB.out; have Dg1 : Hid (Duo wr bG (.bool ng) (.slice ag lg cg)) := (TW.out.block _ Dg.out.blk HGZ.out.2).trans Dg.out; have Zg1 := hid (Zg.out.ty TY.out (by decide)); have G1 : Hid (Below w.heap.size w wr) := G.out.trans ⟨TW.out.os, TW.out.tape, TW.out.output, TW.out.size, fun b hb => TW.out.block b (by have := G.out.size; omega) (by have := HGZ.out.1; omega)⟩; clear haz htw hgk; have cA1 := PA1.out.at (i := 1) rfl
      by_cases hlt : u < c
      ·have hlt' : (u : Int) < (c : Int) := by omega
       have hwu := zSA (i := u) (by omega); have HMM : Hid (c - (u + 1) < gk) := by unfold Hid; rw [HG.out]; omega
       clear HG; obtain ⟨nx, ax, lx_, cx, x0, x1, x2, x3, zx⟩ := AZ1.out.at hir hlt; obtain ⟨ny, ay, ly, cy, y0, y1, -, -, zy⟩ := AZ1.out.at hjr hlt; have hmi : i * c ≤ 64 * 64 := Nat.mul_le_mul (by omega) hc64; have hmj : j * c ≤ 64 * 64 := Nat.mul_le_mul (by omega) hc64; have hpi : i * c + u < nz := by rw [← ELA.out]; exact zxB hir hlt
       have hpj : j * c + u < nz := by rw [← ELA.out]; exact zxB hjr hlt
       have hi1 : (i : Int) * (c : Int) = ((i * c : Nat) : Int) := by simp
       have hj1 : (j : Int) * (c : Int) = ((j * c : Nat) : Int) := by simp
       have zx' : Zm 0 wr (.agg #[.bool nx, .slice ax lx_ cx]) (A i u) (kk + 1) := by
        have e : rsF A i j u i u = A i u := if_neg (by omega); rw [e] at zx; exact zx
       have zy' : Zm 0 wr (.agg #[.bool ny, .slice ay ly cy]) (A j u) (kk + 1) := by
        have e : rsF A i j u j u = A j u := if_neg (by omega); rw [e] at zy; exact zy
       have ZX := hid zx'; have ZY := hid zy'; have HFT : Hid (((A i u - A j u).natAbs : Int) < pw (kk + 1)) := by
        have key : ∀ a, a < r → ((A a u).natAbs : Int) < pw kk := fun a ha => by
         refine HZA.out _ ?_; rw [← EA.out]; have h : a * c + u < xs.length := by rw [HXL.out]; exact zxB ha hlt
         show xs.getD (a * c + u) 0 ∈ xs
         rw [List.getD_eq_getElem?_getD, List.getElem?_eq_getElem h]; exact List.getElem_mem h
        exact zcD (key i hir) (key j hjr)
       obtain ⟨ic, hic⟩ : ∃ ic, i * c = ic := ⟨_, rfl⟩
       obtain ⟨jc, hjc⟩ : ∃ jc, j * c = jc := ⟨_, rfl⟩
       have EIC := hid hic; rw [hic] at hmi hpi hi1 x0 x1 x2 x3; rw [hjc] at hmj hpj hj1 y0 y1; have hi2 : IntKind.i64.wrap ((i : Int) * (c : Int)) = (ic : Int) := by rw [hi1, zKA] <;> omega
       have hj2 : IntKind.i64.wrap ((j : Int) * (c : Int)) = (jc : Int) := by rw [hj1, zKA] <;> omega
       obtain ⟨pi, hpie⟩ : ∃ pi, ic + u = pi := ⟨_, rfl⟩
       obtain ⟨pj, hpje⟩ : ∃ pj, jc + u = pj := ⟨_, rfl⟩
       have hi3 : IntKind.i64.wrap ((ic : Int) + (u : Int)) = (pi : Int) := by rw [zKA] <;> omega
       have hj3 : IntKind.i64.wrap ((jc : Int) + (u : Int)) = (pj : Int) := by rw [zKA] <;> omega
       have EPI := hid hpie; rw [hpie] at hpi x0 x1 x2 x3; rw [hpje] at hpj y0 y1; have hpi' : (pi : Int) < (nz : Int) := by omega
       have hpj' : (pj : Int) < (nz : Int) := by omega
       have cB2 := PB1.out.at (i := 2) rfl; clear zx zy zx' zy' hic hjc hpie hpje hi1 hj1; go_wp2_with fail; have KB : Hid (∀ w', Below wr.heap.size wr w' → w'.cell? ⟨w.heap.size, 1, none⟩ = some (.int .i64 (c : Int)) ∧ w'.cell? ⟨bB, 2, none⟩ = some (.slice (some ⟨gz, 0, none⟩) nz nz) ∧ w'.cell? ⟨gz, pi * 2, none⟩ = some (.bool nx) ∧ w'.cell? ⟨gz, pi * 2 + 1, none⟩ = some (.slice ax lx_ cx) ∧ w'.cell? ⟨gz, pj * 2, none⟩ = some (.bool ny) ∧ w'.cell? ⟨gz, pj * 2 + 1, none⟩ = some (.slice ay ly cy)) := fun w' h => ⟨cnow h cA1, cnow h cB2, cnow h x0, cnow h x1, cnow h y0, cnow h y1⟩
       refine zCA (fun w' => w'.cell? ⟨w.heap.size, 1, none⟩ = some (.int .i64 (c : Int)) ∧ w'.cell? ⟨bB, 2, none⟩ = some (.slice (some ⟨gz, 0, none⟩) nz nz) ∧ w'.cell? ⟨gz, pi * 2, none⟩ = some (.bool nx) ∧ w'.cell? ⟨gz, pi * 2 + 1, none⟩ = some (.slice ax lx_ cx) ∧ w'.cell? ⟨gz, pj * 2, none⟩ = some (.bool ny) ∧ w'.cell? ⟨gz, pj * 2 + 1, none⟩ = some (.slice ay ly cy)) 30 (by kernel_rfl) ?_; obtain ⟨D601, hD⟩ : ∃ D601, wr.drew = D601 := ⟨_, rfl⟩
       have GB : Hid (Below wr.heap.size wr D601) := by unfold Hid; rw [← hD]; exact (Below.refl _ _).drew
       rw [hD]; clear hD; refine zBA [(0, (.pointer (some ⟨bB, 2, none⟩))), (1, (.slice (some ⟨gz, 0, none⟩) nz nz)), (2, (.int .i64 (i : Int))), (3, (.pointer (some ⟨w.heap.size, 1, none⟩))), (4, (.int .i64 (c : Int))), (5, (.int .i64 (ic : Int))), (6, (.int .i64 (u : Int))), (7, (.int .i64 (pi : Int))), (8, (.pointer (some ⟨bB, 2, none⟩))), (9, (.slice (some ⟨gz, 0, none⟩) nz nz)), (10, (.int .i64 (i : Int))), (11, (.pointer (some ⟨w.heap.size, 1, none⟩))), (12, (.int .i64 (c : Int))), (13, (.int .i64 (ic : Int))), (14, (.int .i64 (u : Int))), (15, (.int .i64 (pi : Int))), (16, (.pointer (some ⟨gz, pi * 2, none⟩))), (17, (.agg #[.bool nx, .slice ax lx_ cx])), (18, (.pointer (some ⟨bB, 2, none⟩))), (19, (.slice (some ⟨gz, 0, none⟩) nz nz)), (20, (.int .i64 (j : Int))), (21, (.pointer (some ⟨w.heap.size, 1, none⟩))), (22, (.int .i64 (c : Int))), (23, (.int .i64 (jc : Int))), (24, (.int .i64 (u : Int))), (25, (.int .i64 (pj : Int))), (26, (.pointer (some ⟨gz, pj * 2, none⟩))), (27, (.agg #[.bool ny, .slice ay ly cy]))] 28 ?_ (KB.out _ GB.out) ?_
       ·simp only [zJA, gA9, g09, g19, Act.put, sI9, s09, s19]; (repeat' (first | exact trivial | refine And.intro (Or.inl ⟨by rfl, ?_⟩) ?_)) <;> (intro w hSw; (try dsimp only at hSw); go_simp)
       simp only [actV, gA9, g09, g19, Act.put, sI9, s09, s19]; refine zAA (i := 28) (o := ⟨some 198, .call { callee := .value (.func 21), args := #[.tmp 187, .tmp 197], argTypes := #[37, 37] }, 37, "outright.go:199", #[⟨17, .data⟩, ⟨27, .data⟩], none⟩) (by kernel_rfl) rfl (fun K hK => ?_); go_simp; go_at_call 21; refine (zzC (ZX.out.now GB.out).zi (ZY.out.now GB.out).zi (by omega) (by omega)).mono ?_; rintro e w602 ⟨r1, rfl, m1, b⟩; have lz602 := (show Below _ _ _ from b).size; replace GB := hid (below_step GB.out b); have MS := hid ((m1.mono (Nat.zero_le _)).fit HFT.out); obtain ⟨nm, xm, am, cm_, rfl⟩ := m1.parts; obtain ⟨lm, hlm⟩ : ∃ lm, xm.length = lm := ⟨_, rfl⟩
       rw [hlm] at MS ⊢; clear m1 hlm; clear b; refine hK.out _ _ (fun _ => KB.out _ GB.out) ?_; clear hK; refine zBA [(29, (.pointer (some ⟨gz, pi * 2, none⟩)))] 1 ?_ (KB.out _ GB.out) ?_
       ·simp only [zJA, gA9, g09, g19, Act.put, sI9, s09, s19]; (repeat' (first | exact trivial | refine And.intro (Or.inl ⟨by rfl, ?_⟩) ?_)) <;> (intro w hSw; (try dsimp only at hSw); go_simp)
       simp only [actV, gA9, g09, g19, Act.put, sI9, s09, s19]; refine zAA (i := 30) (o := ⟨none, .store 37 (.tmp 199) (.tmp 198), 0, "outright.go:199", #[⟨29, .data⟩, ⟨28, .data⟩, ⟨28, .chain⟩, ⟨0, .phase⟩, ⟨1, .phase⟩, ⟨2, .phase⟩, ⟨3, .phase⟩, ⟨4, .phase⟩, ⟨5, .phase⟩, ⟨6, .phase⟩, ⟨7, .phase⟩, ⟨8, .phase⟩, ⟨9, .phase⟩, ⟨10, .phase⟩, ⟨11, .phase⟩, ⟨12, .phase⟩, ⟨13, .phase⟩, ⟨14, .phase⟩, ⟨15, .phase⟩, ⟨16, .phase⟩, ⟨17, .phase⟩, ⟨18, .phase⟩, ⟨19, .phase⟩, ⟨20, .phase⟩, ⟨21, .phase⟩, ⟨22, .phase⟩, ⟨23, .phase⟩, ⟨24, .phase⟩, ⟨25, .phase⟩, ⟨26, .phase⟩, ⟨27, .phase⟩, ⟨28, .phase⟩], none⟩) (by kernel_rfl) rfl (fun K hK => ?_); have AZ2 := hid (AZ1.out.step GB.out); obtain ⟨_, _, _, _, f0, f1, f2, f3, -⟩ := AZ2.out.at hir hlt; rw [EIC.out, EPI.out] at f0 f1 f2 f3; go_simp; clear f0 f1 f2 f3; obtain ⟨V603, hW⟩ : ∃ V603, ((w602.setCell ⟨gz, pi * 2, none⟩ (.bool nm)).setCell ⟨gz, pi * 2 + 1, none⟩ (.slice am lm cm_)) = V603 := ⟨_, rfl⟩
       have HN1 : Hid (GlH V43 gz r c i j (kk + 1) A (c - (u + 1)) (.int .i64 ((u + 1 : Nat) : Int)) V603) := by
        unfold Hid; have u1 := AZ2.out.put hir hlt (z := A i u - A j u) MS.out; rw [zvE, EIC.out, EPI.out, hW] at u1; refine ⟨u + 1, rfl, by omega, rfl, u1, ?_⟩; rw [← hW]; exact ((TW.out.trans (.ofBelow GB.out)).setCell (.inr rfl) _ _).setCell (.inr rfl) _ _
       rw [hW]; clear hW; refine hK.out _ _ (fun h => absurd h (by decide)) ?_; clear hK
       try simp only [Act.put]
       refine zDA (by kernel_rfl) ?_ _; clear GB KB AZ2 AZ1 TW MS ZX ZY x0 x1 x2 x3 y0 y1 cB2 cA1; go_wp2_with fail; go_roundg (c - (u + 1))
       case rel => exact HN1.out
       case measure => exact HMM.out
      ·have hlt' : ¬ (u : Int) < (c : Int) := by omega
       obtain rfl : u = c := by omega
       clear HG; have MB := hid (AZ1.out.mx hr64 hc64); have HGB := hid (zBC MB.out (by omega) hkr hkc hc); rw [ELA.out] at HGB; have HEB : Hid (gcs (cpL (en u (zF r u (rsF A i j u))) r u k (cho u k) (cho r k) 0) = gd9) := by
        unfold Hid; rw [← EGK.out]; refine zfD hir hjr hij fun a b ha hb => ?_
        show (zF r u (rsF A i j u)).getD (a * u + b) 0 = _
        rw [zZE ha hb]; unfold rsF
        by_cases q : a = i
        ·subst q; rw [if_pos ⟨rfl, hb⟩, if_pos rfl]
        ·rw [if_neg (fun h => q h.1), if_neg q]
       rw [HEB.out] at HGB; have cB0 := PB1.out.at (i := 0) rfl; have cB1 := PB1.out.at (i := 1) rfl; have cB2 := PB1.out.at (i := 2) rfl; clear G; have G := G1; clear G1; go_wp2_with fail; clear cA1 cB0 cB1 cB2; refine (HGB.out).mono ?_; rintro e w44 ⟨vz9, rfl, m, b⟩; replace Dg1 := hid (Dg1.out.step b); replace Zg1 := hid (Zg1.out.now b); replace G := hid (below_step G.out b); obtain ⟨nz9, xz9_, az9, cz9, rfl⟩ := m.parts; obtain ⟨lz9, hl_⟩ : ∃ lz9, xz9_.length = lz9 := ⟨_, rfl⟩
       rw [hl_] at m ⊢; have Zz9 := hid (m.mono (Nat.zero_le _)); clear m hl_; clear b; obtain ⟨V45, hV⟩ : ∃ V45, w44.alloc (duo (.bool nz9) (.slice az9 lz9 cz9)) = V45 := ⟨_, rfl⟩
       obtain ⟨b, sz45⟩ := alo1 w44 (duo (.bool nz9) (.slice az9 lz9 cz9)); rw [hV] at b sz45; replace Dg1 := hid (Dg1.out.step b); replace Zg1 := hid (Zg1.out.now b); replace Zz9 := hid (Zz9.out.now b); replace G := hid (below_step G.out b); clear b sz45; have Dz : Hid (Duo V45 w44.heap.size (.bool nz9) (.slice az9 lz9 cz9)) := by unfold Hid; rw [← hV]; exact Duo.new w44 _ _
       have cz0 := Dz.out.c0; have cz1 := Dz.out.c1; have ch0 := Dg1.out.c0; have ch1 := Dg1.out.c1; rw [← hV] at cz0 cz1 ch0 ch1; have EV : Hid (w44.alloc (duo (.bool nz9) (.slice az9 lz9 cz9)) = V45) := hV; clear hV; go_wp2_with fail; rw [EV.out]; clear EV; clear cz0 cz1 ch0 ch1; refine (zMC Zz9.out.zc Zg1.out.zc rfl).mono ?_; rintro e w46 ⟨rfl, b⟩; replace Dg1 := hid (Dg1.out.step b); replace Zg1 := hid (Zg1.out.now b); replace Zz9 := hid (Zz9.out.now b); replace Dz := hid (Dz.out.step b); replace G := hid (below_step G.out b); clear b; go_wp2; go_ret; exact ⟨rfl, G.out⟩
   ·skip
    refine (zLG MA.out (by omega) hkr' hkc' (by omega)).mono ?_; rintro e w47 ⟨vl, rfl, m, b⟩; replace PA := hid (PA.out.step b); replace MA := hid (MA.out.now b); replace Zg := hid (Zg.out.now b); replace Dg := hid (Dg.out.step b); replace MC := hid (MC.out.now b); replace PC := hid (PC.out.step b); replace G := hid (below_step G.out b); obtain ⟨nl, xl_, al, cl, rfl⟩ := m.parts; obtain ⟨ll, hl_⟩ : ∃ ll, xl_.length = ll := ⟨_, rfl⟩
    rw [hl_] at m ⊢; have Zl := hid (m.mono (Nat.zero_le _)); clear m hl_; clear b; obtain ⟨V48, hV⟩ : ∃ V48, w47.alloc (duo (.bool nl) (.slice al ll cl)) = V48 := ⟨_, rfl⟩
    obtain ⟨b, sz48⟩ := alo1 w47 (duo (.bool nl) (.slice al ll cl)); rw [hV] at b sz48; replace PA := hid (PA.out.step b); replace MA := hid (MA.out.now b); replace Zg := hid (Zg.out.now b); replace Dg := hid (Dg.out.step b); replace MC := hid (MC.out.now b); replace PC := hid (PC.out.step b); replace Zl := hid (Zl.out.now b); replace G := hid (below_step G.out b); clear b sz48; have Dl : Hid (Duo V48 w47.heap.size (.bool nl) (.slice al ll cl)) := by unfold Hid; rw [← hV]; exact Duo.new w47 _ _
    have EV : Hid (w47.alloc (duo (.bool nl) (.slice al ll cl)) = V48) := hV; clear hV; go_wp2; rw [EV.out]; go_ret; exact ⟨rfl, G.out⟩
theorem mgc_yes {w : World} {va : Value} {r c k kk : Nat} {iv jv : Int} {xs : List Int} (ha : Mx w va r c xs kk) (hkk : 64 * (kk + 1) + 7 ≤ 4000000000) (hxl : xs.length = r * c) (hsd : Snd (r : Int) (c : Int) (r * c)) (hkr : k ≤ r) (hkc : k ≤ c) (hc : cho r k * cho c k ≤ 4096) :
  Calls Tryz.prog 4 #[va, .int .i64 (k : Int), .int .i64 iv, .int .i64 jv] w (Tru w) := by
 by_cases hbig : 64 < cho r k ∨ 64 < cho c k
 ·exact zMGL ha hkk hxl hsd hkr hkc hc hbig
 ·exact mgc_small ha hkk hxl hsd hkr hkc hc hbig
end Go.Proofs.YtplldfnldaehiaaGreat
