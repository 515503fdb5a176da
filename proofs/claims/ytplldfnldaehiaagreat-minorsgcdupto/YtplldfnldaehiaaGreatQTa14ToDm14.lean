/-
 QTa14ToDm14: Ta14, Ex13, Tf14, Dm14, joined.
-/
import Derived.Test.YtplldfnldaehiaaGreatQSe14
import Derived.Test.YtplldfnldaehiaaGreatQLs14ToRs13
import Derived.Test.YtplldfnldaehiaaGreatQDt13ToTm14
import Derived.Test.YtplldfnldaehiaaGreatQSr13ToUq13
import Derived.Test.YtplldfnldaehiaaGreatQDo14ToIx14

set_option maxRecDepth 100000
set_option maxHeartbeats 6400000
set_option linter.unusedVariables false
set_option linter.unusedSimpArgs false
namespace Go.Proofs.YtplldfnldaehiaaGreat
open Go.RowKit
theorem Zms.more14 {w : World} {ps : List (Value × Value)} {zs : List Int} {k K : Nat} (h : Zms w ps zs k) (hk : k ≤ K) : Zms w ps zs K := ⟨h.1, fun j p z hp hz => (h.2 j p z hp hz).more hk⟩
theorem wf_map (l : List Nat) : wf l.length (nf14 l) = l.map fun (a : Nat) => Value.int .i64 (a : Int) := by
 refine List.ext_getElem (by simp [wf]) fun i h1 h2 => ?_
 have hi : i < l.length := by simpa [wf] using h1
 simp [wf, nf14, hi]
theorem Ivs.row14 {B m cap : Nat} {a : Option Addr} {w : World} {l : List Nat} (h : Ivs B w (.slice a m cap) l) (hm : l.length = m) : m ≤ cap ∧ (0 < m → ∃ g, a = some ⟨g, 0, none⟩ ∧ B ≤ g ∧ ∃ r, Cel w g 3 (wf m (nf14 l) ++ r)) := by
 subst hm; obtain ⟨q1, ⟨q2, q3⟩ | ⟨g, cap', cur, q2, q3, q4, q5, q6, q7, q8⟩⟩ := h
 ·exact ⟨by omega, fun q => by omega⟩
 ·simp only [Value.slice.injEq] at q2
  obtain ⟨rfl, -, rfl⟩ := q2; refine ⟨q5, fun _ => ⟨g, rfl, q3, cur.toList.drop l.length, ?_⟩⟩; unfold Cel; rw [q4, wf_map, ← q8, Nat.mul_one, List.take_append_drop]
def TbH (W2 : World) (m n rk : Nat) (va vo x y : Value) (gk : Nat) (s : Value) (wx : World) : Prop :=
 ∃ (i : Nat) (vb : Value), s = .int .i64 (i : Int) ∧ i ≤ m ∧ gk = m - i ∧ Cel wx W2.heap.size 112 (tbL m n rk va vb vo x y) ∧ Ivs W2.heap.size wx vb ((List.range i).map (n + ·)) ∧ Below W2.heap.size W2 wx
theorem cells14 {w w' : World} {W2 : World} {v : Value} {l : List Nat} (h : Ivs W2.heap.size w v l) (hg : w.grownBy w' v.ownBlock) {p : Addr} {u : Value} (hp : p.block < W2.heap.size) (hw : W2.heap.size ≤ w.heap.size) (hc : w.cell? p = some u) : w'.cell? p = some u :=
 (World.cell?_of_block (hg.block p.block (by omega) (fun q => by have := (h.blk q.symm).1; omega))).trans hc
def zKJ (w : World) (m n : Nat) (bs os : List Nat) (F : Nat → Nat → Int) (d : Int) (rk K : Nat) (e : Ending) (w' : World) : Prop :=
 ∃ bt ga gb go, e = .returned (.pointer (some ⟨bt, 0, none⟩)) ∧ w.heap.size ≤ bt ∧ w.heap.size ≤ ga ∧ w.heap.size ≤ gb ∧ w.heap.size ≤ go ∧ TabM w' bt ga gb go m n bs os F d rk K ∧ Below w.heap.size w w'
theorem zqD {w : World} {va : Value} {m n k KW : Nat} {zs : List Int} (ha : Mx w va m n zs k) (hkK : k ≤ KW) (hK1 : 1 ≤ KW) :
  Calls Tryz.prog 72 #[va] w (zKJ w m n ((List.range m).map (n + ·)) (List.range n) (en n zs) 1 (min m n) KW) := by
 have M0 := ha; obtain ⟨aa, ca, rfl, hm64, hn64⟩ := ha.form; have hzl : zs.length = m * n := by obtain ⟨_, _, _, _, _, h, _⟩ := ha; exact h
 obtain ⟨la, hla⟩ : ∃ la, m * n = la := ⟨_, rfl⟩
 rw [hla] at M0 ⊢; obtain ⟨W0, hW⟩ : ∃ W0, w.alloc (matO m n (.slice aa la ca)) = W0 := ⟨_, rfl⟩
 obtain ⟨b0, sz0⟩ := alo1 w (matO m n (.slice aa la ca)); rw [hW] at b0 sz0; have PM : Hid (Cel W0 w.heap.size 24 (matc m n (.slice aa la ca))) := by unfold Hid; rw [← hW]; exact Cel.new w _ _
 have HL := hid (zbB (M0.now b0)); have G := hid b0; have EW := hid hW; have HZL := hid hzl; have HLA := hid hla; have HKK := hid hkK; have HK1 := hid hK1; clear ha M0 b0 hW hzl hla hkK hK1; go_enter Tryz.func72, Tryz.ntmps72; go_wp2_with fail; rw [EW.out]; clear EW; refine HL.out.mono ?_; rintro e w1 ⟨ga, ln, ps, rfl, hga, hpl, harr, hzms, b⟩; have hln : ln = m * n := by rw [← hpl, hzms.1, HZL.out]
 have HLN := hid hln; have AR : Hid (AZ w1 ga zs KW) := ⟨ps, harr, hzms.more14 HKK.out⟩
 replace PM := hid (PM.out.step b); replace G := hid (below_step G.out b); obtain ⟨V1, hV⟩ : ∃ V1, w1.alloc (matO m n (.slice (some ⟨ga, 0, none⟩) ln ln)) = V1 := ⟨_, rfl⟩
 obtain ⟨b1, sz1⟩ := alo1 w1 (matO m n (.slice (some ⟨ga, 0, none⟩) ln ln)); rw [hV] at b1 sz1; have PO : Hid (Cel V1 w1.heap.size 24 (matc m n (.slice (some ⟨ga, 0, none⟩) ln ln))) := by unfold Hid; rw [← hV]; exact Cel.new w1 _ _
 replace PM := hid (PM.out.step b1); replace AR := hid (AR.out.step b1); replace G := hid (below_step G.out b1); have HGA : Hid (w.heap.size ≤ ga) := by unfold Hid; omega
 have EV := hid hV; have a0 := PM.out.at (i := 0) rfl; have a1 := PM.out.at (i := 1) rfl; have o0 := PO.out.at (i := 0) rfl; have o1 := PO.out.at (i := 1) rfl; have o2 := PO.out.at (i := 2) rfl; obtain ⟨mi, hmi⟩ : ∃ mi, min m n = mi := ⟨_, rfl⟩
 have HMI := hid hmi; have hmi2 : min (m : Int) (n : Int) = (mi : Int) := by omega
 clear HL hln hpl harr hzms b b1 sz1 hV hga hmi; go_wp2_with fail; rw [EV.out]; clear EV; have KB : Hid (∀ w', Below V1.heap.size V1 w' → w'.cell? ⟨w.heap.size, 0, none⟩ = some (.int .i64 (m : Int)) ∧ w'.cell? ⟨w.heap.size, 1, none⟩ = some (.int .i64 (n : Int)) ∧ w'.cell? ⟨w1.heap.size, 0, none⟩ = some (.int .i64 (m : Int)) ∧ w'.cell? ⟨w1.heap.size, 1, none⟩ = some (.int .i64 (n : Int)) ∧ w'.cell? ⟨w1.heap.size, 2, none⟩ = some (.slice (some ⟨ga, 0, none⟩) ln ln)) := fun w' h => ⟨cnow h a0, cnow h a1, cnow h o0, cnow h o1, cnow h o2⟩
 refine zCA (fun w' => w'.cell? ⟨w.heap.size, 0, none⟩ = some (.int .i64 (m : Int)) ∧ w'.cell? ⟨w.heap.size, 1, none⟩ = some (.int .i64 (n : Int)) ∧ w'.cell? ⟨w1.heap.size, 0, none⟩ = some (.int .i64 (m : Int)) ∧ w'.cell? ⟨w1.heap.size, 1, none⟩ = some (.int .i64 (n : Int)) ∧ w'.cell? ⟨w1.heap.size, 2, none⟩ = some (.slice (some ⟨ga, 0, none⟩) ln ln)) 12 (by kernel_rfl) ?_; obtain ⟨D1, hD⟩ : ∃ D1, V1.drew = D1 := ⟨_, rfl⟩
 have GB : Hid (Below V1.heap.size V1 D1) := by unfold Hid; rw [← hD]; exact (Below.refl _ _).drew
 rw [hD]; clear hD; have GZ : Hid (V1.heap.size ≤ D1.heap.size) := GB.out.size; refine zBA [(0, (.agg #[.int .i64 (m : Int), .int .i64 (n : Int), (.slice (some ⟨ga, 0, none⟩) ln ln)])), (1, (.pointer (some ⟨w.heap.size, 1, none⟩))), (2, (.int .i64 (n : Int))), (5, (.pointer (some ⟨w.heap.size, 0, none⟩))), (6, (.int .i64 (m : Int))), (7, (.pointer (some ⟨w.heap.size, 1, none⟩))), (8, (.int .i64 (n : Int))), (9, (.int .i64 (mi : Int)))] 8 ?_ (KB.out _ GB.out) ?_
 ·simp only [zJA, gA9, g09, g19, Act.put, sI9, s09, s19]; (repeat' (first | exact trivial | refine And.intro (Or.inl ⟨by rfl, ?_⟩) ?_)) <;> (intro w hSw; (try dsimp only at hSw); go_simp)
 simp only [actV, gA9, g09, g19, Act.put, sI9, s09, s19]; refine zAA (i := 3) (o := ⟨some 15, .call { callee := .value (.func 75), args := #[.tmp 14], argTypes := #[3] }, 34, "table.go:37", #[⟨2, .data⟩], none⟩) (by kernel_rfl) rfl (fun K hK => ?_); replace GZ : Hid (V1.heap.size ≤ D1.heap.size) := GB.out.size; go_simp; go_at_call 75; refine (zDC (k := n) (by omega)).mono ?_; rintro e w2 ⟨rfl, hcf, b⟩; have lz2 := (show Below _ _ _ from b).size; replace GB := hid (below_step GB.out b); have HGO : Hid (w.heap.size ≤ D1.heap.size) := by unfold Hid; have h1 := G.out.size; have h2 := GZ.out; omega
 have CO := hid hcf; clear hcf; clear b; refine hK.out _ _ (fun _ => KB.out _ GB.out) ?_; clear hK; refine zAA (i := 4) (o := ⟨some 16, .call { callee := .value (.func 14), args := #[.const (.int .i64 1)], argTypes := #[2] }, 37, "table.go:37", #[⟨3, .chain⟩], none⟩) (by kernel_rfl) rfl (fun K hK => ?_); replace GZ : Hid (V1.heap.size ≤ w2.heap.size) := GB.out.size; go_simp; go_at_call 14; refine (of_z (n := 1) (by decide) (by decide) _).mono ?_; rintro e w3 ⟨r1, rfl, m1, b⟩; have lz3 := (show Below _ _ _ from b).size; replace GB := hid (below_step GB.out b); replace CO := hid (CO.out.step b); have MO := hid (m1.mono (Nat.zero_le _)); obtain ⟨nm, xm, am, cm, rfl⟩ := m1.parts; obtain ⟨lm, hlm⟩ : ∃ lm, xm.length = lm := ⟨_, rfl⟩
 rw [hlm] at MO ⊢; clear m1 hlm; clear b; refine hK.out _ _ (fun _ => KB.out _ GB.out) ?_; clear hK; refine zBA [(10, (.agg #[.int .i64 (m : Int), .int .i64 (n : Int), (.slice (some ⟨ga, 0, none⟩) ln ln), .slice none 0 0, .slice (some ⟨D1.heap.size, 0, none⟩) n n, .bool nm, .slice am lm cm, .int .i64 (mi : Int)]))] 1 ?_ (KB.out _ GB.out) ?_
 ·simp only [zJA, gA9, g09, g19, Act.put, sI9, s09, s19]; (repeat' (first | exact trivial | refine And.intro (Or.inl ⟨by rfl, ?_⟩) ?_)) <;> (intro w hSw; (try dsimp only at hSw); go_simp)
 simp only [actV, gA9, g09, g19, Act.put, sI9, s09, s19]; refine zAA (i := 11) (o := ⟨some 23, .box 112 (.tmp 22), 74, "table.go:37", #[⟨10, .data⟩], none⟩) (by kernel_rfl) rfl (fun K hK => ?_); go_simp; obtain ⟨V4, hW⟩ : ∃ V4, w3.alloc (.cells #[.int .i64 (m : Int), .int .i64 (n : Int), (.slice (some ⟨ga, 0, none⟩) ln ln), .slice none 0 0, .slice (some ⟨D1.heap.size, 0, none⟩) n n, .bool nm, .slice am lm cm, .int .i64 (mi : Int)] 112) = V4 := ⟨_, rfl⟩
 obtain ⟨b, sz4⟩ := alo1 w3 (.cells #[.int .i64 (m : Int), .int .i64 (n : Int), (.slice (some ⟨ga, 0, none⟩) ln ln), .slice none 0 0, .slice (some ⟨D1.heap.size, 0, none⟩) n n, .bool nm, .slice am lm cm, .int .i64 (mi : Int)] 112); rw [hW] at b sz4; have GX := GB; replace GB := hid (below_step GB.out b); have CT : Hid (Cel V4 w3.heap.size 112 [.int .i64 (m : Int), .int .i64 (n : Int), (.slice (some ⟨ga, 0, none⟩) ln ln), .slice none 0 0, .slice (some ⟨D1.heap.size, 0, none⟩) n n, .bool nm, .slice am lm cm, .int .i64 (mi : Int)]) := by unfold Hid; rw [← hW]; exact Cel.new w3 _ _
 have BX := hid b; rw [hW]; clear hW b sz4; refine hK.out _ _ (fun _ => KB.out _ GB.out) ?_; clear hK
 try simp only [Act.put]
 refine zAA (i := 12) (o := ⟨some 5, .assign (.tmp 23), 74, "table.go:37", #[⟨11, .data⟩, ⟨4, .chain⟩, ⟨0, .phase⟩, ⟨1, .phase⟩, ⟨2, .phase⟩, ⟨3, .phase⟩, ⟨4, .phase⟩, ⟨5, .phase⟩, ⟨6, .phase⟩, ⟨7, .phase⟩, ⟨8, .phase⟩, ⟨9, .phase⟩, ⟨10, .phase⟩, ⟨11, .phase⟩], none⟩) (by kernel_rfl) rfl (fun K hK => ?_); go_simp; refine hK.out _ _ (fun h => absurd h (by decide)) ?_; clear hK
 try simp only [Act.put]
 refine zDA (by kernel_rfl) ?_ _; have PM2 := hid (PM.out.step GX.out); have AR2 := hid (AR.out.step GX.out); have G2 := hid (below_step G.out GX.out); have SB : Hid (w.heap.size ≤ w3.heap.size) := G2.out.size; have H0 : Hid (TbH w3 m n mi (.slice (some ⟨ga, 0, none⟩) ln ln) (.slice (some ⟨D1.heap.size, 0, none⟩) n n) (.bool nm) (.slice am lm cm) m (.int .i64 0) V4) := ⟨0, _, rfl, Nat.zero_le _, by omega, CT.out, Ivs.nil _ _, BX.out⟩
 have q0 := (PM2.out.step BX.out).at (i := 0) rfl; obtain ⟨W2, hW2⟩ : ∃ W2, W2 = w3 := ⟨_, rfl⟩
 obtain ⟨gg, hgg⟩ : ∃ gg, D1.heap.size = gg := ⟨_, rfl⟩
 rw [hgg] at H0 CO HGO ⊢; rw [← hW2] at H0 PM2 AR2 G2 SB CO MO ⊢; clear GB GX KB GZ PM AR G CT BX hgg a0 a1 o0 o1 o2 hmi2 PO; clear hW2; go_wp2_with fail; clear q0
 go_loopg [26] m (fun gk s26 wx => TbH W2 m n mi (.slice (some ⟨ga, 0, none⟩) ln ln) (.slice (some ⟨gg, 0, none⟩) n n) (.bool nm) (.slice am lm cm) gk s26 wx)
 case atStart => exact H0.out
 case round =>
  clear H0; obtain ⟨i, vb, rfl, him, hgk, hct, hiv, hbw⟩ := hrel; have CT := hid hct; have IV := hid hiv; have BW := hid hbw; have HG := hid hgk; clear hct hiv hbw hgk; obtain ⟨ab, cb, hvb, -, -⟩ := IV.out.form; rw [show ((List.range i).map (n + ·)).length = i by simp] at hvb; subst hvb
  by_cases hlt : i < m
  ·have hlt' : (i : Int) < (m : Int) := by omega
   have hwi := zSA (i := i) (by omega); have hws : IntKind.i64.wrap ((n : Int) + (i : Int)) = ((n + i : Nat) : Int) := by rw [zKA] <;> omega
   have HMM : Hid (m - (i + 1) < gk) := by unfold Hid; rw [HG.out]; omega
   have c3 := CT.out.at (i := 3) rfl; have c1 := (PM2.out.step BW.out).at (i := 1) rfl; obtain ⟨ni, hni⟩ : ∃ ni, n + i = ni := ⟨_, rfl⟩
   rw [hni] at hws; have ENI := hid hni; have HL : Hid (((List.range i).map (n + ·)).length ≤ 1000000) := by unfold Hid; simp; omega
   clear HG hni; go_wp2_with fail; have KB : Hid (∀ w', Below wr.heap.size wr w' → w'.cell? ⟨W2.heap.size, 3, none⟩ = some (.slice ab i cb) ∧ w'.cell? ⟨w.heap.size, 1, none⟩ = some (.int .i64 (n : Int))) := fun w' h => ⟨cnow h c3, cnow h c1⟩
   refine zCA (fun w' => w'.cell? ⟨W2.heap.size, 3, none⟩ = some (.slice ab i cb) ∧ w'.cell? ⟨w.heap.size, 1, none⟩ = some (.int .i64 (n : Int))) 13 (by kernel_rfl) ?_; obtain ⟨D41, hD⟩ : ∃ D41, wr.drew = D41 := ⟨_, rfl⟩
   have GB : Hid (Below wr.heap.size wr D41) := by unfold Hid; rw [← hD]; exact (Below.refl _ _).drew
   rw [hD]; clear hD; have KC := hid (KB.out _ GB.out); refine zBA [(0, (.pointer (some ⟨W2.heap.size, 0, none⟩))), (1, (.pointer (some ⟨W2.heap.size, 0, none⟩))), (2, (.pointer (some ⟨W2.heap.size, 0, none⟩))), (3, (.pointer (some ⟨W2.heap.size, 3, none⟩))), (4, (.slice ab i cb)), (5, (.pointer (some ⟨w.heap.size, 1, none⟩))), (6, (.int .i64 (n : Int))), (7, (.int .i64 (i : Int))), (8, (.int .i64 (ni : Int)))] 9 ?_ (KC.out) ?_
   ·simp only [zJA, gA9, g09, g19, Act.put, sI9, s09, s19]; (repeat' (first | exact trivial | refine And.intro (Or.inl ⟨by rfl, ?_⟩) ?_)) <;> (intro w hSw; (try dsimp only at hSw); go_simp)
   simp only [actV, gA9, g09, g19, Act.put, sI9, s09, s19]; refine zAA (i := 9) (o := ⟨some 38, .buildSlice 34 1 #[(0, .tmp 37)], 34, "table.go:39", #[⟨8, .data⟩], none⟩) (by kernel_rfl) rfl (fun K hK => ?_); go_simp; obtain ⟨V42, hW⟩ : ∃ V42, D41.alloc (.cells #[.int .i64 (ni : Int)] 3) = V42 := ⟨_, rfl⟩
   obtain ⟨b, sz42⟩ := alo1 D41 (.cells #[.int .i64 (ni : Int)] 3); rw [hW] at b sz42; replace GB := hid (below_step GB.out b); replace KC := hid (KB.out _ GB.out); have CX : Hid (V42.cell? ⟨D41.heap.size, 0, none⟩ = some (.int .i64 (ni : Int))) := by unfold Hid; rw [← hW]; exact (Cel.new D41 3 [.int .i64 (ni : Int)]).at (i := 0) rfl
   have IV2 := hid (IV.out.now GB.out); have BW2 := hid (below_step BW.out GB.out); have CT2 := hid (CT.out.step GB.out); rw [hW]; clear hW b sz42; refine hK.out _ _ (fun _ => KC.out) ?_; clear hK
   try simp only [Act.put]
   refine zAA (i := 10) (o := ⟨some 39, .call { callee := .builtin .append, args := #[.tmp 33, .tmp 38], argTypes := #[34, 34] }, 34, "table.go:39", #[⟨4, .data⟩, ⟨9, .data⟩], none⟩) (by kernel_rfl) rfl (fun K hK => ?_); refine step_append_ivs V42 rfl (.tmp 33) (.tmp 38) rfl W2.heap.size (.slice ab i cb) _ ni rfl IV2.out D41.heap.size rfl CX.out HL.out BW2.out.size ?_; intro g9 l9 cap9 w43 hl9 hI hg hb; have TG : Hid (Ty 3 V42 w43) := Ty.grown IV2.out hg.out; have CT3 := hid (CT2.out.ty13 TG.out (by decide)); have BW3 : Hid (Below W2.heap.size W2 w43) := zxF BW2.out BW2.out.size IV2.out hg.out; replace KC := hid (⟨CT3.out.at (i := 3) rfl, cells14 IV2.out hg.out (p := ⟨w.heap.size, 1, none⟩) (by have := PM2.out.blk; exact this) BW2.out.size KC.out.2⟩ : _ ∧ _); have I3 := hI; clear hI hg hb hl9 CX IV2 BW2 CT2; refine hK.out _ _ (fun _ => KC.out) ?_; clear hK; refine zBA [(11, (.pointer (some ⟨W2.heap.size, 0, none⟩))), (12, (.pointer (some ⟨W2.heap.size, 3, none⟩)))] 2 ?_ (KC.out) ?_
   ·simp only [zJA, gA9, g09, g19, Act.put, sI9, s09, s19]; (repeat' (first | exact trivial | refine And.intro (Or.inl ⟨by rfl, ?_⟩) ?_)) <;> (intro w hSw; (try dsimp only at hSw); go_simp)
   simp only [actV, gA9, g09, g19, Act.put, sI9, s09, s19]; refine zAA (i := 13) (o := ⟨none, .store 34 (.tmp 41) (.tmp 39), 0, "table.go:39", #[⟨12, .data⟩, ⟨10, .data⟩, ⟨10, .chain⟩, ⟨0, .phase⟩, ⟨1, .phase⟩, ⟨2, .phase⟩, ⟨3, .phase⟩, ⟨4, .phase⟩, ⟨5, .phase⟩, ⟨6, .phase⟩, ⟨7, .phase⟩, ⟨8, .phase⟩, ⟨9, .phase⟩, ⟨10, .phase⟩], none⟩) (by kernel_rfl) rfl (fun K hK => ?_); have h0 := CT3.out.at (i := 3) rfl; have h1 := CT3.out.fz 3; go_simp; clear h0 h1; obtain ⟨V44, hW⟩ : ∃ V44, (w43.setCell ⟨W2.heap.size, 3, none⟩ (.slice (some ⟨g9, 0, none⟩) l9 cap9)) = V44 := ⟨_, rfl⟩
   have HN1 : Hid (TbH W2 m n mi (.slice (some ⟨ga, 0, none⟩) ln ln) (.slice (some ⟨gg, 0, none⟩) n n) (.bool nm) (.slice am lm cm) (m - (i + 1)) (.int .i64 ((i + 1 : Nat) : Int)) V44) := by
    unfold Hid; rw [← hW]; refine ⟨i + 1, _, rfl, by omega, rfl, CT3.out.set 3 _, ?_, bset BW3.out (Nat.le_refl _)⟩; rw [List.range_succ, List.map_append, List.map_cons, List.map_nil, ENI.out]; exact I3.out.keep fun b L _ e => (Ty.set CT3.out).2 b _ _ _ e (by decide)
   rw [hW]; clear hW; refine hK.out _ _ (fun h => absurd h (by decide)) ?_; clear hK
   try simp only [Act.put]
   refine zDA (by kernel_rfl) ?_ _; clear GB KB KC CT3 BW3 I3 TG; go_wp2_with fail; go_roundg (m - (i + 1))
   case rel => exact HN1.out
   case measure => exact HMM.out
  ·have hlt' : ¬ (i : Int) < (m : Int) := by omega
   obtain rfl : i = m := by omega
   obtain ⟨hcb, hrow⟩ := IV.out.row14 (by simp); have FIN : Hid (zKJ w i n ((List.range i).map (n + ·)) (List.range n) (en n zs) 1 (min i n) KW (.returned (.pointer (some ⟨W2.heap.size, 0, none⟩))) wr) := by
    by_cases hi0 : 0 < i
    ·obtain ⟨gb, hab, hgb, rr, hrr⟩ := hrow hi0
     refine ⟨_, ga, gb, gg, rfl, SB.out, HGA.out, by have := SB.out; omega, HGO.out, ⟨⟨ab, cb, nm, am, lm, cm, by rw [HMI.out, ← HLN.out]; exact CT.out, (MO.out.more HK1.out).now BW.out, hcb, fun _ => ⟨hab, rr, hrr⟩⟩, ?_, ?_, ?_, by simp, by simp, hm64, hn64, by omega⟩, below_step G2.out BW.out⟩
     ·rw [zbJ HZL.out]; exact AR2.out.step BW.out
     ·rw [zYA (G := fun t => (t : Int)) fun t ht => by simp [nf14, ht]]; exact CO.out.step BW.out
     ·have := CO.out.blk; omega
    ·refine ⟨_, ga, gg + 1, gg, rfl, SB.out, HGA.out, by have := HGO.out; omega, HGO.out, ⟨⟨ab, cb, nm, am, lm, cm, by rw [HMI.out, ← HLN.out]; exact CT.out, (MO.out.more HK1.out).now BW.out, hcb, fun q => absurd q hi0⟩, ?_, ?_, by omega, by simp, by simp, hm64, hn64, by omega⟩, below_step G2.out BW.out⟩
     ·rw [zbJ HZL.out]; exact AR2.out.step BW.out
     ·rw [zYA (G := fun t => (t : Int)) fun t ht => by simp [nf14, ht]]; exact CO.out.step BW.out
   clear CT IV BW HG hrow; go_wp2; go_ret; exact FIN.out

theorem Tbl.congr14 {A : Nat → Nat → Int} {m n : Nat} {f g f' g' : Nat → Nat} {F : Nat → Nat → Int} {d : Int} (h : Tbl A m n f g F d) (hf : ∀ i, i < m → f' i = f i) (hg : ∀ j, j < n → g' j = g j) : Tbl A m n f' g' F d := by
 refine ⟨h.nz, by rw [zpC hf]; exact h.de, fun i j hi hj => ?_, fun i j hi hj e => ?_, fun i j hi hj e => ?_, fun i j hi hj => ?_, fun i hi => ?_, fun j hj => ?_, fun c hc => ?_⟩
 ·rw [h.be i j hi hj]
  exact zpC fun r hr => by
   unfold stf; rw [hg j hj, hf r hr]
 ·exact h.fi i j hi hj (by rw [← hf i hi, ← hf j hj]; exact e)
 ·exact h.gi i j hi hj (by rw [← hg i hi, ← hg j hj]; exact e)
 ·rw [hf i hi, hg j hj]; exact h.fg i j hi hj
 ·rw [hf i hi]; exact h.fl i hi
 ·rw [hg j hj]; exact h.gl j hj
 ·rcases h.cov c hc with ⟨i, hi, e⟩ | ⟨j, hj, e⟩
  ·exact .inl ⟨i, hi, by rw [hf i hi]; exact e⟩
  ·exact .inr ⟨j, hj, by rw [hg j hj]; exact e⟩
theorem ztE (A : Nat → Nat → Int) (m n : Nat) : zbE A m n ((List.range m).map (n + ·)) (List.range n) A 1 0 0 :=
 ⟨(Tbl.start A m n).congr14 (fun i hi => by simp [gd, hi]) (fun j hj => by simp [gd, hj]), fun r _ hr => by simp [hr], fun r hr => by omega, by simp⟩
theorem zIF {m n k : Nat} {zs : List Int} {f : Nat → Nat} (h : ∀ z ∈ zs, (z.natAbs : Int) < pw k) (hm : m ≤ 64) : ((dcl (en n zs) m n f).natAbs : Int) < pw (64 * k + 7) := by
 have ha := zGJ (c := n) h; have h0 : 1 ≤ 2 ^ (64 * k) := Nat.two_pow_pos _; have h1 := dcl_abs (A := en n zs) (m := m) (n := n) (f := f) (X := 2 ^ (64 * k)) hm h0 ha; have h4 : (64 * 2 ^ (64 * k)) ^ m ≤ (64 * 2 ^ (64 * k)) ^ 64 := Nat.pow_le_pow_right (by omega) hm; have h5 : (64 * 2 ^ (64 * k)) ^ 64 < 2 ^ (64 * (64 * k + 7)) := by
  have e : (64 : Nat) * 2 ^ (64 * k) = 2 ^ (64 * k + 6) := by rw [Nat.pow_add, Nat.mul_comm]
  rw [e, ← Nat.pow_mul]; exact Nat.pow_lt_pow_right (by omega) (by omega)
 have e := pw13 (64 * k + 7); rw [e]; omega
theorem zLI {S : Nat → Prop} {w w1 w2 : World} (b : Below w.heap.size w w1) (t : zNA S w1 w2) (hS : ∀ c, S c → w.heap.size ≤ c) : Below w.heap.size w w2 :=
 b.trans ⟨t.os, t.tape, t.output, t.size, fun c hc => t.block c (Nat.lt_of_lt_of_le hc b.size) fun q => by have := hS c q; omega⟩
def TabF (A : Nat → Nat → Int) (w : World) (m n KW : Nat) (v : Value) (w' : World) : Prop :=
 ∃ (bt ga gb go : Nat) (bs os : List Nat) (F : Nat → Nat → Int) (d : Int) (rk : Nat), v = .pointer (some ⟨bt, 0, none⟩) ∧ w.heap.size ≤ bt ∧ TabM w' bt ga gb go m n bs os F d rk KW ∧ Tbl A m n (gd bs) (gd os) F d ∧
  (∀ (s : Nat) (rows cols : Nat → Nat), rk < s → s ≤ min m n → (∀ a, a < s → rows a < m) → (∀ a, a < s → cols a < n) → det s (fun a b => A (rows a) (cols b)) = 0)
theorem tableFor_any {w : World} {va : Value} {m n k : Nat} {zs : List Int} {kk : Int} (ha : Mx w va m n zs k) (hk : k ≤ 4000000000) (h0 : -1 ≤ kk) (h1 : kk ≤ m) (h2 : kk ≤ n) :
  Calls Tryz.prog 43 #[va, .int .i64 kk] w fun e w' => ∃ v, e = .returned v ∧ TabF (en n zs) w m n (64 * k + 7) v w' ∧ Below w.heap.size w w' := by
 have M0 := ha; obtain ⟨aa, ca, rfl, hm64, hn64⟩ := ha.form; have HZA : Hid (∀ z ∈ zs, (z.natAbs : Int) < pw k) := by obtain ⟨_, _, _, _, h, _⟩ := ha; exact h.lt
 obtain ⟨la, hla⟩ : ∃ la, m * n = la := ⟨_, rfl⟩
 rw [hla] at M0 ⊢; obtain ⟨W0, hW⟩ : ∃ W0, w.alloc (matO m n (.slice aa la ca)) = W0 := ⟨_, rfl⟩
 obtain ⟨b0, sz0⟩ := alo1 w (matO m n (.slice aa la ca)); rw [hW] at b0 sz0; have PM : Hid (Cel W0 w.heap.size 24 (matc m n (.slice aa la ca))) := by unfold Hid; rw [← hW]; exact Cel.new w _ _
 have HT := hid (zqD (KW := 64 * k + 7) (M0.now b0) (by omega) (by omega)); have G := hid b0; have EW := hid hW; have HKK := hid hk; clear ha M0 b0 hW hla hk; go_enter Tryz.func43, Tryz.ntmps43; go_wp2_with fail; rw [EW.out]; clear EW; refine HT.out.mono ?_; rintro e w1 ⟨bt, ga, gb, go, rfl, g1, g2, g3, g4, htm, b⟩; have TM := hid htm; replace PM := hid (PM.out.step b); replace G := hid (below_step G.out b); have a0 := PM.out.at (i := 0) rfl; have a1 := PM.out.at (i := 1) rfl; have q1 : IntKind.i64.wrap ((m : Int) - kk) = (m : Int) - kk := by rw [zKA] <;> omega
 have q2 : IntKind.i64.wrap ((m : Int) - kk + (n : Int)) = (m : Int) - kk + (n : Int) := by rw [zKA] <;> omega
 have q3 : IntKind.i64.wrap ((m : Int) - kk + (n : Int) - kk) = (m : Int) - kk + (n : Int) - kk := by rw [zKA] <;> omega
 have SG : Hid (∀ c, S14 bt ga gb go c → w.heap.size ≤ c) := fun c hc => by rcases hc with e | e | e | e <;> subst e <;> omega
 have hbt : w.heap.size ≤ bt := by omega
 clear HT htm b g1 g2 g3 g4
 by_cases hc : (m : Int) - kk + (n : Int) - kk < kk
 ·have hc2 : decide ((m : Int) - kk + (n : Int) - kk < kk) = true := decide_eq_true hc
  have HS := hid (zfE (A := en n zs) TM.out (ztE _ m n) (by omega) (fun f => zIF HZA.out hm64) (by have := HKK.out; omega)); go_wp2_with fail; refine HS.out.mono ?_; rintro e w2 ⟨rfl, bs, os, F, d, rk, htm, hst, hth⟩; have FIN : Hid (∃ v, Ending.returned (Value.pointer (some ⟨bt, 0, none⟩)) = .returned v ∧ TabF (en n zs) w m n (64 * k + 7) v w2 ∧ Below w.heap.size w w2) := by
   refine ⟨_, rfl, ⟨bt, ga, gb, go, bs, os, F, d, rk, rfl, hbt, htm, hst.tb, fun s rows cols h1 _ h3 h4 => ?_⟩, zLI G.out hth SG.out⟩; refine hst.tb.rank0 (P := (List.range m).filter fun r => decide (bs.getD r 0 < n)) (fun i hi hf => ?_) (fun i j hi hj h5 h6 => hst.lo i hi h5 j hj h6) h3 h4 (by rw [← hst.cnt]; exact h1); rw [List.mem_filter]; exact ⟨by simpa using hi, by simpa using hf⟩
  clear HS htm hst hth TM; go_wp2; go_ret; exact FIN.out
 ·have hc2 : decide ((m : Int) - kk + (n : Int) - kk < kk) = false := decide_eq_false hc
  have FIN : Hid (∃ v, Ending.returned (Value.pointer (some ⟨bt, 0, none⟩)) = .returned v ∧ TabF (en n zs) w m n (64 * k + 7) v w1 ∧ Below w.heap.size w w1) := ⟨_, rfl, ⟨bt, ga, gb, go, _, _, _, _, _, rfl, hbt, TM.out, (ztE _ m n).tb, fun s rows cols h1 h2 _ _ => by omega⟩, G.out⟩
  clear TM; go_wp2; go_ret; exact FIN.out
theorem AZ.mx {w : World} {g m n : Nat} {F : Nat → Nat → Int} {k : Nat} (h : AZ w g (zF m n F) k) (hm : m ≤ 64) (hn : n ≤ 64) : Mx w (matv m n (.slice (some ⟨g, 0, none⟩) (m * n) (m * n))) m n (zF m n F) k := by
 obtain ⟨ps, h1, h2⟩ := h; have hl : ps.length = m * n := by rw [h2.1, zNB]
 have h4 : m * n ≤ 64 * 64 := Nat.mul_le_mul hm hn; refine ⟨_, ps, rfl, ?_, h2.zcs.zis, zNB _ _ _, hm, hn⟩; rw [← hl]; exact h1.prs (Nat.zero_le _) (by omega) (Nat.le_refl _)
theorem TabM.basis14 {w : World} {bt ga gb go m n : Nat} {bs os : List Nat} {F : Nat → Nat → Int} {d : Int} {rk k : Nat} (h : TabM w bt ga gb go m n bs os F d rk k) : ∃ vb nd ad ld cd, Cel w bt 112 (tbL m n rk (.slice (some ⟨ga, 0, none⟩) (m * n) (m * n)) vb (.slice (some ⟨go, 0, none⟩) n n) (.bool nd) (.slice ad ld cd)) ∧ Zm 0 w (.agg #[.bool nd, .slice ad ld cd]) d k ∧ In9 w vb (natv bs) := by
 obtain ⟨ab, cb, nd, ad, ld, cd, h1, h2, h3, h4⟩ := h.box; refine ⟨_, nd, ad, ld, cd, h1, h2, ?_⟩; have hb := h.lb; have e : (natv bs).length = m := by simp [natv, hb]
 have hm := h.hm; refine ⟨ab, cb, by rw [e], by omega, by omega, ?_⟩
 by_cases q : 0 < m
 ·obtain ⟨rfl, r, hc⟩ := h4 q
  refine .inr ⟨gb, 0, rfl, hc.blk, fun j hj => ?_⟩; have hj' : j < m := by omega
  have hjl : j < bs.length := by omega
  rw [Nat.zero_add, hc.at (zSH hj')]; simp [natv, nf14, hjl]
 ·exact .inl (List.length_eq_zero_iff.1 (by rw [e]; omega))
theorem TabM.oth14 {w : World} {bt ga gb go m n : Nat} {bs os : List Nat} {F : Nat → Nat → Int} {d : Int} {rk k : Nat} (h : TabM w bt ga gb go m n bs os F d rk k) : In9 w (.slice (some ⟨go, 0, none⟩) n n) (natv os) :=
 h.oth.in14 h.lo (by have := h.hn; omega) fun t _ => rfl
def Apt (v u : Value) : Prop := ∀ c, v.ownBlock = some c → u.ownBlock ≠ some c
structure Dq (w X : World) (bz go m : Nat) (O : Nat → Int) (v1 v2 v3 : Value) (l1 l2 l3 : List Nat) : Prop where
 bw : Below w.heap.size w X
 og : w.heap.size ≤ go
 bg : w.heap.size ≤ bz
 bo : bz < go
 rb : Duo X bz (.bool false) (.slice none 0 0)
 ord : Cel X go 3 (wf m O)
 a : Ivs (go + 1) X v1 l1
 b : Ivs (go + 1) X v2 l2
 c : Ivs (go + 1) X v3 l3
 ab : Apt v1 v2
 ac : Apt v1 v3
 bc : Apt v2 v3
section
variable {w X X' : World} {bz go m : Nat} {O : Nat → Int} {v1 v2 v3 : Value} {l1 l2 l3 : List Nat}
theorem Dq.sz (h : Dq w X bz go m O v1 v2 v3 l1 l2 l3) : go + 1 ≤ X.heap.size := h.ord.blk
theorem Dq.now (h : Dq w X bz go m O v1 v2 v3 l1 l2 l3) (hb : Below X.heap.size X X') : Dq w X' bz go m O v1 v2 v3 l1 l2 l3 :=
 ⟨below_step h.bw hb, h.og, h.bg, h.bo, h.rb.step hb, h.ord.step hb, h.a.now hb, h.b.now hb, h.c.now hb, h.ab, h.ac, h.bc⟩
theorem Ivs.off14 {B : Nat} {v : Value} {l : List Nat} {g i : Nat} {u : Value} (h : Ivs B X v l) (hg : g < B) : Ivs B (X.setCell ⟨g, i, none⟩ u) v l := h.keep fun b L hb e => by
 have := (h.blk hb).1; exact (Below.heap_setCell X ⟨g, i, none⟩ u b (fun q => by simp at q; omega)).trans e
theorem Dq.put (h : Dq w X bz go m O v1 v2 v3 l1 l2 l3) {i : Nat} (hi : i < m) (z : Int) : Dq w (X.setCell ⟨go, i, none⟩ (.int .i64 z)) bz go m (upF O i z) v1 v2 v3 l1 l2 l3 :=
 ⟨bset h.bw h.og, h.og, h.bg, h.bo, h.rb.ne (by have := h.bo; omega), h.ord.nfset hi z, h.a.off14 (by omega), h.b.off14 (by omega), h.c.off14 (by omega), h.ab, h.ac, h.bc⟩
theorem Dq.congr (h : Dq w X bz go m O v1 v2 v3 l1 l2 l3) {O' : Nat → Int} (e : ∀ t, t < m → O t = O' t) : Dq w X bz go m O' v1 v2 v3 l1 l2 l3 :=
 ⟨h.bw, h.og, h.bg, h.bo, h.rb, by rw [← zYA e]; exact h.ord, h.a, h.b, h.c, h.ab, h.ac, h.bc⟩
theorem Cel.grown14 {v : Value} {T : TypeId} {b B : Nat} {L : List Value} {l : List Nat} (h : Cel X b T L) (hv : Ivs B X v l) (hg : X.grownBy X' v.ownBlock) (hb : b < B) : Cel X' b T L :=
 (hg.block b h.blk (fun q => by have := (hv.blk q.symm).1; omega)).trans h
theorem Duo.grown14 {v : Value} {b B : Nat} {x y : Value} {l : List Nat} (h : Duo X b x y) (hv : Ivs B X v l) (hg : X.grownBy X' v.ownBlock) (hb : b < B) : Duo X' b x y :=
 (hg.block b h.blk (fun q => by have := (hv.blk q.symm).1; omega)).trans h
theorem Ivs.grown14 {v u : Value} {B B' : Nat} {l l' : List Nat} (h : Ivs B X u l') (hg : X.grownBy X' v.ownBlock) (hne : Apt v u) : Ivs B X' u l' := h.keep fun b L hb e => by
 have hlt := (Array.getElem?_eq_some_iff.1 e).1; rw [hg.block b hlt (fun q => hne b q.symm hb)]; exact e
theorem Apt.new {u : Value} {g l' cap : Nat} {B : Nat} {l : List Nat} {v : Value} (h : Apt v u) (hu : Ivs B X u l) (hb : v.ownBlock = some g ∨ g = X.heap.size) : Apt (.slice (some ⟨g, 0, none⟩) l' cap) u := fun c hc q => by
 simp only [Value.ownBlock, Option.some.injEq] at hc; subst hc; rcases hb with e | e
 ·exact h _ e q
 ·have := hu.lt13 q; omega
theorem Apt.symm {v u : Value} (h : Apt v u) : Apt u v := fun c h1 h2 => h c h2 h1
theorem zsB {B : Nat} {l : List Nat} {v : Value} (h : Below w.heap.size w X) (hv : Ivs B X v l) (hB : w.heap.size ≤ B) (hg : X.grownBy X' v.ownBlock) : Below w.heap.size w X' :=
 h.trans ⟨hg.os, hg.tape, hg.output, hg.size, fun k hk => hg.block k (Nat.lt_of_lt_of_le hk h.size) (fun e => by have := (hv.blk e.symm).1; omega)⟩
theorem Dq.addA (h : Dq w X bz go m O v1 v2 v3 l1 l2 l3) {g l' cap t : Nat} (hI : Ivs (go + 1) X' (.slice (some ⟨g, 0, none⟩) l' cap) (l1 ++ [t])) (hg : X.grownBy X' v1.ownBlock) (hb : v1.ownBlock = some g ∨ g = X.heap.size) : Dq w X' bz go m O (.slice (some ⟨g, 0, none⟩) l' cap) v2 v3 (l1 ++ [t]) l2 l3 :=
 ⟨zsB h.bw h.a (by have := h.og; omega) hg, h.og, h.bg, h.bo, h.rb.grown14 h.a hg (by have := h.bo; omega), h.ord.grown14 h.a hg (by omega), hI, h.b.grown14 (B' := 0) (l := []) hg h.ab, h.c.grown14 (B' := 0) (l := []) hg h.ac, h.ab.new h.b hb, h.ac.new h.c hb, h.bc⟩
theorem Dq.addB (h : Dq w X bz go m O v1 v2 v3 l1 l2 l3) {g l' cap t : Nat} (hI : Ivs (go + 1) X' (.slice (some ⟨g, 0, none⟩) l' cap) (l2 ++ [t])) (hg : X.grownBy X' v2.ownBlock) (hb : v2.ownBlock = some g ∨ g = X.heap.size) : Dq w X' bz go m O v1 (.slice (some ⟨g, 0, none⟩) l' cap) v3 l1 (l2 ++ [t]) l3 :=
 ⟨zsB h.bw h.b (by have := h.og; omega) hg, h.og, h.bg, h.bo, h.rb.grown14 h.b hg (by have := h.bo; omega), h.ord.grown14 h.b hg (by omega), h.a.grown14 (B' := 0) (l := []) hg h.ab.symm, hI, h.c.grown14 (B' := 0) (l := []) hg h.bc, (h.ab.symm.new h.a hb).symm, h.ac, h.bc.new h.c hb⟩
theorem Dq.addC (h : Dq w X bz go m O v1 v2 v3 l1 l2 l3) {g l' cap t : Nat} (hI : Ivs (go + 1) X' (.slice (some ⟨g, 0, none⟩) l' cap) (l3 ++ [t])) (hg : X.grownBy X' v3.ownBlock) (hb : v3.ownBlock = some g ∨ g = X.heap.size) : Dq w X' bz go m O v1 v2 (.slice (some ⟨g, 0, none⟩) l' cap) l1 l2 (l3 ++ [t]) :=
 ⟨zsB h.bw h.c (by have := h.og; omega) hg, h.og, h.bg, h.bo, h.rb.grown14 h.c hg (by have := h.bo; omega), h.ord.grown14 h.c hg (by omega), h.a.grown14 (B' := 0) (l := []) hg h.ac.symm, h.b.grown14 (B' := 0) (l := []) hg h.bc.symm, hI, h.ab, (h.ac.symm.new h.a hb).symm, (h.bc.symm.new h.b hb).symm⟩
end
theorem zjH {W bs : List Nat} {p t : Nat} : upF (or1 W bs p) p (ixI bs (W.getD p 0)) t = or1 W bs (p + 1) t := by
 show (if t = p then ixI bs (W.getD p 0) else if t < p then ixI bs (W.getD t 0) else 0) = if t < p + 1 then ixI bs (W.getD t 0) else 0
 by_cases e : t = p
 ·subst e; rw [if_pos rfl, if_pos (Nat.lt_succ_self _)]
 ·rw [if_neg e]
  by_cases q : t < p
  ·rw [if_pos q, if_pos (Nat.lt_succ_of_lt q)]
  ·rw [if_neg q, if_neg (by omega)]
theorem zbH {W bs os : List Nat} {p : Nat} : (sltL W bs os p).length ≤ p ∧ (opnL W bs p).length ≤ p ∧ (freL W bs p).length ≤ p := by
 have h1 : (opnL W bs p).length ≤ p := by unfold opnL; have := List.length_filter_le (fun t => decide (W.getD t 0 ∉ bs)) (List.range p); simpa using this
 refine ⟨by unfold sltL; rw [List.length_map]; exact h1, h1, ?_⟩; unfold freL; have := List.length_filter_le (fun t => decide (bs.getD t 0 ∉ W)) (List.range p)
 simpa using this
end Go.Proofs.YtplldfnldaehiaaGreat
