import Derived.Test.YtakkmpkkoecnhaaGreatQChk9ToMul9
import Derived.Test.YtakkmpkkoecnhaaGreatQSh11ToLeastA9
set_option maxRecDepth 100000
set_option maxHeartbeats 6400000
set_option linter.unusedVariables false
set_option linter.unusedSimpArgs false
namespace Go.Proofs.YtakkmpkkoecnhaaGreat
open Go.RowKit
abbrev twoR (r m : Nat) (r' c' : Int) (va vb : Value) : Obj := .cells #[.int .i64 (r : Int), .int .i64 (m : Int), va, .int .i64 r', .int .i64 c', vb] 24
def CkU (w : World) (gk : Nat) (s : Value) (wx : World) : Prop := ∃ i : Nat, s = .int .i64 (i : Int) ∧ i ≤ 1 ∧ gk = 1 - i ∧ Below w.heap.size w wx
theorem checkAll_un {w : World} {g r m : Nat} {r' c' : Int} {aa ab : Option Addr} {la ca lb cb : Nat} {xs : List Int} {k : Nat} (d : Cel w g 24 [.int .i64 (r : Int), .int .i64 (m : Int), .slice aa la ca, .int .i64 r', .int .i64 c', .slice ab lb cb])
  (ha : Mx w (matv r m (.slice aa la ca)) r m xs k) (hb : ¬ Snd r' c' lb) : Calls Tryz.prog 42 #[.slice (some ⟨g, 0, none⟩) 2 2] w fun e w' => e = .returned (.int .i64 1) ∧ Below w.heap.size w w' := by
 have D := hid d; have HA := hid ha; have HB := hid hb; have H0 : Hid (CkU w 1 (.int .i64 0) w) := ⟨0, rfl, Nat.zero_le _, rfl, Below.refl _ _⟩
 clear d ha hb; go_enter Tryz.func42, Tryz.ntmps42; go_wp2_with fail
 go_loopg [8] 1 (fun gk s8 wx => CkU w gk s8 wx)
 case atStart => exact H0.out
 case round =>
  clear H0; obtain ⟨i, rfl, hin, hg, hG⟩ := hrel; have G := hid hG; have HG := hid hg; have HI := hid hin; clear hG hg hin; have hlt' : (i : Int) < 2 := by have := HI.out; omega
  have hw := zQA (i := i) (by have := HI.out; omega)
  by_cases h0 : i = 0
  ·obtain ⟨e0, e1, e2⟩ : w.cell? ⟨g, i * 3, none⟩ = some (.int .i64 (r : Int)) ∧ w.cell? ⟨g, i * 3 + 1, none⟩ = some (.int .i64 (m : Int)) ∧ w.cell? ⟨g, i * 3 + 2, none⟩ = some (.slice aa la ca) := by
    subst h0; exact ⟨D.out.at (i := 0) rfl, D.out.at (i := 1) rfl, D.out.at (i := 2) rfl⟩
   have k0 := cnow G.out e0; have k1 := cnow G.out e1; have k2 := cnow G.out e2; obtain ⟨V1, hV⟩ : ∃ V1, wr.alloc (matO r m (.slice aa la ca)) = V1 := ⟨_, rfl⟩
   obtain ⟨b1', sz1⟩ := alo1 wr (matO r m (.slice aa la ca)); rw [hV] at b1' sz1; have P4 : Hid (Cel V1 wr.heap.size 24 (matc r m (.slice aa la ca))) := by unfold Hid; rw [← hV]; exact Cel.new wr _ _
   have GV := hid (zAA G.out b1'); have HS := hid (zsA (HA.out.now GV.out)); have x0 := P4.out.at (i := 0) rfl; have x1 := P4.out.at (i := 1) rfl; have x2 := P4.out.at (i := 2) rfl; rw [← hV] at x0 x1 x2; have EV := hid hV; have H0 := hid h0; clear e0 e1 e2 b1' sz1 hV P4 G h0; go_wp2_with fail; rw [EV.out]; refine HS.out.mono ?_; rintro e w1 ⟨rfl, b⟩; have HN1 : Hid (CkU w (1 - (i + 1)) (.int .i64 ((i + 1 : Nat) : Int)) w1) := ⟨i + 1, rfl, by have := H0.out; omega, rfl, zAA GV.out b⟩
   have HMM : Hid (1 - (i + 1) < gk) := by unfold Hid; rw [HG.out]; have := H0.out; omega
   clear HS GV b EV HG x0 x1 x2 k0 k1 k2 H0 HI; go_wp2_with fail; go_roundg (1 - (i + 1))
   case rel => exact HN1.out
   case measure => exact HMM.out
  ·obtain ⟨e0, e1, e2⟩ : w.cell? ⟨g, i * 3, none⟩ = some (.int .i64 r') ∧ w.cell? ⟨g, i * 3 + 1, none⟩ = some (.int .i64 c') ∧ w.cell? ⟨g, i * 3 + 2, none⟩ = some (.slice ab lb cb) := by
    obtain rfl : i = 1 := by have := HI.out; omega
    exact ⟨D.out.at (i := 3) rfl, D.out.at (i := 4) rfl, D.out.at (i := 5) rfl⟩
   have k0 := cnow G.out e0; have k1 := cnow G.out e1; have k2 := cnow G.out e2; obtain ⟨V1, hV⟩ : ∃ V1, wr.alloc (.cells #[.int .i64 r', .int .i64 c', .slice ab lb cb] 24) = V1 := ⟨_, rfl⟩
   obtain ⟨b1', sz1⟩ := alo1 wr (.cells #[.int .i64 r', .int .i64 c', .slice ab lb cb] 24); rw [hV] at b1' sz1; have P4 : Hid (Cel V1 wr.heap.size 24 [.int .i64 r', .int .i64 c', .slice ab lb cb]) := by unfold Hid; rw [← hV]; exact Cel.new wr _ _
   have GV := hid (zAA G.out b1'); have HS := hid (zFF (w := V1) (a := ab) (cap := cb) HB.out); have x0 := P4.out.at (i := 0) rfl; have x1 := P4.out.at (i := 1) rfl; have x2 := P4.out.at (i := 2) rfl; rw [← hV] at x0 x1 x2; have EV := hid hV; clear e0 e1 e2 b1' sz1 hV P4 G h0; go_wp2_with fail; rw [EV.out]; refine HS.out.mono ?_; rintro e w1 ⟨rfl, b⟩; have FIN : Hid (Below w.heap.size w w1) := zAA GV.out b; clear HS GV b EV HG x0 x1 x2 k0 k1 k2 HI; go_wp2; go_ret; exact ⟨rfl, FIN.out⟩
theorem mul_un {w : World} {va : Value} {r m : Nat} {xs : List Int} {k : Nat} {r' c' : Int} {ab : Option Addr} {lb cb : Nat} (ha : Mx w va r m xs k) (hb : ¬ Snd r' c' lb) :
  Calls Tryz.prog 13 #[va, .agg #[.int .i64 r', .int .i64 c', .slice ab lb cb]] w (zLC w 1) := by
 obtain ⟨aa, ca, rfl, hr, hm⟩ := ha.form; generalize r * m = la at *; obtain ⟨W0, hW⟩ : ∃ W0, ((w.alloc (matO r m (.slice aa la ca))).alloc (.cells [.int .i64 r', .int .i64 c', .slice ab lb cb].toArray 24)).alloc mbox = W0 := ⟨_, rfl⟩
 obtain ⟨b0, sz0⟩ := zyA w (matO r m (.slice aa la ca)) (.cells [.int .i64 r', .int .i64 c', .slice ab lb cb].toArray 24) mbox; rw [hW] at b0 sz0; obtain ⟨pa, pb, pr⟩ := zcC (o1 := matc r m (.slice aa la ca)) (o2 := [.int .i64 r', .int .i64 c', .slice ab lb cb]) hW; obtain ⟨V1, hV⟩ : ∃ V1, W0.alloc (twoR r m r' c' (.slice aa la ca) (.slice ab lb cb)) = V1 := ⟨_, rfl⟩
 obtain ⟨b1, sz1⟩ := alo1 W0 (twoR r m r' c' (.slice aa la ca) (.slice ab lb cb)); rw [hV] at b1 sz1; have dd : Cel V1 W0.heap.size 24 [.int .i64 (r : Int), .int .i64 (m : Int), .slice aa la ca, .int .i64 r', .int .i64 c', .slice ab lb cb] := by rw [← hV]; exact Cel.new _ _ _
 have HCK := hid (checkAll_un dd ((ha.now b0).now b1) hb); have x0 := pa.at (i := 0) rfl; have x1 := pa.at (i := 1) rfl; have x2 := pa.at (i := 2) rfl; have y0 := pb.at (i := 0) rfl; have y1 := pb.at (i := 1) rfl; have y2 := pb.at (i := 2) rfl; rw [← hW] at x0 x1 x2 y0 y1 y2; have PR := hid (pr.step b1); have G1 := hid (zAA b0 b1); have EQ : Hid ((((w.alloc (matO r m (.slice aa la ca))).alloc (.cells #[.int .i64 r', .int .i64 c', .slice ab lb cb] 24)).alloc mbox).alloc (twoR r m r' c' (.slice aa la ca) (.slice ab lb cb)) = V1) := by unfold Hid; rw [← hV, ← hW]
 have SW : Hid (W0.heap.size = w.heap.size + 1 + 1 + 1) := sz0; rw [SW.out] at HCK; clear ha hb b0 sz0 hW pa pb pr b1 sz1 hV dd; go_enter Tryz.func13, Tryz.ntmps13; go_wp2_with fail; rw [EQ.out]; refine HCK.out.mono ?_; rintro e w1 ⟨rfl, b⟩; have PR1 := hid (PR.out.step b); have G2 := hid (zAA G1.out b); have r0 := PR1.out.at (i := 0) rfl; have r1 := PR1.out.at (i := 1) rfl; have r2 := PR1.out.at (i := 2) rfl; have f0 := PR1.out.fz 0; have f1 := PR1.out.fz 1; have f2 := PR1.out.fz 2; have FIN : Hid (zLC w 1 (.returned (.tuple #[zcF, .int .i64 1])) (put3 w1 (w.heap.size + 1 + 1) (.int .i64 0) (.int .i64 0) (.slice none 0 0))) := ⟨rfl, zOA G2.out (by omega) _ _ _⟩
 have PF := hid (PR1.out.put3 (.int .i64 0) (.int .i64 0) (.slice none 0 0)); clear HCK b x0 x1 x2 y0 y1 y2 EQ PR G1 PR1; go_wp2; exact bodyPost_ret (zGC Tryz.results13 PF.out _ (by rfl) (by rfl)) rfl FIN.out
end Go.Proofs.YtakkmpkkoecnhaaGreat
