import Derived.Test.YtlhjogiefbjklaaQPlays3
set_option maxRecDepth 100000
set_option maxHeartbeats 6400000
set_option linter.unusedVariables false
set_option linter.unusedSimpArgs false
namespace Go.Proofs.Ytlhjogiefbjklaa
open Go.RowKit
def Five (w : World) (b : Nat) (x0 x1 x2 x3 x4 : Value) : Prop :=
 w.cell? ⟨b,0,none⟩ = some x0 ∧ w.cell? ⟨b,1,none⟩ = some x1 ∧ w.cell? ⟨b,2,none⟩ = some x2 ∧ w.cell? ⟨b,3,none⟩ = some x3 ∧ w.cell? ⟨b,4,none⟩ = some x4
theorem Five.below {w w' : World} {b B : Nat} {x0 x1 x2 x3 x4 : Value} (h : Five w b x0 x1 x2 x3 x4) (hb : Below B w w') (hB : b < B) : Five w' b x0 x1 x2 x3 x4 :=
 ⟨(hb.cell (p := ⟨b,0,none⟩) hB).trans h.1,(hb.cell (p := ⟨b,1,none⟩) hB).trans h.2.1,(hb.cell (p := ⟨b,2,none⟩) hB).trans h.2.2.1,(hb.cell (p := ⟨b,3,none⟩) hB).trans h.2.2.2.1,(hb.cell (p := ⟨b,4,none⟩) hB).trans h.2.2.2.2⟩
theorem five_of {W : World} {b : Nat} {x0 x1 x2 x3 x4 : Value} {t : TypeId} (e : W.heap[b]? = some (.cells #[x0,x1,x2,x3,x4] t)) : Five W b x0 x1 x2 x3 x4 := by
 refine ⟨?_,?_,?_,?_,?_⟩ <;> simp [World.cell?,e]
theorem Five.new (w : World) (x0 x1 x2 x3 x4 : Value) (t : TypeId) : Five (w.alloc (.cells #[x0,x1,x2,x3,x4] t)) w.heap.size x0 x1 x2 x3 x4 := five_of (heap_alloc_new w (.cells #[x0,x1,x2,x3,x4] t))
theorem same3_yes {w : World} {q1 r1 q2 r2 : Value} {qs rs : List Int} {W N E : Int} (h1 : Sl w.heap.size w q1 qs) (h2 : Sl w.heap.size w r1 rs) (h3 : Sl w.heap.size w q2 qs) (h4 : Sl w.heap.size w r2 rs) :
  Calls Try.prog 11 #[.agg #[q1,r1,.int .u64 W,.int .i64 N,.int .i64 E],.agg #[q2,r2,.int .u64 W,.int .i64 N,.int .i64 E]] w fun e w' => e = .returned (.bool true) ∧ Below w.heap.size w w' := by
 have FA := Five.new w q1 r1 (.int .u64 W) (.int .i64 N) (.int .i64 E) 35;have BA : Below w.heap.size w (w.alloc (.cells #[q1,r1,.int .u64 W,.int .i64 N,.int .i64 E] 35)) := (Below.refl _ _).alloc (Nat.le_refl _) _;obtain ⟨wA,hwA⟩ : ∃ wA,w.alloc (.cells #[q1,r1,.int .u64 W,.int .i64 N,.int .i64 E] 35) = wA := ⟨_,rfl⟩
 have FB := Five.new wA q2 r2 (.int .u64 W) (.int .i64 N) (.int .i64 E) 35;have BB : Below wA.heap.size wA (wA.alloc (.cells #[q2,r2,.int .u64 W,.int .i64 N,.int .i64 E] 35)) := (Below.refl _ _).alloc (Nat.le_refl _) _;have hsA : wA.heap.size = w.heap.size + 1 := by rw [← hwA];simp
 rw [hwA] at FA BA;have FA2 := FA.below BB (by omega);have BAB := hid (zAA BA BB);rw [hsA] at FB;have HQ := hid (zXE (h1.now BAB.out) (h3.now BAB.out) rfl);have S2 := hid (h2.now BAB.out);have S4 := hid (h4.now BAB.out);have sB : (wA.alloc (.cells #[q2,r2,.int .u64 W,.int .i64 N,.int .i64 E] 35)).heap.size = w.heap.size + 1 + 1 := by simp [hsA]
 have HKA : Hid (∀ w',Below (wA.alloc (.cells #[q2,r2,.int .u64 W,.int .i64 N,.int .i64 E] 35)).heap.size (wA.alloc (.cells #[q2,r2,.int .u64 W,.int .i64 N,.int .i64 E] 35)) w' → Five w' w.heap.size q1 r1 (.int .u64 W) (.int .i64 N) (.int .i64 E) ∧ Five w' (w.heap.size + 1) q2 r2 (.int .u64 W) (.int .i64 N) (.int .i64 E)) := fun w' h => ⟨FA2.below h (by omega),FB.below h (by omega)⟩
 subst hwA;obtain ⟨WB,hWB⟩ : ∃ WB,(w.alloc (.cells #[q1,r1,.int .u64 W,.int .i64 N,.int .i64 E] 35)).alloc (.cells #[q2,r2,.int .u64 W,.int .i64 N,.int .i64 E] 35) = WB := ⟨_,rfl⟩
 rw [hWB] at HQ S2 S4 BAB HKA;have EW := hid hWB;obtain ⟨⟨a0,a1,a2,a3,a4⟩,⟨b0,b1,b2,b3,b4⟩⟩ := HKA.out WB (Below.refl _ _);clear h1 h2 h3 h4 FA FB FA2 BA BB hsA sB hWB;have wq : (W == W) = true := by simp
 have nq : (N == N) = true := by simp
 have eq : (E == E) = true := by simp
 go_enter Try.func11,Try.ntmps11;go_wp2_with fail;rw [EW.out];refine HQ.out.mono ?_;rintro e w3 ⟨rfl,k3⟩;obtain ⟨⟨c0,c1,c2,c3,c4⟩,⟨d0,d1,d2,d3,d4⟩⟩ := HKA.out w3 k3;have HR := hid (zXE (S2.out.now k3) (S4.out.now k3) rfl);have K3 := hid k3;clear HQ k3 a0 a1 a2 a3 a4 b0 b1 b2 b3 b4;go_wp2_with fail;refine HR.out.mono ?_;rintro e w4 ⟨rfl,k4⟩;obtain ⟨⟨e0,e1,e2,e3,e4⟩,⟨f0,f1,f2,f3,f4⟩⟩ := HKA.out w4 (zAA K3.out k4);have K4 := hid k4;clear HR k4 c0 c1 c2 c3 c4 d0 d1 d2 d3 d4;go_wp2;go_ret;exact ⟨by first | rfl | simp,zAA (zAA BAB.out K3.out) K4.out⟩
abbrev zcC := List Int → List Int → Int → Int → Int → Prop
def zUC (S : zcC) (w : World) (e : Ending) (w' : World) : Prop := ∃ qs rs W N E,S qs rs W N E ∧ Ans3 w qs rs W N E e w'
def zjA (S : zcC) : Prop := ∀ qs rs W N E qs' rs' W' N' E',S qs rs W N E → S qs' rs' W' N' E' → qs' = qs ∧ rs' = rs ∧ W' = W ∧ N' = N ∧ E' = E
theorem right3_any {w : World} {va vb : Value} {xs ys : List Int} {kind W K : Int} {S : zcC} (ha : Sl w.heap.size w va xs) (hb : Sl w.heap.size w vb ys) (hS : zjA S)
  (hw : ∀ w',Sl w'.heap.size w' va xs → Sl w'.heap.size w' vb ys → Calls Try.prog 9 #[.agg #[.int .i64 kind,va,vb,.int .u64 W,.int .i64 K]] w' (zUC S w'))
  (hp : ∀ w',Sl w'.heap.size w' va xs → Sl w'.heap.size w' vb ys → Calls Try.prog 10 #[.agg #[.int .i64 kind,va,vb,.int .u64 W,.int .i64 K]] w' (zUC S w')) :
  Calls Try.prog 6 #[.agg #[.int .i64 kind,va,vb,.int .u64 W,.int .i64 K]] w fun e w' => e = .returned (.bool true) ∧ Below w.heap.size w w' := by
 have FO := Five.new w (.int .i64 kind) va vb (.int .u64 W) (.int .i64 K) 28;have BO : Below w.heap.size w (w.alloc (zCA kind va vb W K)) := (Below.refl _ _).alloc (Nat.le_refl _) _;have sO : (w.alloc (zCA kind va vb W K)).heap.size = w.heap.size + 1 := by simp
 have HW1 := hid (hw _ (ha.now BO) (hb.now BO));have HP : Hid (∀ w',Below (w.alloc (zCA kind va vb W K)).heap.size (w.alloc (zCA kind va vb W K)) w' → Calls Try.prog 10 #[.agg #[.int .i64 kind,va,vb,.int .u64 W,.int .i64 K]] w' (zUC S w')) := fun w' h => hp w' ((ha.now BO).now h) ((hb.now BO).now h)
 have HKO : Hid (∀ w',Below (w.alloc (zCA kind va vb W K)).heap.size (w.alloc (zCA kind va vb W K)) w' → Five w' w.heap.size (.int .i64 kind) va vb (.int .u64 W) (.int .i64 K)) := fun w' h => FO.below h (by omega)
 have BO' := hid BO;have HS := hid hS;clear ha hb hw hp FO BO hS;go_enter Try.func6,Try.ntmps6;go_wp2_with fail;refine HW1.out.mono ?_;rintro e w1 ⟨qs,rs,W1,N1,E1,hs1,q,r,rfl,hoq,hor,_,b1⟩;have s1 := b1.size;obtain ⟨qa,qc,rfl⟩ := hoq.form;obtain ⟨ra,rc,rfl⟩ := hor.form;obtain ⟨wY,hwY⟩ : ∃ wY,w1.alloc (.cells #[.slice qa qs.length qc,.slice ra rs.length rc,.int .u64 W1,.int .i64 N1,.int .i64 E1] 35) = wY := ⟨_,rfl⟩
 have bY : Below w1.heap.size w1 wY := by rw [← hwY];exact (Below.refl _ _).alloc (Nat.le_refl _) _
 have FY : Five wY w1.heap.size (.slice qa qs.length qc) (.slice ra rs.length rc) (.int .u64 W1) (.int .i64 N1) (.int .i64 E1) := by rw [← hwY];exact Five.new w1 _ _ _ _ _ _
 have sY : wY.heap.size = w1.heap.size + 1 := by rw [← hwY];simp
 have b2 := zAA b1 bY;have FO2 := HKO.out wY b2;rw [← hwY] at FO2;obtain ⟨o0,o1,o2,o3,o4⟩ := FO2;have HP2 := hid (HP.out wY b2);have SQ := hid (hoq.sl.now bY);have SR := hid (hor.sl.now bY);have HKY : Hid (∀ w',Below wY.heap.size wY w' → Five w' w1.heap.size (.slice qa qs.length qc) (.slice ra rs.length rc) (.int .u64 W1) (.int .i64 N1) (.int .i64 E1)) := fun w' h => FY.below h (by omega)
 have B2 := hid (BO'.out.trans (b2.mono (by rw [sO];omega)));have HS1 := hid hs1;have EY := hid hwY;clear HW1 hoq hor b1 bY FY b2 hwY HP HKO hs1 BO';go_wp2_with fail;rw [EY.out];refine HP2.out.mono ?_;rintro e w2 ⟨qs',rs',W2,N2,E2,hs2,q',r',rfl,hoq,hor,_,b3⟩;obtain ⟨rfl,rfl,rfl,rfl,rfl⟩ := HS.out _ _ _ _ _ _ _ _ _ _ HS1.out hs2;obtain ⟨qa',qc',rfl⟩ := hoq.form;obtain ⟨ra',rc',rfl⟩ := hor.form;obtain ⟨wX,hwX⟩ : ∃ wX,w2.alloc (.cells #[.slice qa' qs'.length qc',.slice ra' rs'.length rc',.int .u64 W2,.int .i64 N2,.int .i64 E2] 35) = wX := ⟨_,rfl⟩
 have bX : Below w2.heap.size w2 wX := by rw [← hwX];exact (Below.refl _ _).alloc (Nat.le_refl _) _
 have FX : Five wX w2.heap.size (.slice qa' qs'.length qc') (.slice ra' rs'.length rc') (.int .u64 W2) (.int .i64 N2) (.int .i64 E2) := by rw [← hwX];exact Five.new w2 _ _ _ _ _ _
 have b4 := zAA b3 bX;have FY2 := HKY.out wX b4;rw [← hwX] at FY2 FX;obtain ⟨x0,x1,x2,x3,x4⟩ := FX;obtain ⟨y0,y1,y2,y3,y4⟩ := FY2;have HSM := hid (same3_yes (W := W2) (N := N2) (E := E2) (hoq.sl.now bX) (hor.sl.now bX) (SQ.out.now b4) (SR.out.now b4));have B4 := hid (zAA B2.out b4);have EX := hid hwX;clear HP2 HKY SQ SR hoq hor b3 bX b4 o0 o1 o2 o3 o4 hwX;go_wp2_with fail;rw [EX.out];refine HSM.out.mono ?_;rintro e w5 ⟨rfl,b5⟩;have B5 := hid (zAA B4.out b5);clear b5 HSM;go_wp2;go_ret;exact ⟨rfl,B5.out⟩
end Go.Proofs.Ytlhjogiefbjklaa
