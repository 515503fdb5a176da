/-
 QIz17ToTailL: Iz17, TailL, joined.
-/
import Derived.Test.YtffkmeocmjohmaaGreatQEl13
import Derived.Test.YtffkmeocmjohmaaGreatQTailToMWord

set_option maxRecDepth 100000
set_option maxHeartbeats 6400000
set_option linter.unusedVariables false
set_option linter.unusedSimpArgs false
namespace Go.Proofs.YtffkmeocmjohmaaGreat
open Go.RowKit
abbrev zhA : Value := .func (.func 82) #[] #[]
abbrev zAB : Value := .func (.func 47) #[] #[]
abbrev zGB : Value := .func (.func 83) #[] #[]
abbrev zHB : Value := .func (.func 84) #[] #[]
def znI (w : World) (z : Int) (e : Ending) (w' : World) : Prop := e = .returned (.bool (decide (z = 0))) ∧ Below w.heap.size w w'
theorem zrB (z : Int) : decide (cmpI z 0 = 0) = decide (z = 0) := by
 unfold cmpI
 by_cases h : z = 0
 ·subst h;rfl
 ·have : ¬ cmpI z 0 = 0 := by unfold cmpI;split <;> (try split) <;> omega
  unfold cmpI at this;rw [decide_eq_false this,decide_eq_false h]
theorem zdF {w : World} {v : Value} {z : Int} {k : Nat} (h : Zi w v z k) : Calls Tryz.prog 82 #[v] w (znI w z) := by
 obtain ⟨n,xs,a,c,rfl,s0,z0,k0⟩ := id h;obtain ⟨V1,hV⟩ : ∃ V1,w.alloc (duo (.bool n) (.slice a xs.length c)) = V1 := ⟨_,rfl⟩
 obtain ⟨b,sz1⟩ := alo1 w (duo (.bool n) (.slice a xs.length c));rw [hV] at b sz1;have PN : Hid (Duo V1 w.heap.size (.bool n) (.slice a xs.length c)) := by unfold Hid;rw [← hV];exact Duo.new w _ _
 have HS := hid (zHC (h.now b));have B1 := hid b;have EV := hid hV;have n0 := PN.out.c0;have n1 := PN.out.c1;rw [← hV] at n0 n1;clear h s0 z0 k0 b sz1 hV PN;go_enter Tryz.func82,Tryz.ntmps82;go_wp2_with fail;rw [EV.out];refine HS.out.mono ?_;rintro e w1 ⟨rfl,b⟩;have FF : Hid (znI w z (.returned (.bool (decide (cmpI z 0 = 0)))) w1) := by
  unfold Hid;rw [zrB];exact ⟨rfl,zAA B1.out b⟩
 clear HS EV B1 b n0 n1;go_wp2;go_ret;exact FF.out
theorem ovr_any {w : World} {v u : Value} {z y : Int} {k l : Nat} (h0 : Zi w v z k) (h1 : Zi w u y l) (hy : y ≠ 0) (hk : k ≤ 1099511627776) (hl : l ≤ 1099511627776) (hr : z.tmod y = 0) : Calls Tryz.prog 84 #[v,u] w (zcA w (z.tdiv y) k) := by
 obtain ⟨n,xs,a,c,rfl,-,-,-⟩ := id h0;obtain ⟨n',xs',a',c',rfl,-,-,-⟩ := id h1;obtain ⟨W0,hW0⟩ : ∃ W0,((w.alloc (duo (.bool n) (.slice a xs.length c))).alloc (duo (.bool n') (.slice a' xs'.length c'))).alloc zbox = W0 := ⟨_,rfl⟩
 obtain ⟨b0,sz0⟩ := ztA w (duo (.bool n) (.slice a xs.length c)) (duo (.bool n') (.slice a' xs'.length c')) zbox;rw [hW0] at b0 sz0;have p0 : Duo W0 (w.heap.size) (.bool n) (.slice a xs.length c) := by rw [← hW0];exact zIA (zIA (zKA (by simp)) _) _
 have p1 : Duo W0 (w.heap.size + 1) (.bool n') (.slice a' xs'.length c') := by rw [← hW0];exact zIA (zKA (by simp)) _
 have pR : Duo W0 (w.heap.size + 1 + 1) (.bool false) (.slice none 0 0) := by rw [← hW0];exact zKA (by simp)
 have HS := hid (zsA (h0.now b0) (h1.now b0) hy hk hl hr);have i0 := p0.c0;have i1 := p0.c1;have i2 := p1.c0;have i3 := p1.c1;rw [← hW0] at i0 i1 i2 i3;have PR := hid pR;have B0 := hid b0;have EW := hid hW0;have HSZ := hid sz0;clear h0 h1 hy hk hl hr p0 p1 pR b0 sz0 hW0;go_enter Tryz.func84,Tryz.ntmps84;go_wp2_with fail;rw [EW.out];refine HS.out.mono ?_;rintro e w1 ⟨rq,rfl,mq,bq⟩;obtain ⟨nq,xq,aq,cq,rfl⟩ := mq.parts;obtain ⟨V2,hV⟩ : ∃ V2,w1.alloc (duo (.bool nq) (.slice aq xq.length cq)) = V2 := ⟨_,rfl⟩
 obtain ⟨b2,sz2⟩ := alo1 w1 (duo (.bool nq) (.slice aq xq.length cq));rw [hV] at b2 sz2;have D2 : Duo V2 w1.heap.size (.bool nq) (.slice aq xq.length cq) := by rw [← hV];exact Duo.new w1 _ _
 have R2 := hid ((PR.out.step bq).step b2);have j0 := D2.c0;have j1 := D2.c1;have r0 := R2.out.c0;have r1 := R2.out.c1;have r2 := R2.out.fz 0;have r3 := R2.out.fz 1;have FF : Hid (zcA w (z.tdiv y) k (.returned (.agg #[.bool nq,.slice aq xq.length cq])) ((V2.setCell ⟨w.heap.size + 1 + 1,0,none⟩ (.bool nq)).setCell ⟨w.heap.size + 1 + 1,1,none⟩ (.slice aq xq.length cq))) :=
  zAD (mq.now b2) (zAA (zAA B0.out bq) b2) (by omega) (by have := HSZ.out;omega)
 have EV := hid hV;rw [← hV] at j0 j1 r0 r1 r2 r3;clear HS mq bq b2 sz2 hV D2 PR B0 EW HSZ i0 i1 i2 i3;go_wp2;rw [EV.out];exact bodyPost_ret (zvA Tryz.results84 (R2.out.set _ _) _ (by rfl)) rfl FF.out
end Go.Proofs.YtffkmeocmjohmaaGreat
