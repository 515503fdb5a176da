/-
 QEm17ToOv17: Em17, Ed17, Ov17, joined.
-/
import Derived.Test.YtffkmeocmjohmaaGreatQSe17
import Derived.Test.YtffkmeocmjohmaaGreatQGather8ToWz17
import Derived.Test.YtffkmeocmjohmaaGreatQQf17ToFa17

set_option maxRecDepth 100000
set_option maxHeartbeats 6400000
set_option linter.unusedVariables false
set_option linter.unusedSimpArgs false
namespace Go.Proofs.YtffkmeocmjohmaaGreat
open Go.RowKit
theorem zjC (P : Program) (w : World) (p : Addr) (f : Fn) (a b : Array Value) (m : Mode) : (store p (.func f a b) m).run P w = match w.cell? p with
      | some _ => if w.frozen? p then .halt (.unsupported (.unsafePointer "a write to bytes that a string shares")) w else .ok () (w.setCell p (.func f a b))
      | none => match w.farStore P p (.func f a b) (m == .atomic) with
        | .ok (w',_) => .ok () w'
        | .error h => .halt h w := run_store P w p (.func f a b) m rfl
attribute [local go_sem] zjC
theorem aback17 {f : Func} {s : Nat} (hr : f.results = #[ResultVar.cell s 61]) {W : World} {b : Nat} {x0 x1 x2 x3 x4 x5 : Value} (h : Cel W b 61 [x0,x1,x2,x3,x4,x5]) (tmps : Array Value) (ht : tmps[s]? = some (.pointer (some ⟨b,0,none⟩))) :
  (results f tmps).run Tryz.prog W = .ok (.agg #[x0,x1,x2,x3,x4,x5]) W := by
 simp [results,hr,go_sem,ht,h.at (i := 0) rfl,h.at (i := 1) rfl,h.at (i := 2) rfl,h.at (i := 3) rfl,h.at (i := 4) rfl,h.at (i := 5) rfl]
theorem zVH {f : Func} {s : Nat} (hr : f.results = #[ResultVar.cell s 64]) {W : World} {b : Nat} {x0 x1 x2 x3 x4 x5 x6 x7 x8 x9 : Value} (h : Cel W b 64 [x0,x1,x2,x3,x4,x5,x6,x7,x8,x9]) (tmps : Array Value) (ht : tmps[s]? = some (.pointer (some ⟨b,0,none⟩))) :
  (results f tmps).run Tryz.prog W = .ok (.agg #[x0,x1,x2,x3,x4,x5,x6,x7,x8,x9]) W := by
 simp [results,hr,go_sem,ht,h.at (i := 0) rfl,h.at (i := 1) rfl,h.at (i := 2) rfl,h.at (i := 3) rfl,h.at (i := 4) rfl,h.at (i := 5) rfl,h.at (i := 6) rfl,h.at (i := 7) rfl,h.at (i := 8) rfl,h.at (i := 9) rfl]
theorem integers_any (w : World) : Calls Tryz.prog 56 #[] w fun e w' => ∃ nx ax lx cx,e = .returned (.agg #[.bool nx,.slice ax lx cx,zhA,zAB,zGB,zHB]) ∧ Zm w.heap.size w' (.agg #[.bool nx,.slice ax lx cx]) 1 1 ∧ Below w.heap.size w w' := by
 obtain ⟨W0,hW⟩ : ∃ W0,w.alloc (.cells #[.bool false,.slice none 0 0,.nilFunc,.nilFunc,.nilFunc,.nilFunc] 61) = W0 := ⟨_,rfl⟩
 obtain ⟨b0,sz0⟩ := alo1 w (.cells #[.bool false,.slice none 0 0,.nilFunc,.nilFunc,.nilFunc,.nilFunc] 61);rw [hW] at b0 sz0;have C0 : Hid (Cel W0 w.heap.size 61 [.bool false,.slice none 0 0,.nilFunc,.nilFunc,.nilFunc,.nilFunc]) := by unfold Hid;rw [← hW];exact Cel.new w _ _
 have HOF := hid (of_z (n := 1) (by decide) (by decide) W0);have EW := hid hW;have B0 := hid b0;clear hW b0 sz0;go_enter Tryz.func56,Tryz.ntmps56;go_wp2_with fail;rw [EW.out];refine HOF.out.mono ?_;rintro e w1 ⟨r,rfl,m,b⟩;obtain ⟨nx,xs,ax,cx,rfl⟩ := m.parts;have C1 := C0.out.step b;have c0 := C1.at (i := 0) rfl;have c1 := C1.at (i := 1) rfl;have c2 := C1.at (i := 2) rfl;have c3 := C1.at (i := 3) rfl;have c4 := C1.at (i := 4) rfl;have c5 := C1.at (i := 5) rfl;have f0 := C1.fz 0;have f1 := C1.fz 1;have f2 := C1.fz 2;have f3 := C1.fz 3;have f4 := C1.fz 4;have f5 := C1.fz 5;obtain ⟨V,hV⟩ : ∃ V,(((((w1.setCell ⟨w.heap.size,0,none⟩ (.bool nx)).setCell ⟨w.heap.size,1,none⟩ (.slice ax xs.length cx)).setCell ⟨w.heap.size,2,none⟩ zhA).setCell ⟨w.heap.size,3,none⟩ zAB).setCell ⟨w.heap.size,4,none⟩ zGB).setCell ⟨w.heap.size,5,none⟩ zHB = V := ⟨_,rfl⟩
 have d1 := C1.set 0 (.bool nx);have d2 := d1.set 1 (.slice ax xs.length cx);have d3 := d2.set 2 zhA;have d4 := d3.set 3 zAB;have d5 := d4.set 4 zGB;have d6 := d5.set 5 zHB;have ty : Ty 61 w1 V := by
  rw [← hV];exact (((((Ty.set C1).trans (Ty.set d1)).trans (Ty.set d2)).trans (Ty.set d3)).trans (Ty.set d4)).trans (Ty.set d5)
 rw [hV] at d6;have DR := hid d6;have FF : Hid (∃ nx' ax' lx' cx',(Ending.returned (.agg #[.bool nx,.slice ax xs.length cx,zhA,zAB,zGB,zHB])) = .returned (.agg #[.bool nx',.slice ax' lx' cx',zhA,zAB,zGB,zHB]) ∧ Zm w.heap.size V (.agg #[.bool nx',.slice ax' lx' cx']) 1 1 ∧ Below w.heap.size w V) := by
  refine ⟨_,_,_,_,rfl,(m.mono B0.out.size).ty ty (by decide),?_⟩;rw [← hV];have h := Nat.le_refl w.heap.size;exact bset (bset (bset (bset (bset (bset (zAA B0.out b) h) h) h) h) h) h
 have EV := hid hV;clear hV d1 d2 d3 d4 d5 d6 ty C1 C0 HOF m b B0 EW;go_wp2;rw [EV.out];exact bodyPost_ret (aback17 Tryz.results56 DR.out _ (by rfl)) rfl FF.out
theorem zVD {w : World} {b B : Nat} {x0 x1 x2 x3 x4 x5 x6 x7 x8 x9 : Value} (h : Cel w b 64 [x0,x1,x2,x3,x4,x5,x6,x7,x8,x9]) (hB : B ≤ b) (y0 y1 y2 y3 y4 y5 y6 y7 y8 y9 : Value) :
  ∀ V,(((((((((w.setCell ⟨b,0,none⟩ y0).setCell ⟨b,1,none⟩ y1).setCell ⟨b,2,none⟩ y2).setCell ⟨b,3,none⟩ y3).setCell ⟨b,4,none⟩ y4).setCell ⟨b,5,none⟩ y5).setCell ⟨b,6,none⟩ y6).setCell ⟨b,7,none⟩ y7).setCell ⟨b,8,none⟩ y8).setCell ⟨b,9,none⟩ y9 = V →
   Cel V b 64 [y0,y1,y2,y3,y4,y5,y6,y7,y8,y9] ∧ Ty 64 w V ∧ Below B w V := by
 rintro V rfl;have d0 := h.set 0 y0;have d1 := d0.set 1 y1;have d2 := d1.set 2 y2;have d3 := d2.set 3 y3;have d4 := d3.set 4 y4;have d5 := d4.set 5 y5;have d6 := d5.set 6 y6;have d7 := d6.set 7 y7;have d8 := d7.set 8 y8;have d9 := d8.set 9 y9;exact ⟨d9,(((((((((Ty.set h).trans (Ty.set d0)).trans (Ty.set d1)).trans (Ty.set d2)).trans (Ty.set d3)).trans (Ty.set d4)).trans (Ty.set d5)).trans (Ty.set d6)).trans (Ty.set d7)).trans (Ty.set d8),bset (bset (bset (bset (bset (bset (bset (bset (bset (bset (Below.refl _ _) hB) hB) hB) hB) hB) hB) hB) hB) hB) hB⟩
def Eld (A : Nat → Nat → Int) (B : Nat) (w : World) (m n c k : Nat) (e : Ending) (w' : World) : Prop :=
 ∃ nx ax lx cx lv nd ad ld cd vv gs L d pv,e = .returned (.agg #[.bool nx,.slice ax lx cx,zhA,zAB,zGB,zHB,lv,.bool nd,.slice ad ld cd,vv]) ∧ Zm 0 w' (.agg #[.bool nd,.slice ad ld cd]) d k ∧ Ivs B w' vv pv ∧ Sh17 B w' lv m n gs L k ∧ Els A m n c L d pv ∧ Below B w w'
def EmH (A : Nat → Nat → Int) (B : Nat) (w : World) (Bs m n C k gk : Nat) (s : Value) (wx : World) : Prop :=
 ∃ (c : Nat) (gs : Nat → Nat) (L : Nat → Nat → Int) (d : Int) (pv : List Nat),s = .int .i64 (c : Int) ∧ c ≤ C ∧ gk = C - c ∧ Elm B wx Bs m n gs L d pv k ∧ Els A m n c L d pv ∧ Below B w wx ∧ Kp17 Bs w wx
theorem eliminate_any17 {A : Nat → Nat → Int} {B : Nat} {w : World} {lv : Value} {nx : Bool} {ax : Option Addr} {lx cx m n C k : Nat} {gs : Nat → Nat} (hS : Sh17 B w lv m n gs A k) (hz : Zm 0 w (.agg #[.bool nx,.slice ax lx cx]) 1 k) (hB : B ≤ w.heap.size) (hK : ∀ f,((dcl A m n f).natAbs : Int) < pw k) (hm : m ≤ 64) (hC : C ≤ n) (hn : n ≤ 128) (hkw : k ≤ 274877906944) :
  Calls Tryz.prog 55 #[.agg #[.bool nx,.slice ax lx cx,zhA,zAB,zGB,zHB],lv,.int .i64 (C : Int)] w (Eld A B w m n C k) := by
 have HSE : Hid (∀ {wx : World} {Bs c : Nat} {gs : Nat → Nat} {L : Nat → Nat → Int} {d : Int} {pv : List Nat},c < n → Elm B wx Bs m n gs L d pv k → Els A m n c L d pv → Calls Tryz.prog 81 #[.pointer (some ⟨Bs,0,none⟩),.int .i64 (c : Int)] wx (zvC A B wx Bs m n c k)) := fun hc h1 h2 => by
  by_cases h0 : m = 0
  ·subst h0;exact settle_zero h1 h2 hc hn
  ·exact settle_pos h1 h2 hK (by omega) hm hc hn hkw
 obtain ⟨la,lcap,rfl⟩ : ∃ la lcap,lv = .slice la m lcap := by
  rcases hS.1 with ⟨rfl,h⟩ | ⟨h,Lb,cap,r,e,_⟩
  ·exact ⟨_,_,h⟩
  ·exact ⟨_,_,e⟩
 obtain ⟨O1,hO1⟩ : ∃ O1,Obj.cells #[.bool nx,.slice ax lx cx,zhA,zAB,zGB,zHB] 61 = O1 := ⟨_,rfl⟩
 obtain ⟨O2,hO2⟩ : ∃ O2,Obj.cells #[.bool false,.slice none 0 0,.nilFunc,.nilFunc,.nilFunc,.nilFunc,.slice none 0 0,.bool false,.slice none 0 0,.slice none 0 0] 64 = O2 := ⟨_,rfl⟩
 obtain ⟨O3,hO3⟩ : ∃ O3,Obj.cells #[.bool nx,.slice ax lx cx,zhA,zAB,zGB,zHB,.slice la m lcap,.bool nx,.slice ax lx cx,.slice none 0 0] 64 = O3 := ⟨_,rfl⟩
 obtain ⟨W0,hW⟩ : ∃ W0,((w.alloc O1).alloc O2).alloc O3 = W0 := ⟨_,rfl⟩
 obtain ⟨b0,sz0⟩ := ztA w O1 O2 O3;rw [hW] at b0 sz0;have C2 : Hid (Cel W0 (w.heap.size + 1) 64 [.bool false,.slice none 0 0,.nilFunc,.nilFunc,.nilFunc,.nilFunc,.slice none 0 0,.bool false,.slice none 0 0,.slice none 0 0]) := by
  unfold Hid;rw [← hW,← hO2];have := (Cel.new (w.alloc O1) 64 [.bool false,.slice none 0 0,.nilFunc,.nilFunc,.nilFunc,.nilFunc,.slice none 0 0,.bool false,.slice none 0 0,.slice none 0 0]).step (alo1 _ O3).1
  simpa using this
 have C3 : Ebx W0 (w.heap.size + 1 + 1) (.bool nx) (.slice ax lx cx) (.slice la m lcap) (.bool nx) (.slice ax lx cx) (.slice none 0 0) := by
  rw [← hW,← hO3];have := Cel.new ((w.alloc O1).alloc O2) 64 [.bool nx,.slice ax lx cx,zhA,zAB,zGB,zHB,.slice la m lcap,.bool nx,.slice ax lx cx,.slice none 0 0]
  simpa [Ebx] using this
 have H0 : Hid (EmH A B w (w.heap.size + 1 + 1) m n C k C (.int .i64 0) W0) := ⟨0,gs,A,1,[],rfl,Nat.zero_le _,rfl,⟨_,_,_,nx,ax,lx,cx,_,C3,by omega,hz.now b0,Ivs.nil _ _,hS.now b0,⟨_,_,_,_,rfl,rfl⟩⟩,Els.start A m n,b0.mono hB,.of b0⟩
 have HB := hid hB;have EW : Hid (((w.alloc (.cells #[.bool nx,.slice ax lx cx,zhA,zAB,zGB,zHB] 61)).alloc (.cells #[.bool false,.slice none 0 0,.nilFunc,.nilFunc,.nilFunc,.nilFunc,.slice none 0 0,.bool false,.slice none 0 0,.slice none 0 0] 64)).alloc (.cells #[.bool nx,.slice ax lx cx,zhA,zAB,zGB,zHB,.slice la m lcap,.bool nx,.slice ax lx cx,.slice none 0 0] 64) = W0) := by unfold Hid;rw [hO1,hO2,hO3];exact hW
 have HCN := hid hC;obtain ⟨b6,hb6⟩ : ∃ b6,w.heap.size + 1 = b6 := ⟨_,rfl⟩
 rw [hb6] at C2 H0;have KP : Hid (Kp17 (b6 + 1) W0 W0 → True) := fun _ => trivial
 have C2W : Hid (∀ wx,Kp17 (b6 + 1) W0 wx → Cel wx b6 64 [.bool false,.slice none 0 0,.nilFunc,.nilFunc,.nilFunc,.nilFunc,.slice none 0 0,.bool false,.slice none 0 0,.slice none 0 0]) := fun wx h => h b6 _ _ C2.out (by omega)
 have HB6 : Hid (B ≤ b6) := by unfold Hid;omega
 have H0' : Hid (EmH A B W0 (b6 + 1) m n C k C (.int .i64 0) W0) := by
  obtain ⟨c,gs',L,d,pv,e1,e2,e3,e4,e5,e6,e7⟩ := H0.out;exact ⟨c,gs',L,d,pv,e1,e2,e3,e4,e5,Below.refl _ _,Kp17.refl _ _⟩
 have BW : Hid (Below B w W0) := b0.mono hB;have E6 := hid hb6;clear hS hz hB hK hm hC hkw hO1 hO2 hO3 hW b0 sz0 C3 KP H0 C2 hb6;go_enter Tryz.func55,Tryz.ntmps55;go_wp2_with fail;rw [EW.out,E6.out];clear EW E6
 go_loopg [15] C (fun gk s15 wx => EmH A B W0 (b6 + 1) m n C k gk s15 wx)
 case atStart => exact H0'.out
 case round =>
  clear H0';obtain ⟨c,gs',L,d,pv,rfl,hcC,hgk,hE,hs,hb,hkp⟩ := hrel;have EE := hid hE;have ES := hid hs;have G := hid hb;have KP := hid hkp;have HG := hid hgk;clear hE hs hb hkp hgk
  by_cases hlt : c < C
  ·have hlt' : (c : Int) < (C : Int) := by omega
   have hwc := zVA (i := c) (by have := HCN.out;omega);have HS := hid (HSE.out (by have := HCN.out;omega) EE.out ES.out);have HMM : Hid (C - (c + 1) < gk) := by unfold Hid;rw [HG.out];omega
   clear EE ES HG;go_wp2_with fail;refine HS.out.mono ?_;rintro e w1 ⟨rfl,gs2,L2,d2,pv2,h1,h2,h3,h4⟩;have HN1 : Hid (EmH A B W0 (b6 + 1) m n C k (C - (c + 1)) (.int .i64 ((c + 1 : Nat) : Int)) w1) := ⟨c + 1,gs2,L2,d2,pv2,rfl,by omega,rfl,h1,h2,G.out.trans h3,KP.out.trans h4⟩
   clear HS h1 h2 h3 h4 G KP;go_wp2_with fail;go_roundg (C - (c + 1))
   case rel => exact HN1.out
   case measure => exact HMM.out
  ·have hlt' : ¬ (c : Int) < (C : Int) := by omega
   obtain rfl : c = C := by omega
   obtain ⟨x,y,lv,nd,ad,ld,cd,vv,e1,e2,e3,e4,e5,nx2,ax2,lx2,cx2,rfl,rfl⟩ := id EE.out;obtain ⟨va,vc,rfl,-,-⟩ := e4.form;obtain ⟨la2,lc2,rfl⟩ : ∃ la2 lc2,lv = .slice la2 m lc2 := by
    rcases e5.1 with ⟨rfl,h⟩ | ⟨h,Lb,cap,r,e,_⟩
    ·exact ⟨_,_,h⟩
    ·exact ⟨_,_,e⟩
   obtain ⟨pl,hpl⟩ : ∃ pl,pv.length = pl := ⟨_,rfl⟩
   have HPL := hid hpl;rw [hpl] at e1 e4;have C6 := C2W.out wr KP.out;obtain ⟨V,hV⟩ : ∃ V,(((((((((wr.setCell ⟨b6,0,none⟩ (.bool nx2)).setCell ⟨b6,1,none⟩ (.slice ax2 lx2 cx2)).setCell ⟨b6,2,none⟩ zhA).setCell ⟨b6,3,none⟩ zAB).setCell ⟨b6,4,none⟩ zGB).setCell ⟨b6,5,none⟩ zHB).setCell ⟨b6,6,none⟩ (.slice la2 m lc2)).setCell ⟨b6,7,none⟩ (.bool nd)).setCell ⟨b6,8,none⟩ (.slice ad ld cd)).setCell ⟨b6,9,none⟩ (.slice va pl vc) = V := ⟨_,rfl⟩
   obtain ⟨t1,t2,t3⟩ := zVD C6 HB6.out _ _ _ _ _ _ _ _ _ _ V hV;have DR := hid t1;have FF : Hid (Eld A B w m n c k (.returned (.agg #[.bool nx2,.slice ax2 lx2 cx2,zhA,zAB,zGB,zHB,.slice la2 m lc2,.bool nd,.slice ad ld cd,.slice va pl vc])) V) := ⟨_,_,_,_,_,nd,ad,ld,cd,_,gs',L,d,pv,rfl,e3.ty t2 (by decide),e4.keep fun b L _ e => t2.2 b _ _ _ e (by decide),e5.ty t2 (by decide) (by decide) (by decide),ES.out,(BW.out.trans G.out).trans t3⟩
   have EV := hid hV;have a0 := Cel.at e1 (i := 0) rfl;have a1 := Cel.at e1 (i := 1) rfl;have a2 := Cel.at e1 (i := 2) rfl;have a3 := Cel.at e1 (i := 3) rfl;have a4 := Cel.at e1 (i := 4) rfl;have a5 := Cel.at e1 (i := 5) rfl;have a6 := Cel.at e1 (i := 6) rfl;have a7 := Cel.at e1 (i := 7) rfl;have a8 := Cel.at e1 (i := 8) rfl;have a9 := Cel.at e1 (i := 9) rfl;have c0 := C6.at (i := 0) rfl;have c1 := C6.at (i := 1) rfl;have c2 := C6.at (i := 2) rfl;have c3 := C6.at (i := 3) rfl;have c4 := C6.at (i := 4) rfl;have c5 := C6.at (i := 5) rfl;have c6 := C6.at (i := 6) rfl;have c7 := C6.at (i := 7) rfl;have c8 := C6.at (i := 8) rfl;have c9 := C6.at (i := 9) rfl;have f0 := C6.fz 0;have f1 := C6.fz 1;have f2 := C6.fz 2;have f3 := C6.fz 3;have f4 := C6.fz 4;have f5 := C6.fz 5;have f6 := C6.fz 6;have f7 := C6.fz 7;have f8 := C6.fz 8;have f9 := C6.fz 9;clear EE ES G KP HG hV hpl HPL t1 t2 t3 e1 e2 e3 e4 e5 C6;go_wp2;rw [EV.out];exact bodyPost_ret (zVH Tryz.results55 DR.out _ (by rfl)) rfl FF.out
end Go.Proofs.YtffkmeocmjohmaaGreat
namespace Go.Proofs.YtffkmeocmjohmaaGreat
open Go.RowKit
attribute [local go_sem] zjC
theorem Rw17.fit {w : World} {g n k l : Nat} {F : Nat → Int} (h : Rw17 w g n F k) (hb : ∀ j,j < n → ((F j).natAbs : Int) < pw l) : Rw17 w g n F l := by
 obtain ⟨ps,h1,h2,h3⟩ := h;refine ⟨ps,h1,h2,fun j p z hp hz => ?_⟩;have hj : j < n := by have := (List.getElem?_eq_some_iff.1 hz).1;simpa using this
 have e : z = F j := by
  rw [List.getElem?_map,List.getElem?_range hj,Option.map_some,Option.some.injEq] at hz;exact hz.symm
 exact (h3 j p z hp hz).fit (by rw [e];exact hb j hj)
theorem Sh17.mono {B B' m n k : Nat} {w : World} {lv : Value} {gs : Nat → Nat} {L : Nat → Nat → Int} (h : Sh17 B w lv m n gs L k) (hB : B' ≤ B) : Sh17 B' w lv m n gs L k := by
 obtain ⟨h1,h4,h5⟩ := h;refine ⟨?_,h4,fun i hi => ⟨Nat.le_trans hB (h5 i hi).1,(h5 i hi).2⟩⟩;rcases h1 with h1 | ⟨h0,Lb,cap,r,e,e0,e1,e2⟩
 ·exact .inl h1
 ·exact .inr ⟨h0,Lb,cap,r,e,e0,by omega,e2⟩
theorem Sh17.fit {B m n k l : Nat} {w : World} {lv : Value} {gs : Nat → Nat} {L : Nat → Nat → Int} (h : Sh17 B w lv m n gs L k) (hb : ∀ i j,i < m → j < n → ((L i j).natAbs : Int) < pw l) : Sh17 B w lv m n gs L l :=
 ⟨h.1,h.2.1,fun i hi => ⟨(h.2.2 i hi).1,(h.2.2 i hi).2.fit fun j hj => hb i j hi hj⟩⟩
theorem ShtM.sh17 {B m n k : Nat} {w : World} {lv : Value} {gs : List Nat} {R : Nat → Nat → Rat} (h : ShtM B w lv n gs (wlL m n R) k) (h0 : m = 0 → lv = .slice none 0 0) : Sh17 B w lv m n (fun i => gs.getD i 0) (fun i j => whl (R i) n j) k := by
 obtain ⟨h1,h2,h3,h4,h5,h6⟩ := h;rw [zSF] at h3;have hg : ∀ i,i < m → gs[i]? = some (gs.getD i 0) := fun i hi => by simp [show i < gs.length by omega]
 refine ⟨?_,fun i j hi hj e => h2 i j _ (hg i hi) (by rw [hg j hj];exact congrArg some e.symm),fun i hi => ⟨h4 _ (List.mem_of_getElem? (hg i hi)),?_⟩⟩
 ·by_cases q : m = 0
  ·exact .inl ⟨q,h0 q⟩
  ·obtain ⟨q1,⟨q2,q3⟩ | ⟨g,cap,cur,q2,q3,q4,q5,q6,q7,q8⟩⟩ := h1
   ·omega
   ·refine .inr ⟨by omega,g,cap,cur.toList.drop m,by rw [q2,h3],by omega,q3,?_⟩
    unfold Cel;rw [q4];have e : gv17 m n (fun i => gs.getD i 0) = cur.toList.take m := by
     rw [Nat.mul_one,h3] at q8;rw [q8]
     apply List.ext_getElem?
     intro t
     by_cases ht : t < m
     ·rw [List.getElem?_map,hg t ht];simp [gv17,ht]
     ·rw [List.getElem?_eq_none (by simp [gv17];omega),List.getElem?_eq_none (by simp;omega)]
    rw [e,List.take_append_drop]
 ·obtain ⟨ps,p1,p2⟩ := h6 i _ (hg i hi)
  refine ⟨ps,p1,?_⟩;have e : zOB (wlL m n R) i = (List.range n).map (whl (R i) n) := by simp [zOB,wlL,hi]
  rw [e] at p2;exact p2
theorem Cel.below17 {B b : Nat} {w w' : World} {T : TypeId} {L : List Value} (h : Cel w b T L) (hb : Below B w w') (hlt : b < B) : Cel w' b T L := (hb.block b hlt).trans h
def wha (n : Nat) (P Q : Nat → Nat → Int) (i j : Nat) : Int := whl (fun j => Rat.divInt (P i j) (Q i j)) n j
theorem eliminated_any {w : World} {v : Value} {m n k C KW : Nat} {P Q : Nat → Nat → Int} (hv : QLs w v m n P Q k) (hQ : ∀ i j,i < m → j < n → Q i j ≠ 0) (hm : m ≤ 64) (hn : n ≤ 128) (hk : k ≤ 400000000) (hk1 : 1 ≤ k) (hC : C ≤ n)
  (hK : ∀ f,((dcl (wha n P Q) m n f).natAbs : Int) < pw KW) (h1 : 1 ≤ KW) (hkw : KW ≤ 274877906944) :
  Calls Tryz.prog 22 #[v,.int .i64 (C : Int)] w (Eld (wha n P Q) w.heap.size w m n C KW) := by
 obtain ⟨va,vc,rfl,-,-⟩ := id hv;obtain ⟨W0,hW⟩ : ∃ W0,w.alloc (.cells #[.bool false,.slice none 0 0,.nilFunc,.nilFunc,.nilFunc,.nilFunc,.slice none 0 0,.bool false,.slice none 0 0,.slice none 0 0] 64) = W0 := ⟨_,rfl⟩
 obtain ⟨b0,sz0⟩ := alo1 w (.cells #[.bool false,.slice none 0 0,.nilFunc,.nilFunc,.nilFunc,.nilFunc,.slice none 0 0,.bool false,.slice none 0 0,.slice none 0 0] 64);rw [hW] at b0 sz0;have C0 : Hid (Cel W0 w.heap.size 64 [.bool false,.slice none 0 0,.nilFunc,.nilFunc,.nilFunc,.nilFunc,.slice none 0 0,.bool false,.slice none 0 0,.slice none 0 0]) := by unfold Hid;rw [← hW];exact Cel.new w _ _
 have HWL := hid (zFC (hv.now b0) hQ hm hn hk hk1);have HEL : Hid (∀ {w' : World} {lv : Value} {nx : Bool} {ax : Option Addr} {lx cx : Nat} {gs : Nat → Nat},Sh17 W0.heap.size w' lv m n gs (wha n P Q) KW → Zm 0 w' (.agg #[.bool nx,.slice ax lx cx]) 1 KW → W0.heap.size ≤ w'.heap.size → Calls Tryz.prog 55 #[.agg #[.bool nx,.slice ax lx cx,zhA,zAB,zGB,zHB],lv,.int .i64 (C : Int)] w' (Eld (wha n P Q) W0.heap.size w' m n C KW)) := fun a b c => eliminate_any17 a b c hK hm hC hn hkw
 have HA : Hid (∀ i j,i < m → j < n → ((wha n P Q i j).natAbs : Int) < pw KW) := fun i j hi hj => ((Els.start (wha n P Q) m n).lt hK).2 i j hi hj
 have HB0 := hid b0;have EW := hid hW;have HSZ := hid sz0;have H1 := hid h1;clear hv hQ hK hm hn hk hk1 hC hkw b0 sz0 hW h1;go_enter Tryz.func22,Tryz.ntmps22;go_wp2_with fail;rw [EW.out];refine HWL.out.mono ?_;rintro e w1 ⟨lv,bv,gs,rfl,hs,hg,h0,b1⟩;have S1 : Hid (Sh17 W0.heap.size w1 lv m n (fun i => gs.getD i 0) (wha n P Q) KW) := (hs.sh17 h0).fit HA.out;have B1 := hid b1;have HIN := hid (integers_any w1);obtain ⟨la,lc,hla⟩ : ∃ la lc,lv = .slice la m lc := by
  rcases S1.out.1 with ⟨rfl,h⟩ | ⟨h,Lb,cap,r,e,_⟩
  ·exact ⟨_,_,h⟩
  ·exact ⟨_,_,e⟩
 obtain ⟨ba,bc,hba,-⟩ := hg.form;rw [zTF] at hba;subst hla hba;clear HWL hs hg h0 b1 EW;go_wp2_with fail;refine HIN.out.mono ?_;rintro e w2 ⟨nx,ax,lx,cx,rfl,mx,b2⟩;have HE := hid (HEL.out (S1.out.now b2) ((mx.mono (Nat.zero_le _)).more H1.out) (Nat.le_trans B1.out.size b2.size));have B2 := hid (zAA B1.out b2);clear HIN mx b2 HEL S1 HA;go_wp2_with fail;refine HE.out.mono ?_;rintro e w3 ⟨nx2,ax2,lx2,cx2,lv2,nd,ad,ld,cd,vv,gs2,L,d,pv,rfl,z1,z2,z3,z4,b3⟩;have hlt : w.heap.size < W0.heap.size := by have := HSZ.out;omega
 have C3 := Cel.below17 (C0.out.step B2.out) b3 hlt;obtain ⟨va2,vc2,rfl,-,-⟩ := z2.form;obtain ⟨la2,lc2,rfl⟩ : ∃ la2 lc2,lv2 = .slice la2 m lc2 := by
  rcases z3.1 with ⟨rfl,h⟩ | ⟨h,Lb,cap,r,e,_⟩
  ·exact ⟨_,_,h⟩
  ·exact ⟨_,_,e⟩
 obtain ⟨pl,hpl⟩ : ∃ pl,pv.length = pl := ⟨_,rfl⟩
 rw [hpl] at z2 ⊢;obtain ⟨V,hV⟩ : ∃ V,(((((((((w3.setCell ⟨w.heap.size,0,none⟩ (.bool nx2)).setCell ⟨w.heap.size,1,none⟩ (.slice ax2 lx2 cx2)).setCell ⟨w.heap.size,2,none⟩ zhA).setCell ⟨w.heap.size,3,none⟩ zAB).setCell ⟨w.heap.size,4,none⟩ zGB).setCell ⟨w.heap.size,5,none⟩ zHB).setCell ⟨w.heap.size,6,none⟩ (.slice la2 m lc2)).setCell ⟨w.heap.size,7,none⟩ (.bool nd)).setCell ⟨w.heap.size,8,none⟩ (.slice ad ld cd)).setCell ⟨w.heap.size,9,none⟩ (.slice va2 pl vc2) = V := ⟨_,rfl⟩
 obtain ⟨t1,t2,t3⟩ := zVD C3 (Nat.le_refl _) _ _ _ _ _ _ _ _ _ _ V hV;have DR := hid t1;have hle : w.heap.size ≤ W0.heap.size := HB0.out.size;have FF : Hid (Eld (wha n P Q) w.heap.size w m n C KW (.returned (.agg #[.bool nx2,.slice ax2 lx2 cx2,zhA,zAB,zGB,zHB,.slice la2 m lc2,.bool nd,.slice ad ld cd,.slice va2 pl vc2])) V) := ⟨nx2,ax2,lx2,cx2,_,nd,ad,ld,cd,_,gs2,L,d,pv,rfl,z1.ty t2 (by decide),(show Ivs w.heap.size w3 _ pv from znA z2 hle).keep fun b L _ e => t2.2 b _ _ _ e (by decide),(z3.mono hle).ty t2 (by decide) (by decide) (by decide),z4,((zAA HB0.out B2.out).trans (b3.mono hle)).trans t3⟩
 have EV := hid hV;have c0 := C3.at (i := 0) rfl;have c1 := C3.at (i := 1) rfl;have c2 := C3.at (i := 2) rfl;have c3 := C3.at (i := 3) rfl;have c4 := C3.at (i := 4) rfl;have c5 := C3.at (i := 5) rfl;have c6 := C3.at (i := 6) rfl;have c7 := C3.at (i := 7) rfl;have c8 := C3.at (i := 8) rfl;have c9 := C3.at (i := 9) rfl;have f0 := C3.fz 0;have f1 := C3.fz 1;have f2 := C3.fz 2;have f3 := C3.fz 3;have f4 := C3.fz 4;have f5 := C3.fz 5;have f6 := C3.fz 6;have f7 := C3.fz 7;have f8 := C3.fz 8;have f9 := C3.fz 9;clear HE z1 z2 z3 z4 b3 hV t1 t2 t3 C3 hpl B1 B2;go_wp2;rw [EV.out];exact bodyPost_ret (zVH Tryz.results22 DR.out _ (by rfl)) rfl FF.out
end Go.Proofs.YtffkmeocmjohmaaGreat
namespace Go.Proofs.YtffkmeocmjohmaaGreat
open Go.RowKit
def zSI (w : World) (n : Nat) (R : Nat → Rat) (k : Nat) (e : Ending) (w' : World) : Prop := ∃ g,e = .returned (.slice (some ⟨g,0,none⟩) n n) ∧ w.heap.size ≤ g ∧ FilQ w' g n n R k ∧ Below w.heap.size w w'
def OvH (w : World) (g n : Nat) (R : Nat → Rat) (k gk : Nat) (s : Value) (wx : World) : Prop := ∃ i : Nat,s = .int .i64 (i : Int) ∧ i ≤ n ∧ gk = n - i ∧ FilQ wx g n i R k ∧ Below w.heap.size w wx
theorem over_any {w : World} {v : Value} {nu : Bool} {au : Option Addr} {lu cu : Nat} {zs : List Int} {d : Int} {k n : Nat} (hv : Zl w v zs k) (hu : Zi w (.agg #[.bool nu,.slice au lu cu]) d k) (hd : d ≠ 0) (hk : k ≤ 68719476736) (hn : zs.length = n) (hn2 : n ≤ 1048576) :
  Calls Tryz.prog 24 #[v,.agg #[.bool nu,.slice au lu cu]] w (zSI w n (fun j => Rat.divInt (zs.getD j 0) d) k) := by
 have zv := hid hv;obtain ⟨a0,c0,rfl,hc0,-,hf0⟩ := hv;rw [hn] at hc0 ⊢;have HN := hid hn;have HD := hid hd;have HK := hid hk;have HU := hid hu;rw [hn] at zv;have F0 : Hid (0 < n → ∃ b off,a0 = some ⟨b,off,none⟩) := fun q => by
  rcases hf0 with h | ⟨b,off,h,_⟩
  ·rw [h] at hn;simp at hn;omega
  ·exact ⟨b,off,h⟩
 obtain ⟨W0,hW⟩ : ∃ W0,w.alloc (duo (.bool nu) (.slice au lu cu)) = W0 := ⟨_,rfl⟩
 obtain ⟨b0,sz0⟩ := alo1 w (duo (.bool nu) (.slice au lu cu));rw [hW] at b0 sz0;have D0 : Hid (Duo W0 w.heap.size (.bool nu) (.slice au lu cu)) := by unfold Hid;rw [← hW];exact Duo.new w _ _
 have B0 := hid b0;have EW := hid hW;have HSZ := hid sz0;have hnI : (n : Int) ≤ 1048576 := by omega
 clear hd hk hu hf0 b0 hW hn sz0;go_enter Tryz.func24,Tryz.ntmps24;go_wp2_with (at_make;refine zJB _ rfl _ _ rfl _ _ n n rfl rfl rfl rfl (Nat.le_refl _) (by omega) ?_)
 rw [EW.out];intro w1 hF hb1 hsz;obtain ⟨g,hg⟩ : ∃ g,w.heap.size + 1 = g := ⟨_,rfl⟩
 have EG : Hid (W0.heap.size = g) := by unfold Hid;rw [HSZ.out];exact hg
 rw [hg] at hF ⊢;have H0 : Hid (OvH W0 g n (fun j => Rat.divInt (zs.getD j 0) d) k n (.int .i64 0) w1) := ⟨0,rfl,Nat.zero_le _,rfl,hF.out _ _,by rw [HSZ.out];exact hb1.out⟩
 clear hF hb1 hsz EW hg;go_wp2_with fail
 go_loopg [13] n (fun gk s13 wx => OvH W0 g n (fun j => Rat.divInt (zs.getD j 0) d) k gk s13 wx)
 case atStart => exact H0.out
 case round =>
  clear H0;obtain ⟨i,rfl,hin,hgk,hF,hb⟩ := hrel;have FQ := hid hF;have G := hid hb;have HG := hid hgk;clear hF hb hgk
  by_cases hlt : i < n
  ·have hlt' : (i : Int) < (n : Int) := by omega
   obtain ⟨b1,o1,rfl⟩ := F0.out (by omega);obtain ⟨nf,xf,adf,qf,k0,k1,zf⟩ := (zv.out.now (zAA B0.out G.out)).at9 (i := i) (by rw [HN.out];exact hlt);have eg : zs[i]'(by rw [HN.out];exact hlt) = zs.getD i 0 := by simp [show i < zs.length by rw [HN.out];exact hlt]
   rw [eg] at zf;have hw := zVA (i := i) (by omega);obtain ⟨V1,hV⟩ : ∃ V1,wr.alloc (duo (.bool nf) (.slice adf xf.length qf)) = V1 := ⟨_,rfl⟩
   obtain ⟨b,sz1⟩ := alo1 wr (duo (.bool nf) (.slice adf xf.length qf));rw [hV] at b sz1;have D1 : Hid (Duo V1 wr.heap.size (.bool nf) (.slice adf xf.length qf)) := by unfold Hid;rw [← hV];exact Duo.new wr _ _
   have G1 := hid (zAA G.out b);have HS := hid (znH (zf.now b) (HU.out.now (zAA B0.out G1.out)) HK.out HD.out);have FQ1 := hid (FQ.out.step b);have d0 := D1.out.c0;have d1 := D1.out.c1;have e0 := (D0.out.step G1.out).c0;have e1 := (D0.out.step G1.out).c1;have HMM : Hid (n - (i + 1) < gk) := by unfold Hid;rw [HG.out];omega
   have EV := hid hV;rw [← hV] at d0 d1 e0 e1;clear zf b sz1 hV FQ G HG;go_wp2_with fail;rw [EV.out];refine HS.out.mono ?_;rintro e w2 ⟨r0,r1,r2,r3,rfl,m1,m2,b⟩;obtain ⟨p1,x1,q1,c1,eP⟩ := m1.parts;obtain ⟨p2,x2,q2,c2,eQ⟩ := m2.parts;simp only [Value.agg.injEq,Array.mk.injEq,List.cons.injEq,and_true] at eP eQ;obtain ⟨rfl,rfl⟩ := eP;obtain ⟨rfl,rfl⟩ := eQ;have FQ2 := hid (FQ1.out.step b);obtain ⟨_,_,_,_,_,_,_,_,f0,f1,f2,f3,z0,z1,z2,z3,-⟩ := FQ2.out.cells hlt;have HN1 : Hid (OvH W0 g n (fun j => Rat.divInt (zs.getD j 0) d) k (n - (i + 1)) (.int .i64 ((i + 1 : Nat) : Int)) (zHD w2 g i (.bool p1) (.slice q1 x1.length c1) (.bool p2) (.slice q2 x2.length c2))) := by
    obtain ⟨u1,u2⟩ := FQ2.out.put1 hlt (m1.mono (Nat.zero_le _)) (m2.mono (Nat.zero_le _));have hgw : W0.heap.size ≤ g := by rw [EG.out];exact Nat.le_refl _
    exact ⟨i + 1,rfl,by omega,rfl,u1,bset (bset (bset (bset (zAA G1.out b) hgw) hgw) hgw) hgw⟩
   clear HS FQ1 FQ2 m1 m2 b G1 D1 d0 d1 e0 e1 EV k0 k1;go_wp2_with fail;go_roundg (n - (i + 1))
   case rel => exact HN1.out
   case measure => exact HMM.out
  ·have hlt' : ¬ (i : Int) < (n : Int) := by omega
   obtain rfl : i = n := by omega
   have FF : Hid (zSI w i (fun j => Rat.divInt (zs.getD j 0) d) k (.returned (.slice (some ⟨g,0,none⟩) i i)) wr) := ⟨g,rfl,by have := B0.out.size;have := EG.out;omega,FQ.out,zAA B0.out G.out⟩
   clear FQ G HG;go_wp2;go_ret;exact FF.out
end Go.Proofs.YtffkmeocmjohmaaGreat
