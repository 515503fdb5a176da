/-
 QSignedToZCmp: Signed, Ones, ZOnes, ZCmp, joined.
-/
import Derived.Test.YtkklldokdnfkgaaGreatQLitsToZed

set_option maxRecDepth 100000
set_option maxHeartbeats 6400000
set_option linter.unusedVariables false
set_option linter.unusedSimpArgs false
namespace Go.Proofs.YtkklldokdnfkgaaGreat
open Go.RowKit
def Duo (w : World) (b : Nat) (x y : Value) : Prop := w.heap[b]? = some (.cells #[x,y] 44 (0,0))
abbrev duo (x y : Value) : Obj := .cells #[x,y] 44
abbrev zbox : Obj := .cells #[.bool false,.slice none 0 0] 44
theorem Duo.c0 {w : World} {b : Nat} {x y : Value} (h : Duo w b x y) : w.cell? ⟨b,0,none⟩ = some x := by simp [World.cell?,show w.heap[b]? = _ from h]
theorem Duo.c1 {w : World} {b : Nat} {x y : Value} (h : Duo w b x y) : w.cell? ⟨b,1,none⟩ = some y := by simp [World.cell?,show w.heap[b]? = _ from h]
theorem Duo.fz {w : World} {b : Nat} {x y : Value} (h : Duo w b x y) (i : Nat) : w.frozen? ⟨b,i,none⟩ = false := by simp [World.frozen?,show w.heap[b]? = _ from h]
theorem Duo.below {w w' : World} {b B : Nat} {x y : Value} (h : Duo w b x y) (hb : Below B w w') (hB : b < B) : Duo w' b x y := (hb.block b hB).trans h
theorem Duo.new (w : World) (x y : Value) : Duo (w.alloc (duo x y)) w.heap.size x y := heap_alloc_new w _
theorem Duo.later {w : World} {b : Nat} {x y : Value} (h : Duo w b x y) (hb : b < w.heap.size) (o : Obj) : Duo (w.alloc o) b x y := h.below ((Below.refl _ _).alloc (Nat.le_refl _) o) hb
theorem Duo.set {w : World} {b : Nat} {x y : Value} (h : Duo w b x y) (x' y' : Value) : Duo ((w.setCell ⟨b,0,none⟩ x').setCell ⟨b,1,none⟩ y') b x' y' := by
 have h' : w.heap[b]? = some (.cells #[x,y] 44 (0,0)) := h;have hlt : b < w.heap.size := (Array.getElem?_eq_some_iff.1 h').1;have e : w.heap[b] = .cells #[x,y] 44 (0,0) := (Array.getElem?_eq_some_iff.1 h').2;unfold Duo World.setCell;simp [hlt,Array.getElem_modify,e]
theorem zJB {f : Func} {s : Nat} (hr : f.results = #[ResultVar.cell s 44]) {W : World} {b : Nat} {x y : Value} (h : Duo W b x y) (tmps : Array Value) (ht : tmps[s]? = some (.pointer (some ⟨b,0,none⟩))) :
  (results f tmps).run Tryz.prog W = .ok (.agg #[x,y]) W := by
 simp [results,hr,go_sem,ht,h.c0,h.c1]
theorem zrA (w : World) (n : Bool) (l : Nat) (a : Option Addr) (c : Nat) (hl : l ≤ 35184372088832) :
  Calls Tryz.prog 65 #[.bool n,.slice a l c] w fun e w' => e = .returned (.agg #[.bool (n && decide (0 < l)),.slice a l c]) ∧ Below w.heap.size w w' := by
 have k := (Below.refl w.heap.size w).alloc (Nat.le_refl _) (duo (.bool (n && decide (0 < l))) (.slice a l c));cases n
 ·go_enter Tryz.func65,Tryz.ntmps65
  go_wp2;exact bodyPost_ret (zJB Tryz.results65 (Duo.new w _ _) _ (by rfl)) rfl ⟨rfl,k⟩
 ·by_cases h : 0 < l
  ·have h' : (0 : Int) < (l : Int) := by omega
   simp only [h,decide_true,Bool.and_self] at k ⊢;go_enter Tryz.func65,Tryz.ntmps65;go_wp2;exact bodyPost_ret (zJB Tryz.results65 (Duo.new w _ _) _ (by rfl)) rfl ⟨rfl,k⟩
  ·have h' : ¬ (0 : Int) < (l : Int) := by omega
   simp only [h,decide_false,Bool.and_false] at k ⊢;go_enter Tryz.func65,Tryz.ntmps65;go_wp2;exact bodyPost_ret (zJB Tryz.results65 (Duo.new w _ _) _ (by rfl)) rfl ⟨rfl,k⟩
def Mk (w : World) (s : Int) (k : Nat) (e : Ending) (w' : World) : Prop :=
 ∃ zs a c,e = .returned (.slice a zs.length c) ∧ Mine w.heap.size w' (.slice a zs.length c) zs ∧ zbA zs ∧ val zs = s ∧ zs.length ≤ k ∧ Below w.heap.size w w'
theorem zAE {B : Nat} {w : World} {g : Nat} {zs : List Int} {r : List Value} {cap : Nat} (hB : B ≤ g) (hw : WF zs) (hc : cap = zs.length + r.length) (hm : cap ≤ 35184372088832) (hr : Row w g (ws zs ++ r)) : Mine B w (.slice (some ⟨g,0,none⟩) zs.length cap) zs :=
 ⟨hw,.inr ⟨g,r,cap,hB,by omega,by omega,.inr ⟨hc,by unfold maxLen;omega⟩,rfl,hr⟩⟩
theorem zEG {w : World} {v : Value} {xs : List Int} (h : Sl w.heap.size w v xs) : Calls Tryz.prog 66 #[v] w (Mk w (val xs) xs.length) :=
 (least_any h).mono fun e w' ⟨h1,h2,h3,h4⟩ => by
  have hx := h.1;obtain ⟨_,a,cap,_,h6,h7,_⟩ := h;have := zOA xs;have hl := length_lst xs;refine ⟨lst xs,some ⟨w.heap.size,0,none⟩,wid xs,by rw [h1,hl],?_,zHA hx,zQA xs,by omega,h3⟩;exact zAE (r := []) (Nat.le_refl _) (zHA hx).1 (by simp [hl]) (by omega) (by simpa using h2)
theorem add_m {w : World} {v u : Value} {xs ys : List Int} (h : Sl w.heap.size w v xs) (h' : Sl w.heap.size w u ys) (hl : xs.length < 35184372088832) (hl' : ys.length < 35184372088832) :
  Calls Tryz.prog 94 #[v,u] w (Mk w (val xs + val ys) (max xs.length ys.length + 1)) :=
 (add_any h h' hl hl').mono fun e w' hadd => by
  obtain ⟨zs,cap,r,rfl,hc,hv,hk,hcap,hm,hr,hb,hs⟩ := hadd;have := zOA xs;have := zOA ys;exact ⟨zs,_,cap,rfl,zAE (Nat.le_refl _) hc.1 hcap hm hr,hc,hv,by omega,hb⟩
theorem zeI {w : World} {v u : Value} {xs ys : List Int} (h : Sl w.heap.size w v xs) (h' : Sl w.heap.size w u ys) (hge : val ys ≤ val xs) :
  Calls Tryz.prog 95 #[v,u] w fun e w' => ∃ zs a c,e = .returned (.tuple #[.slice a zs.length c,.int .i64 0]) ∧ Mine w.heap.size w' (.slice a zs.length c) zs ∧ zbA zs ∧ val zs = val xs - val ys ∧ zs.length ≤ xs.length ∧ Below w.heap.size w w' :=
 (sub_yes h h' hge).mono fun e w' ht => by
  obtain ⟨zs,cap,r,h1,h2,h3,h4,h5,h6,h7,h8,h9⟩ := ht;have := zOA xs;exact ⟨zs,_,cap,h1,zAE (Nat.le_refl _) h2.1 h5 h6 h7,h2,h3,by omega,h8⟩
theorem Mine.setLow {B b : Nat} {w : World} {v : Value} {zs : List Int} (h : Mine B w v zs) (hb : b < B) (i : Nat) (x : Value) : Mine B (w.setCell ⟨b,i,none⟩ x) v zs := by
 obtain ⟨hw,h | ⟨g,r,cap,h1,h2,h3,h4,h5,h6⟩⟩ := h
 ·exact ⟨hw,.inl h⟩
 ·refine ⟨hw,.inr ⟨g,r,cap,h1,h2,h3,h4,h5,?_⟩⟩
  have e : (w.setCell ⟨b,i,none⟩ x).heap[g]? = w.heap[g]? := Below.heap_setCell w _ x g (fun e => by simp at e;omega);exact e.trans h6
theorem Zm.setLow {B b : Nat} {w : World} {v : Value} {z : Int} {k : Nat} (h : Zm B w v z k) (hb : b < B) (i : Nat) (x : Value) : Zm B (w.setCell ⟨b,i,none⟩ x) v z k := by
 obtain ⟨n,xs,a,c,h1,h2,h3,h4,h5,h6⟩ := h;exact ⟨n,xs,a,c,h1,h2.setLow hb i x,h3,h4,h5,h6⟩
theorem znB {w W : World} {B b : Nat} {x y : Value} {z : Int} {k : Nat} (h : Zm B W (.agg #[x,y]) z k) (hW : Below w.heap.size w W) (hb : w.heap.size ≤ b) (hB : b < B) :
  zZA w z k (.returned (.agg #[x,y])) ((W.setCell ⟨b,0,none⟩ x).setCell ⟨b,1,none⟩ y) :=
 ⟨_,rfl,((h.setLow hB 0 x).setLow hB 1 y).mono (by omega),(hW.setCell (p := ⟨b,0,none⟩) hb x).setCell (p := ⟨b,1,none⟩) hb y⟩
theorem zxA (w : World) (o1 o2 : Obj) : Below w.heap.size w ((w.alloc o1).alloc o2) ∧ ((w.alloc o1).alloc o2).heap.size = w.heap.size + 1 + 1 := ⟨((Below.refl _ _).alloc (Nat.le_refl _) _).alloc (by simp) _,by simp⟩
theorem zID (w : World) (o1 o2 o3 : Obj) : Below w.heap.size w (((w.alloc o1).alloc o2).alloc o3) ∧ (((w.alloc o1).alloc o2).alloc o3).heap.size = w.heap.size + 1 + 1 + 1 := ⟨(((Below.refl _ _).alloc (Nat.le_refl _) _).alloc (by simp) _).alloc (by simp;omega) _,by simp⟩
theorem zdC (w : World) (o1 o2 o3 o4 : Obj) : Below w.heap.size w ((((w.alloc o1).alloc o2).alloc o3).alloc o4) ∧ ((((w.alloc o1).alloc o2).alloc o3).alloc o4).heap.size = w.heap.size + 1 + 1 + 1 + 1 := ⟨((((Below.refl _ _).alloc (Nat.le_refl _) _).alloc (by simp) _).alloc (by simp;omega) _).alloc (by simp;omega) _,by simp⟩
theorem zEA {w : World} {b : Nat} {x y : Value} (hb : w.heap.size = b) : Duo (w.alloc (duo x y)) b x y := by subst hb;exact Duo.new w x y
theorem zBA {w : World} {b : Nat} {x y : Value} (h : Duo w b x y) (o : Obj) : Duo (w.alloc o) b x y := h.later (Array.getElem?_eq_some_iff.1 (show w.heap[b]? = _ from h)).1 o
theorem zuH {w' : World} {b b' i j : Nat} {u x : Value} (hne : b' ≠ b) (h : w'.cell? ⟨b,i,none⟩ = some x) : (w'.setCell ⟨b',j,none⟩ u).cell? ⟨b,i,none⟩ = some x := by
 rw [← h];unfold World.cell?;rw [Below.heap_setCell w' _ u b (fun e => by simp at e;omega)]
theorem Mine.len {B : Nat} {w : World} {a : Option Addr} {l c : Nat} {zs : List Int} (h : Mine B w (.slice a l c) zs) : zs.length ≤ 35184372088832 := by
 obtain ⟨_,⟨_,h2⟩ | ⟨g,r,cap,_,h,_⟩⟩ := h
 ·subst h2;simp
 ·exact h
theorem zjE {w W0 w1 w2 : World} {n : Bool} {zs : List Int} {az : Option Addr} {cz b k : Nat} {z : Int} (m : Mine W0.heap.size w1 (.slice az zs.length cz) zs) (q : zbA zs) (hv : iv n zs = z) (hl : zs.length ≤ k) (h12 : Below w1.heap.size w1 w2) (h02 : Below W0.heap.size W0 w2) (B0 : Below w.heap.size w W0) (hb : w.heap.size ≤ b) (hB : b < W0.heap.size) :
  zZA w z k (.returned (.agg #[.bool (n && decide (0 < zs.length)),.slice az zs.length cz])) ((w2.setCell ⟨b,0,none⟩ (.bool (n && decide (0 < zs.length)))).setCell ⟨b,1,none⟩ (.slice az zs.length cz)) := by
 subst hv;exact znB (zAI (m.below h12) q hl) (below_step B0 h02) hb hB
theorem zoG {xs ys : List Int} (n : Bool) (h : val xs = val ys) : iv n xs = iv n ys := by unfold iv;rw [h]
theorem abs_z {w : World} {v : Value} {z : Int} {k : Nat} (h0 : Zi w v z k) :
  Calls Tryz.prog 87 #[v] w (zZA w ((z.natAbs : Int)) (k)) := by
 obtain ⟨n,xs,a,c,rfl,s0,z0,k0⟩ := h0;have hx := s0.1;obtain ⟨W0,hW0⟩ : ∃ W0,(w.alloc (duo (.bool n) (.slice a xs.length c))).alloc zbox = W0 := ⟨_,rfl⟩
 obtain ⟨b0,sz0⟩ := zxA w (duo (.bool n) (.slice a xs.length c)) zbox;rw [hW0] at b0 sz0;have p0 : Duo W0 (w.heap.size) (.bool n) (.slice a xs.length c) := by rw [← hW0];exact zBA (zEA (by simp)) _
 have pR : Duo W0 (w.heap.size + 1) (.bool false) (.slice none 0 0) := by rw [← hW0];exact zEA (by simp)
 have HKB : Hid (∀ w',Below W0.heap.size W0 w' → w'.cell? ⟨w.heap.size,0,none⟩ = some (.bool n) ∧ w'.cell? ⟨w.heap.size,1,none⟩ = some (.slice a xs.length c)) := fun w' h => ⟨(p0.below h (by omega)).c0,(p0.below h (by omega)).c1⟩
 have HKR : Hid (∀ w',Below W0.heap.size W0 w' → Duo w' (w.heap.size + 1) (.bool false) (.slice none 0 0)) := fun w' h => pR.below h (by omega)
 obtain ⟨i0,i1⟩ := HKB.out W0 (Below.refl _ _);have EW := hid hW0;have B0 := hid b0;have HL : Hid (∀ w',Below W0.heap.size W0 w' → Calls Tryz.prog 66 #[.slice a xs.length c] w' (Mk w' (val xs) xs.length)) := fun w' h => zEG ((s0.now b0).now h)
 have HV : Hid (∀ zs,val zs = val xs → iv false zs = (z.natAbs : Int)) := fun zs e => by
  have := zGA hx;rw [zoG _ e,zLC,← z0];cases n <;> simp [iv] <;> omega
 clear s0 p0 pR hW0 b0 z0;go_enter Tryz.func87,Tryz.ntmps87;go_wp2_with fail;rw [EW.out];refine (HL.out W0 (Below.refl _ _)).mono ?_;rintro e w1 ⟨zs,az,cz,rfl,m1,q1,v1,l1,b1⟩;have HP1 := hid b1;have HM := hid m1;obtain ⟨c10,c11⟩ := HKB.out w1 HP1.out;clear b1 m1 i0 i1;go_wp2_with fail;refine (zrA _ false zs.length az cz HM.out.len).mono ?_;rintro e w2 ⟨rfl,b2⟩;have HB12 := hid b2;have HP2 := hid (below_step HP1.out HB12.out);have r0 := (HKR.out w2 HP2.out).c0;have r1 := (HKR.out w2 HP2.out).c1;have f0 := (HKR.out w2 HP2.out).fz 0;have f1 := (HKR.out w2 HP2.out).fz 1;clear b2
 all_goals go_wp2
 all_goals exact bodyPost_ret (zJB Tryz.results87 ((HKR.out w2 HP2.out).set _ _) _ (by rfl)) rfl (zjE (W0 := W0) HM.out q1 (HV.out zs v1) (by omega) HB12.out HP2.out B0.out (by omega) (by omega))
theorem iv_sign {n : Bool} {xs : List Int} {z : Int} (hx : WF xs) (h : iv n xs = z) : (vn xs = 0 ∧ z = 0) ∨ (vn xs ≠ 0 ∧ n = true ∧ z < 0) ∨ (vn xs ≠ 0 ∧ n = false ∧ 0 < z) := by
 have hv := zdA hx;cases n
 ·rw [zLC] at h
  by_cases e : vn xs = 0
  ·exact .inl ⟨e,by omega⟩
  ·exact .inr (.inr ⟨e,rfl,by omega⟩)
 ·rw [zBD] at h
  by_cases e : vn xs = 0
  ·exact .inl ⟨e,by omega⟩
  ·exact .inr (.inl ⟨e,rfl,by omega⟩)
theorem zsE {v : Nat} (h : v ≠ 0) : bitLen v ≠ 0 := by unfold bitLen;rw [if_neg h];omega
theorem zVD {w : World} {v : Value} {z : Int} {k : Nat} (h : Zi w v z k) :
  Calls Tryz.prog 84 #[v] w fun e w' => e = .returned (.int .i64 (cmpI z 0)) ∧ Below w.heap.size w w' := by
 obtain ⟨n,xs,a,c,rfl,s0,z0,k0⟩ := h;have b0 : Below w.heap.size w (w.alloc (duo (.bool n) (.slice a xs.length c))) := (Below.refl _ _).alloc (Nat.le_refl _) _;have HB := hid (bitLen_any (s0.now b0));have B0 := hid b0;rcases iv_sign s0.1 z0 with ⟨e0,ez⟩ | ⟨e0,rfl,ez⟩ | ⟨e0,rfl,ez⟩
 ·subst ez
  rw [cmpI_self];have eb : bitLen (vn xs) = 0 := by rw [e0];rfl
  rw [eb] at HB;clear s0 z0 b0 eb e0;go_enter Tryz.func84,Tryz.ntmps84;go_wp2_with fail;refine HB.out.mono ?_;rintro e w1 ⟨rfl,rfl⟩;go_wp2;go_ret;exact ⟨rfl,B0.out⟩
 ·rw [zeA ez]
  have eb := zsE e0;obtain ⟨q,hq⟩ : ∃ q,bitLen (vn xs) = q + 1 := ⟨bitLen (vn xs) - 1,by omega⟩
  rw [hq] at HB;have hne : (((q + 1 : Nat) : Int) == 0) = false := by rw [beq_eq_false_iff_ne];omega
  clear s0 z0 b0 eb e0 hq ez;go_enter Tryz.func84,Tryz.ntmps84;go_wp2_with fail;refine HB.out.mono ?_;rintro e w1 ⟨rfl,rfl⟩;go_wp2;go_ret;exact ⟨rfl,B0.out⟩
 ·rw [zfA ez]
  have eb := zsE e0;obtain ⟨q,hq⟩ : ∃ q,bitLen (vn xs) = q + 1 := ⟨bitLen (vn xs) - 1,by omega⟩
  rw [hq] at HB;have hne : (((q + 1 : Nat) : Int) == 0) = false := by rw [beq_eq_false_iff_ne];omega
  clear s0 z0 b0 eb e0 hq ez;go_enter Tryz.func84,Tryz.ntmps84;go_wp2_with fail;refine HB.out.mono ?_;rintro e w1 ⟨rfl,rfl⟩;go_wp2;go_ret;exact ⟨rfl,B0.out⟩
theorem zYD {n : Bool} {xs : List Int} {z : Int} (hx : WF xs) (h : iv n xs = z) : val xs = (z.natAbs : Int) := by
 have := zGA hx;cases n
 ·rw [zLC] at h;omega
 ·rw [zBD] at h;omega
theorem zIF {w : World} {v u : Value} {z y : Int} {k l : Nat} (h : Zi w v z k) (h' : Zi w u y l) :
  Calls Tryz.prog 89 #[v,u] w fun e w' => e = .returned (.int .i64 (cmpI (z.natAbs : Int) (y.natAbs : Int))) ∧ Below w.heap.size w w' := by
 obtain ⟨n,xs,a,c,rfl,s0,z0,k0⟩ := h;obtain ⟨m,ys,b,d,rfl,s1,z1,k1⟩ := h';have b0 := (zxA w (duo (.bool n) (.slice a xs.length c)) (duo (.bool m) (.slice b ys.length d))).1;have HC := hid (zKG (s0.now b0) (s1.now b0));rw [zYD s0.1 z0,zYD s1.1 z1] at HC;have B0 := hid b0;clear s0 s1 z0 z1 b0;generalize cmpI (z.natAbs : Int) (y.natAbs : Int) = C at *;go_enter Tryz.func89,Tryz.ntmps89;go_wp2_with fail;refine HC.out.mono ?_;rintro e w1 ⟨rfl,b1⟩;have B1 := hid (below_step B0.out b1);clear b1 HC;go_wp2;go_ret;exact ⟨rfl,B1.out⟩
theorem zhF (x : Int) (w : World) : Calls Tryz.prog 79 #[.int .i64 x] w fun e w' => e = .returned (.bool false) ∧ w' = w := by
 have h : (x != x) = false := by simp
 go_enter Tryz.func79,Tryz.ntmps79;go_wp2;go_ret;exact ⟨rfl,rfl⟩
theorem compare_any (x y : Int) (w : World) : Calls Tryz.prog 88 #[.int .i64 x,.int .i64 y] w fun e w' => e = .returned (.int .i64 (cmpI x y)) ∧ w' = w := by
 have H1 := hid (zhF x w);have H2 := hid (zhF y w);have key : (x < y ∧ cmpI x y = -1) ∨ (¬ x < y ∧ y < x ∧ cmpI x y = 1) ∨ (¬ x < y ∧ ¬ y < x ∧ cmpI x y = 0) := by
  unfold cmpI
  by_cases h1 : x < y
  ·exact .inl ⟨h1,if_pos h1⟩
  ·by_cases h2 : y < x
   ·exact .inr (.inl ⟨h1,h2,by rw [if_neg h1,if_pos h2]⟩)
   ·exact .inr (.inr ⟨h1,h2,by rw [if_neg h1,if_neg h2]⟩)
 rcases key with ⟨h1,e⟩ | ⟨h1,h2,e⟩ | ⟨h1,h2,e⟩
 all_goals
  rw [e];clear e;go_enter Tryz.func88,Tryz.ntmps88;go_wp2_with fail;refine H1.out.mono ?_;rintro e w1 ⟨rfl,rfl⟩;go_wp2_with fail;refine H2.out.mono ?_;rintro e w1 ⟨rfl,rfl⟩;go_wp2;go_ret;exact ⟨rfl,rfl⟩
theorem cmp_signs {z y : Int} : (cmpI (cmpI z 0) (cmpI y 0) ≠ 0 → cmpI (cmpI z 0) (cmpI y 0) = cmpI z y) ∧ (cmpI (cmpI z 0) (cmpI y 0) = 0 → cmpI z 0 * cmpI (z.natAbs : Int) (y.natAbs : Int) = cmpI z y) := by
 unfold cmpI
 constructor <;> intro h <;> (repeat' split at h) <;> (repeat' split) <;> omega
theorem ztA (x y : Int) : -1 ≤ cmpI x y ∧ cmpI x y ≤ 1 := by
 unfold cmpI
 (repeat' split) <;> omega
theorem zpF {w : World} {v u : Value} {z y : Int} {k l : Nat} (h : Zi w v z k) (h' : Zi w u y l) :
  Calls Tryz.prog 68 #[v,u] w fun e w' => e = .returned (.int .i64 (cmpI z y)) ∧ Below w.heap.size w w' := by
 have hv := h;have hu := h';obtain ⟨n,xs,a,c,rfl,s0,z0,k0⟩ := h;obtain ⟨m,ys,b,d,rfl,s1,z1,k1⟩ := h';obtain ⟨W0,hW0⟩ : ∃ W0,(w.alloc (duo (.bool n) (.slice a xs.length c))).alloc (duo (.bool m) (.slice b ys.length d)) = W0 := ⟨_,rfl⟩
 obtain ⟨b0,sz0⟩ := zxA w (duo (.bool n) (.slice a xs.length c)) (duo (.bool m) (.slice b ys.length d));rw [hW0] at b0 sz0;have p0 : Duo W0 w.heap.size (.bool n) (.slice a xs.length c) := by rw [← hW0];exact zBA (zEA rfl) _
 have p1 : Duo W0 (w.heap.size + 1) (.bool m) (.slice b ys.length d) := by rw [← hW0];exact zEA (by simp)
 have HKB : Hid (∀ w',Below W0.heap.size W0 w' → Duo w' w.heap.size (.bool n) (.slice a xs.length c) ∧ Duo w' (w.heap.size + 1) (.bool m) (.slice b ys.length d)) := fun w' h => ⟨p0.below h (by omega),p1.below h (by omega)⟩
 have H1 := hid (zVD (hv.now b0));have H2 : Hid (∀ w',Below W0.heap.size W0 w' → _) := fun w' h => zVD ((hu.now b0).now h)
 have H3 : Hid (∀ w',Below W0.heap.size W0 w' → _) := fun w' h => zIF ((hv.now b0).now h) ((hu.now b0).now h)
 have HS := hid (@cmp_signs z y);have bd := ztA z 0;have bd2 := ztA (z.natAbs : Int) (y.natAbs : Int);have EW := hid hW0;have B0 := hid b0;clear hv hu s0 s1 z0 z1 b0 p0 p1 hW0;generalize cmpI z 0 = S at *;generalize cmpI y 0 = T at *;generalize cmpI (z.natAbs : Int) (y.natAbs : Int) = U at *;generalize cmpI z y = R at *;have HC : Hid (∀ w',_) := fun w' => compare_any S T w'
 obtain ⟨C,hC⟩ : ∃ C,cmpI S T = C := ⟨_,rfl⟩
 rw [hC] at HC HS;clear hC;go_enter Tryz.func68,Tryz.ntmps68;go_wp2_with fail;rw [EW.out];refine H1.out.mono ?_;rintro e w1 ⟨rfl,b1⟩;obtain ⟨d0,d1⟩ := HKB.out w1 b1;have e0 := d1.c0;have e1 := d1.c1;have B1 := hid b1;clear b1 H1 d0 d1;go_wp2_with fail;refine (H2.out w1 B1.out).mono ?_;rintro e w2 ⟨rfl,b2⟩;have B2 := hid (below_step B1.out b2);clear b2 e0 e1;go_wp2_with fail;refine (HC.out w2).mono ?_;rintro e w3 ⟨rfl,rfl⟩
 by_cases h0 : C = 0
 ·have hne : (C != 0) = false := by simp [h0]
  have HR := hid (HS.out.2 h0);have hm : IntKind.i64.wrap (S * U) = R := by
   rw [HR.out,zRA] <;> rw [← HR.out]
   all_goals (obtain ⟨q1,q2⟩ := bd;obtain ⟨q3,q4⟩ := bd2;rcases (show S = -1 ∨ S = 0 ∨ S = 1 by omega) with rfl | rfl | rfl <;> omega)
  obtain ⟨d0,d1⟩ := HKB.out w3 B2.out;have e0 := d1.c0;have e1 := d1.c1;have g0 := d0.c0;have g1 := d0.c1;clear d0 d1;go_wp2_with fail;refine (H3.out w3 B2.out).mono ?_;rintro e w4 ⟨rfl,b4⟩;have B4 := hid (below_step B0.out (below_step B2.out b4));clear b4;go_wp2;go_ret;exact ⟨by first | rfl | rw [hm],B4.out⟩
 ·have hne : (C != 0) = true := by simp [h0]
  have HR := hid (HS.out.1 h0);go_wp2;go_ret;exact ⟨by rw [HR.out];rfl,below_step B0.out B2.out⟩
end Go.Proofs.YtkklldokdnfkgaaGreat
