/-
 QMulAllToOnes: MulAll, Zed, Signed, Ones, joined.
-/
import Derived.Test.YtkdobgbicnemcaaGreatDoorQTrimToMul

set_option maxRecDepth 100000
set_option maxHeartbeats 6400000
set_option linter.unusedVariables false
set_option linter.unusedSimpArgs false
namespace Go.Proofs.YtkdobgbicnemcaaGreatDoor
open Go.RowKit
theorem ziG.less {M N : Nat} (h : ziG N) (hM : M ≤ N) : ziG M := fun w v u xs ys h1 h2 h3 h4 => h w v u xs ys h1 h2 h3 (by omega)
theorem zQB.as {w w' : World} {s t : Int} {e : Ending} (h : zQB w s e w') (hst : s = t) : zQB w t e w' := by subst hst;exact h
theorem mul_step {w : World} {va vb : Value} {xs ys : List Int} (ha : Sl w.heap.size w va xs) (hb : Sl w.heap.size w vb ys) (hl : xs.length + ys.length ≤ 35184372088832) (IH : ziG (xs.length + ys.length)) :
  Calls Tryz.prog 59 #[va,vb] w (zQB w (val xs * val ys)) := by
 obtain ⟨a,ca,rfl⟩ : ∃ a ca,va = .slice a xs.length ca := by obtain ⟨_,a,ca,e,_⟩ := ha;exact ⟨a,ca,e⟩
 obtain ⟨b,cb,rfl⟩ : ∃ b cb,vb = .slice b ys.length cb := by obtain ⟨_,b,cb,e,_⟩ := hb;exact ⟨b,cb,e⟩
 have HT1 := hid (zAD ha);have HT2 := hid (zAD hb);have l1 := zRA xs;have l2 := zRA ys;have SX := hid (ha.taken l1);have SY := hid (hb.taken l2)
 change Hid (Sl w.heap.size w _ (lst xs)) at SX
 change Hid (Sl w.heap.size w _ (lst ys)) at SY
 have CX := hid (canon_lst ha.1);have CY := hid (canon_lst hb.1);have LX := hid (length_lst xs);have LY := hid (length_lst ys);have IH' := hid (IH.less (show wid xs + wid ys ≤ xs.length + ys.length by omega));rw [← val_lst xs,← val_lst ys];have hl2 : wid xs + wid ys ≤ 35184372088832 := by omega
 generalize lst xs = X at *;generalize lst ys = Y at *;generalize wid xs = n at *;generalize wid ys = m at *;clear IH ha hb hl
 by_cases hlt : n < m
 ·skip
  have hh : ((m : Int) + 1) / 2 = (((m + 1) / 2 : Nat) : Int) := by omega
  have hg1 : 2 * ((m + 1) / 2) ≤ m + 1 ∧ m ≤ 2 * ((m + 1) / 2) := by omega
  generalize (m + 1) / 2 = h at *
  by_cases h0 : n = 0
  ·have hz : ((n : Int) == 0) = true := by rw [beq_iff_eq];omega
   go_enter Tryz.func59,Tryz.ntmps59;go_wp2_with fail;refine HT1.out.mono ?_;rintro e w1 ⟨rfl,rfl⟩;go_wp2_with fail;refine HT2.out.mono ?_;rintro e w1 ⟨rfl,rfl⟩;have h00 := hid h0;clear h0;go_wp2;go_ret;refine ⟨[],_,rfl,Mine.nil _ _,zUG,?_,Below.refl _ _⟩;have e0 : X = [] := List.eq_nil_of_length_eq_zero (by rw [LX.out];exact h00.out);rw [e0];simp [val]
  ·have hz : ((n : Int) == 0) = false := by rw [beq_eq_false_iff_ne];omega
   have hne : Hid (X ≠ []) := by intro q;have := LX.out;rw [q] at this;simp at this;omega
   by_cases h64 : n < 64
   ·skip
    go_enter Tryz.func59,Tryz.ntmps59;go_wp2_with fail;refine HT1.out.mono ?_;rintro e w1 ⟨rfl,rfl⟩;go_wp2_with fail;refine HT2.out.mono ?_;rintro e w1 ⟨rfl,rfl⟩;go_wp2_with fail;refine (byWord_any SY.out SX.out (by rw [LY.out,LX.out];omega)).mono ?_;rintro e w2 hm;obtain ⟨zs,r,rfl,m1,m2,m3,m4⟩ := hm;go_wp2;go_ret;exact zQB.as ⟨zs,r,rfl,m1,m2,m3,m4⟩ (Int.mul_comm _ _)
   ·by_cases hle : n ≤ h
    ·skip
     go_enter Tryz.func59,Tryz.ntmps59;go_wp2_with fail;refine HT1.out.mono ?_;rintro e w1 ⟨rfl,rfl⟩;go_wp2_with fail;refine HT2.out.mono ?_;rintro e w1 ⟨rfl,rfl⟩;go_wp2_with fail;refine (byTwo_any SY.out SX.out CY.out CX.out (by rw [LY.out,LX.out];omega) (by omega) (by rw [LY.out];omega) hne.out (IH'.out.less (by rw [LY.out,LX.out];omega))).mono ?_;rintro e w2 hm;obtain ⟨zs,r,rfl,m1,m2,m3,m4⟩ := hm;go_wp2;go_ret;exact zQB.as ⟨zs,r,rfl,m1,m2,m3,m4⟩ (Int.mul_comm _ _)
    ·skip
     go_enter Tryz.func59,Tryz.ntmps59;go_wp2_with fail;refine HT1.out.mono ?_;rintro e w1 ⟨rfl,rfl⟩;go_wp2_with fail;refine HT2.out.mono ?_;rintro e w1 ⟨rfl,rfl⟩;go_wp2_with fail;refine (byFour_any SY.out SX.out CY.out CX.out (by rw [LY.out,LX.out];omega) (by omega) (by rw [LY.out];omega) (by rw [LX.out];omega) (by rw [LY.out];omega) (by rw [LY.out];omega) (by rw [LX.out];omega) (by rw [LX.out,LY.out];omega) (IH'.out.less (by rw [LY.out,LX.out];omega))).mono ?_;rintro e w2 hm;obtain ⟨zs,r,rfl,m1,m2,m3,m4⟩ := hm;go_wp2;go_ret;exact zQB.as ⟨zs,r,rfl,m1,m2,m3,m4⟩ (Int.mul_comm _ _)
 ·skip
  have hh : ((n : Int) + 1) / 2 = (((n + 1) / 2 : Nat) : Int) := by omega
  have hg1 : 2 * ((n + 1) / 2) ≤ n + 1 ∧ n ≤ 2 * ((n + 1) / 2) := by omega
  generalize (n + 1) / 2 = h at *
  by_cases h0 : m = 0
  ·have hz : ((m : Int) == 0) = true := by rw [beq_iff_eq];omega
   go_enter Tryz.func59,Tryz.ntmps59;go_wp2_with fail;refine HT1.out.mono ?_;rintro e w1 ⟨rfl,rfl⟩;go_wp2_with fail;refine HT2.out.mono ?_;rintro e w1 ⟨rfl,rfl⟩;have h00 := hid h0;clear h0;go_wp2;go_ret;refine ⟨[],_,rfl,Mine.nil _ _,zUG,?_,Below.refl _ _⟩;have e0 : Y = [] := List.eq_nil_of_length_eq_zero (by rw [LY.out];exact h00.out);rw [e0];simp [val]
  ·have hz : ((m : Int) == 0) = false := by rw [beq_eq_false_iff_ne];omega
   have hne : Hid (Y ≠ []) := by intro q;have := LY.out;rw [q] at this;simp at this;omega
   by_cases h64 : m < 64
   ·skip
    go_enter Tryz.func59,Tryz.ntmps59;go_wp2_with fail;refine HT1.out.mono ?_;rintro e w1 ⟨rfl,rfl⟩;go_wp2_with fail;refine HT2.out.mono ?_;rintro e w1 ⟨rfl,rfl⟩;go_wp2_with fail;refine (byWord_any SX.out SY.out (by rw [LX.out,LY.out];omega)).mono ?_;rintro e w2 hm;obtain ⟨zs,r,rfl,m1,m2,m3,m4⟩ := hm;go_wp2;go_ret;exact zQB.as ⟨zs,r,rfl,m1,m2,m3,m4⟩ (rfl)
   ·by_cases hle : m ≤ h
    ·skip
     go_enter Tryz.func59,Tryz.ntmps59;go_wp2_with fail;refine HT1.out.mono ?_;rintro e w1 ⟨rfl,rfl⟩;go_wp2_with fail;refine HT2.out.mono ?_;rintro e w1 ⟨rfl,rfl⟩;go_wp2_with fail;refine (byTwo_any SX.out SY.out CX.out CY.out (by rw [LX.out,LY.out];omega) (by omega) (by rw [LX.out];omega) hne.out (IH'.out.less (by rw [LX.out,LY.out];exact Nat.le_refl _))).mono ?_;rintro e w2 hm;obtain ⟨zs,r,rfl,m1,m2,m3,m4⟩ := hm;go_wp2;go_ret;exact zQB.as ⟨zs,r,rfl,m1,m2,m3,m4⟩ (rfl)
    ·skip
     go_enter Tryz.func59,Tryz.ntmps59;go_wp2_with fail;refine HT1.out.mono ?_;rintro e w1 ⟨rfl,rfl⟩;go_wp2_with fail;refine HT2.out.mono ?_;rintro e w1 ⟨rfl,rfl⟩;go_wp2_with fail;refine (byFour_any SX.out SY.out CX.out CY.out (by rw [LX.out,LY.out];omega) (by omega) (by rw [LX.out];omega) (by rw [LY.out];omega) (by rw [LX.out];omega) (by rw [LX.out];omega) (by rw [LY.out];omega) (by rw [LY.out,LX.out];omega) (IH'.out.less (by rw [LX.out,LY.out];exact Nat.le_refl _))).mono ?_;rintro e w2 hm;obtain ⟨zs,r,rfl,m1,m2,m3,m4⟩ := hm;go_wp2;go_ret;exact zQB.as ⟨zs,r,rfl,m1,m2,m3,m4⟩ (rfl)
theorem zeI : ∀ N,ziG N
 | 0 => fun w v u xs ys _ _ _ h => absurd h (Nat.not_lt_zero _)
 | N + 1 => fun w v u xs ys h1 h2 h3 h4 => mul_step h1 h2 h3 ((zeI N).less (by omega))
theorem zrF {w : World} {va vb : Value} {xs ys : List Int} (ha : Sl w.heap.size w va xs) (hb : Sl w.heap.size w vb ys) (hl : xs.length + ys.length ≤ 35184372088832) :
  Calls Tryz.prog 59 #[va,vb] w (zQB w (val xs * val ys)) := zeI _ w va vb xs ys ha hb hl (Nat.lt_succ_self _)
def zzI (w : World) (s : Int) (k : Nat) (e : Ending) (w' : World) : Prop :=
 ∃ zs a cap,e = .returned (.slice a zs.length cap) ∧ Sl w'.heap.size w' (.slice a zs.length cap) zs ∧ zHA zs ∧ val zs = s ∧ zs.length ≤ k ∧ Below w.heap.size w w'
theorem zQB.gives {w w' : World} {s : Int} {k : Nat} {e : Ending} (h : zQB w s e w') (hs : s < pw k) : zzI w s k e w' := by
 obtain ⟨zs,r,rfl,m1,m2,m3,m4⟩ := h;obtain ⟨a,cap,rfl⟩ := m1.form;exact ⟨zs,a,cap,rfl,m1.sl,m2,m3,zSA m2 (by rw [m3];exact hs),m4⟩
theorem mul_now {w : World} {va vb : Value} {xs ys : List Int} (ha : Sl w.heap.size w va xs) (hb : Sl w.heap.size w vb ys) (hl : xs.length + ys.length ≤ 35184372088832) :
  Calls Tryz.prog 59 #[va,vb] w (zzI w (val xs * val ys) (xs.length + ys.length)) := (zrF ha hb hl).mono fun _ _ h => h.gives (zIB ha.1 hb.1)
def iv (n : Bool) (xs : List Int) : Int := if n = true then -(val xs) else val xs
theorem zaC (xs : List Int) : iv true xs = -(val xs) := by simp [iv]
theorem zdB (xs : List Int) : iv false xs = val xs := by simp [iv]
theorem zBI (n : Bool) : iv n [] = 0 := by cases n <;> simp [iv,val]
theorem zLH (n : Bool) (xs : List Int) : iv (!n) xs = -(iv n xs) := by cases n <;> simp [iv]
def Zi (w : World) (v : Value) (z : Int) (k : Nat) : Prop :=
 ∃ n xs a c,v = .agg #[.bool n,.slice a xs.length c] ∧ Sl w.heap.size w (.slice a xs.length c) xs ∧ iv n xs = z ∧ xs.length ≤ k
def Zm (B : Nat) (w : World) (v : Value) (z : Int) (k : Nat) : Prop :=
 ∃ n zs a c,v = .agg #[.bool n,.slice a zs.length c] ∧ Mine B w (.slice a zs.length c) zs ∧ zHA zs ∧ (zs = [] → n = false) ∧ iv n zs = z ∧ zs.length ≤ k
theorem Zi.now {w w' : World} {v : Value} {z : Int} {k : Nat} (h : Zi w v z k) (hb : Below w.heap.size w w') : Zi w' v z k := by
 obtain ⟨n,xs,a,c,h1,h2,h3,h4⟩ := h;exact ⟨n,xs,a,c,h1,h2.now hb,h3,h4⟩
theorem Zi.more {w : World} {v : Value} {z : Int} {k l : Nat} (h : Zi w v z k) (hl : k ≤ l) : Zi w v z l := by
 obtain ⟨n,xs,a,c,h1,h2,h3,h4⟩ := h;exact ⟨n,xs,a,c,h1,h2,h3,by omega⟩
theorem Zm.now {B : Nat} {w w' : World} {v : Value} {z : Int} {k : Nat} (h : Zm B w v z k) (hb : Below w.heap.size w w') : Zm B w' v z k := by
 obtain ⟨n,xs,a,c,h1,h2,h3,h4,h5,h6⟩ := h;exact ⟨n,xs,a,c,h1,h2.below hb,h3,h4,h5,h6⟩
theorem Zm.more {B : Nat} {w : World} {v : Value} {z : Int} {k l : Nat} (h : Zm B w v z k) (hl : k ≤ l) : Zm B w v z l := by
 obtain ⟨n,xs,a,c,h1,h2,h3,h4,h5,h6⟩ := h;exact ⟨n,xs,a,c,h1,h2,h3,h4,h5,by omega⟩
theorem Zm.mono {B B' : Nat} {w : World} {v : Value} {z : Int} {k : Nat} (h : Zm B w v z k) (hB : B' ≤ B) : Zm B' w v z k := by
 obtain ⟨n,xs,a,c,h1,h2,h3,h4,h5,h6⟩ := h;exact ⟨n,xs,a,c,h1,h2.mono hB,h3,h4,h5,h6⟩
theorem Zm.zi {B : Nat} {w : World} {v : Value} {z : Int} {k : Nat} (h : Zm B w v z k) : Zi w v z k := by
 obtain ⟨n,xs,a,c,h1,h2,h3,h4,h5,h6⟩ := h;exact ⟨n,xs,a,c,h1,h2.sl,h5,h6⟩
theorem zfI {n m : Bool} {xs ys : List Int} (h : iv n xs = iv m ys) (hx : zHA xs) (hy : zHA ys) (hn : xs = [] → n = false) (hm : ys = [] → m = false) : n = m ∧ xs = ys := by
 have h1 := zEA hx.1;have h2 := zEA hy.1;have key : ∀ {zs : List Int},zHA zs → zs ≠ [] → val zs ≠ 0 := fun hc hne e => hne (zgB hc e)
 cases n <;> cases m
 ·simp only [zdB] at h
  exact ⟨rfl,zzE hx hy h⟩
 ·simp only [zdB,zaC] at h
  have e : ys = [] := Classical.byContradiction fun q => key hy q (by omega)
  exact absurd (hm e) (by simp)
 ·simp only [zdB,zaC] at h
  have e : xs = [] := Classical.byContradiction fun q => key hx q (by omega)
  exact absurd (hn e) (by simp)
 ·simp only [zaC] at h
  exact ⟨rfl,zzE hx hy (by omega)⟩
def zOA (w : World) (z : Int) (k : Nat) (e : Ending) (w' : World) : Prop := ∃ r,e = .returned r ∧ Zm w.heap.size w' r z k ∧ Below w.heap.size w w'
theorem ziF {B : Nat} {w : World} {n : Bool} {zs : List Int} {a : Option Addr} {c k : Nat} (h : Mine B w (.slice a zs.length c) zs) (hc : zHA zs) (hk : zs.length ≤ k) :
  Zm B w (.agg #[.bool (n && decide (0 < zs.length)),.slice a zs.length c]) (iv n zs) k := by
 refine ⟨_,zs,a,c,rfl,h,hc,fun e => by subst e;simp,?_,hk⟩
 by_cases e : zs = []
 ·subst e;simp [zBI]
 ·have : 0 < zs.length := Nat.pos_of_ne_zero (fun q => e (List.eq_nil_of_length_eq_zero q))
  simp [this]
def Duo (w : World) (b : Nat) (x y : Value) : Prop := w.heap[b]? = some (.cells #[x,y] 26 (0,0))
abbrev duo (x y : Value) : Obj := .cells #[x,y] 26
abbrev zbox : Obj := .cells #[.bool false,.slice none 0 0] 26
theorem Duo.c0 {w : World} {b : Nat} {x y : Value} (h : Duo w b x y) : w.cell? ⟨b,0,none⟩ = some x := by simp [World.cell?,show w.heap[b]? = _ from h]
theorem Duo.c1 {w : World} {b : Nat} {x y : Value} (h : Duo w b x y) : w.cell? ⟨b,1,none⟩ = some y := by simp [World.cell?,show w.heap[b]? = _ from h]
theorem Duo.fz {w : World} {b : Nat} {x y : Value} (h : Duo w b x y) (i : Nat) : w.frozen? ⟨b,i,none⟩ = false := by simp [World.frozen?,show w.heap[b]? = _ from h]
theorem Duo.below {w w' : World} {b B : Nat} {x y : Value} (h : Duo w b x y) (hb : Below B w w') (hB : b < B) : Duo w' b x y := (hb.block b hB).trans h
theorem Duo.new (w : World) (x y : Value) : Duo (w.alloc (duo x y)) w.heap.size x y := heap_alloc_new w _
theorem Duo.later {w : World} {b : Nat} {x y : Value} (h : Duo w b x y) (hb : b < w.heap.size) (o : Obj) : Duo (w.alloc o) b x y := h.below ((Below.refl _ _).alloc (Nat.le_refl _) o) hb
theorem Duo.set {w : World} {b : Nat} {x y : Value} (h : Duo w b x y) (x' y' : Value) : Duo ((w.setCell ⟨b,0,none⟩ x').setCell ⟨b,1,none⟩ y') b x' y' := by
 have h' : w.heap[b]? = some (.cells #[x,y] 26 (0,0)) := h;have hlt : b < w.heap.size := (Array.getElem?_eq_some_iff.1 h').1;have e : w.heap[b] = .cells #[x,y] 26 (0,0) := (Array.getElem?_eq_some_iff.1 h').2;unfold Duo World.setCell;simp [hlt,Array.getElem_modify,e]
theorem zBB {f : Func} {s : Nat} (hr : f.results = #[ResultVar.cell s 26]) {W : World} {b : Nat} {x y : Value} (h : Duo W b x y) (tmps : Array Value) (ht : tmps[s]? = some (.pointer (some ⟨b,0,none⟩))) :
  (results f tmps).run Tryz.prog W = .ok (.agg #[x,y]) W := by
 simp [results,hr,go_sem,ht,h.c0,h.c1]
theorem zbA (w : World) (n : Bool) (l : Nat) (a : Option Addr) (c : Nat) (hl : l ≤ 35184372088832) :
  Calls Tryz.prog 58 #[.bool n,.slice a l c] w fun e w' => e = .returned (.agg #[.bool (n && decide (0 < l)),.slice a l c]) ∧ Below w.heap.size w w' := by
 have k := (Below.refl w.heap.size w).alloc (Nat.le_refl _) (duo (.bool (n && decide (0 < l))) (.slice a l c));cases n
 ·go_enter Tryz.func58,Tryz.ntmps58
  go_wp2;exact bodyPost_ret (zBB Tryz.results58 (Duo.new w _ _) _ (by rfl)) rfl ⟨rfl,k⟩
 ·by_cases h : 0 < l
  ·have h' : (0 : Int) < (l : Int) := by omega
   simp only [h,decide_true,Bool.and_self] at k ⊢;go_enter Tryz.func58,Tryz.ntmps58;go_wp2;exact bodyPost_ret (zBB Tryz.results58 (Duo.new w _ _) _ (by rfl)) rfl ⟨rfl,k⟩
  ·have h' : ¬ (0 : Int) < (l : Int) := by omega
   simp only [h,decide_false,Bool.and_false] at k ⊢;go_enter Tryz.func58,Tryz.ntmps58;go_wp2;exact bodyPost_ret (zBB Tryz.results58 (Duo.new w _ _) _ (by rfl)) rfl ⟨rfl,k⟩
def Mk (w : World) (s : Int) (k : Nat) (e : Ending) (w' : World) : Prop :=
 ∃ zs a c,e = .returned (.slice a zs.length c) ∧ Mine w.heap.size w' (.slice a zs.length c) zs ∧ zHA zs ∧ val zs = s ∧ zs.length ≤ k ∧ Below w.heap.size w w'
theorem ziE {B : Nat} {w : World} {g : Nat} {zs : List Int} {r : List Value} {cap : Nat} (hB : B ≤ g) (hw : WF zs) (hc : cap = zs.length + r.length) (hm : cap ≤ 35184372088832) (hr : Row w g (ws zs ++ r)) : Mine B w (.slice (some ⟨g,0,none⟩) zs.length cap) zs :=
 ⟨hw,.inr ⟨g,r,cap,hB,by omega,by omega,.inr ⟨hc,by unfold maxLen;omega⟩,rfl,hr⟩⟩
theorem zkE {w : World} {v : Value} {xs : List Int} (h : Sl w.heap.size w v xs) : Calls Tryz.prog 75 #[v] w (Mk w (val xs) xs.length) :=
 (least_any h).mono fun e w' ⟨h1,h2,h3,h4⟩ => by
  have hx := h.1;obtain ⟨_,a,cap,_,h6,h7,_⟩ := h;have := zRA xs;have hl := length_lst xs;refine ⟨lst xs,some ⟨w.heap.size,0,none⟩,wid xs,by rw [h1,hl],?_,canon_lst hx,val_lst xs,by omega,h3⟩;exact ziE (r := []) (Nat.le_refl _) (canon_lst hx).1 (by simp [hl]) (by omega) (by simpa using h2)
theorem add_m {w : World} {v u : Value} {xs ys : List Int} (h : Sl w.heap.size w v xs) (h' : Sl w.heap.size w u ys) (hl : xs.length < 35184372088832) (hl' : ys.length < 35184372088832) :
  Calls Tryz.prog 79 #[v,u] w (Mk w (val xs + val ys) (max xs.length ys.length + 1)) :=
 (zhG h h' hl hl').mono fun e w' hadd => by
  obtain ⟨zs,cap,r,rfl,hc,hv,hk,hcap,hm,hr,hb,hs⟩ := hadd;have := zRA xs;have := zRA ys;exact ⟨zs,_,cap,rfl,ziE (Nat.le_refl _) hc.1 hcap hm hr,hc,hv,by omega,hb⟩
theorem zxI {w : World} {v u : Value} {xs ys : List Int} (h : Sl w.heap.size w v xs) (h' : Sl w.heap.size w u ys) (hge : val ys ≤ val xs) :
  Calls Tryz.prog 80 #[v,u] w fun e w' => ∃ zs a c,e = .returned (.tuple #[.slice a zs.length c,.int .i64 0]) ∧ Mine w.heap.size w' (.slice a zs.length c) zs ∧ zHA zs ∧ val zs = val xs - val ys ∧ zs.length ≤ xs.length ∧ Below w.heap.size w w' :=
 (zoH h h' hge).mono fun e w' ht => by
  obtain ⟨zs,cap,r,h1,h2,h3,h4,h5,h6,h7,h8,h9⟩ := ht;have := zRA xs;exact ⟨zs,_,cap,h1,ziE (Nat.le_refl _) h2.1 h5 h6 h7,h2,h3,by omega,h8⟩
theorem mul_m {w : World} {va vb : Value} {xs ys : List Int} (ha : Sl w.heap.size w va xs) (hb : Sl w.heap.size w vb ys) (hl : xs.length + ys.length ≤ 35184372088832) :
  Calls Tryz.prog 59 #[va,vb] w (Mk w (val xs * val ys) (xs.length + ys.length)) :=
 (zrF ha hb hl).mono fun e w' h => by
  obtain ⟨zs,r,rfl,m1,m2,m3,m4⟩ := h;obtain ⟨a,cap,rfl⟩ := m1.form;exact ⟨zs,a,cap,rfl,m1,m2,m3,zSA m2 (by rw [m3];exact zIB ha.1 hb.1),m4⟩
theorem Mine.setLow {B b : Nat} {w : World} {v : Value} {zs : List Int} (h : Mine B w v zs) (hb : b < B) (i : Nat) (x : Value) : Mine B (w.setCell ⟨b,i,none⟩ x) v zs := by
 obtain ⟨hw,h | ⟨g,r,cap,h1,h2,h3,h4,h5,h6⟩⟩ := h
 ·exact ⟨hw,.inl h⟩
 ·refine ⟨hw,.inr ⟨g,r,cap,h1,h2,h3,h4,h5,?_⟩⟩
  have e : (w.setCell ⟨b,i,none⟩ x).heap[g]? = w.heap[g]? := Below.heap_setCell w _ x g (fun e => by simp at e;omega);exact e.trans h6
theorem Zm.setLow {B b : Nat} {w : World} {v : Value} {z : Int} {k : Nat} (h : Zm B w v z k) (hb : b < B) (i : Nat) (x : Value) : Zm B (w.setCell ⟨b,i,none⟩ x) v z k := by
 obtain ⟨n,xs,a,c,h1,h2,h3,h4,h5,h6⟩ := h;exact ⟨n,xs,a,c,h1,h2.setLow hb i x,h3,h4,h5,h6⟩
theorem zWB {w W : World} {B b : Nat} {x y : Value} {z : Int} {k : Nat} (h : Zm B W (.agg #[x,y]) z k) (hW : Below w.heap.size w W) (hb : w.heap.size ≤ b) (hB : b < B) :
  zOA w z k (.returned (.agg #[x,y])) ((W.setCell ⟨b,0,none⟩ x).setCell ⟨b,1,none⟩ y) :=
 ⟨_,rfl,((h.setLow hB 0 x).setLow hB 1 y).mono (by omega),(hW.setCell (p := ⟨b,0,none⟩) hb x).setCell (p := ⟨b,1,none⟩) hb y⟩
theorem zXA (w : World) (o1 o2 : Obj) : Below w.heap.size w ((w.alloc o1).alloc o2) ∧ ((w.alloc o1).alloc o2).heap.size = w.heap.size + 1 + 1 := ⟨((Below.refl _ _).alloc (Nat.le_refl _) _).alloc (by simp) _,by simp⟩
theorem zKB (w : World) (o1 o2 o3 : Obj) : Below w.heap.size w (((w.alloc o1).alloc o2).alloc o3) ∧ (((w.alloc o1).alloc o2).alloc o3).heap.size = w.heap.size + 1 + 1 + 1 := ⟨(((Below.refl _ _).alloc (Nat.le_refl _) _).alloc (by simp) _).alloc (by simp;omega) _,by simp⟩
theorem zNB (w : World) (o1 o2 o3 o4 : Obj) : Below w.heap.size w ((((w.alloc o1).alloc o2).alloc o3).alloc o4) ∧ ((((w.alloc o1).alloc o2).alloc o3).alloc o4).heap.size = w.heap.size + 1 + 1 + 1 + 1 := ⟨((((Below.refl _ _).alloc (Nat.le_refl _) _).alloc (by simp) _).alloc (by simp;omega) _).alloc (by simp;omega) _,by simp⟩
theorem zCA {w : World} {b : Nat} {x y : Value} (hb : w.heap.size = b) : Duo (w.alloc (duo x y)) b x y := by subst hb;exact Duo.new w x y
theorem zAA {w : World} {b : Nat} {x y : Value} (h : Duo w b x y) (o : Obj) : Duo (w.alloc o) b x y := h.later (Array.getElem?_eq_some_iff.1 (show w.heap[b]? = _ from h)).1 o
end Go.Proofs.YtkdobgbicnemcaaGreatDoor
