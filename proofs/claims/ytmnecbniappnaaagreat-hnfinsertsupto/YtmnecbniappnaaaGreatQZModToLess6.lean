/-
 QZModToLess6: ZMod, ZDivs, Less6, joined.
-/
import Derived.Test.YtmnecbniappnaaaGreatQZEuclid
import Derived.Test.YtmnecbniappnaaaGreatQZStoreToLst9
import Derived.Test.YtmnecbniappnaaaGreatQFil9ToRowsOf9

set_option maxRecDepth 100000
set_option maxHeartbeats 6400000
set_option linter.unusedVariables false
set_option linter.unusedSimpArgs false
namespace Go.Proofs.YtmnecbniappnaaaGreat
open Go.RowKit
theorem zmB {z y : Int} (hy : y ≠ 0) : (z.tmod y < 0 → z.tmod y + (y.natAbs : Int) = z % y) ∧ (¬ z.tmod y < 0 → z.tmod y = z % y) := by
 have h1 := Int.tmod_eq_emod (a := z) (b := y);have h2 := Int.emod_nonneg z hy;have h3 : z % y < (y.natAbs : Int) := by
  by_cases h : 0 < y
  ·have := Int.emod_lt_of_pos z h
   omega
  ·have := Int.emod_lt_of_pos z (b := -y) (by omega)
   rw [Int.emod_neg] at this;omega
 split at h1 <;> constructor <;> intro h <;> omega
theorem zeE (w : World) (o1 : Obj) : Below w.heap.size w (w.alloc o1) ∧ (w.alloc o1).heap.size = w.heap.size + 1 := ⟨(Below.refl _ _).alloc (Nat.le_refl _) _,by simp⟩
def fdv (z y : Int) : Int := if cmpI (z.tmod y) 0 * cmpI y 0 < 0 then z.tdiv y - 1 else z.tdiv y
def fmd (z y : Int) : Int := if cmpI (z.tmod y) 0 * cmpI y 0 < 0 then z.tmod y + y else z.tmod y
def edv (z y : Int) : Int := if cmpI (z.tmod y) 0 < 0 then z.tdiv y - cmpI y 0 else z.tdiv y
theorem floor_z {w : World} {v u : Value} {z y : Int} {k l : Nat} (h0 : Zi w v z k) (h1 : Zi w u y l) (hy : y ≠ 0) (hk : k ≤ 1099511627776) (hl : l ≤ 1099511627776) :
  Calls Tryz.prog 93 #[v,u] w (zDB 0 w (fdv z y) (fmd z y) (max k 1 + 1) (max k l + 1)) := by
 unfold fdv fmd
 by_cases hs : cmpI (z.tmod y) 0 * cmpI y 0 < 0
 ·rw [if_pos hs,if_pos hs]
  exact floor_neg h0 h1 hy hk hl hs
 ·rw [if_neg hs,if_neg hs]
  exact (floor_pos h0 h1 hy hk hl hs).mono fun e w' ⟨rq,rr,q1,q2,q3,q4⟩ => ⟨rq,rr,q1,q2.more (by omega),q3.more (by omega),q4⟩
theorem euclid_z {w : World} {v u : Value} {z y : Int} {k l : Nat} (h0 : Zi w v z k) (h1 : Zi w u y l) (hy : y ≠ 0) (hk : k ≤ 1099511627776) (hl : l ≤ 1099511627776) :
  Calls Tryz.prog 115 #[v,u] w (zDB 0 w (edv z y) (z % y) (max k 1 + 1) (max k l + 1)) := by
 unfold edv
 by_cases hs : z.tmod y < 0
 ·have hc := zrB hs
  rw [if_pos hc,← (zmB hy).1 hs];exact euclid_neg h0 h1 hy hk hl hc
 ·have hc := zxA (a := z.tmod y) (b := 0) (by omega)
  rw [if_neg hc,← (zmB hy).2 hs];exact (euclid_pos h0 h1 hy hk hl hc).mono fun e w' ⟨rq,rr,q1,q2,q3,q4⟩ => ⟨rq,rr,q1,q2.more (by omega),q3.more (by omega),q4⟩
theorem ztD {w : World} {v u : Value} {z y : Int} {k l : Nat} (h0 : Zi w v z k) (h1 : Zi w u y l) (hy : y ≠ 0) (hk : k ≤ 1099511627776) (hl : l ≤ 1099511627776) (hr : z.tmod y = 0) : Calls Tryz.prog 87 #[v,u] w (zBF 0 w (z.tdiv y) k) :=
 (zzG h0 h1 hy hk hl).mono fun e w' h => by
  rcases h with ⟨_,h⟩ | ⟨h,_⟩
  ·exact h
  ·exact absurd hr h
theorem exact_no {w : World} {v u : Value} {z y : Int} {k l : Nat} (h0 : Zi w v z k) (h1 : Zi w u y l) (hy : y ≠ 0) (hk : k ≤ 1099511627776) (hl : l ≤ 1099511627776) (hr : z.tmod y ≠ 0) : Calls Tryz.prog 87 #[v,u] w (zBF 8 w 0 k) :=
 (zzG h0 h1 hy hk hl).mono fun e w' h => by
  rcases h with ⟨h,_⟩ | ⟨_,h1,h2⟩
  ·exact absurd h hr
  ·exact ⟨_,h1,zbG _ _ _,h2⟩
theorem zJE {z y : Int} (hy : y ≠ 0) : ((z.tmod y).natAbs : Int) < (y.natAbs : Int) ∧ (0 ≤ z → 0 ≤ z.tmod y) ∧ (z ≤ 0 → z.tmod y ≤ 0) ∧ z.tdiv y * y + z.tmod y = z := by
 have h0 : z.tdiv y * y + z.tmod y = z := by rw [Int.mul_comm];exact Int.mul_tdiv_add_tmod z y
 have h1 := Int.tmod_eq_emod (a := z) (b := y);have h2 := Int.emod_nonneg z hy;have h3 : z % y < (y.natAbs : Int) := by
  by_cases h : 0 < y
  ·have := Int.emod_lt_of_pos z h
   omega
  ·have := Int.emod_lt_of_pos z (b := -y) (by omega)
   rw [Int.emod_neg] at this;omega
 have h4 : 0 ≤ z → 0 ≤ z.tmod y := fun h => by
  rw [if_pos (.inl h)] at h1;omega
 have h5 : z ≤ 0 → z.tmod y ≤ 0 := fun h => by
  have h6 := Int.tmod_eq_emod (a := -z) (b := y);rw [if_pos (.inl (by omega)),Int.neg_tmod] at h6;have h7 := Int.emod_nonneg (-z) hy;omega
 refine ⟨?_,h4,h5,h0⟩
 by_cases h : 0 ≤ z
 ·rw [if_pos (.inl h)] at h1
  omega
 ·have h6 := Int.tmod_eq_emod (a := -z) (b := y)
  rw [if_pos (.inl (by omega)),Int.neg_tmod] at h6;have h7 := Int.emod_nonneg (-z) hy;have h8 : (-z) % y < (y.natAbs : Int) := by
   by_cases h : 0 < y
   ·have := Int.emod_lt_of_pos (-z) h
    omega
   ·have := Int.emod_lt_of_pos (-z) (b := -y) (by omega)
    rw [Int.emod_neg] at this;omega
  omega
theorem sign_cases (x : Int) : (x < 0 ∧ cmpI x 0 = -1) ∨ (x = 0 ∧ cmpI x 0 = 0) ∨ (0 < x ∧ cmpI x 0 = 1) := cmp_cases x 0
theorem zmG (B : Int) : cmpI B 0 * B = (B.natAbs : Int) := by
 rcases sign_cases B with ⟨b1,b2⟩ | ⟨b1,b2⟩ | ⟨b1,b2⟩ <;> rw [b2] <;> omega
theorem zgD {x0 x1 y0 y1 : Value} (h : #[x0,x1] = #[y0,y1]) : x0 = y0 ∧ x1 = y1 := by simpa using h
theorem Zi.comp {w : World} {v0 v1 : Value} {z : Int} {k : Nat} (h : Zi w (.agg #[v0,v1]) z k) : ∃ n,∃ xs : List Int,∃ a c,v0 = .bool n ∧ v1 = .slice a xs.length c := by
 obtain ⟨n,xs,a,c,e,_⟩ := h;obtain ⟨e1,e2⟩ := zgD (show #[v0,v1] = _ by simpa using e);exact ⟨n,xs,a,c,e1,e2⟩
theorem zzH {w : World} {b : Nat} {T : TypeId} {L : List Value} (hb : w.heap.size = b) : Cel (w.alloc (.cells L.toArray T)) b T L := by subst hb;exact Cel.new w T L
theorem zRD {w : World} {b : Nat} {T : TypeId} {L : List Value} (h : Cel w b T L) (o : Obj) : Cel (w.alloc o) b T L := h.step ((Below.refl _ _).alloc (Nat.le_refl _) o)
theorem Row.cel {w : World} {g b i : Nat} {L : List Value} {T : TypeId} {M : List Value} {u : Value} (h : Row w g L) (d : Cel w b T M) (hT : T ≠ 42) : Row (w.setCell ⟨b,i,none⟩ u) g L := by
 have hne : g ≠ b := fun e => by
  subst e;have := (show w.heap[g]? = _ from h).symm.trans (show w.heap[g]? = _ from d);simp at this;exact hT this.2.symm
 exact (Below.heap_setCell w _ u g (fun e => hne (by simpa using e))).trans h
theorem Mine.cel {B : Nat} {w : World} {v : Value} {zs : List Int} (h : Mine B w v zs) {b i : Nat} {T : TypeId} {M : List Value} {u : Value} (d : Cel w b T M) (hT : T ≠ 42) : Mine B (w.setCell ⟨b,i,none⟩ u) v zs := by
 obtain ⟨hw,h | ⟨g,r,cap,h1,h2,h3,h4,h5,h6⟩⟩ := h
 ·exact ⟨hw,.inl h⟩
 ·exact ⟨hw,.inr ⟨g,r,cap,h1,h2,h3,h4,h5,h6.cel d hT⟩⟩
theorem Zm.cel {B : Nat} {w : World} {v : Value} {z : Int} {k : Nat} (h : Zm B w v z k) {b i : Nat} {T : TypeId} {M : List Value} {u : Value} (d : Cel w b T M) (hT : T ≠ 42) : Zm B (w.setCell ⟨b,i,none⟩ u) v z k := by
 obtain ⟨n,xs,a,c,h1,h2,h3⟩ := h;exact ⟨n,xs,a,c,h1,h2.cel d hT,h3⟩
theorem Zm.put4z {B : Nat} {w : World} {v : Value} {z : Int} {k : Nat} (h : Zm B w v z k) {b : Nat} {x0 x1 x2 x3 : Value} (d : Cel w b 130 [x0,x1,x2,x3]) (y0 y1 y2 y3 : Value) : Zm B (put4 w b y0 y1 y2 y3) v z k := by
 have d1 := d.set 0 y0;have d2 := d1.set 1 y1;have d3 := d2.set 2 y2;exact (((h.cel d (by decide)).cel d1 (by decide)).cel d2 (by decide)).cel d3 (by decide)
theorem rowback {f : Func} {s : Nat} (hr : f.results = #[ResultVar.cell s 130]) {W : World} {b : Nat} {x0 x1 x2 x3 : Value} (h : Cel W b 130 [x0,x1,x2,x3]) (tmps : Array Value) (ht : tmps[s]? = some (.pointer (some ⟨b,0,none⟩))) :
  (results f tmps).run Tryz.prog W = .ok (.agg #[x0,x1,x2,x3]) W := by
 simp [results,hr,go_sem,ht,h.at (i := 0) rfl,h.at (i := 1) rfl,h.at (i := 2) rfl,h.at (i := 3) rfl]
theorem less_z {w : World} {a0 a1 b0 b1 c0 c1 d0 d1 vt : Value} {A B T C D : Int} {k : Nat} (ha : Zi w (.agg #[a0,a1]) A k) (hb : Zi w (.agg #[b0,b1]) B k) (ht : Zi w vt T k) (hc : Zi w (.agg #[c0,c1]) C k) (hd : Zi w (.agg #[d0,d1]) D k) (hk : k ≤ 68719476736) :
  Calls Tryz.prog 114 #[.agg #[a0,a1,b0,b1],vt,.agg #[c0,c1,d0,d1]] w fun e w' => ∃ r0 r1 r2 r3,e = .returned (.agg #[r0,r1,r2,r3]) ∧ Zm w.heap.size w' (.agg #[r0,r1]) (A - T * C) (k + k + 1) ∧ Zm w.heap.size w' (.agg #[r2,r3]) (B - T * D) (k + k + 1) ∧ Below w.heap.size w w' := by
 have za0 := ha;obtain ⟨na,xa,ada,ca,ev,-,-,-⟩ := ha;simp only [Value.agg.injEq] at ev;obtain ⟨rfl,rfl⟩ := zgD ev;have zb0 := hb;obtain ⟨nb,xb,adb,cb,ev,-,-,-⟩ := hb;simp only [Value.agg.injEq] at ev;obtain ⟨rfl,rfl⟩ := zgD ev;have zt0 := ht;obtain ⟨nt,xt,adt,ct,rfl,-,-,-⟩ := ht;have zc0 := hc;obtain ⟨nc,xc,adc,cc,ev,-,-,-⟩ := hc;simp only [Value.agg.injEq] at ev;obtain ⟨rfl,rfl⟩ := zgD ev;have zd0 := hd;obtain ⟨nd,xd,add,cd,ev,-,-,-⟩ := hd;simp only [Value.agg.injEq] at ev;obtain ⟨rfl,rfl⟩ := zgD ev;obtain ⟨W0,hW⟩ : ∃ W0,(((w.alloc (.cells #[(.bool na),(.slice ada xa.length ca),(.bool nb),(.slice adb xb.length cb)] 130)).alloc (duo (.bool nt) (.slice adt xt.length ct))).alloc (.cells #[(.bool nc),(.slice adc xc.length cc),(.bool nd),(.slice add xd.length cd)] 130)).alloc (.cells #[(.bool false),(.slice none 0 0),(.bool false),(.slice none 0 0)] 130) = W0 := ⟨_,rfl⟩
 obtain ⟨b0,sz0⟩ := zAC w (.cells #[(.bool na),(.slice ada xa.length ca),(.bool nb),(.slice adb xb.length cb)] 130) (duo (.bool nt) (.slice adt xt.length ct)) (.cells #[(.bool nc),(.slice adc xc.length cc),(.bool nd),(.slice add xd.length cd)] 130) (.cells #[(.bool false),(.slice none 0 0),(.bool false),(.slice none 0 0)] 130);rw [hW] at b0 sz0;have e1 : (w.alloc (.cells #[(.bool na),(.slice ada xa.length ca),(.bool nb),(.slice adb xb.length cb)] 130)).heap.size = w.heap.size + 1 := by simp
 have e2 : ((w.alloc (.cells #[(.bool na),(.slice ada xa.length ca),(.bool nb),(.slice adb xb.length cb)] 130)).alloc (duo (.bool nt) (.slice adt xt.length ct))).heap.size = w.heap.size + 1 + 1 := by simp
 have e3 : (((w.alloc (.cells #[(.bool na),(.slice ada xa.length ca),(.bool nb),(.slice adb xb.length cb)] 130)).alloc (duo (.bool nt) (.slice adt xt.length ct))).alloc (.cells #[(.bool nc),(.slice adc xc.length cc),(.bool nd),(.slice add xd.length cd)] 130)).heap.size = w.heap.size + 1 + 1 + 1 := by simp
 have PR : Hid (Cel W0 (w.heap.size) 130 [(.bool na),(.slice ada xa.length ca),(.bool nb),(.slice adb xb.length cb)]) := by unfold Hid;rw [← hW];exact zRD (zRD (zRD (Cel.new w _ _) _) _) _
 have PT : Hid (Duo W0 (w.heap.size + 1) (.bool nt) (.slice adt xt.length ct)) := by unfold Hid;rw [← hW];exact zBA (zBA (zEA e1) _) _
 have PS : Hid (Cel W0 (w.heap.size + 1 + 1) 130 [(.bool nc),(.slice adc xc.length cc),(.bool nd),(.slice add xd.length cd)]) := by unfold Hid;rw [← hW];exact zRD (zzH e2) _
 have PQ : Hid (Cel W0 (w.heap.size + 1 + 1 + 1) 130 [(.bool false),(.slice none 0 0),(.bool false),(.slice none 0 0)]) := by unfold Hid;rw [← hW];exact zzH e3
 have Za := hid (za0.now b0);clear za0;have Zb := hid (zb0.now b0);clear zb0;have Zt := hid (zt0.now b0);clear zt0;have Zc := hid (zc0.now b0);clear zc0;have Zd := hid (zd0.now b0);clear zd0;clear e1 e2 e3;have G := hid b0;clear b0;have EW := hid hW;clear hW;go_enter Tryz.func114,Tryz.ntmps114
 skip
 go_wp2_with fail;rw [EW.out];clear EW;refine zFA (fun w' => w'.cell? ⟨w.heap.size,0,none⟩ = some (.bool na) ∧ w'.cell? ⟨w.heap.size,1,none⟩ = some (.slice ada xa.length ca) ∧ w'.cell? ⟨w.heap.size,2,none⟩ = some (.bool nb) ∧ w'.cell? ⟨w.heap.size,3,none⟩ = some (.slice adb xb.length cb) ∧ w'.cell? ⟨w.heap.size + 1,0,none⟩ = some (.bool nt) ∧ w'.cell? ⟨w.heap.size + 1,1,none⟩ = some (.slice adt xt.length ct) ∧ w'.cell? ⟨w.heap.size + 1 + 1,0,none⟩ = some (.bool nc) ∧ w'.cell? ⟨w.heap.size + 1 + 1,1,none⟩ = some (.slice adc xc.length cc) ∧ w'.cell? ⟨w.heap.size + 1 + 1,2,none⟩ = some (.bool nd) ∧ w'.cell? ⟨w.heap.size + 1 + 1,3,none⟩ = some (.slice add xd.length cd)) 15 (by kernel_rfl) ?_;obtain ⟨D1,hD⟩ : ∃ D1,W0.drew = D1 := ⟨_,rfl⟩
 have b : Below W0.heap.size W0 D1 := by rw [← hD];exact (Below.refl _ _).drew
 rw [hD];clear hD;replace Za := hid (Za.out.now b);replace Zb := hid (Zb.out.now b);replace Zt := hid (Zt.out.now b);replace Zc := hid (Zc.out.now b);replace Zd := hid (Zd.out.now b);replace PR := hid (PR.out.step b);replace PT := hid (PT.out.step b);replace PS := hid (PS.out.step b);replace PQ := hid (PQ.out.step b);replace G := hid (below_step G.out b);have lz2 := (show Below _ _ _ from b).size;clear b;refine zCA (i := 0) (oi := ⟨some 7,.indexAddr 130 (.tmp 3) (.const (.int .i64 0)),0, "bezout.go:57",#[],none⟩) (v := (.pointer (some ⟨w.heap.size,0,none⟩))) rfl (by kernel_rfl) (fun _ _ _ h => h) (Or.inl ⟨by rfl,?_⟩) ⟨(PR.out.at (i := 0) rfl),(PR.out.at (i := 1) rfl),(PR.out.at (i := 2) rfl),(PR.out.at (i := 3) rfl),PT.out.c0,PT.out.c1,(PS.out.at (i := 0) rfl),(PS.out.at (i := 1) rfl),(PS.out.at (i := 2) rfl),(PS.out.at (i := 3) rfl)⟩ ?_
 ·intro w hSw;(try dsimp only at hSw);go_simp
 simp only [Act.put,sIb,sC0,sC1];refine zCA (i := 1) (oi := ⟨some 8,.load 40 (.tmp 7),40, "bezout.go:57",#[⟨0,.data⟩],none⟩) (v := (.agg #[(.bool na),(.slice ada xa.length ca)])) rfl (by kernel_rfl) (fun _ _ _ h => h) (Or.inl ⟨by rfl,?_⟩) ⟨(PR.out.at (i := 0) rfl),(PR.out.at (i := 1) rfl),(PR.out.at (i := 2) rfl),(PR.out.at (i := 3) rfl),PT.out.c0,PT.out.c1,(PS.out.at (i := 0) rfl),(PS.out.at (i := 1) rfl),(PS.out.at (i := 2) rfl),(PS.out.at (i := 3) rfl)⟩ ?_
 ·intro w hSw;(try dsimp only at hSw);go_simp
 simp only [Act.put,sIb,sC0,sC1];refine zCA (i := 2) (oi := ⟨some 9,.load 40 (.tmp 4),40, "bezout.go:57",#[],none⟩) (v := (.agg #[(.bool nt),(.slice adt xt.length ct)])) rfl (by kernel_rfl) (fun _ _ _ h => h) (Or.inl ⟨by rfl,?_⟩) ⟨(PR.out.at (i := 0) rfl),(PR.out.at (i := 1) rfl),(PR.out.at (i := 2) rfl),(PR.out.at (i := 3) rfl),PT.out.c0,PT.out.c1,(PS.out.at (i := 0) rfl),(PS.out.at (i := 1) rfl),(PS.out.at (i := 2) rfl),(PS.out.at (i := 3) rfl)⟩ ?_
 ·intro w hSw;(try dsimp only at hSw);go_simp
 simp only [Act.put,sIb,sC0,sC1];refine zCA (i := 3) (oi := ⟨some 10,.indexAddr 130 (.tmp 5) (.const (.int .i64 0)),0, "bezout.go:57",#[],none⟩) (v := (.pointer (some ⟨w.heap.size + 1 + 1,0,none⟩))) rfl (by kernel_rfl) (fun _ _ _ h => h) (Or.inl ⟨by rfl,?_⟩) ⟨(PR.out.at (i := 0) rfl),(PR.out.at (i := 1) rfl),(PR.out.at (i := 2) rfl),(PR.out.at (i := 3) rfl),PT.out.c0,PT.out.c1,(PS.out.at (i := 0) rfl),(PS.out.at (i := 1) rfl),(PS.out.at (i := 2) rfl),(PS.out.at (i := 3) rfl)⟩ ?_
 ·intro w hSw;(try dsimp only at hSw);go_simp
 simp only [Act.put,sIb,sC0,sC1];refine zCA (i := 4) (oi := ⟨some 11,.load 40 (.tmp 10),40, "bezout.go:57",#[⟨3,.data⟩],none⟩) (v := (.agg #[(.bool nc),(.slice adc xc.length cc)])) rfl (by kernel_rfl) (fun _ _ _ h => h) (Or.inl ⟨by rfl,?_⟩) ⟨(PR.out.at (i := 0) rfl),(PR.out.at (i := 1) rfl),(PR.out.at (i := 2) rfl),(PR.out.at (i := 3) rfl),PT.out.c0,PT.out.c1,(PS.out.at (i := 0) rfl),(PS.out.at (i := 1) rfl),(PS.out.at (i := 2) rfl),(PS.out.at (i := 3) rfl)⟩ ?_
 ·intro w hSw;(try dsimp only at hSw);go_simp
 simp only [Act.put,sIb,sC0,sC1];refine zCA (i := 7) (oi := ⟨some 14,.indexAddr 130 (.tmp 3) (.const (.int .i64 1)),0, "bezout.go:57",#[],none⟩) (v := (.pointer (some ⟨w.heap.size,2,none⟩))) rfl (by kernel_rfl) (fun _ _ _ h => h) (Or.inl ⟨by rfl,?_⟩) ⟨(PR.out.at (i := 0) rfl),(PR.out.at (i := 1) rfl),(PR.out.at (i := 2) rfl),(PR.out.at (i := 3) rfl),PT.out.c0,PT.out.c1,(PS.out.at (i := 0) rfl),(PS.out.at (i := 1) rfl),(PS.out.at (i := 2) rfl),(PS.out.at (i := 3) rfl)⟩ ?_
 ·intro w hSw;(try dsimp only at hSw);go_simp
 simp only [Act.put,sIb,sC0,sC1];refine zCA (i := 8) (oi := ⟨some 15,.load 40 (.tmp 14),40, "bezout.go:57",#[⟨7,.data⟩],none⟩) (v := (.agg #[(.bool nb),(.slice adb xb.length cb)])) rfl (by kernel_rfl) (fun _ _ _ h => h) (Or.inl ⟨by rfl,?_⟩) ⟨(PR.out.at (i := 0) rfl),(PR.out.at (i := 1) rfl),(PR.out.at (i := 2) rfl),(PR.out.at (i := 3) rfl),PT.out.c0,PT.out.c1,(PS.out.at (i := 0) rfl),(PS.out.at (i := 1) rfl),(PS.out.at (i := 2) rfl),(PS.out.at (i := 3) rfl)⟩ ?_
 ·intro w hSw;(try dsimp only at hSw);go_simp
 simp only [Act.put,sIb,sC0,sC1];refine zCA (i := 9) (oi := ⟨some 16,.load 40 (.tmp 4),40, "bezout.go:57",#[],none⟩) (v := (.agg #[(.bool nt),(.slice adt xt.length ct)])) rfl (by kernel_rfl) (fun _ _ _ h => h) (Or.inl ⟨by rfl,?_⟩) ⟨(PR.out.at (i := 0) rfl),(PR.out.at (i := 1) rfl),(PR.out.at (i := 2) rfl),(PR.out.at (i := 3) rfl),PT.out.c0,PT.out.c1,(PS.out.at (i := 0) rfl),(PS.out.at (i := 1) rfl),(PS.out.at (i := 2) rfl),(PS.out.at (i := 3) rfl)⟩ ?_
 ·intro w hSw;(try dsimp only at hSw);go_simp
 simp only [Act.put,sIb,sC0,sC1];refine zCA (i := 10) (oi := ⟨some 17,.indexAddr 130 (.tmp 5) (.const (.int .i64 1)),0, "bezout.go:57",#[],none⟩) (v := (.pointer (some ⟨w.heap.size + 1 + 1,2,none⟩))) rfl (by kernel_rfl) (fun _ _ _ h => h) (Or.inl ⟨by rfl,?_⟩) ⟨(PR.out.at (i := 0) rfl),(PR.out.at (i := 1) rfl),(PR.out.at (i := 2) rfl),(PR.out.at (i := 3) rfl),PT.out.c0,PT.out.c1,(PS.out.at (i := 0) rfl),(PS.out.at (i := 1) rfl),(PS.out.at (i := 2) rfl),(PS.out.at (i := 3) rfl)⟩ ?_
 ·intro w hSw;(try dsimp only at hSw);go_simp
 simp only [Act.put,sIb,sC0,sC1];refine zCA (i := 11) (oi := ⟨some 18,.load 40 (.tmp 17),40, "bezout.go:57",#[⟨10,.data⟩],none⟩) (v := (.agg #[(.bool nd),(.slice add xd.length cd)])) rfl (by kernel_rfl) (fun _ _ _ h => h) (Or.inl ⟨by rfl,?_⟩) ⟨(PR.out.at (i := 0) rfl),(PR.out.at (i := 1) rfl),(PR.out.at (i := 2) rfl),(PR.out.at (i := 3) rfl),PT.out.c0,PT.out.c1,(PS.out.at (i := 0) rfl),(PS.out.at (i := 1) rfl),(PS.out.at (i := 2) rfl),(PS.out.at (i := 3) rfl)⟩ ?_
 ·intro w hSw;(try dsimp only at hSw);go_simp
 simp only [Act.put,sIb,sC0,sC1];refine zAA (i := 5) (o := ⟨some 12,.call { callee := .value (.func 64),args := #[.tmp 9,.tmp 11],argTypes := #[40,40] },40, "bezout.go:57",#[⟨2,.data⟩,⟨4,.data⟩],none⟩) (by kernel_rfl) rfl (fun K hK => ?_);go_simp;go_at_call 64;refine (zoE Zt.out Zc.out (by omega)).mono ?_;rintro e w3 ⟨r0,rfl,m0,b⟩;obtain ⟨nu,xu,adu,qu,rfl,-,-,-,-,-⟩ := id m0;replace Za := hid (Za.out.now b);replace Zb := hid (Zb.out.now b);replace Zt := hid (Zt.out.now b);replace Zc := hid (Zc.out.now b);replace Zd := hid (Zd.out.now b);replace PR := hid (PR.out.step b);replace PT := hid (PT.out.step b);replace PS := hid (PS.out.step b);replace PQ := hid (PQ.out.step b);replace G := hid (below_step G.out b);have lz4 := (show Below _ _ _ from b).size;have Zu := hid m0;clear b m0;refine hK.out _ _ (fun _ => ⟨(PR.out.at (i := 0) rfl),(PR.out.at (i := 1) rfl),(PR.out.at (i := 2) rfl),(PR.out.at (i := 3) rfl),PT.out.c0,PT.out.c1,(PS.out.at (i := 0) rfl),(PS.out.at (i := 1) rfl),(PS.out.at (i := 2) rfl),(PS.out.at (i := 3) rfl)⟩) ?_;clear hK;refine zAA (i := 6) (o := ⟨some 13,.call { callee := .value (.func 63),args := #[.tmp 8,.tmp 12],argTypes := #[40,40] },40, "bezout.go:57",#[⟨1,.data⟩,⟨5,.data⟩,⟨5,.chain⟩],none⟩) (by kernel_rfl) rfl (fun K hK => ?_);go_simp;go_at_call 63;refine (zTG Za.out Zu.out.zi (by omega) (by omega)).mono ?_;rintro e w5 ⟨r0,rfl,m0,b⟩;obtain ⟨ng,xg,adg,qg,rfl,-,-,-,-,-⟩ := id m0;replace Za := hid (Za.out.now b);replace Zb := hid (Zb.out.now b);replace Zt := hid (Zt.out.now b);replace Zc := hid (Zc.out.now b);replace Zd := hid (Zd.out.now b);replace Zu := hid (Zu.out.now b);replace PR := hid (PR.out.step b);replace PT := hid (PT.out.step b);replace PS := hid (PS.out.step b);replace PQ := hid (PQ.out.step b);replace G := hid (below_step G.out b);have lz6 := (show Below _ _ _ from b).size;have Zg := hid m0;clear b m0;refine hK.out _ _ (fun _ => ⟨(PR.out.at (i := 0) rfl),(PR.out.at (i := 1) rfl),(PR.out.at (i := 2) rfl),(PR.out.at (i := 3) rfl),PT.out.c0,PT.out.c1,(PS.out.at (i := 0) rfl),(PS.out.at (i := 1) rfl),(PS.out.at (i := 2) rfl),(PS.out.at (i := 3) rfl)⟩) ?_;clear hK;refine zAA (i := 12) (o := ⟨some 19,.call { callee := .value (.func 64),args := #[.tmp 16,.tmp 18],argTypes := #[40,40] },40, "bezout.go:57",#[⟨9,.data⟩,⟨11,.data⟩,⟨6,.chain⟩],none⟩) (by kernel_rfl) rfl (fun K hK => ?_);go_simp;go_at_call 64;refine (zoE Zt.out Zd.out (by omega)).mono ?_;rintro e w7 ⟨r0,rfl,m0,b⟩;obtain ⟨nv,xv,adv,qv,rfl,-,-,-,-,-⟩ := id m0;replace Za := hid (Za.out.now b);replace Zb := hid (Zb.out.now b);replace Zt := hid (Zt.out.now b);replace Zc := hid (Zc.out.now b);replace Zd := hid (Zd.out.now b);replace Zu := hid (Zu.out.now b);replace Zg := hid (Zg.out.now b);replace PR := hid (PR.out.step b);replace PT := hid (PT.out.step b);replace PS := hid (PS.out.step b);replace PQ := hid (PQ.out.step b);replace G := hid (below_step G.out b);have lz8 := (show Below _ _ _ from b).size;have Zv := hid m0;clear b m0;refine hK.out _ _ (fun _ => ⟨(PR.out.at (i := 0) rfl),(PR.out.at (i := 1) rfl),(PR.out.at (i := 2) rfl),(PR.out.at (i := 3) rfl),PT.out.c0,PT.out.c1,(PS.out.at (i := 0) rfl),(PS.out.at (i := 1) rfl),(PS.out.at (i := 2) rfl),(PS.out.at (i := 3) rfl)⟩) ?_;clear hK;refine zAA (i := 13) (o := ⟨some 20,.call { callee := .value (.func 63),args := #[.tmp 15,.tmp 19],argTypes := #[40,40] },40, "bezout.go:57",#[⟨8,.data⟩,⟨12,.data⟩,⟨12,.chain⟩],none⟩) (by kernel_rfl) rfl (fun K hK => ?_);go_simp;go_at_call 63;refine (zTG Zb.out Zv.out.zi (by omega) (by omega)).mono ?_;rintro e w9 ⟨r0,rfl,m0,b⟩;obtain ⟨nh,xh,adh,qh,rfl,-,-,-,-,-⟩ := id m0;replace Za := hid (Za.out.now b);replace Zb := hid (Zb.out.now b);replace Zt := hid (Zt.out.now b);replace Zc := hid (Zc.out.now b);replace Zd := hid (Zd.out.now b);replace Zu := hid (Zu.out.now b);replace Zg := hid (Zg.out.now b);replace Zv := hid (Zv.out.now b);replace PR := hid (PR.out.step b);replace PT := hid (PT.out.step b);replace PS := hid (PS.out.step b);replace PQ := hid (PQ.out.step b);replace G := hid (below_step G.out b);have lz10 := (show Below _ _ _ from b).size;have Zh := hid m0;clear b m0;refine hK.out _ _ (fun _ => ⟨(PR.out.at (i := 0) rfl),(PR.out.at (i := 1) rfl),(PR.out.at (i := 2) rfl),(PR.out.at (i := 3) rfl),PT.out.c0,PT.out.c1,(PS.out.at (i := 0) rfl),(PS.out.at (i := 1) rfl),(PS.out.at (i := 2) rfl),(PS.out.at (i := 3) rfl)⟩) ?_;clear hK;refine zCA (i := 14) (oi := ⟨some 21,.build 130 #[(0,.tmp 13),(1,.tmp 20)],130, "bezout.go:57",#[⟨6,.data⟩,⟨13,.data⟩],none⟩) (v := (.agg #[.bool ng,.slice adg xg.length qg,.bool nh,.slice adh xh.length qh])) rfl (by kernel_rfl) (fun _ _ _ h => h) (Or.inl ⟨by rfl,?_⟩) ⟨(PR.out.at (i := 0) rfl),(PR.out.at (i := 1) rfl),(PR.out.at (i := 2) rfl),(PR.out.at (i := 3) rfl),PT.out.c0,PT.out.c1,(PS.out.at (i := 0) rfl),(PS.out.at (i := 1) rfl),(PS.out.at (i := 2) rfl),(PS.out.at (i := 3) rfl)⟩ ?_
 ·intro w hSw;(try dsimp only at hSw);go_simp
 simp only [Act.put,sIb,sC0,sC1];refine zAA (i := 15) (o := ⟨none,.store 130 (.tmp 6) (.tmp 21),0, "bezout.go:57",#[⟨14,.data⟩,⟨13,.chain⟩,⟨0,.phase⟩,⟨1,.phase⟩,⟨2,.phase⟩,⟨3,.phase⟩,⟨4,.phase⟩,⟨5,.phase⟩,⟨6,.phase⟩,⟨7,.phase⟩,⟨8,.phase⟩,⟨9,.phase⟩,⟨10,.phase⟩,⟨11,.phase⟩,⟨12,.phase⟩,⟨13,.phase⟩,⟨14,.phase⟩],none⟩) (by kernel_rfl) rfl (fun K hK => ?_);have cQ0 := (PQ.out.at (i := 0) rfl)
 have cQ1 := (PQ.out.at (i := 1) rfl)
 have cQ2 := (PQ.out.at (i := 2) rfl)
 have cQ3 := (PQ.out.at (i := 3) rfl)
 have fQ0 := PQ.out.fz 0;have fQ1 := PQ.out.fz 1;have fQ2 := PQ.out.fz 2;have fQ3 := PQ.out.fz 3;go_simp;clear cQ0 cQ1 cQ2 cQ3 fQ0 fQ1 fQ2 fQ3;obtain ⟨V11,hW⟩ : ∃ V11,(((w9.setCell ⟨w.heap.size + 1 + 1 + 1,0,none⟩ (.bool ng)).setCell ⟨w.heap.size + 1 + 1 + 1,1,none⟩ (.slice adg xg.length qg)).setCell ⟨w.heap.size + 1 + 1 + 1,2,none⟩ (.bool nh)).setCell ⟨w.heap.size + 1 + 1 + 1,3,none⟩ (.slice adh xh.length qh) = V11 := ⟨_,rfl⟩
 replace Za := hid ((Za.out).wk ((PQ.out).wk4 (.bool ng) (.slice adg xg.length qg) (.bool nh) (.slice adh xh.length qh)));replace Zb := hid ((Zb.out).wk ((PQ.out).wk4 (.bool ng) (.slice adg xg.length qg) (.bool nh) (.slice adh xh.length qh)));replace Zt := hid ((Zt.out).wk ((PQ.out).wk4 (.bool ng) (.slice adg xg.length qg) (.bool nh) (.slice adh xh.length qh)));replace Zc := hid ((Zc.out).wk ((PQ.out).wk4 (.bool ng) (.slice adg xg.length qg) (.bool nh) (.slice adh xh.length qh)));replace Zd := hid ((Zd.out).wk ((PQ.out).wk4 (.bool ng) (.slice adg xg.length qg) (.bool nh) (.slice adh xh.length qh)));replace Zu := hid ((Zu.out).put4z (PQ.out) (.bool ng) (.slice adg xg.length qg) (.bool nh) (.slice adh xh.length qh));replace Zg := hid ((Zg.out).put4z (PQ.out) (.bool ng) (.slice adg xg.length qg) (.bool nh) (.slice adh xh.length qh));replace Zv := hid ((Zv.out).put4z (PQ.out) (.bool ng) (.slice adg xg.length qg) (.bool nh) (.slice adh xh.length qh));replace Zh := hid ((Zh.out).put4z (PQ.out) (.bool ng) (.slice adg xg.length qg) (.bool nh) (.slice adh xh.length qh));replace PR := hid ((PR.out).away4 (b' := w.heap.size + 1 + 1 + 1) (by omega) (.bool ng) (.slice adg xg.length qg) (.bool nh) (.slice adh xh.length qh));replace PT := hid ((PT.out).away4 (b' := w.heap.size + 1 + 1 + 1) (by omega) (.bool ng) (.slice adg xg.length qg) (.bool nh) (.slice adh xh.length qh));replace PS := hid ((PS.out).away4 (b' := w.heap.size + 1 + 1 + 1) (by omega) (.bool ng) (.slice adg xg.length qg) (.bool nh) (.slice adh xh.length qh));replace PQ := hid ((PQ.out).put4 (.bool ng) (.slice adg xg.length qg) (.bool nh) (.slice adh xh.length qh));replace G : Hid (Below w.heap.size w (((((w9.setCell ⟨w.heap.size + 1 + 1 + 1,0,none⟩ (.bool ng)).setCell ⟨w.heap.size + 1 + 1 + 1,1,none⟩ (.slice adg xg.length qg)).setCell ⟨w.heap.size + 1 + 1 + 1,2,none⟩ (.bool nh)).setCell ⟨w.heap.size + 1 + 1 + 1,3,none⟩ (.slice adh xh.length qh)))) := bset (bset (bset (bset (G.out) (by omega)) (by omega)) (by omega)) (by omega);have sz11 : V11.heap.size = w9.heap.size := by rw [← hW];simp
 dsimp only [put4] at Za Zb Zt Zc Zd Zu Zg Zv Zh PR PT PS PQ;rw [hW] at Za Zb Zt Zc Zd Zu Zg Zv Zh PR PT PS PQ G;rw [hW];clear hW;refine hK.out _ _ (fun h => absurd h (by decide)) ?_;clear hK
 try simp only [Act.put]
 refine zDA (by kernel_rfl) ?_ _;have YG := hid ((Zg.out.mono (B' := w.heap.size) (by omega)).more (l := k + k + 1) (by omega));have YH := hid ((Zh.out.mono (B' := w.heap.size) (by omega)).more (l := k + k + 1) (by omega));go_wp2;exact bodyPost_ret (rowback Tryz.results114 PQ.out _ (by rfl)) rfl ⟨_,_,_,_,rfl,YG.out,YH.out,G.out⟩
end Go.Proofs.YtmnecbniappnaaaGreat
