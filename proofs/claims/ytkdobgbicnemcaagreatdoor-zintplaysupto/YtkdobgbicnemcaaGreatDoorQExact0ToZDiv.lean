/-
 QExact0ToZDiv: Exact0, ZDiv, joined.
-/
import Derived.Test.YtkdobgbicnemcaaGreatDoorQDivMod
import Derived.Test.YtkdobgbicnemcaaGreatDoorQAlikeToShift

set_option maxRecDepth 100000
set_option maxHeartbeats 6400000
set_option linter.unusedVariables false
set_option linter.unusedSimpArgs false
namespace Go.Proofs.YtkdobgbicnemcaaGreatDoor
open Go.RowKit
theorem exact_zero {w : World} {v u : Value} {ys : List Int} (h' : Sl w.heap.size w u ys) (h0 : wid ys = 0) :
  Calls Tryz.prog 116 #[v,u] w fun e w' => e = .returned (.tuple #[.slice none 0 0,.int .i64 4]) ∧ Below w.heap.size w w' := by
 have HD := zuE (v := v) h' h0;have hz : ((4 : Int) != 0) = true := rfl;go_enter Tryz.func116,Tryz.ntmps116;go_wp2_with fail;refine HD.mono ?_;rintro e w1 ⟨rfl,hb⟩;have HB := hid hb;clear HD hb;go_wp2;go_ret2;exact ⟨rfl,HB.out⟩
def Exacted (w : World) (xs ys : List Int) (e : Ending) (w' : World) : Prop :=
 ∃ qs rs,zHA qs ∧ zHA rs ∧ val xs = val ys * val qs + val rs ∧ val rs < val ys ∧ qs.length ≤ xs.length ∧ Below w.heap.size w w' ∧
  ((rs = [] ∧ ∃ q,e = .returned (.tuple #[q,.int .i64 0]) ∧ Own w.heap.size w' q qs) ∨ (rs ≠ [] ∧ e = .returned (.tuple #[.slice none 0 0,.int .i64 8])))
theorem exact_any {w : World} {v u : Value} {xs ys : List Int} (h : Sl w.heap.size w v xs) (h' : Sl w.heap.size w u ys) (h1 : wid ys ≠ 0) (hxl : xs.length ≤ 1099511627776) (hyl : ys.length ≤ 1099511627776) :
  Calls Tryz.prog 116 #[v,u] w (Exacted w xs ys) := by
 have HD := zoD h h' h1 hxl hyl;have hz : ((0 : Int) != 0) = false := rfl;clear h h' h1;go_enter Tryz.func116,Tryz.ntmps116;go_wp2_with fail;refine HD.mono ?_;rintro e w1 ⟨qs,rs,q,r,rfl,hoq,hor,hcq,hcr,hv,hlt,hlq,hlr,_,hb⟩;obtain ⟨ra,rc,rfl⟩ := hor.form;have HX : Hid (val xs = val ys * val qs + val rs ∧ val rs < val ys) := ⟨hv,hlt⟩
 have HB := hid hb;have HO := hid hoq;clear HD hb hoq hor hv hlt
 by_cases hr : rs = []
 ·subst hr
  go_wp2;go_ret2;exact ⟨qs,[],hcq,hcr,HX.out.1,HX.out.2,hlq,HB.out,.inl ⟨rfl,q,rfl,HO.out⟩⟩
 ·obtain ⟨k,hk⟩ : ∃ k,rs.length = k + 1 := ⟨rs.length - 1,by have := Nat.pos_of_ne_zero (fun e => hr (List.eq_nil_of_length_eq_zero e));omega⟩
  rw [hk];go_wp2;go_ret2;exact ⟨qs,rs,hcq,hcr,HX.out.1,HX.out.2,hlq,HB.out,.inr ⟨hr,rfl⟩⟩
theorem bset {B g j : Nat} {w w' : World} {u : Value} (h : Below B w w') (hg : B ≤ g) : Below B w (w'.setCell ⟨g,j,none⟩ u) := h.setCell (p := ⟨g,j,none⟩) hg u
theorem zback2 {f : Func} {s1 s2 s3 : Nat} (hr : f.results = #[ResultVar.cell s1 26,ResultVar.cell s2 26,ResultVar.tmp s3]) {W : World} {b b' : Nat} {x y x' y' e : Value} (h : Duo W b x y) (h' : Duo W b' x' y') (tmps : Array Value) (ht : tmps[s1]? = some (.pointer (some ⟨b,0,none⟩))) (ht' : tmps[s2]? = some (.pointer (some ⟨b',0,none⟩))) (he : tmps[s3]? = some e) :
  (results f tmps).run Tryz.prog W = .ok (.tuple #[.agg #[x,y],.agg #[x',y'],e]) W := by
 simp [results,hr,go_sem,ht,ht',he,h.c0,h.c1,h'.c0,h'.c1]
theorem zWA {f : Func} {s1 s3 : Nat} (hr : f.results = #[ResultVar.cell s1 26,ResultVar.tmp s3]) {W : World} {b : Nat} {x y e : Value} (h : Duo W b x y) (tmps : Array Value) (ht : tmps[s1]? = some (.pointer (some ⟨b,0,none⟩))) (he : tmps[s3]? = some e) :
  (results f tmps).run Tryz.prog W = .ok (.tuple #[.agg #[x,y],e]) W := by
 simp [results,hr,go_sem,ht,he,h.c0,h.c1]
def zZA (E : Int) (w : World) (q r : Int) (k l : Nat) (e : Ending) (w' : World) : Prop := ∃ rq rr,e = .returned (.tuple #[rq,rr,.int .i64 E]) ∧ Zm w.heap.size w' rq q k ∧ Zm w.heap.size w' rr r l ∧ Below w.heap.size w w'
def zMA (E : Int) (w : World) (q : Int) (k : Nat) (e : Ending) (w' : World) : Prop := ∃ rq,e = .returned (.tuple #[rq,.int .i64 E]) ∧ Zm w.heap.size w' rq q k ∧ Below w.heap.size w w'
abbrev zbH : Value := .agg #[.bool false,.slice none 0 0]
theorem zLA (B : Nat) (w : World) (k : Nat) : Zm B w zbH 0 k := ⟨false,[],none,0,rfl,Mine.nil _ _,⟨WF.nil,rfl⟩,fun _ => rfl,by simp [iv,val],Nat.zero_le _⟩
theorem zhC {E : Int} {w W : World} {B b b' : Nat} {x y x' y' : Value} {q r : Int} {k l : Nat} (h : Zm B W (.agg #[x,y]) q k) (h' : Zm B W (.agg #[x',y']) r l) (hW : Below w.heap.size w W) (hb : w.heap.size ≤ b) (hB : b < B) (hb' : w.heap.size ≤ b') (hB' : b' < B) :
  zZA E w q r k l (.returned (.tuple #[.agg #[x,y],.agg #[x',y'],.int .i64 E])) ((((W.setCell ⟨b,0,none⟩ x).setCell ⟨b,1,none⟩ y).setCell ⟨b',0,none⟩ x').setCell ⟨b',1,none⟩ y') :=
 ⟨_,_,rfl,((((h.setLow hB 0 x).setLow hB 1 y).setLow hB' 0 x').setLow hB' 1 y').mono (by omega),((((h'.setLow hB 0 x).setLow hB 1 y).setLow hB' 0 x').setLow hB' 1 y').mono (by omega),
  (((hW.setCell (p := ⟨b,0,none⟩) hb x).setCell (p := ⟨b,1,none⟩) hb y).setCell (p := ⟨b',0,none⟩) hb' x').setCell (p := ⟨b',1,none⟩) hb' y'⟩
theorem zrA {E : Int} {w W : World} {B b : Nat} {x y : Value} {q : Int} {k : Nat} (h : Zm B W (.agg #[x,y]) q k) (hW : Below w.heap.size w W) (hb : w.heap.size ≤ b) (hB : b < B) :
  zMA E w q k (.returned (.tuple #[.agg #[x,y],.int .i64 E])) ((W.setCell ⟨b,0,none⟩ x).setCell ⟨b,1,none⟩ y) :=
 ⟨_,rfl,((h.setLow hB 0 x).setLow hB 1 y).mono (by omega),(hW.setCell (p := ⟨b,0,none⟩) hb x).setCell (p := ⟨b,1,none⟩) hb y⟩
theorem Own.mine5 {B : Nat} {w : World} {v : Value} {zs : List Int} (h : Own B w v zs) : Mine B w v zs := by
 obtain ⟨hw,h1 | ⟨g,r,h1,h2,h3,h4⟩⟩ := h
 ·exact ⟨hw,.inl h1⟩
 ·exact ⟨hw,.inr ⟨g,r,_,h1,by omega,by omega,.inr ⟨rfl,by unfold maxLen;omega⟩,h3,h4⟩⟩
theorem zGC {n : Bool} {xs : List Int} {z : Int} (hx : WF xs) (h : iv n xs = z) : wid xs = 0 ↔ z = 0 := by
 have h1 := zbC hx h
 constructor
 ·intro e
  have := zvA xs e;omega
 ·intro e
  by_cases q : 0 < wid xs
  ·have := zwA hx q
   omega
  ·omega
theorem zHI {n m : Bool} {xs ys qs rs : List Int} (hx : WF xs) (hr : WF rs) (h : val xs = val ys * val qs + val rs) (h1 : val rs < val ys) : iv (n != m) qs = (iv n xs).tdiv (iv m ys) ∧ iv n rs = (iv n xs).tmod (iv m ys) := by
 have h0 := zEA hr;have hx0 := zEA hx;have e1 : (val xs).tdiv (val ys) = val qs := by
  rw [Int.tdiv_eq_ediv_of_nonneg hx0,h,Int.add_comm,Int.add_mul_ediv_left _ _ (by omega),Int.ediv_eq_zero_of_lt h0 h1,Int.zero_add]
 have e2 : (val xs).tmod (val ys) = val rs := by
  rw [Int.tmod_eq_emod_of_nonneg hx0,h,Int.mul_add_emod_self_left,Int.emod_eq_of_lt h0 h1]
 cases n <;> cases m <;> simp [iv,Int.neg_tdiv,Int.tdiv_neg,Int.neg_tmod,Int.tmod_neg,e1,e2]
theorem trunc_zero {w : World} {v u : Value} {z y : Int} {k l : Nat} (h0 : Zi w v z k) (h1 : Zi w u y l) (hy : y = 0) :
  Calls Tryz.prog 82 #[v,u] w (fun e w' => e = .returned (.tuple #[zbH,zbH,.int .i64 4]) ∧ Below w.heap.size w w') := by
 have hv := h0;have hu := h1;obtain ⟨n,xs,a,c,rfl,s0,z0,k0⟩ := h0;obtain ⟨m,ys,b,d,rfl,s1,z1,k1⟩ := h1;obtain ⟨W0,hW0⟩ : ∃ W0,(((w.alloc (duo (.bool n) (.slice a xs.length c))).alloc (duo (.bool m) (.slice b ys.length d))).alloc zbox).alloc zbox = W0 := ⟨_,rfl⟩
 obtain ⟨b0,sz0⟩ := zNB w (duo (.bool n) (.slice a xs.length c)) (duo (.bool m) (.slice b ys.length d)) zbox zbox;rw [hW0] at b0 sz0;have p0 : Duo W0 (w.heap.size) (.bool n) (.slice a xs.length c) := by rw [← hW0];exact zAA (zAA (zAA (zCA (by simp)) _) _) _
 have p1 : Duo W0 (w.heap.size + 1) (.bool m) (.slice b ys.length d) := by rw [← hW0];exact zAA (zAA (zCA (by simp)) _) _
 have r0 : Duo W0 (w.heap.size + 1 + 1) (.bool false) (.slice none 0 0) := by rw [← hW0];exact zAA (zCA (by simp)) _
 have r1 : Duo W0 (w.heap.size + 1 + 1 + 1) (.bool false) (.slice none 0 0) := by rw [← hW0];exact zCA (by simp)
 have HKB : Hid (∀ w',Below W0.heap.size W0 w' → w'.cell? ⟨w.heap.size,0,none⟩ = some (.bool n) ∧ w'.cell? ⟨w.heap.size,1,none⟩ = some (.slice a xs.length c) ∧ w'.cell? ⟨w.heap.size + 1,0,none⟩ = some (.bool m) ∧ w'.cell? ⟨w.heap.size + 1,1,none⟩ = some (.slice b ys.length d)) := fun w' h => ⟨(p0.below h (by omega)).c0,(p0.below h (by omega)).c1,(p1.below h (by omega)).c0,(p1.below h (by omega)).c1⟩
 have HKR : Hid (∀ w',Below W0.heap.size W0 w' → Duo w' (w.heap.size + 1 + 1) (.bool false) (.slice none 0 0) ∧ Duo w' (w.heap.size + 1 + 1 + 1) (.bool false) (.slice none 0 0)) := fun w' h => ⟨r0.below h (by omega),r1.below h (by omega)⟩
 obtain ⟨i0,i1,i2,i3⟩ := HKB.out W0 (Below.refl _ _);have EW := hid hW0;have B0 := hid b0;have HD := hid (zuE (v := .slice a xs.length c) (s1.now b0) ((zGC s1.1 z1).2 hy));have q4 : ((4 : Int) != 0) = true := rfl;clear hv hu s0 s1 z0 z1 p0 p1 r0 r1 hW0 b0;go_enter Tryz.func82,Tryz.ntmps82;go_wp2_with fail;rw [EW.out];refine HD.out.mono ?_;rintro e w1 ⟨rfl,b1⟩;have HP1 := hid b1;obtain ⟨ra,rb⟩ := HKR.out w1 b1;have r0 := ra.c0;have r1 := ra.c1;have r2 := rb.c0;have r3 := rb.c1;have f0 := ra.fz 0;have f1 := ra.fz 1;have f2 := rb.fz 0;have f3 := rb.fz 1;have RR := hid (And.intro ra rb);clear b1 HD ra rb;go_wp2;exact bodyPost_ret (zback2 Tryz.results82 (((RR.out.1.set _ _).ne (by omega)).ne (by omega)) (((RR.out.2.ne (by omega)).ne (by omega)).set _ _) _ (by rfl) (by rfl) (by rfl)) rfl ⟨rfl,bset (bset (bset (bset (below_step B0.out HP1.out) (by omega)) (by omega)) (by omega)) (by omega)⟩
theorem zfD {w : World} {v u : Value} {z y : Int} {k l : Nat} (h0 : Zi w v z k) (h1 : Zi w u y l) (hy : y = 0) : Calls Tryz.prog 82 #[v,u] w (zZA 4 w 0 0 k k) :=
 (trunc_zero h0 h1 hy).mono fun e w' ⟨h1,h2⟩ => ⟨_,_,h1,zLA _ _ _,zLA _ _ _,h2⟩
theorem zTE {w : World} {v u : Value} {z y : Int} {k l : Nat} (h0 : Zi w v z k) (h1 : Zi w u y l) (hy : y ≠ 0) (hk : k ≤ 1099511627776) (hl : l ≤ 1099511627776) :
  Calls Tryz.prog 82 #[v,u] w (zZA 0 w (z.tdiv y) (z.tmod y) k k) := by
 have hv := h0;have hu := h1;obtain ⟨n,xs,a,c,rfl,s0,z0,k0⟩ := h0;obtain ⟨m,ys,b,d,rfl,s1,z1,k1⟩ := h1;obtain ⟨W0,hW0⟩ : ∃ W0,(((w.alloc (duo (.bool n) (.slice a xs.length c))).alloc (duo (.bool m) (.slice b ys.length d))).alloc zbox).alloc zbox = W0 := ⟨_,rfl⟩
 obtain ⟨b0,sz0⟩ := zNB w (duo (.bool n) (.slice a xs.length c)) (duo (.bool m) (.slice b ys.length d)) zbox zbox;rw [hW0] at b0 sz0;have p0 : Duo W0 (w.heap.size) (.bool n) (.slice a xs.length c) := by rw [← hW0];exact zAA (zAA (zAA (zCA (by simp)) _) _) _
 have p1 : Duo W0 (w.heap.size + 1) (.bool m) (.slice b ys.length d) := by rw [← hW0];exact zAA (zAA (zCA (by simp)) _) _
 have r0 : Duo W0 (w.heap.size + 1 + 1) (.bool false) (.slice none 0 0) := by rw [← hW0];exact zAA (zCA (by simp)) _
 have r1 : Duo W0 (w.heap.size + 1 + 1 + 1) (.bool false) (.slice none 0 0) := by rw [← hW0];exact zCA (by simp)
 have HKB : Hid (∀ w',Below W0.heap.size W0 w' → w'.cell? ⟨w.heap.size,0,none⟩ = some (.bool n) ∧ w'.cell? ⟨w.heap.size,1,none⟩ = some (.slice a xs.length c) ∧ w'.cell? ⟨w.heap.size + 1,0,none⟩ = some (.bool m) ∧ w'.cell? ⟨w.heap.size + 1,1,none⟩ = some (.slice b ys.length d)) := fun w' h => ⟨(p0.below h (by omega)).c0,(p0.below h (by omega)).c1,(p1.below h (by omega)).c0,(p1.below h (by omega)).c1⟩
 have HKR : Hid (∀ w',Below W0.heap.size W0 w' → Duo w' (w.heap.size + 1 + 1) (.bool false) (.slice none 0 0) ∧ Duo w' (w.heap.size + 1 + 1 + 1) (.bool false) (.slice none 0 0)) := fun w' h => ⟨r0.below h (by omega),r1.below h (by omega)⟩
 obtain ⟨i0,i1,i2,i3⟩ := HKB.out W0 (Below.refl _ _);have EW := hid hW0;have B0 := hid b0;have HD := hid (zoD (s0.now b0) (s1.now b0) (fun e => hy ((zGC s1.1 z1).1 e)) (by omega) (by omega));have HV : Hid (∀ qs rs,zHA rs → val xs = val ys * val qs + val rs → val rs < val ys → iv (n != m) qs = z.tdiv y ∧ iv n rs = z.tmod y) := fun qs rs hr h h1 => by
  rw [← z0,← z1];exact zHI s0.1 hr.1 h h1
 have q0 : ((0 : Int) != 0) = false := rfl;clear hv hu s0 s1 z0 z1 p0 p1 r0 r1 hW0 b0;go_enter Tryz.func82,Tryz.ntmps82;go_wp2_with fail;rw [EW.out];refine HD.out.mono ?_;rintro e w1 ⟨qs,rs,q,r,rfl,hoq,hor,hcq,hcr,hv,hlt,hlq,hlr,_,b1⟩;obtain ⟨qa,qc,rfl⟩ := hoq.form;obtain ⟨ra,rc,rfl⟩ := hor.form;have MQ := hid hoq.mine5;have MR := hid hor.mine5;have HVV := hid (HV.out qs rs hcr hv hlt);have HP1 := hid b1;obtain ⟨c10,c11,c12,c13⟩ := HKB.out w1 b1;have HKC : Hid (∀ w',Below w1.heap.size w1 w' → w'.cell? ⟨w.heap.size,0,none⟩ = some (.bool n) ∧ w'.cell? ⟨w.heap.size,1,none⟩ = some (.slice a xs.length c) ∧ w'.cell? ⟨w.heap.size + 1,0,none⟩ = some (.bool m) ∧ w'.cell? ⟨w.heap.size + 1,1,none⟩ = some (.slice b ys.length d)) := fun w' h => HKB.out w' (below_step HP1.out h)
 clear hoq hor hv hlt b1 HD HV i0 i1 i2 i3;go_wp2_with fail;go_region_held3 (fun w' => w'.cell? ⟨w.heap.size,0,none⟩ = some (.bool n) ∧ w'.cell? ⟨w.heap.size,1,none⟩ = some (.slice a xs.length c) ∧ w'.cell? ⟨w.heap.size + 1,0,none⟩ = some (.bool m) ∧ w'.cell? ⟨w.heap.size + 1,1,none⟩ = some (.slice b ys.length d))
  (first
   | ((try dsimp only);refine ⟨?_,?_,?_,?_⟩ <;> with_reducible (repeat (refine zAF (by omega) ?_)) <;> with_reducible assumption)
   | (refine HKC.out _ ?_;repeat (first | with_reducible exact HP3.out | with_reducible exact HP2.out | with_reducible exact Below.refl _ _ | with_reducible apply Below.drew)))
  (first
   | (have _ := HP2;go_at_call 58;refine (zbA _ n rs.length ra rc MR.out.len).mono ?_;rintro e3 w3 ⟨rfl,b3⟩;have HB3 : Hid (Below w2.heap.size w2 w3) := below_step (w0 := w2) (by repeat (first | exact Below.refl _ _ | apply Below.drew)) b3;have HP3 := hid (below_step HP2.out HB3.out);obtain ⟨c30,c31,c32,c33⟩ := HKC.out w3 HP3.out;have RR := hid (HKR.out w3 (below_step HP1.out HP3.out));have y0 := RR.out.1.c0;have y1 := RR.out.1.c1;have y2 := RR.out.2.c0;have y3 := RR.out.2.c1;have f0 := RR.out.1.fz 0;have f1 := RR.out.1.fz 1;have f2 := RR.out.2.fz 0;have f3 := RR.out.2.fz 1)
   | (go_at_call 58;refine (zbA _ (n != m) qs.length qa qc MQ.out.len).mono ?_;rintro e2 w2 ⟨rfl,b2⟩;have HP2 : Hid (Below w1.heap.size w1 w2) := below_step (w0 := w1) (by repeat (first | exact Below.refl _ _ | apply Below.drew)) b2;obtain ⟨c20,c21,c22,c23⟩ := HKC.out w2 HP2.out))
 all_goals go_wp2
 all_goals exact bodyPost_ret (zback2 Tryz.results82 (((RR.out.1.set _ _).ne (by omega)).ne (by omega)) (((RR.out.2.ne (by omega)).ne (by omega)).set _ _) _ (by rfl) (by rfl) (by rfl)) rfl (by rw [← HVV.out.1,← HVV.out.2];exact zhC (B := W0.heap.size) (ziF (MQ.out.below HP3.out) hcq (by omega)) (ziF (MR.out.below HP3.out) hcr (by omega)) (below_step B0.out (below_step HP1.out HP3.out)) (by omega) (by omega) (by omega) (by omega))
theorem exact_zero_z {w : World} {v u : Value} {z y : Int} {k l : Nat} (h0 : Zi w v z k) (h1 : Zi w u y l) (hy : y = 0) :
  Calls Tryz.prog 85 #[v,u] w (fun e w' => e = .returned (.tuple #[zbH,.int .i64 4]) ∧ Below w.heap.size w w') := by
 have hv := h0;have hu := h1;obtain ⟨n,xs,a,c,rfl,s0,z0,k0⟩ := h0;obtain ⟨m,ys,b,d,rfl,s1,z1,k1⟩ := h1;obtain ⟨W0,hW0⟩ : ∃ W0,((w.alloc (duo (.bool n) (.slice a xs.length c))).alloc (duo (.bool m) (.slice b ys.length d))).alloc zbox = W0 := ⟨_,rfl⟩
 obtain ⟨b0,sz0⟩ := zKB w (duo (.bool n) (.slice a xs.length c)) (duo (.bool m) (.slice b ys.length d)) zbox;rw [hW0] at b0 sz0;have p0 : Duo W0 (w.heap.size) (.bool n) (.slice a xs.length c) := by rw [← hW0];exact zAA (zAA (zCA (by simp)) _) _
 have p1 : Duo W0 (w.heap.size + 1) (.bool m) (.slice b ys.length d) := by rw [← hW0];exact zAA (zCA (by simp)) _
 have r0 : Duo W0 (w.heap.size + 1 + 1) (.bool false) (.slice none 0 0) := by rw [← hW0];exact zCA (by simp)
 have HKB : Hid (∀ w',Below W0.heap.size W0 w' → w'.cell? ⟨w.heap.size,0,none⟩ = some (.bool n) ∧ w'.cell? ⟨w.heap.size,1,none⟩ = some (.slice a xs.length c) ∧ w'.cell? ⟨w.heap.size + 1,0,none⟩ = some (.bool m) ∧ w'.cell? ⟨w.heap.size + 1,1,none⟩ = some (.slice b ys.length d)) := fun w' h => ⟨(p0.below h (by omega)).c0,(p0.below h (by omega)).c1,(p1.below h (by omega)).c0,(p1.below h (by omega)).c1⟩
 have HKR : Hid (∀ w',Below W0.heap.size W0 w' → Duo w' (w.heap.size + 1 + 1) (.bool false) (.slice none 0 0)) := fun w' h => r0.below h (by omega)
 obtain ⟨i0,i1,i2,i3⟩ := HKB.out W0 (Below.refl _ _);have EW := hid hW0;have B0 := hid b0;have HD := hid (exact_zero (v := .slice a xs.length c) (s1.now b0) ((zGC s1.1 z1).2 hy));have q4 : ((4 : Int) != 0) = true := rfl;clear hv hu s0 s1 z0 z1 p0 p1 r0 hW0 b0;go_enter Tryz.func85,Tryz.ntmps85;go_wp2_with fail;rw [EW.out];refine HD.out.mono ?_;rintro e w1 ⟨rfl,b1⟩;have HP1 := hid b1;have ra := HKR.out w1 b1;have r0 := ra.c0;have r1 := ra.c1;have f0 := ra.fz 0;have f1 := ra.fz 1;have RR := hid ra;clear b1 HD ra;go_wp2;exact bodyPost_ret (zWA Tryz.results85 (RR.out.set _ _) _ (by rfl) (by rfl)) rfl ⟨rfl,bset (bset (below_step B0.out HP1.out) (by omega)) (by omega)⟩
def ExactZ (w : World) (z y : Int) (k : Nat) (e : Ending) (w' : World) : Prop := (z.tmod y = 0 ∧ zMA 0 w (z.tdiv y) k e w') ∨ (z.tmod y ≠ 0 ∧ e = .returned (.tuple #[zbH,.int .i64 8]) ∧ Below w.heap.size w w')
theorem zAI {n : Bool} {rs : List Int} (h : zHA rs) : iv n rs = 0 ↔ rs = [] := by
 constructor
 ·intro e
  refine zgB h ?_;cases n <;> simp [iv] at e <;> exact e
 ·rintro rfl
  exact zBI n
theorem zGI {w : World} {v u : Value} {z y : Int} {k l : Nat} (h0 : Zi w v z k) (h1 : Zi w u y l) (hy : y ≠ 0) (hk : k ≤ 1099511627776) (hl : l ≤ 1099511627776) :
  Calls Tryz.prog 85 #[v,u] w (ExactZ w z y k) := by
 have hv := h0;have hu := h1;obtain ⟨n,xs,a,c,rfl,s0,z0,k0⟩ := h0;obtain ⟨m,ys,b,d,rfl,s1,z1,k1⟩ := h1;obtain ⟨W0,hW0⟩ : ∃ W0,((w.alloc (duo (.bool n) (.slice a xs.length c))).alloc (duo (.bool m) (.slice b ys.length d))).alloc zbox = W0 := ⟨_,rfl⟩
 obtain ⟨b0,sz0⟩ := zKB w (duo (.bool n) (.slice a xs.length c)) (duo (.bool m) (.slice b ys.length d)) zbox;rw [hW0] at b0 sz0;have p0 : Duo W0 (w.heap.size) (.bool n) (.slice a xs.length c) := by rw [← hW0];exact zAA (zAA (zCA (by simp)) _) _
 have p1 : Duo W0 (w.heap.size + 1) (.bool m) (.slice b ys.length d) := by rw [← hW0];exact zAA (zCA (by simp)) _
 have r0 : Duo W0 (w.heap.size + 1 + 1) (.bool false) (.slice none 0 0) := by rw [← hW0];exact zCA (by simp)
 have HKB : Hid (∀ w',Below W0.heap.size W0 w' → w'.cell? ⟨w.heap.size,0,none⟩ = some (.bool n) ∧ w'.cell? ⟨w.heap.size,1,none⟩ = some (.slice a xs.length c) ∧ w'.cell? ⟨w.heap.size + 1,0,none⟩ = some (.bool m) ∧ w'.cell? ⟨w.heap.size + 1,1,none⟩ = some (.slice b ys.length d)) := fun w' h => ⟨(p0.below h (by omega)).c0,(p0.below h (by omega)).c1,(p1.below h (by omega)).c0,(p1.below h (by omega)).c1⟩
 have HKR : Hid (∀ w',Below W0.heap.size W0 w' → Duo w' (w.heap.size + 1 + 1) (.bool false) (.slice none 0 0)) := fun w' h => r0.below h (by omega)
 obtain ⟨i0,i1,i2,i3⟩ := HKB.out W0 (Below.refl _ _);have EW := hid hW0;have B0 := hid b0;have HD := hid (exact_any (s0.now b0) (s1.now b0) (fun e => hy ((zGC s1.1 z1).1 e)) (by omega) (by omega));have HV : Hid (∀ qs rs,zHA rs → val xs = val ys * val qs + val rs → val rs < val ys → iv (n != m) qs = z.tdiv y ∧ iv n rs = z.tmod y) := fun qs rs hr h h1 => by
  rw [← z0,← z1];exact zHI s0.1 hr.1 h h1
 have q0 : ((0 : Int) != 0) = false := rfl;have q8 : ((8 : Int) != 0) = true := rfl;clear hv hu s0 s1 z0 z1 p0 p1 r0 hW0 b0;go_enter Tryz.func85,Tryz.ntmps85;go_wp2_with fail;rw [EW.out];refine HD.out.mono ?_;rintro e w1 ⟨qs,rs,hcq,hcr,hv,hlt,hlq,b1,hend⟩;have HVV := hid (HV.out qs rs hcr hv hlt);have HP1 := hid b1;obtain ⟨c10,c11,c12,c13⟩ := HKB.out w1 b1;have ra := HKR.out w1 b1;clear hv hlt b1 HD HV i0 i1 i2 i3;rcases hend with ⟨hrs,q,rfl,hoq⟩ | ⟨hrs,rfl⟩
 ·obtain ⟨qa,qc,rfl⟩ := hoq.form
  have MQ := hid hoq.mine5;have hz : Hid (z.tmod y = 0) := by unfold Hid;rw [← HVV.out.2];exact (zAI hcr).2 hrs
  clear hoq ra;go_wp2_with fail;refine (zbA _ (n != m) qs.length qa qc MQ.out.len).mono ?_;rintro e w2 ⟨rfl,b2⟩;have HP2 := hid b2;have RR := hid (HKR.out w2 (below_step HP1.out b2));have y0 := RR.out.c0;have y1 := RR.out.c1;have f0 := RR.out.fz 0;have f1 := RR.out.fz 1;clear b2;go_wp2;exact bodyPost_ret (zWA Tryz.results85 (RR.out.set _ _) _ (by rfl) (by rfl)) rfl (.inl ⟨hz.out,by rw [← HVV.out.1];exact zrA (B := W0.heap.size) (ziF (MQ.out.below HP2.out) hcq (by omega)) (below_step B0.out (below_step HP1.out HP2.out)) (by omega) (by omega)⟩)
 ·have hz : Hid (z.tmod y ≠ 0) := by unfold Hid;rw [← HVV.out.2];exact fun e => hrs ((zAI hcr).1 e)
  have r0 := ra.c0;have r1 := ra.c1;have f0 := ra.fz 0;have f1 := ra.fz 1;have RR := hid ra;clear ra;go_wp2;exact bodyPost_ret (zWA Tryz.results85 (RR.out.set _ _) _ (by rfl) (by rfl)) rfl (.inr ⟨hz.out,rfl,bset (bset (below_step B0.out HP1.out) (by omega)) (by omega)⟩)
end Go.Proofs.YtkdobgbicnemcaaGreatDoor
