import Derived.Test.YtppddlbkdoebmaaQExact0ToRDivMod
set_option maxRecDepth 100000
set_option maxHeartbeats 6400000
set_option linter.unusedVariables false
set_option linter.unusedSimpArgs false
namespace Go.Proofs.Ytppddlbkdoebmaa
open Go.RowKit
abbrev zCA (kind : Int) (va vb : Value) (W K : Int) : Obj := .cells #[.int .i64 kind,va,vb,.int .u64 W,.int .i64 K] 28
abbrev zBA : Obj := .cells #[.slice none 0 0,.slice none 0 0,.int .u64 0,.int .i64 0,.int .i64 0] 35
def Mid (lo hi : Nat) (w w' : World) : Prop := w'.heap.size = w.heap.size ∧ (∀ h,hi ≤ h → w'.heap[h]? = w.heap[h]?) ∧ Below lo w w'
theorem Mid.refl (lo hi : Nat) (w : World) : Mid lo hi w w := ⟨rfl,fun _ _ => rfl,Below.refl _ _⟩
theorem Mid.set {lo hi b i : Nat} {w w' : World} (h : Mid lo hi w w') (hb : lo ≤ b) (hh : b < hi) (v : Value) : Mid lo hi w (w'.setCell ⟨b,i,none⟩ v) := by
 have o := (Only.refl b w').set i v;exact ⟨o.1.trans h.1,fun k hk => (o.2 k (by omega)).trans (h.2.1 k hk),h.2.2.setCell (p := ⟨b,i,none⟩) hb v⟩
theorem Mid.own {lo hi B : Nat} {w w' : World} {v : Value} {zs : List Int} (h : Mid lo hi w w') (hB : hi ≤ B) (ho : Own B w v zs) : Own B w' v zs := by
 obtain ⟨h0,h1 | ⟨g,r,h1,h2,h3,h4⟩⟩ := ho
 ·exact ⟨h0,.inl h1⟩
 ·exact ⟨h0,.inr ⟨g,r,h1,h2,h3,(h.2.1 g (by omega)).trans h4⟩⟩
def Ans3 (w : World) (qs rs : List Int) (W N E : Int) (e : Ending) (w' : World) : Prop :=
 ∃ q r,e = .returned (.agg #[q,r,.int .u64 W,.int .i64 N,.int .i64 E]) ∧ Own w.heap.size w' q qs ∧ Own w.heap.size w' r rs ∧ Two q r ∧ Below w.heap.size w w'
theorem zRA (B : Nat) (w : World) : Own B w (.slice none 0 0) [] := ⟨WF.nil,.inl ⟨rfl,rfl⟩⟩
theorem zKB (r : Value) : Two (.slice none 0 0) r := fun k h _ => by cases h
theorem two_nil' (r : Value) : Two r (.slice none 0 0) := fun k _ h => by cases h
theorem zTA {w w1 w' : World} {q r : Value} {qs rs : List Int} {W N E : Int} {B : Nat} (hB : w.heap.size + 1 + 1 + 1 ≤ B) (hq : Own B w1 q qs) (hr : Own B w1 r rs) (ht : Two q r) (hb : Below w.heap.size w w1) (hm : Mid w.heap.size (w.heap.size + 1 + 1 + 1) w1 w') :
  Ans3 w qs rs W N E (.returned (.agg #[q,r,.int .u64 W,.int .i64 N,.int .i64 E])) w' :=
 ⟨q,r,rfl,(hm.own hB hq).lower (by omega),(hm.own hB hr).lower (by omega),ht,hb.trans hm.2.2⟩
theorem zHA (w : World) (o1 o2 o3 : Obj) : Below w.heap.size w (((w.alloc o1).alloc o2).alloc o3) := (((Below.refl _ _).alloc (Nat.le_refl _) _).alloc (by simp) _).alloc (by simp;omega) _
theorem zJA (w : World) (o1 o2 o3 : Obj) : (((w.alloc o1).alloc o2).alloc o3).heap.size = w.heap.size + 1 + 1 + 1 := by simp
theorem boxes_kept {w w1 : World} {o1 : Obj} (h : Below (((w.alloc o1).alloc zBA).alloc zBA).heap.size (((w.alloc o1).alloc zBA).alloc zBA) w1) (b : Nat) (hb : b = w.heap.size + 1 ∨ b = w.heap.size + 1 + 1) :
  (w1.cell? ⟨b,0,none⟩ = some (.slice none 0 0) ∧ w1.cell? ⟨b,1,none⟩ = some (.slice none 0 0) ∧ w1.cell? ⟨b,2,none⟩ = some (.int .u64 0) ∧ w1.cell? ⟨b,3,none⟩ = some (.int .i64 0) ∧ w1.cell? ⟨b,4,none⟩ = some (.int .i64 0)) ∧ ∀ i,w1.frozen? ⟨b,i,none⟩ = false := by
 have hlt : b < (((w.alloc o1).alloc zBA).alloc zBA).heap.size := by rw [zJA];omega
 have e : w1.heap[b]? = some zBA := by
  rw [h.block b hlt];rcases hb with rfl | rfl
  ·rw [Below.heap_alloc _ _ _ (by simp)]
   have := heap_alloc_new (w.alloc o1) zBA
   simpa using this
  ·have := heap_alloc_new ((w.alloc o1).alloc zBA) zBA
   simpa using this
 refine ⟨⟨?_,?_,?_,?_,?_⟩,fun i => ?_⟩ <;> simp [World.cell?,World.frozen?,e]
theorem mid5 {lo hi b : Nat} {w w' : World} (h : Mid lo hi w w') (hb : lo ≤ b) (hh : b < hi) (x0 x1 x2 x3 x4 : Value) : Mid lo hi w (((((w'.setCell ⟨b,0,none⟩ x0).setCell ⟨b,1,none⟩ x1).setCell ⟨b,2,none⟩ x2).setCell ⟨b,3,none⟩ x3).setCell ⟨b,4,none⟩ x4) :=
 ((((h.set hb hh x0).set hb hh x1).set hb hh x2).set hb hh x3).set hb hh x4
theorem mid3 {lo hi b i j k : Nat} {w : World} (hb : lo ≤ b) (hh : b < hi) (x0 x1 x2 : Value) : Mid lo hi w (((w.setCell ⟨b,i,none⟩ x0).setCell ⟨b,j,none⟩ x1).setCell ⟨b,k,none⟩ x2) := (((Mid.refl lo hi w).set hb hh x0).set hb hh x1).set hb hh x2
theorem mid2 {lo hi b i j : Nat} {w : World} (hb : lo ≤ b) (hh : b < hi) (x0 x1 : Value) : Mid lo hi w ((w.setCell ⟨b,i,none⟩ x0).setCell ⟨b,j,none⟩ x1) := ((Mid.refl lo hi w).set hb hh x0).set hb hh x1
theorem zJD {b i j k : Nat} {w : World} (x0 x1 x2 : Value) : Only b w (((w.setCell ⟨b,i,none⟩ x0).setCell ⟨b,j,none⟩ x1).setCell ⟨b,k,none⟩ x2) := (((Only.refl b w).set i x0).set j x1).set k x2
theorem zKD {b i j : Nat} {w : World} (x0 x1 : Value) : Only b w ((w.setCell ⟨b,i,none⟩ x0).setCell ⟨b,j,none⟩ x1) := ((Only.refl b w).set i x0).set j x1
theorem zbA {W : World} {b : Nat} {y0 y1 y2 y3 y4 x0 x1 x2 x3 x4 : Value} (r0 : W.cell? ⟨b,0,none⟩ = some y0) (r1 : W.cell? ⟨b,1,none⟩ = some y1) (r2 : W.cell? ⟨b,2,none⟩ = some y2) (r3 : W.cell? ⟨b,3,none⟩ = some y3) (r4 : W.cell? ⟨b,4,none⟩ = some y4)
  (tmps : Array Value) (ht : tmps[2]? = some (.pointer (some ⟨b,0,none⟩))) :
  (results Try.f10 tmps).run Try.prog (((((W.setCell ⟨b,0,none⟩ x0).setCell ⟨b,1,none⟩ x1).setCell ⟨b,2,none⟩ x2).setCell ⟨b,3,none⟩ x3).setCell ⟨b,4,none⟩ x4) = .ok (.agg #[x0,x1,x2,x3,x4]) (((((W.setCell ⟨b,0,none⟩ x0).setCell ⟨b,1,none⟩ x1).setCell ⟨b,2,none⟩ x2).setCell ⟨b,3,none⟩ x3).setCell ⟨b,4,none⟩ x4) := by
 simp [results,Try.results10,go_sem,ht,r0,r1,r2,r3,r4]
theorem plays1_zero {w : World} {va vb : Value} {xs ys : List Int} {W K : Int} (ha : Sl w.heap.size w va xs) (hb : Sl w.heap.size w vb ys) (la : xs.length ≤ 1099511627776) (lb : ys.length ≤ 1099511627776) (h0 : W = 0) :
  Calls Try.prog 10 #[.agg #[.int .i64 1,va,vb,.int .u64 W,.int .i64 K]] w (Ans3 w [] [] 0 0 4) := by
 have k1 : ((1 : Int) == 1) = true := by decide
 have KB := hid (zHA w (zCA 1 va vb W K) zBA zBA);have HA := hid (ha.now KB.out);have HB := hid (hb.now KB.out);have SZ := hid (zJA w (zCA 1 va vb W K) zBA zBA);have KEEP : Hid (∀ w1,Below (((w.alloc (zCA 1 va vb W K)).alloc zBA).alloc zBA).heap.size (((w.alloc (zCA 1 va vb W K)).alloc zBA).alloc zBA) w1 → _) := fun w1 h => And.intro (boxes_kept h (w.heap.size + 1) (.inl rfl)) (boxes_kept h (w.heap.size + 1 + 1) (.inr rfl))
 obtain ⟨aa,ca,rfl⟩ : ∃ a c,va = .slice a xs.length c := by obtain ⟨_,a,c,e,_⟩ := ha;exact ⟨a,c,e⟩
 obtain ⟨ab,cb,rfl⟩ : ∃ a c,vb = .slice a ys.length c := by obtain ⟨_,a,c,e,_⟩ := hb;exact ⟨a,c,e⟩
 subst h0;clear ha hb;go_enter Try.func10,Try.ntmps10;go_wp2_with fail;refine (divWord_zero _ _).mono ?_;rintro e w1 ⟨rfl,rfl⟩;have b1 := Below.refl (((w.alloc (zCA 1 (.slice aa xs.length ca) (.slice ab ys.length cb) 0 K)).alloc zBA).alloc zBA).heap.size (((w.alloc (zCA 1 (.slice aa xs.length ca) (.slice ab ys.length cb) 0 K)).alloc zBA).alloc zBA);obtain ⟨w1,hw1⟩ : ∃ w1,(((w.alloc (zCA 1 (.slice aa xs.length ca) (.slice ab ys.length cb) 0 K)).alloc zBA).alloc zBA) = w1 := ⟨_,rfl⟩
 rw [hw1];replace b1 : Below (((w.alloc (zCA 1 (.slice aa xs.length ca) (.slice ab ys.length cb) 0 K)).alloc zBA).alloc zBA).heap.size (((w.alloc (zCA 1 (.slice aa xs.length ca) (.slice ab ys.length cb) 0 K)).alloc zBA).alloc zBA) w1 := by rw [← hw1];exact b1
 clear hw1;obtain ⟨⟨⟨r0,r1,r2,r3,r4⟩,rf⟩,⟨z0,z1,z2,z3,z4⟩,zf⟩ := KEEP.out w1 b1;have rf0 := rf 0;have rf1 := rf 1;have rf2 := rf 2;have rf3 := rf 3;have rf4 := rf 4;have zf0 := zf 0;have zf1 := zf 1;have zf2 := zf 2;have zf3 := zf 3;have zf4 := zf 4;have B1 := hid (KB.out.trans (b1.mono (by rw [SZ.out];omega)));clear b1 rf zf KEEP HA HB;go_wp2;obtain ⟨WX,hWX⟩ : ∃ WX,(((w1.setCell ⟨w.heap.size + 1 + 1,0,none⟩ (.slice none 0 0)).setCell ⟨w.heap.size + 1 + 1,2,none⟩ (.int .u64 0)).setCell ⟨w.heap.size + 1 + 1,4,none⟩ (.int .i64 4)) = WX := ⟨_,rfl⟩
 have oX : Only (w.heap.size + 1 + 1) w1 WX := by rw [← hWX];exact zJD _ _ _
 have mX : Mid w.heap.size (w.heap.size + 1 + 1 + 1) w1 WX := by rw [← hWX];exact mid3 (by omega) (by omega) _ _ _
 rw [hWX];clear hWX;have nb : w.heap.size + 1 ≠ w.heap.size + 1 + 1 := by omega
 exact bodyPost_ret (zbA ((oX.cell nb).trans r0) ((oX.cell nb).trans r1) ((oX.cell nb).trans r2) ((oX.cell nb).trans r3) ((oX.cell nb).trans r4) _ (by rfl)) rfl (zTA (B := w.heap.size + 1 + 1 + 1) (Nat.le_refl _) (zRA _ _) (zRA _ _) (zKB _) B1.out (mid5 mX (by omega) (by omega) _ _ _ _ _))
theorem plays1_any {w : World} {va vb : Value} {xs ys : List Int} {W K : Int} (ha : Sl w.heap.size w va xs) (hb : Sl w.heap.size w vb ys) (la : xs.length ≤ 1099511627776) (lb : ys.length ≤ 1099511627776) (hW : IsW W) (h0 : 0 < W) :
  Calls Try.prog 10 #[.agg #[.int .i64 1,va,vb,.int .u64 W,.int .i64 K]] w fun e w' => ∃ qs r,zFA qs ∧ IsW r ∧ r < W ∧ val xs = W * val qs + r ∧ Ans3 w qs [] r 0 0 e w' := by
 have k1 : ((1 : Int) == 1) = true := by decide
 have KB := hid (zHA w (zCA 1 va vb W K) zBA zBA);have HA := hid (ha.now KB.out);have HB := hid (hb.now KB.out);have SZ := hid (zJA w (zCA 1 va vb W K) zBA zBA);have KEEP : Hid (∀ w1,Below (((w.alloc (zCA 1 va vb W K)).alloc zBA).alloc zBA).heap.size (((w.alloc (zCA 1 va vb W K)).alloc zBA).alloc zBA) w1 → _) := fun w1 h => And.intro (boxes_kept h (w.heap.size + 1) (.inl rfl)) (boxes_kept h (w.heap.size + 1 + 1) (.inr rfl))
 obtain ⟨aa,ca,rfl⟩ : ∃ a c,va = .slice a xs.length c := by obtain ⟨_,a,c,e,_⟩ := ha;exact ⟨a,c,e⟩
 obtain ⟨ab,cb,rfl⟩ : ∃ a c,vb = .slice a ys.length c := by obtain ⟨_,a,c,e,_⟩ := hb;exact ⟨a,c,e⟩
 clear ha hb;go_enter Try.func10,Try.ntmps10;go_wp2_with fail;refine (zEB HA.out hW h0).mono ?_;rintro e w1 ⟨qs,q,r,rfl,hoq,hcq,hrw,hlt,hv,hlq,b1⟩;have HOQ := hid hoq;have HVV := hid hv;obtain ⟨qa,qc,rfl⟩ := hoq.form;clear hoq hv;obtain ⟨⟨⟨r0,r1,r2,r3,r4⟩,rf⟩,⟨z0,z1,z2,z3,z4⟩,zf⟩ := KEEP.out w1 b1;have rf0 := rf 0;have rf1 := rf 1;have rf2 := rf 2;have rf3 := rf 3;have rf4 := rf 4;have zf0 := zf 0;have zf1 := zf 1;have zf2 := zf 2;have zf3 := zf 3;have zf4 := zf 4;have B1 := hid (KB.out.trans (b1.mono (by rw [SZ.out];omega)));clear b1 rf zf KEEP HA HB;go_wp2;obtain ⟨WX,hWX⟩ : ∃ WX,(((w1.setCell ⟨w.heap.size + 1 + 1,0,none⟩ (.slice qa qs.length qc)).setCell ⟨w.heap.size + 1 + 1,2,none⟩ (.int .u64 r)).setCell ⟨w.heap.size + 1 + 1,4,none⟩ (.int .i64 0)) = WX := ⟨_,rfl⟩
 have oX : Only (w.heap.size + 1 + 1) w1 WX := by rw [← hWX];exact zJD _ _ _
 have mX : Mid w.heap.size (w.heap.size + 1 + 1 + 1) w1 WX := by rw [← hWX];exact mid3 (by omega) (by omega) _ _ _
 rw [hWX];clear hWX;have nb : w.heap.size + 1 ≠ w.heap.size + 1 + 1 := by omega
 exact bodyPost_ret (zbA ((oX.cell nb).trans r0) ((oX.cell nb).trans r1) ((oX.cell nb).trans r2) ((oX.cell nb).trans r3) ((oX.cell nb).trans r4) _ (by rfl)) rfl (⟨qs,r,hcq,hrw,hlt,HVV.out,zTA (B := (((w.alloc (zCA 1 (.slice aa xs.length ca) (.slice ab ys.length cb) W K)).alloc zBA).alloc zBA).heap.size) (by rw [SZ.out];omega) HOQ.out (zRA _ _) (two_nil' _) B1.out (mid5 mX (by omega) (by omega) _ _ _ _ _)⟩)
theorem plays2_zero {w : World} {va vb : Value} {xs ys : List Int} {W K : Int} (ha : Sl w.heap.size w va xs) (hb : Sl w.heap.size w vb ys) (la : xs.length ≤ 1099511627776) (lb : ys.length ≤ 1099511627776) (h0 : wid ys = 0) :
  Calls Try.prog 10 #[.agg #[.int .i64 2,va,vb,.int .u64 W,.int .i64 K]] w (Ans3 w [] [] 0 0 4) := by
 have k1 : ((2 : Int) == 1) = false := by decide
 have k2 : ((2 : Int) == 2) = true := by decide
 have KB := hid (zHA w (zCA 2 va vb W K) zBA zBA);have HA := hid (ha.now KB.out);have HB := hid (hb.now KB.out);have SZ := hid (zJA w (zCA 2 va vb W K) zBA zBA);have KEEP : Hid (∀ w1,Below (((w.alloc (zCA 2 va vb W K)).alloc zBA).alloc zBA).heap.size (((w.alloc (zCA 2 va vb W K)).alloc zBA).alloc zBA) w1 → _) := fun w1 h => And.intro (boxes_kept h (w.heap.size + 1) (.inl rfl)) (boxes_kept h (w.heap.size + 1 + 1) (.inr rfl))
 obtain ⟨aa,ca,rfl⟩ : ∃ a c,va = .slice a xs.length c := by obtain ⟨_,a,c,e,_⟩ := ha;exact ⟨a,c,e⟩
 obtain ⟨ab,cb,rfl⟩ : ∃ a c,vb = .slice a ys.length c := by obtain ⟨_,a,c,e,_⟩ := hb;exact ⟨a,c,e⟩
 clear ha hb;go_enter Try.func10,Try.ntmps10;go_wp2_with fail;refine (zrD HB.out h0).mono ?_;rintro e w1 ⟨rfl,b1⟩;obtain ⟨⟨⟨r0,r1,r2,r3,r4⟩,rf⟩,⟨z0,z1,z2,z3,z4⟩,zf⟩ := KEEP.out w1 b1;have rf0 := rf 0;have rf1 := rf 1;have rf2 := rf 2;have rf3 := rf 3;have rf4 := rf 4;have zf0 := zf 0;have zf1 := zf 1;have zf2 := zf 2;have zf3 := zf 3;have zf4 := zf 4;have B1 := hid (KB.out.trans (b1.mono (by rw [SZ.out];omega)));clear b1 rf zf KEEP HA HB;go_wp2;obtain ⟨WX,hWX⟩ : ∃ WX,(((w1.setCell ⟨w.heap.size + 1 + 1,0,none⟩ (.slice none 0 0)).setCell ⟨w.heap.size + 1 + 1,1,none⟩ (.slice none 0 0)).setCell ⟨w.heap.size + 1 + 1,4,none⟩ (.int .i64 4)) = WX := ⟨_,rfl⟩
 have oX : Only (w.heap.size + 1 + 1) w1 WX := by rw [← hWX];exact zJD _ _ _
 have mX : Mid w.heap.size (w.heap.size + 1 + 1 + 1) w1 WX := by rw [← hWX];exact mid3 (by omega) (by omega) _ _ _
 rw [hWX];clear hWX;have nb : w.heap.size + 1 ≠ w.heap.size + 1 + 1 := by omega
 exact bodyPost_ret (zbA ((oX.cell nb).trans r0) ((oX.cell nb).trans r1) ((oX.cell nb).trans r2) ((oX.cell nb).trans r3) ((oX.cell nb).trans r4) _ (by rfl)) rfl (zTA (B := w.heap.size + 1 + 1 + 1) (Nat.le_refl _) (zRA _ _) (zRA _ _) (zKB _) B1.out (mid5 mX (by omega) (by omega) _ _ _ _ _))
theorem plays2_any {w : World} {va vb : Value} {xs ys : List Int} {W K : Int} (ha : Sl w.heap.size w va xs) (hb : Sl w.heap.size w vb ys) (la : xs.length ≤ 1099511627776) (lb : ys.length ≤ 1099511627776) (h0 : wid ys ≠ 0) :
  Calls Try.prog 10 #[.agg #[.int .i64 2,va,vb,.int .u64 W,.int .i64 K]] w fun e w' => ∃ qs rs,zFA qs ∧ zFA rs ∧ val xs = val ys * val qs + val rs ∧ val rs < val ys ∧ Ans3 w qs rs 0 0 0 e w' := by
 have k1 : ((2 : Int) == 1) = false := by decide
 have k2 : ((2 : Int) == 2) = true := by decide
 have KB := hid (zHA w (zCA 2 va vb W K) zBA zBA);have HA := hid (ha.now KB.out);have HB := hid (hb.now KB.out);have SZ := hid (zJA w (zCA 2 va vb W K) zBA zBA);have KEEP : Hid (∀ w1,Below (((w.alloc (zCA 2 va vb W K)).alloc zBA).alloc zBA).heap.size (((w.alloc (zCA 2 va vb W K)).alloc zBA).alloc zBA) w1 → _) := fun w1 h => And.intro (boxes_kept h (w.heap.size + 1) (.inl rfl)) (boxes_kept h (w.heap.size + 1 + 1) (.inr rfl))
 obtain ⟨aa,ca,rfl⟩ : ∃ a c,va = .slice a xs.length c := by obtain ⟨_,a,c,e,_⟩ := ha;exact ⟨a,c,e⟩
 obtain ⟨ab,cb,rfl⟩ : ∃ a c,vb = .slice a ys.length c := by obtain ⟨_,a,c,e,_⟩ := hb;exact ⟨a,c,e⟩
 clear ha hb;go_enter Try.func10,Try.ntmps10;go_wp2_with fail;refine (zTC HA.out HB.out h0 la lb).mono ?_;rintro e w1 ⟨qs,rs,q,r,rfl,hoq,hor,hcq,hcr,hv,hlt,hlq,hlr,htw,b1⟩;have HOQ := hid hoq;have HOR := hid hor;have HVV : Hid (val xs = val ys * val qs + val rs ∧ val rs < val ys) := ⟨hv,hlt⟩
 have HTW := hid htw;obtain ⟨qa,qc,rfl⟩ := hoq.form;obtain ⟨ra,rc,rfl⟩ := hor.form;clear hoq hor hv hlt htw;obtain ⟨⟨⟨r0,r1,r2,r3,r4⟩,rf⟩,⟨z0,z1,z2,z3,z4⟩,zf⟩ := KEEP.out w1 b1;have rf0 := rf 0;have rf1 := rf 1;have rf2 := rf 2;have rf3 := rf 3;have rf4 := rf 4;have zf0 := zf 0;have zf1 := zf 1;have zf2 := zf 2;have zf3 := zf 3;have zf4 := zf 4;have B1 := hid (KB.out.trans (b1.mono (by rw [SZ.out];omega)));clear b1 rf zf KEEP HA HB;go_wp2;obtain ⟨WX,hWX⟩ : ∃ WX,(((w1.setCell ⟨w.heap.size + 1 + 1,0,none⟩ (.slice qa qs.length qc)).setCell ⟨w.heap.size + 1 + 1,1,none⟩ (.slice ra rs.length rc)).setCell ⟨w.heap.size + 1 + 1,4,none⟩ (.int .i64 0)) = WX := ⟨_,rfl⟩
 have oX : Only (w.heap.size + 1 + 1) w1 WX := by rw [← hWX];exact zJD _ _ _
 have mX : Mid w.heap.size (w.heap.size + 1 + 1 + 1) w1 WX := by rw [← hWX];exact mid3 (by omega) (by omega) _ _ _
 rw [hWX];clear hWX;have nb : w.heap.size + 1 ≠ w.heap.size + 1 + 1 := by omega
 exact bodyPost_ret (zbA ((oX.cell nb).trans r0) ((oX.cell nb).trans r1) ((oX.cell nb).trans r2) ((oX.cell nb).trans r3) ((oX.cell nb).trans r4) _ (by rfl)) rfl (⟨qs,rs,hcq,hcr,HVV.out.1,HVV.out.2,zTA (B := (((w.alloc (zCA 2 (.slice aa xs.length ca) (.slice ab ys.length cb) W K)).alloc zBA).alloc zBA).heap.size) (by rw [SZ.out];omega) HOQ.out HOR.out HTW.out B1.out (mid5 mX (by omega) (by omega) _ _ _ _ _)⟩)
theorem plays3_zero {w : World} {va vb : Value} {xs ys : List Int} {W K : Int} (ha : Sl w.heap.size w va xs) (hb : Sl w.heap.size w vb ys) (la : xs.length ≤ 1099511627776) (lb : ys.length ≤ 1099511627776) (h0 : wid ys = 0) :
  Calls Try.prog 10 #[.agg #[.int .i64 3,va,vb,.int .u64 W,.int .i64 K]] w (Ans3 w [] [] 0 0 4) := by
 have k1 : ((3 : Int) == 1) = false := by decide
 have k2 : ((3 : Int) == 2) = false := by decide
 have k3 : ((3 : Int) == 3) = true := by decide
 have KB := hid (zHA w (zCA 3 va vb W K) zBA zBA);have HA := hid (ha.now KB.out);have HB := hid (hb.now KB.out);have SZ := hid (zJA w (zCA 3 va vb W K) zBA zBA);have KEEP : Hid (∀ w1,Below (((w.alloc (zCA 3 va vb W K)).alloc zBA).alloc zBA).heap.size (((w.alloc (zCA 3 va vb W K)).alloc zBA).alloc zBA) w1 → _) := fun w1 h => And.intro (boxes_kept h (w.heap.size + 1) (.inl rfl)) (boxes_kept h (w.heap.size + 1 + 1) (.inr rfl))
 obtain ⟨aa,ca,rfl⟩ : ∃ a c,va = .slice a xs.length c := by obtain ⟨_,a,c,e,_⟩ := ha;exact ⟨a,c,e⟩
 obtain ⟨ab,cb,rfl⟩ : ∃ a c,vb = .slice a ys.length c := by obtain ⟨_,a,c,e,_⟩ := hb;exact ⟨a,c,e⟩
 clear ha hb;go_enter Try.func10,Try.ntmps10;go_wp2_with fail;refine (exact_zero HB.out h0).mono ?_;rintro e w1 ⟨rfl,b1⟩;obtain ⟨⟨⟨r0,r1,r2,r3,r4⟩,rf⟩,⟨z0,z1,z2,z3,z4⟩,zf⟩ := KEEP.out w1 b1;have rf0 := rf 0;have rf1 := rf 1;have rf2 := rf 2;have rf3 := rf 3;have rf4 := rf 4;have zf0 := zf 0;have zf1 := zf 1;have zf2 := zf 2;have zf3 := zf 3;have zf4 := zf 4;have B1 := hid (KB.out.trans (b1.mono (by rw [SZ.out];omega)));clear b1 rf zf KEEP HA HB;go_wp2;obtain ⟨WX,hWX⟩ : ∃ WX,((w1.setCell ⟨w.heap.size + 1 + 1,0,none⟩ (.slice none 0 0)).setCell ⟨w.heap.size + 1 + 1,4,none⟩ (.int .i64 4)) = WX := ⟨_,rfl⟩
 have oX : Only (w.heap.size + 1 + 1) w1 WX := by rw [← hWX];exact zKD _ _
 have mX : Mid w.heap.size (w.heap.size + 1 + 1 + 1) w1 WX := by rw [← hWX];exact mid2 (by omega) (by omega) _ _
 rw [hWX];clear hWX;have nb : w.heap.size + 1 ≠ w.heap.size + 1 + 1 := by omega
 exact bodyPost_ret (zbA ((oX.cell nb).trans r0) ((oX.cell nb).trans r1) ((oX.cell nb).trans r2) ((oX.cell nb).trans r3) ((oX.cell nb).trans r4) _ (by rfl)) rfl (zTA (B := w.heap.size + 1 + 1 + 1) (Nat.le_refl _) (zRA _ _) (zRA _ _) (zKB _) B1.out (mid5 mX (by omega) (by omega) _ _ _ _ _))
theorem plays3_any {w : World} {va vb : Value} {xs ys : List Int} {W K : Int} (ha : Sl w.heap.size w va xs) (hb : Sl w.heap.size w vb ys) (la : xs.length ≤ 1099511627776) (lb : ys.length ≤ 1099511627776) (h0 : wid ys ≠ 0) :
  Calls Try.prog 10 #[.agg #[.int .i64 3,va,vb,.int .u64 W,.int .i64 K]] w fun e w' => ∃ qs rs,zFA qs ∧ zFA rs ∧ val xs = val ys * val qs + val rs ∧ val rs < val ys ∧ ((rs = [] ∧ Ans3 w qs [] 0 0 0 e w') ∨ (rs ≠ [] ∧ Ans3 w [] [] 0 0 8 e w')) := by
 have k1 : ((3 : Int) == 1) = false := by decide
 have k2 : ((3 : Int) == 2) = false := by decide
 have k3 : ((3 : Int) == 3) = true := by decide
 have KB := hid (zHA w (zCA 3 va vb W K) zBA zBA);have HA := hid (ha.now KB.out);have HB := hid (hb.now KB.out);have SZ := hid (zJA w (zCA 3 va vb W K) zBA zBA);have KEEP : Hid (∀ w1,Below (((w.alloc (zCA 3 va vb W K)).alloc zBA).alloc zBA).heap.size (((w.alloc (zCA 3 va vb W K)).alloc zBA).alloc zBA) w1 → _) := fun w1 h => And.intro (boxes_kept h (w.heap.size + 1) (.inl rfl)) (boxes_kept h (w.heap.size + 1 + 1) (.inr rfl))
 obtain ⟨aa,ca,rfl⟩ : ∃ a c,va = .slice a xs.length c := by obtain ⟨_,a,c,e,_⟩ := ha;exact ⟨a,c,e⟩
 obtain ⟨ab,cb,rfl⟩ : ∃ a c,vb = .slice a ys.length c := by obtain ⟨_,a,c,e,_⟩ := hb;exact ⟨a,c,e⟩
 clear ha hb;go_enter Try.func10,Try.ntmps10;go_wp2_with fail;refine (zmD HA.out HB.out h0 la lb).mono ?_;rintro e w1 ⟨qs,rs,hcq,hcr,hv,hlt,hlq,b1,hend⟩;have HVV : Hid (val xs = val ys * val qs + val rs ∧ val rs < val ys) := ⟨hv,hlt⟩
 clear hv hlt;obtain ⟨⟨⟨r0,r1,r2,r3,r4⟩,rf⟩,⟨z0,z1,z2,z3,z4⟩,zf⟩ := KEEP.out w1 b1;have rf0 := rf 0;have rf1 := rf 1;have rf2 := rf 2;have rf3 := rf 3;have rf4 := rf 4;have zf0 := zf 0;have zf1 := zf 1;have zf2 := zf 2;have zf3 := zf 3;have zf4 := zf 4;have B1 := hid (KB.out.trans (b1.mono (by rw [SZ.out];omega)));clear b1 rf zf KEEP HA HB;rcases hend with ⟨rfl,q,rfl,hoq⟩ | ⟨hrs,rfl⟩
 ·have HOQ := hid hoq
  obtain ⟨qa,qc,rfl⟩ := hoq.form;clear hoq;go_wp2;obtain ⟨WX,hWX⟩ : ∃ WX,((w1.setCell ⟨w.heap.size + 1 + 1,0,none⟩ (.slice qa qs.length qc)).setCell ⟨w.heap.size + 1 + 1,4,none⟩ (.int .i64 0)) = WX := ⟨_,rfl⟩
  have oX : Only (w.heap.size + 1 + 1) w1 WX := by rw [← hWX];exact zKD _ _
  have mX : Mid w.heap.size (w.heap.size + 1 + 1 + 1) w1 WX := by rw [← hWX];exact mid2 (by omega) (by omega) _ _
  rw [hWX];clear hWX;have nb : w.heap.size + 1 ≠ w.heap.size + 1 + 1 := by omega
  exact bodyPost_ret (zbA ((oX.cell nb).trans r0) ((oX.cell nb).trans r1) ((oX.cell nb).trans r2) ((oX.cell nb).trans r3) ((oX.cell nb).trans r4) _ (by rfl)) rfl ⟨qs,[],hcq,hcr,HVV.out.1,HVV.out.2,.inl ⟨rfl,zTA (B := (((w.alloc (zCA 3 (.slice aa xs.length ca) (.slice ab ys.length cb) W K)).alloc zBA).alloc zBA).heap.size) (by rw [SZ.out];omega) HOQ.out (zRA _ _) (two_nil' _) B1.out (mid5 mX (by omega) (by omega) _ _ _ _ _)⟩⟩
 ·go_wp2
  obtain ⟨WX,hWX⟩ : ∃ WX,((w1.setCell ⟨w.heap.size + 1 + 1,0,none⟩ (.slice none 0 0)).setCell ⟨w.heap.size + 1 + 1,4,none⟩ (.int .i64 8)) = WX := ⟨_,rfl⟩
  have oX : Only (w.heap.size + 1 + 1) w1 WX := by rw [← hWX];exact zKD _ _
  have mX : Mid w.heap.size (w.heap.size + 1 + 1 + 1) w1 WX := by rw [← hWX];exact mid2 (by omega) (by omega) _ _
  rw [hWX];clear hWX;have nb : w.heap.size + 1 ≠ w.heap.size + 1 + 1 := by omega
  exact bodyPost_ret (zbA ((oX.cell nb).trans r0) ((oX.cell nb).trans r1) ((oX.cell nb).trans r2) ((oX.cell nb).trans r3) ((oX.cell nb).trans r4) _ (by rfl)) rfl ⟨qs,rs,hcq,hcr,HVV.out.1,HVV.out.2,.inr ⟨hrs,zTA (B := w.heap.size + 1 + 1 + 1) (Nat.le_refl _) (zRA _ _) (zRA _ _) (zKB _) B1.out (mid5 mX (by omega) (by omega) _ _ _ _ _)⟩⟩
theorem zaA {W : World} {b : Nat} {y0 y1 y2 y3 y4 x0 x1 x2 x3 x4 : Value} (r0 : W.cell? ⟨b,0,none⟩ = some y0) (r1 : W.cell? ⟨b,1,none⟩ = some y1) (r2 : W.cell? ⟨b,2,none⟩ = some y2) (r3 : W.cell? ⟨b,3,none⟩ = some y3) (r4 : W.cell? ⟨b,4,none⟩ = some y4)
  (tmps : Array Value) (ht : tmps[2]? = some (.pointer (some ⟨b,0,none⟩))) :
  (results Try.f9 tmps).run Try.prog (((((W.setCell ⟨b,0,none⟩ x0).setCell ⟨b,1,none⟩ x1).setCell ⟨b,2,none⟩ x2).setCell ⟨b,3,none⟩ x3).setCell ⟨b,4,none⟩ x4) = .ok (.agg #[x0,x1,x2,x3,x4]) (((((W.setCell ⟨b,0,none⟩ x0).setCell ⟨b,1,none⟩ x1).setCell ⟨b,2,none⟩ x2).setCell ⟨b,3,none⟩ x3).setCell ⟨b,4,none⟩ x4) := by
 simp [results,Try.results9,go_sem,ht,r0,r1,r2,r3,r4]
theorem wants1_zero {w : World} {va vb : Value} {xs ys : List Int} {W K : Int} (ha : Sl w.heap.size w va xs) (hb : Sl w.heap.size w vb ys) (la : xs.length ≤ 1099511627776) (lb : ys.length ≤ 1099511627776) (h0 : W = 0) :
  Calls Try.prog 9 #[.agg #[.int .i64 1,va,vb,.int .u64 W,.int .i64 K]] w (Ans3 w [] [] 0 0 4) := by
 have k1 : ((1 : Int) == 1) = true := by decide
 have KB := hid (zHA w (zCA 1 va vb W K) zBA zBA);have HA := hid (ha.now KB.out);have HB := hid (hb.now KB.out);have SZ := hid (zJA w (zCA 1 va vb W K) zBA zBA);have KEEP : Hid (∀ w1,Below (((w.alloc (zCA 1 va vb W K)).alloc zBA).alloc zBA).heap.size (((w.alloc (zCA 1 va vb W K)).alloc zBA).alloc zBA) w1 → _) := fun w1 h => And.intro (boxes_kept h (w.heap.size + 1) (.inl rfl)) (boxes_kept h (w.heap.size + 1 + 1) (.inr rfl))
 obtain ⟨aa,ca,rfl⟩ : ∃ a c,va = .slice a xs.length c := by obtain ⟨_,a,c,e,_⟩ := ha;exact ⟨a,c,e⟩
 obtain ⟨ab,cb,rfl⟩ : ∃ a c,vb = .slice a ys.length c := by obtain ⟨_,a,c,e,_⟩ := hb;exact ⟨a,c,e⟩
 subst h0;clear ha hb;go_enter Try.func9,Try.ntmps9;go_wp2_with fail;refine (rword_zero).mono ?_;rintro e w1 ⟨rfl,b1⟩;obtain ⟨⟨⟨r0,r1,r2,r3,r4⟩,rf⟩,⟨z0,z1,z2,z3,z4⟩,zf⟩ := KEEP.out w1 b1;have rf0 := rf 0;have rf1 := rf 1;have rf2 := rf 2;have rf3 := rf 3;have rf4 := rf 4;have zf0 := zf 0;have zf1 := zf 1;have zf2 := zf 2;have zf3 := zf 3;have zf4 := zf 4;have B1 := hid (KB.out.trans (b1.mono (by rw [SZ.out];omega)));clear b1 rf zf KEEP HA HB;go_wp2;obtain ⟨WX,hWX⟩ : ∃ WX,(((w1.setCell ⟨w.heap.size + 1 + 1,0,none⟩ (.slice none 0 0)).setCell ⟨w.heap.size + 1 + 1,2,none⟩ (.int .u64 0)).setCell ⟨w.heap.size + 1 + 1,4,none⟩ (.int .i64 4)) = WX := ⟨_,rfl⟩
 have oX : Only (w.heap.size + 1 + 1) w1 WX := by rw [← hWX];exact zJD _ _ _
 have mX : Mid w.heap.size (w.heap.size + 1 + 1 + 1) w1 WX := by rw [← hWX];exact mid3 (by omega) (by omega) _ _ _
 rw [hWX];clear hWX;have nb : w.heap.size + 1 ≠ w.heap.size + 1 + 1 := by omega
 exact bodyPost_ret (zaA ((oX.cell nb).trans r0) ((oX.cell nb).trans r1) ((oX.cell nb).trans r2) ((oX.cell nb).trans r3) ((oX.cell nb).trans r4) _ (by rfl)) rfl (zTA (B := w.heap.size + 1 + 1 + 1) (Nat.le_refl _) (zRA _ _) (zRA _ _) (zKB _) B1.out (mid5 mX (by omega) (by omega) _ _ _ _ _))
theorem wants1_any {w : World} {va vb : Value} {xs ys : List Int} {W K : Int} (ha : Sl w.heap.size w va xs) (hb : Sl w.heap.size w vb ys) (la : xs.length ≤ 1099511627776) (lb : ys.length ≤ 1099511627776) (hW : IsW W) (h0 : 0 < W) :
  Calls Try.prog 9 #[.agg #[.int .i64 1,va,vb,.int .u64 W,.int .i64 K]] w fun e w' => ∃ qs r,zFA qs ∧ IsW r ∧ r < W ∧ val xs = W * val qs + r ∧ Ans3 w qs [] r 0 0 e w' := by
 have k1 : ((1 : Int) == 1) = true := by decide
 have KB := hid (zHA w (zCA 1 va vb W K) zBA zBA);have HA := hid (ha.now KB.out);have HB := hid (hb.now KB.out);have SZ := hid (zJA w (zCA 1 va vb W K) zBA zBA);have KEEP : Hid (∀ w1,Below (((w.alloc (zCA 1 va vb W K)).alloc zBA).alloc zBA).heap.size (((w.alloc (zCA 1 va vb W K)).alloc zBA).alloc zBA) w1 → _) := fun w1 h => And.intro (boxes_kept h (w.heap.size + 1) (.inl rfl)) (boxes_kept h (w.heap.size + 1 + 1) (.inr rfl))
 obtain ⟨aa,ca,rfl⟩ : ∃ a c,va = .slice a xs.length c := by obtain ⟨_,a,c,e,_⟩ := ha;exact ⟨a,c,e⟩
 obtain ⟨ab,cb,rfl⟩ : ∃ a c,vb = .slice a ys.length c := by obtain ⟨_,a,c,e,_⟩ := hb;exact ⟨a,c,e⟩
 clear ha hb;go_enter Try.func9,Try.ntmps9;go_wp2_with fail;refine (rword_any HA.out hW h0 la).mono ?_;rintro e w1 ⟨qs,q,r,rfl,hoq,hcq,hrw,hlt,hv,hlq,b1⟩;have HOQ := hid hoq;have HVV := hid hv;obtain ⟨qa,qc,rfl⟩ := hoq.form;clear hoq hv;obtain ⟨⟨⟨r0,r1,r2,r3,r4⟩,rf⟩,⟨z0,z1,z2,z3,z4⟩,zf⟩ := KEEP.out w1 b1;have rf0 := rf 0;have rf1 := rf 1;have rf2 := rf 2;have rf3 := rf 3;have rf4 := rf 4;have zf0 := zf 0;have zf1 := zf 1;have zf2 := zf 2;have zf3 := zf 3;have zf4 := zf 4;have B1 := hid (KB.out.trans (b1.mono (by rw [SZ.out];omega)));clear b1 rf zf KEEP HA HB;go_wp2;obtain ⟨WX,hWX⟩ : ∃ WX,(((w1.setCell ⟨w.heap.size + 1 + 1,0,none⟩ (.slice qa qs.length qc)).setCell ⟨w.heap.size + 1 + 1,2,none⟩ (.int .u64 r)).setCell ⟨w.heap.size + 1 + 1,4,none⟩ (.int .i64 0)) = WX := ⟨_,rfl⟩
 have oX : Only (w.heap.size + 1 + 1) w1 WX := by rw [← hWX];exact zJD _ _ _
 have mX : Mid w.heap.size (w.heap.size + 1 + 1 + 1) w1 WX := by rw [← hWX];exact mid3 (by omega) (by omega) _ _ _
 rw [hWX];clear hWX;have nb : w.heap.size + 1 ≠ w.heap.size + 1 + 1 := by omega
 exact bodyPost_ret (zaA ((oX.cell nb).trans r0) ((oX.cell nb).trans r1) ((oX.cell nb).trans r2) ((oX.cell nb).trans r3) ((oX.cell nb).trans r4) _ (by rfl)) rfl (⟨qs,r,hcq,hrw,hlt,HVV.out,zTA (B := (((w.alloc (zCA 1 (.slice aa xs.length ca) (.slice ab ys.length cb) W K)).alloc zBA).alloc zBA).heap.size) (by rw [SZ.out];omega) HOQ.out (zRA _ _) (two_nil' _) B1.out (mid5 mX (by omega) (by omega) _ _ _ _ _)⟩)
theorem wants2_zero {w : World} {va vb : Value} {xs ys : List Int} {W K : Int} (ha : Sl w.heap.size w va xs) (hb : Sl w.heap.size w vb ys) (la : xs.length ≤ 1099511627776) (lb : ys.length ≤ 1099511627776) (h0 : wid ys = 0) :
  Calls Try.prog 9 #[.agg #[.int .i64 2,va,vb,.int .u64 W,.int .i64 K]] w (Ans3 w [] [] 0 0 4) := by
 have k1 : ((2 : Int) == 1) = false := by decide
 have k2 : ((2 : Int) == 2) = true := by decide
 have KB := hid (zHA w (zCA 2 va vb W K) zBA zBA);have HA := hid (ha.now KB.out);have HB := hid (hb.now KB.out);have SZ := hid (zJA w (zCA 2 va vb W K) zBA zBA);have KEEP : Hid (∀ w1,Below (((w.alloc (zCA 2 va vb W K)).alloc zBA).alloc zBA).heap.size (((w.alloc (zCA 2 va vb W K)).alloc zBA).alloc zBA) w1 → _) := fun w1 h => And.intro (boxes_kept h (w.heap.size + 1) (.inl rfl)) (boxes_kept h (w.heap.size + 1 + 1) (.inr rfl))
 obtain ⟨aa,ca,rfl⟩ : ∃ a c,va = .slice a xs.length c := by obtain ⟨_,a,c,e,_⟩ := ha;exact ⟨a,c,e⟩
 obtain ⟨ab,cb,rfl⟩ : ∃ a c,vb = .slice a ys.length c := by obtain ⟨_,a,c,e,_⟩ := hb;exact ⟨a,c,e⟩
 clear ha hb;go_enter Try.func9,Try.ntmps9;go_wp2_with fail;refine (zEC HB.out h0 lb).mono ?_;rintro e w1 ⟨rfl,b1⟩;obtain ⟨⟨⟨r0,r1,r2,r3,r4⟩,rf⟩,⟨z0,z1,z2,z3,z4⟩,zf⟩ := KEEP.out w1 b1;have rf0 := rf 0;have rf1 := rf 1;have rf2 := rf 2;have rf3 := rf 3;have rf4 := rf 4;have zf0 := zf 0;have zf1 := zf 1;have zf2 := zf 2;have zf3 := zf 3;have zf4 := zf 4;have B1 := hid (KB.out.trans (b1.mono (by rw [SZ.out];omega)));clear b1 rf zf KEEP HA HB;go_wp2;obtain ⟨WX,hWX⟩ : ∃ WX,(((w1.setCell ⟨w.heap.size + 1 + 1,0,none⟩ (.slice none 0 0)).setCell ⟨w.heap.size + 1 + 1,1,none⟩ (.slice none 0 0)).setCell ⟨w.heap.size + 1 + 1,4,none⟩ (.int .i64 4)) = WX := ⟨_,rfl⟩
 have oX : Only (w.heap.size + 1 + 1) w1 WX := by rw [← hWX];exact zJD _ _ _
 have mX : Mid w.heap.size (w.heap.size + 1 + 1 + 1) w1 WX := by rw [← hWX];exact mid3 (by omega) (by omega) _ _ _
 rw [hWX];clear hWX;have nb : w.heap.size + 1 ≠ w.heap.size + 1 + 1 := by omega
 exact bodyPost_ret (zaA ((oX.cell nb).trans r0) ((oX.cell nb).trans r1) ((oX.cell nb).trans r2) ((oX.cell nb).trans r3) ((oX.cell nb).trans r4) _ (by rfl)) rfl (zTA (B := w.heap.size + 1 + 1 + 1) (Nat.le_refl _) (zRA _ _) (zRA _ _) (zKB _) B1.out (mid5 mX (by omega) (by omega) _ _ _ _ _))
theorem wants2_any {w : World} {va vb : Value} {xs ys : List Int} {W K : Int} (ha : Sl w.heap.size w va xs) (hb : Sl w.heap.size w vb ys) (la : xs.length ≤ 1099511627776) (lb : ys.length ≤ 1099511627776) (h0 : wid ys ≠ 0) :
  Calls Try.prog 9 #[.agg #[.int .i64 2,va,vb,.int .u64 W,.int .i64 K]] w fun e w' => ∃ qs rs,zFA qs ∧ zFA rs ∧ val xs = val ys * val qs + val rs ∧ val rs < val ys ∧ Ans3 w qs rs 0 0 0 e w' := by
 have k1 : ((2 : Int) == 1) = false := by decide
 have k2 : ((2 : Int) == 2) = true := by decide
 have KB := hid (zHA w (zCA 2 va vb W K) zBA zBA);have HA := hid (ha.now KB.out);have HB := hid (hb.now KB.out);have SZ := hid (zJA w (zCA 2 va vb W K) zBA zBA);have KEEP : Hid (∀ w1,Below (((w.alloc (zCA 2 va vb W K)).alloc zBA).alloc zBA).heap.size (((w.alloc (zCA 2 va vb W K)).alloc zBA).alloc zBA) w1 → _) := fun w1 h => And.intro (boxes_kept h (w.heap.size + 1) (.inl rfl)) (boxes_kept h (w.heap.size + 1 + 1) (.inr rfl))
 obtain ⟨aa,ca,rfl⟩ : ∃ a c,va = .slice a xs.length c := by obtain ⟨_,a,c,e,_⟩ := ha;exact ⟨a,c,e⟩
 obtain ⟨ab,cb,rfl⟩ : ∃ a c,vb = .slice a ys.length c := by obtain ⟨_,a,c,e,_⟩ := hb;exact ⟨a,c,e⟩
 clear ha hb;go_enter Try.func9,Try.ntmps9;go_wp2_with fail;refine (zbC HA.out HB.out h0 la lb).mono ?_;rintro e w1 ⟨qs,rs,q,r,rfl,hoq,hor,hcq,hcr,hv,hlt,hlq,hlr,htw,b1⟩;have HOQ := hid hoq;have HOR := hid hor;have HVV : Hid (val xs = val ys * val qs + val rs ∧ val rs < val ys) := ⟨hv,hlt⟩
 have HTW := hid htw;obtain ⟨qa,qc,rfl⟩ := hoq.form;obtain ⟨ra,rc,rfl⟩ := hor.form;clear hoq hor hv hlt htw;obtain ⟨⟨⟨r0,r1,r2,r3,r4⟩,rf⟩,⟨z0,z1,z2,z3,z4⟩,zf⟩ := KEEP.out w1 b1;have rf0 := rf 0;have rf1 := rf 1;have rf2 := rf 2;have rf3 := rf 3;have rf4 := rf 4;have zf0 := zf 0;have zf1 := zf 1;have zf2 := zf 2;have zf3 := zf 3;have zf4 := zf 4;have B1 := hid (KB.out.trans (b1.mono (by rw [SZ.out];omega)));clear b1 rf zf KEEP HA HB;go_wp2;obtain ⟨WX,hWX⟩ : ∃ WX,(((w1.setCell ⟨w.heap.size + 1 + 1,0,none⟩ (.slice qa qs.length qc)).setCell ⟨w.heap.size + 1 + 1,1,none⟩ (.slice ra rs.length rc)).setCell ⟨w.heap.size + 1 + 1,4,none⟩ (.int .i64 0)) = WX := ⟨_,rfl⟩
 have oX : Only (w.heap.size + 1 + 1) w1 WX := by rw [← hWX];exact zJD _ _ _
 have mX : Mid w.heap.size (w.heap.size + 1 + 1 + 1) w1 WX := by rw [← hWX];exact mid3 (by omega) (by omega) _ _ _
 rw [hWX];clear hWX;have nb : w.heap.size + 1 ≠ w.heap.size + 1 + 1 := by omega
 exact bodyPost_ret (zaA ((oX.cell nb).trans r0) ((oX.cell nb).trans r1) ((oX.cell nb).trans r2) ((oX.cell nb).trans r3) ((oX.cell nb).trans r4) _ (by rfl)) rfl (⟨qs,rs,hcq,hcr,HVV.out.1,HVV.out.2,zTA (B := (((w.alloc (zCA 2 (.slice aa xs.length ca) (.slice ab ys.length cb) W K)).alloc zBA).alloc zBA).heap.size) (by rw [SZ.out];omega) HOQ.out HOR.out HTW.out B1.out (mid5 mX (by omega) (by omega) _ _ _ _ _)⟩)
theorem wants3_zero {w : World} {va vb : Value} {xs ys : List Int} {W K : Int} (ha : Sl w.heap.size w va xs) (hb : Sl w.heap.size w vb ys) (la : xs.length ≤ 1099511627776) (lb : ys.length ≤ 1099511627776) (h0 : wid ys = 0) :
  Calls Try.prog 9 #[.agg #[.int .i64 3,va,vb,.int .u64 W,.int .i64 K]] w (Ans3 w [] [] 0 0 4) := by
 have k1 : ((3 : Int) == 1) = false := by decide
 have k2 : ((3 : Int) == 2) = false := by decide
 have k3 : ((3 : Int) == 3) = true := by decide
 have KB := hid (zHA w (zCA 3 va vb W K) zBA zBA);have HA := hid (ha.now KB.out);have HB := hid (hb.now KB.out);have SZ := hid (zJA w (zCA 3 va vb W K) zBA zBA);have KEEP : Hid (∀ w1,Below (((w.alloc (zCA 3 va vb W K)).alloc zBA).alloc zBA).heap.size (((w.alloc (zCA 3 va vb W K)).alloc zBA).alloc zBA) w1 → _) := fun w1 h => And.intro (boxes_kept h (w.heap.size + 1) (.inl rfl)) (boxes_kept h (w.heap.size + 1 + 1) (.inr rfl))
 obtain ⟨aa,ca,rfl⟩ : ∃ a c,va = .slice a xs.length c := by obtain ⟨_,a,c,e,_⟩ := ha;exact ⟨a,c,e⟩
 obtain ⟨ab,cb,rfl⟩ : ∃ a c,vb = .slice a ys.length c := by obtain ⟨_,a,c,e,_⟩ := hb;exact ⟨a,c,e⟩
 clear ha hb;go_enter Try.func9,Try.ntmps9;go_wp2_with fail;refine (rexact_zero HB.out h0 lb).mono ?_;rintro e w1 ⟨rfl,b1⟩;obtain ⟨⟨⟨r0,r1,r2,r3,r4⟩,rf⟩,⟨z0,z1,z2,z3,z4⟩,zf⟩ := KEEP.out w1 b1;have rf0 := rf 0;have rf1 := rf 1;have rf2 := rf 2;have rf3 := rf 3;have rf4 := rf 4;have zf0 := zf 0;have zf1 := zf 1;have zf2 := zf 2;have zf3 := zf 3;have zf4 := zf 4;have B1 := hid (KB.out.trans (b1.mono (by rw [SZ.out];omega)));clear b1 rf zf KEEP HA HB;go_wp2;obtain ⟨WX,hWX⟩ : ∃ WX,((w1.setCell ⟨w.heap.size + 1 + 1,0,none⟩ (.slice none 0 0)).setCell ⟨w.heap.size + 1 + 1,4,none⟩ (.int .i64 4)) = WX := ⟨_,rfl⟩
 have oX : Only (w.heap.size + 1 + 1) w1 WX := by rw [← hWX];exact zKD _ _
 have mX : Mid w.heap.size (w.heap.size + 1 + 1 + 1) w1 WX := by rw [← hWX];exact mid2 (by omega) (by omega) _ _
 rw [hWX];clear hWX;have nb : w.heap.size + 1 ≠ w.heap.size + 1 + 1 := by omega
 exact bodyPost_ret (zaA ((oX.cell nb).trans r0) ((oX.cell nb).trans r1) ((oX.cell nb).trans r2) ((oX.cell nb).trans r3) ((oX.cell nb).trans r4) _ (by rfl)) rfl (zTA (B := w.heap.size + 1 + 1 + 1) (Nat.le_refl _) (zRA _ _) (zRA _ _) (zKB _) B1.out (mid5 mX (by omega) (by omega) _ _ _ _ _))
theorem wants3_any {w : World} {va vb : Value} {xs ys : List Int} {W K : Int} (ha : Sl w.heap.size w va xs) (hb : Sl w.heap.size w vb ys) (la : xs.length ≤ 1099511627776) (lb : ys.length ≤ 1099511627776) (h0 : wid ys ≠ 0) :
  Calls Try.prog 9 #[.agg #[.int .i64 3,va,vb,.int .u64 W,.int .i64 K]] w fun e w' => ∃ qs rs,zFA qs ∧ zFA rs ∧ val xs = val ys * val qs + val rs ∧ val rs < val ys ∧ ((rs = [] ∧ Ans3 w qs [] 0 0 0 e w') ∨ (rs ≠ [] ∧ Ans3 w [] [] 0 0 8 e w')) := by
 have k1 : ((3 : Int) == 1) = false := by decide
 have k2 : ((3 : Int) == 2) = false := by decide
 have k3 : ((3 : Int) == 3) = true := by decide
 have KB := hid (zHA w (zCA 3 va vb W K) zBA zBA);have HA := hid (ha.now KB.out);have HB := hid (hb.now KB.out);have SZ := hid (zJA w (zCA 3 va vb W K) zBA zBA);have KEEP : Hid (∀ w1,Below (((w.alloc (zCA 3 va vb W K)).alloc zBA).alloc zBA).heap.size (((w.alloc (zCA 3 va vb W K)).alloc zBA).alloc zBA) w1 → _) := fun w1 h => And.intro (boxes_kept h (w.heap.size + 1) (.inl rfl)) (boxes_kept h (w.heap.size + 1 + 1) (.inr rfl))
 obtain ⟨aa,ca,rfl⟩ : ∃ a c,va = .slice a xs.length c := by obtain ⟨_,a,c,e,_⟩ := ha;exact ⟨a,c,e⟩
 obtain ⟨ab,cb,rfl⟩ : ∃ a c,vb = .slice a ys.length c := by obtain ⟨_,a,c,e,_⟩ := hb;exact ⟨a,c,e⟩
 clear ha hb;go_enter Try.func9,Try.ntmps9;go_wp2_with fail;refine (rexact_any HA.out HB.out h0 la lb).mono ?_;rintro e w1 ⟨qs,rs,hcq,hcr,hv,hlt,hlq,b1,hend⟩;have HVV : Hid (val xs = val ys * val qs + val rs ∧ val rs < val ys) := ⟨hv,hlt⟩
 clear hv hlt;obtain ⟨⟨⟨r0,r1,r2,r3,r4⟩,rf⟩,⟨z0,z1,z2,z3,z4⟩,zf⟩ := KEEP.out w1 b1;have rf0 := rf 0;have rf1 := rf 1;have rf2 := rf 2;have rf3 := rf 3;have rf4 := rf 4;have zf0 := zf 0;have zf1 := zf 1;have zf2 := zf 2;have zf3 := zf 3;have zf4 := zf 4;have B1 := hid (KB.out.trans (b1.mono (by rw [SZ.out];omega)));clear b1 rf zf KEEP HA HB;rcases hend with ⟨rfl,q,rfl,hoq⟩ | ⟨hrs,rfl⟩
 ·have HOQ := hid hoq
  obtain ⟨qa,qc,rfl⟩ := hoq.form;clear hoq;go_wp2;obtain ⟨WX,hWX⟩ : ∃ WX,((w1.setCell ⟨w.heap.size + 1 + 1,0,none⟩ (.slice qa qs.length qc)).setCell ⟨w.heap.size + 1 + 1,4,none⟩ (.int .i64 0)) = WX := ⟨_,rfl⟩
  have oX : Only (w.heap.size + 1 + 1) w1 WX := by rw [← hWX];exact zKD _ _
  have mX : Mid w.heap.size (w.heap.size + 1 + 1 + 1) w1 WX := by rw [← hWX];exact mid2 (by omega) (by omega) _ _
  rw [hWX];clear hWX;have nb : w.heap.size + 1 ≠ w.heap.size + 1 + 1 := by omega
  exact bodyPost_ret (zaA ((oX.cell nb).trans r0) ((oX.cell nb).trans r1) ((oX.cell nb).trans r2) ((oX.cell nb).trans r3) ((oX.cell nb).trans r4) _ (by rfl)) rfl ⟨qs,[],hcq,hcr,HVV.out.1,HVV.out.2,.inl ⟨rfl,zTA (B := (((w.alloc (zCA 3 (.slice aa xs.length ca) (.slice ab ys.length cb) W K)).alloc zBA).alloc zBA).heap.size) (by rw [SZ.out];omega) HOQ.out (zRA _ _) (two_nil' _) B1.out (mid5 mX (by omega) (by omega) _ _ _ _ _)⟩⟩
 ·go_wp2
  obtain ⟨WX,hWX⟩ : ∃ WX,((w1.setCell ⟨w.heap.size + 1 + 1,0,none⟩ (.slice none 0 0)).setCell ⟨w.heap.size + 1 + 1,4,none⟩ (.int .i64 8)) = WX := ⟨_,rfl⟩
  have oX : Only (w.heap.size + 1 + 1) w1 WX := by rw [← hWX];exact zKD _ _
  have mX : Mid w.heap.size (w.heap.size + 1 + 1 + 1) w1 WX := by rw [← hWX];exact mid2 (by omega) (by omega) _ _
  rw [hWX];clear hWX;have nb : w.heap.size + 1 ≠ w.heap.size + 1 + 1 := by omega
  exact bodyPost_ret (zaA ((oX.cell nb).trans r0) ((oX.cell nb).trans r1) ((oX.cell nb).trans r2) ((oX.cell nb).trans r3) ((oX.cell nb).trans r4) _ (by rfl)) rfl ⟨qs,rs,hcq,hcr,HVV.out.1,HVV.out.2,.inr ⟨hrs,zTA (B := w.heap.size + 1 + 1 + 1) (Nat.le_refl _) (zRA _ _) (zRA _ _) (zKB _) B1.out (mid5 mX (by omega) (by omega) _ _ _ _ _)⟩⟩
end Go.Proofs.Ytppddlbkdoebmaa
