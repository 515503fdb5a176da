import Derived.Test.YtppddlbkdoebmaaQRight3ToTrim
import Derived.Test.YtppddlbkdoebmaaQSqOToStrip
import Derived.Test.YtppddlbkdoebmaaQGh3ToBo3
import Derived.Test.YtppddlbkdoebmaaQSt3
import Derived.Test.YtppddlbkdoebmaaQRt3
set_option maxRecDepth 100000
set_option maxHeartbeats 6400000
set_option linter.unusedVariables false
set_option linter.unusedSimpArgs false
namespace Go.Proofs.Ytppddlbkdoebmaa
open Go.RowKit
theorem mid1 {lo hi b i : Nat} {w : World} (hb : lo ≤ b) (hh : b < hi) (x0 : Value) : Mid lo hi w (w.setCell ⟨b,i,none⟩ x0) := (Mid.refl lo hi w).set hb hh x0
theorem zrG {b i : Nat} {w : World} (x0 : Value) : Only b w (w.setCell ⟨b,i,none⟩ x0) := (Only.refl b w).set i x0
theorem strip3_bad {w : World} {va vb : Value} {xs ys : List Int} (ha : Sl w.heap.size w va xs) (hb : Sl w.heap.size w vb ys) (h : val xs = 0 ∨ val ys ≤ 1) :
  Calls Try.prog 31 #[va,vb] w (zKF w) :=
 (strip3_not ha hb (by omega)).mono fun e w' h => by
  obtain ⟨h1,h2⟩ := h;subst h2;exact ⟨h1,Below.refl _ _⟩
def zAG (w : World) (e : Ending) (w' : World) : Prop := e = .returned (.tuple #[.slice none 0 0,.int .i64 3]) ∧ Below w.heap.size w w'
theorem root3_bad (v : Value) (w : World) {i : Int} (hi : i < 1) (hl : -9223372036854775808 ≤ i) : Calls Try.prog 32 #[v,.int .i64 i] w (zAG w) :=
 (rootT_bad v w hi hl).mono fun e w' h => by
  obtain ⟨h1,h2⟩ := h;subst h2;exact ⟨h1,Below.refl _ _⟩
theorem rroot3_bad (v : Value) (w : World) {i : Int} (hi : i < 1) (hl : -9223372036854775808 ≤ i) : Calls Try.prog 26 #[v,.int .i64 i] w (zAG w) :=
 (rroot_bad v w hi hl).mono fun e w' h => by
  obtain ⟨h1,h2⟩ := h;subst h2;exact ⟨h1,Below.refl _ _⟩
theorem plays4_any {w : World} {va vb : Value} {xs ys : List Int} {W K : Int} (ha : Sl w.heap.size w va xs) (hb : Sl w.heap.size w vb ys) (la : xs.length ≤ 1099511627776) (lb : ys.length ≤ 1099511627776)  :
  Calls Try.prog 10 #[.agg #[.int .i64 4,va,vb,.int .u64 W,.int .i64 K]] w fun e w' => ∃ qs,zFA qs ∧ val qs = (ig (val xs) (val ys) : Int) ∧ Ans3 w qs [] 0 0 0 e w' := by
 have k1 : ((4 : Int) == 1) = false := by decide
 have k2 : ((4 : Int) == 2) = false := by decide
 have k3 : ((4 : Int) == 3) = false := by decide
 have k4 : ((4 : Int) == 4) = true := by decide
 have KB := hid (zHA w (zCA 4 va vb W K) zBA zBA);have HA := hid (ha.now KB.out);have HB := hid (hb.now KB.out);have SZ := hid (zJA w (zCA 4 va vb W K) zBA zBA);have KEEP : Hid (∀ w1,Below (((w.alloc (zCA 4 va vb W K)).alloc zBA).alloc zBA).heap.size (((w.alloc (zCA 4 va vb W K)).alloc zBA).alloc zBA) w1 → _) := fun w1 h => And.intro (boxes_kept h (w.heap.size + 1) (.inl rfl)) (boxes_kept h (w.heap.size + 1 + 1) (.inr rfl))
 obtain ⟨aa,ca,rfl⟩ : ∃ a c,va = .slice a xs.length c := by obtain ⟨_,a,c,e,_⟩ := ha;exact ⟨a,c,e⟩
 obtain ⟨ab,cb,rfl⟩ : ∃ a c,vb = .slice a ys.length c := by obtain ⟨_,a,c,e,_⟩ := hb;exact ⟨a,c,e⟩
 clear ha hb;go_enter Try.func10,Try.ntmps10;go_wp2_with fail;refine (gcd_any HA.out HB.out la lb).mono ?_;rintro e w1 ⟨qs,q,rfl,hoq,hcq,hv,b1⟩;have HOQ := hid hoq;have HVV := hid hv;obtain ⟨qa,qc,rfl⟩ := hoq.form;clear hoq hv;obtain ⟨⟨⟨r0,r1,r2,r3,r4⟩,rf⟩,⟨z0,z1,z2,z3,z4⟩,zf⟩ := KEEP.out w1 b1;have rf0 := rf 0;have rf1 := rf 1;have rf2 := rf 2;have rf3 := rf 3;have rf4 := rf 4;have zf0 := zf 0;have zf1 := zf 1;have zf2 := zf 2;have zf3 := zf 3;have zf4 := zf 4;have B1 := hid (KB.out.trans (b1.mono (by rw [SZ.out];omega)));clear b1 rf zf KEEP HA HB;go_wp2;obtain ⟨WX,hWX⟩ : ∃ WX,(w1.setCell ⟨w.heap.size + 1 + 1,0,none⟩ (.slice qa qs.length qc)) = WX := ⟨_,rfl⟩
 have oX : Only (w.heap.size + 1 + 1) w1 WX := by rw [← hWX];exact zrG _
 have mX : Mid w.heap.size (w.heap.size + 1 + 1 + 1) w1 WX := by rw [← hWX];exact mid1 (by omega) (by omega) _
 rw [hWX];clear hWX;have nb : w.heap.size + 1 ≠ w.heap.size + 1 + 1 := by omega
 exact bodyPost_ret (zbA ((oX.cell nb).trans r0) ((oX.cell nb).trans r1) ((oX.cell nb).trans r2) ((oX.cell nb).trans r3) ((oX.cell nb).trans r4) _ (by rfl)) rfl (⟨qs,hcq,HVV.out,zTA (B := (((w.alloc (zCA 4 (.slice aa xs.length ca) (.slice ab ys.length cb) W K)).alloc zBA).alloc zBA).heap.size) (by rw [SZ.out];omega) HOQ.out (zRA _ _) (two_nil' _) B1.out (mid5 mX (by omega) (by omega) _ _ _ _ _)⟩)
theorem plays5_any {w : World} {va vb : Value} {xs ys : List Int} {W K : Int} (ha : Sl w.heap.size w va xs) (hb : Sl w.heap.size w vb ys) (la : xs.length ≤ 1099511627776) (lb : ys.length ≤ 1099511627776) (lx : xs.length ≤ 1048576) (ly : ys.length ≤ 1048576)  :
  Calls Try.prog 10 #[.agg #[.int .i64 5,va,vb,.int .u64 W,.int .i64 K]] w fun e w' => ∃ (r : Nat) (qs rs : List Int),zlA r (vn xs) 2 ∧ zFA qs ∧ zFA rs ∧ val qs = (r : Int) ∧ val rs = ((vn xs - r * r : Nat) : Int) ∧ Ans3 w qs rs 0 0 0 e w' := by
 have k1 : ((5 : Int) == 1) = false := by decide
 have k2 : ((5 : Int) == 2) = false := by decide
 have k3 : ((5 : Int) == 3) = false := by decide
 have k4 : ((5 : Int) == 4) = false := by decide
 have k5 : ((5 : Int) == 5) = true := by decide
 have KB := hid (zHA w (zCA 5 va vb W K) zBA zBA);have HA := hid (ha.now KB.out);have HB := hid (hb.now KB.out);have SZ := hid (zJA w (zCA 5 va vb W K) zBA zBA);have KEEP : Hid (∀ w1,Below (((w.alloc (zCA 5 va vb W K)).alloc zBA).alloc zBA).heap.size (((w.alloc (zCA 5 va vb W K)).alloc zBA).alloc zBA) w1 → _) := fun w1 h => And.intro (boxes_kept h (w.heap.size + 1) (.inl rfl)) (boxes_kept h (w.heap.size + 1 + 1) (.inr rfl))
 obtain ⟨aa,ca,rfl⟩ : ∃ a c,va = .slice a xs.length c := by obtain ⟨_,a,c,e,_⟩ := ha;exact ⟨a,c,e⟩
 obtain ⟨ab,cb,rfl⟩ : ∃ a c,vb = .slice a ys.length c := by obtain ⟨_,a,c,e,_⟩ := hb;exact ⟨a,c,e⟩
 clear ha hb;go_enter Try.func10,Try.ntmps10;go_wp2_with fail;refine (sqrtO_any HA.out lx).mono ?_;rintro e w1 ⟨r,qs,rs,q,rv,rfl,hroot,hoq,hor,hcq,hcr,hv,hl,htw,b1⟩;have HOQ := hid hoq;have HOR := hid hor;have HVV := hid (And.intro hroot (And.intro hv hl));have HTW := hid htw;obtain ⟨qa,qc,rfl⟩ := hoq.form;obtain ⟨ra,rc,rfl⟩ := hor.form;clear hoq hor hv hl hroot htw;obtain ⟨⟨⟨r0,r1,r2,r3,r4⟩,rf⟩,⟨z0,z1,z2,z3,z4⟩,zf⟩ := KEEP.out w1 b1;have rf0 := rf 0;have rf1 := rf 1;have rf2 := rf 2;have rf3 := rf 3;have rf4 := rf 4;have zf0 := zf 0;have zf1 := zf 1;have zf2 := zf 2;have zf3 := zf 3;have zf4 := zf 4;have B1 := hid (KB.out.trans (b1.mono (by rw [SZ.out];omega)));clear b1 rf zf KEEP HA HB;go_wp2;obtain ⟨WX,hWX⟩ : ∃ WX,((w1.setCell ⟨w.heap.size + 1 + 1,0,none⟩ (.slice qa qs.length qc)).setCell ⟨w.heap.size + 1 + 1,1,none⟩ (.slice ra rs.length rc)) = WX := ⟨_,rfl⟩
 have oX : Only (w.heap.size + 1 + 1) w1 WX := by rw [← hWX];exact zKD _ _
 have mX : Mid w.heap.size (w.heap.size + 1 + 1 + 1) w1 WX := by rw [← hWX];exact mid2 (by omega) (by omega) _ _
 rw [hWX];clear hWX;have nb : w.heap.size + 1 ≠ w.heap.size + 1 + 1 := by omega
 exact bodyPost_ret (zbA ((oX.cell nb).trans r0) ((oX.cell nb).trans r1) ((oX.cell nb).trans r2) ((oX.cell nb).trans r3) ((oX.cell nb).trans r4) _ (by rfl)) rfl (⟨r,qs,rs,HVV.out.1,hcq,hcr,HVV.out.2.1,HVV.out.2.2,zTA (B := (((w.alloc (zCA 5 (.slice aa xs.length ca) (.slice ab ys.length cb) W K)).alloc zBA).alloc zBA).heap.size) (by rw [SZ.out];omega) HOQ.out HOR.out HTW.out B1.out (mid5 mX (by omega) (by omega) _ _ _ _ _)⟩)
theorem plays6_bad {w : World} {va vb : Value} {xs ys : List Int} {W K : Int} (ha : Sl w.heap.size w va xs) (hb : Sl w.heap.size w vb ys) (la : xs.length ≤ 1099511627776) (lb : ys.length ≤ 1099511627776) (lx : xs.length ≤ 1048576) (ly : ys.length ≤ 1048576) (h0 : val xs = 0 ∨ val ys ≤ 1) :
  Calls Try.prog 10 #[.agg #[.int .i64 6,va,vb,.int .u64 W,.int .i64 K]] w (Ans3 w [] [] 0 0 3) := by
 have k1 : ((6 : Int) == 1) = false := by decide
 have k2 : ((6 : Int) == 2) = false := by decide
 have k3 : ((6 : Int) == 3) = false := by decide
 have k4 : ((6 : Int) == 4) = false := by decide
 have k5 : ((6 : Int) == 5) = false := by decide
 have k6 : ((6 : Int) == 6) = true := by decide
 have KB := hid (zHA w (zCA 6 va vb W K) zBA zBA);have HA := hid (ha.now KB.out);have HB := hid (hb.now KB.out);have SZ := hid (zJA w (zCA 6 va vb W K) zBA zBA);have KEEP : Hid (∀ w1,Below (((w.alloc (zCA 6 va vb W K)).alloc zBA).alloc zBA).heap.size (((w.alloc (zCA 6 va vb W K)).alloc zBA).alloc zBA) w1 → _) := fun w1 h => And.intro (boxes_kept h (w.heap.size + 1) (.inl rfl)) (boxes_kept h (w.heap.size + 1 + 1) (.inr rfl))
 obtain ⟨aa,ca,rfl⟩ : ∃ a c,va = .slice a xs.length c := by obtain ⟨_,a,c,e,_⟩ := ha;exact ⟨a,c,e⟩
 obtain ⟨ab,cb,rfl⟩ : ∃ a c,vb = .slice a ys.length c := by obtain ⟨_,a,c,e,_⟩ := hb;exact ⟨a,c,e⟩
 clear ha hb;go_enter Try.func10,Try.ntmps10;go_wp2_with fail;refine (strip3_bad HA.out HB.out h0).mono ?_;rintro e w1 ⟨rfl,b1⟩;obtain ⟨⟨⟨r0,r1,r2,r3,r4⟩,rf⟩,⟨z0,z1,z2,z3,z4⟩,zf⟩ := KEEP.out w1 b1;have rf0 := rf 0;have rf1 := rf 1;have rf2 := rf 2;have rf3 := rf 3;have rf4 := rf 4;have zf0 := zf 0;have zf1 := zf 1;have zf2 := zf 2;have zf3 := zf 3;have zf4 := zf 4;have B1 := hid (KB.out.trans (b1.mono (by rw [SZ.out];omega)));clear b1 rf zf KEEP HA HB;go_wp2;obtain ⟨WX,hWX⟩ : ∃ WX,(((w1.setCell ⟨w.heap.size + 1 + 1,3,none⟩ (.int .i64 0)).setCell ⟨w.heap.size + 1 + 1,0,none⟩ (.slice none 0 0)).setCell ⟨w.heap.size + 1 + 1,4,none⟩ (.int .i64 3)) = WX := ⟨_,rfl⟩
 have oX : Only (w.heap.size + 1 + 1) w1 WX := by rw [← hWX];exact zJD _ _ _
 have mX : Mid w.heap.size (w.heap.size + 1 + 1 + 1) w1 WX := by rw [← hWX];exact mid3 (by omega) (by omega) _ _ _
 rw [hWX];clear hWX;have nb : w.heap.size + 1 ≠ w.heap.size + 1 + 1 := by omega
 exact bodyPost_ret (zbA ((oX.cell nb).trans r0) ((oX.cell nb).trans r1) ((oX.cell nb).trans r2) ((oX.cell nb).trans r3) ((oX.cell nb).trans r4) _ (by rfl)) rfl (zTA (B := w.heap.size + 1 + 1 + 1) (Nat.le_refl _) (zRA _ _) (zRA _ _) (zKB _) B1.out (mid5 mX (by omega) (by omega) _ _ _ _ _))
theorem plays6_any {w : World} {va vb : Value} {xs ys : List Int} {W K : Int} (ha : Sl w.heap.size w va xs) (hb : Sl w.heap.size w vb ys) (la : xs.length ≤ 1099511627776) (lb : ys.length ≤ 1099511627776) (lx : xs.length ≤ 1048576) (ly : ys.length ≤ 1048576) (h1 : 0 < val xs) (h2 : 2 ≤ val ys) :
  Calls Try.prog 10 #[.agg #[.int .i64 6,va,vb,.int .u64 W,.int .i64 K]] w fun e w' => ∃ (n : Nat) (qs : List Int),zFA qs ∧ val xs = val ys ^ n * val qs ∧ zBE (val ys) (val qs) ∧ Ans3 w qs [] 0 (n : Int) 0 e w' := by
 have k1 : ((6 : Int) == 1) = false := by decide
 have k2 : ((6 : Int) == 2) = false := by decide
 have k3 : ((6 : Int) == 3) = false := by decide
 have k4 : ((6 : Int) == 4) = false := by decide
 have k5 : ((6 : Int) == 5) = false := by decide
 have k6 : ((6 : Int) == 6) = true := by decide
 have KB := hid (zHA w (zCA 6 va vb W K) zBA zBA);have HA := hid (ha.now KB.out);have HB := hid (hb.now KB.out);have SZ := hid (zJA w (zCA 6 va vb W K) zBA zBA);have KEEP : Hid (∀ w1,Below (((w.alloc (zCA 6 va vb W K)).alloc zBA).alloc zBA).heap.size (((w.alloc (zCA 6 va vb W K)).alloc zBA).alloc zBA) w1 → _) := fun w1 h => And.intro (boxes_kept h (w.heap.size + 1) (.inl rfl)) (boxes_kept h (w.heap.size + 1 + 1) (.inr rfl))
 obtain ⟨aa,ca,rfl⟩ : ∃ a c,va = .slice a xs.length c := by obtain ⟨_,a,c,e,_⟩ := ha;exact ⟨a,c,e⟩
 obtain ⟨ab,cb,rfl⟩ : ∃ a c,vb = .slice a ys.length c := by obtain ⟨_,a,c,e,_⟩ := hb;exact ⟨a,c,e⟩
 clear ha hb;go_enter Try.func10,Try.ntmps10;go_wp2_with fail;refine (strip3_any HA.out HB.out h1 h2 (by omega) (by omega)).mono ?_;rintro e w1 ⟨n,qs,q,rfl,hoq,hcq,hv,hnd,hp,hl,b1⟩;have HOQ := hid hoq;have HVV := hid (And.intro hv hnd);obtain ⟨qa,qc,rfl⟩ := hoq.form;clear hoq hv hnd hp hl;obtain ⟨⟨⟨r0,r1,r2,r3,r4⟩,rf⟩,⟨z0,z1,z2,z3,z4⟩,zf⟩ := KEEP.out w1 b1;have rf0 := rf 0;have rf1 := rf 1;have rf2 := rf 2;have rf3 := rf 3;have rf4 := rf 4;have zf0 := zf 0;have zf1 := zf 1;have zf2 := zf 2;have zf3 := zf 3;have zf4 := zf 4;have B1 := hid (KB.out.trans (b1.mono (by rw [SZ.out];omega)));clear b1 rf zf KEEP HA HB;go_wp2;obtain ⟨WX,hWX⟩ : ∃ WX,(((w1.setCell ⟨w.heap.size + 1 + 1,3,none⟩ (.int .i64 (n : Int))).setCell ⟨w.heap.size + 1 + 1,0,none⟩ (.slice qa qs.length qc)).setCell ⟨w.heap.size + 1 + 1,4,none⟩ (.int .i64 0)) = WX := ⟨_,rfl⟩
 have oX : Only (w.heap.size + 1 + 1) w1 WX := by rw [← hWX];exact zJD _ _ _
 have mX : Mid w.heap.size (w.heap.size + 1 + 1 + 1) w1 WX := by rw [← hWX];exact mid3 (by omega) (by omega) _ _ _
 rw [hWX];clear hWX;have nb : w.heap.size + 1 ≠ w.heap.size + 1 + 1 := by omega
 exact bodyPost_ret (zbA ((oX.cell nb).trans r0) ((oX.cell nb).trans r1) ((oX.cell nb).trans r2) ((oX.cell nb).trans r3) ((oX.cell nb).trans r4) _ (by rfl)) rfl (⟨n,qs,hcq,HVV.out.1,HVV.out.2,zTA (B := (((w.alloc (zCA 6 (.slice aa xs.length ca) (.slice ab ys.length cb) W K)).alloc zBA).alloc zBA).heap.size) (by rw [SZ.out];omega) HOQ.out (zRA _ _) (two_nil' _) B1.out (mid5 mX (by omega) (by omega) _ _ _ _ _)⟩)
theorem plays7_bad {w : World} {va vb : Value} {xs ys : List Int} {W K : Int} (ha : Sl w.heap.size w va xs) (hb : Sl w.heap.size w vb ys) (la : xs.length ≤ 1099511627776) (lb : ys.length ≤ 1099511627776) (h0 : K < 1) (hl : -9223372036854775808 ≤ K) :
  Calls Try.prog 10 #[.agg #[.int .i64 7,va,vb,.int .u64 W,.int .i64 K]] w (Ans3 w [] [] 0 0 3) := by
 have k1 : ((7 : Int) == 1) = false := by decide
 have k2 : ((7 : Int) == 2) = false := by decide
 have k3 : ((7 : Int) == 3) = false := by decide
 have k4 : ((7 : Int) == 4) = false := by decide
 have k5 : ((7 : Int) == 5) = false := by decide
 have k6 : ((7 : Int) == 6) = false := by decide
 have k7 : ((7 : Int) == 7) = true := by decide
 have KB := hid (zHA w (zCA 7 va vb W K) zBA zBA);have HA := hid (ha.now KB.out);have HB := hid (hb.now KB.out);have SZ := hid (zJA w (zCA 7 va vb W K) zBA zBA);have KEEP : Hid (∀ w1,Below (((w.alloc (zCA 7 va vb W K)).alloc zBA).alloc zBA).heap.size (((w.alloc (zCA 7 va vb W K)).alloc zBA).alloc zBA) w1 → _) := fun w1 h => And.intro (boxes_kept h (w.heap.size + 1) (.inl rfl)) (boxes_kept h (w.heap.size + 1 + 1) (.inr rfl))
 obtain ⟨aa,ca,rfl⟩ : ∃ a c,va = .slice a xs.length c := by obtain ⟨_,a,c,e,_⟩ := ha;exact ⟨a,c,e⟩
 obtain ⟨ab,cb,rfl⟩ : ∃ a c,vb = .slice a ys.length c := by obtain ⟨_,a,c,e,_⟩ := hb;exact ⟨a,c,e⟩
 clear ha hb;go_enter Try.func10,Try.ntmps10;go_wp2_with fail;refine (root3_bad _ _ h0 hl).mono ?_;rintro e w1 ⟨rfl,b1⟩;obtain ⟨⟨⟨r0,r1,r2,r3,r4⟩,rf⟩,⟨z0,z1,z2,z3,z4⟩,zf⟩ := KEEP.out w1 b1;have rf0 := rf 0;have rf1 := rf 1;have rf2 := rf 2;have rf3 := rf 3;have rf4 := rf 4;have zf0 := zf 0;have zf1 := zf 1;have zf2 := zf 2;have zf3 := zf 3;have zf4 := zf 4;have B1 := hid (KB.out.trans (b1.mono (by rw [SZ.out];omega)));clear b1 rf zf KEEP HA HB;go_wp2;obtain ⟨WX,hWX⟩ : ∃ WX,((w1.setCell ⟨w.heap.size + 1 + 1,0,none⟩ (.slice none 0 0)).setCell ⟨w.heap.size + 1 + 1,4,none⟩ (.int .i64 3)) = WX := ⟨_,rfl⟩
 have oX : Only (w.heap.size + 1 + 1) w1 WX := by rw [← hWX];exact zKD _ _
 have mX : Mid w.heap.size (w.heap.size + 1 + 1 + 1) w1 WX := by rw [← hWX];exact mid2 (by omega) (by omega) _ _
 rw [hWX];clear hWX;have nb : w.heap.size + 1 ≠ w.heap.size + 1 + 1 := by omega
 exact bodyPost_ret (zbA ((oX.cell nb).trans r0) ((oX.cell nb).trans r1) ((oX.cell nb).trans r2) ((oX.cell nb).trans r3) ((oX.cell nb).trans r4) _ (by rfl)) rfl (zTA (B := w.heap.size + 1 + 1 + 1) (Nat.le_refl _) (zRA _ _) (zRA _ _) (zKB _) B1.out (mid5 mX (by omega) (by omega) _ _ _ _ _))
theorem plays7_any {w : World} {va vb : Value} {xs ys : List Int} {W K : Int} (ha : Sl w.heap.size w va xs) (hb : Sl w.heap.size w vb ys) (la : xs.length ≤ 1099511627776) (lb : ys.length ≤ 1099511627776) (lx : xs.length ≤ 1048576) (ly : ys.length ≤ 1048576) {k r : Nat} (hk : 1 ≤ k) (hk2 : k < 9223372036854775808) (hroot : zlA r (vn xs) k) (hK : K = (k : Int)) :
  Calls Try.prog 10 #[.agg #[.int .i64 7,va,vb,.int .u64 W,.int .i64 K]] w fun e w' => ∃ (qs : List Int),zFA qs ∧ val qs = (r : Int) ∧ Ans3 w qs [] 0 0 0 e w' := by
 have k1 : ((7 : Int) == 1) = false := by decide
 have k2 : ((7 : Int) == 2) = false := by decide
 have k3 : ((7 : Int) == 3) = false := by decide
 have k4 : ((7 : Int) == 4) = false := by decide
 have k5 : ((7 : Int) == 5) = false := by decide
 have k6 : ((7 : Int) == 6) = false := by decide
 have k7 : ((7 : Int) == 7) = true := by decide
 have KB := hid (zHA w (zCA 7 va vb W K) zBA zBA);have HA := hid (ha.now KB.out);have HB := hid (hb.now KB.out);have SZ := hid (zJA w (zCA 7 va vb W K) zBA zBA);have KEEP : Hid (∀ w1,Below (((w.alloc (zCA 7 va vb W K)).alloc zBA).alloc zBA).heap.size (((w.alloc (zCA 7 va vb W K)).alloc zBA).alloc zBA) w1 → _) := fun w1 h => And.intro (boxes_kept h (w.heap.size + 1) (.inl rfl)) (boxes_kept h (w.heap.size + 1 + 1) (.inr rfl))
 obtain ⟨aa,ca,rfl⟩ : ∃ a c,va = .slice a xs.length c := by obtain ⟨_,a,c,e,_⟩ := ha;exact ⟨a,c,e⟩
 obtain ⟨ab,cb,rfl⟩ : ∃ a c,vb = .slice a ys.length c := by obtain ⟨_,a,c,e,_⟩ := hb;exact ⟨a,c,e⟩
 subst hK;clear ha hb;go_enter Try.func10,Try.ntmps10;go_wp2_with fail;refine (zrE HA.out hk hk2 (by omega) hroot).mono ?_;rintro e w1 ⟨qs,q,rfl,hoq,hcq,hv,b1⟩;have HOQ := hid hoq;have HVV := hid hv;obtain ⟨qa,qc,rfl⟩ := hoq.form;clear hoq hv;obtain ⟨⟨⟨r0,r1,r2,r3,r4⟩,rf⟩,⟨z0,z1,z2,z3,z4⟩,zf⟩ := KEEP.out w1 b1;have rf0 := rf 0;have rf1 := rf 1;have rf2 := rf 2;have rf3 := rf 3;have rf4 := rf 4;have zf0 := zf 0;have zf1 := zf 1;have zf2 := zf 2;have zf3 := zf 3;have zf4 := zf 4;have B1 := hid (KB.out.trans (b1.mono (by rw [SZ.out];omega)));clear b1 rf zf KEEP HA HB;go_wp2;obtain ⟨WX,hWX⟩ : ∃ WX,((w1.setCell ⟨w.heap.size + 1 + 1,0,none⟩ (.slice qa qs.length qc)).setCell ⟨w.heap.size + 1 + 1,4,none⟩ (.int .i64 0)) = WX := ⟨_,rfl⟩
 have oX : Only (w.heap.size + 1 + 1) w1 WX := by rw [← hWX];exact zKD _ _
 have mX : Mid w.heap.size (w.heap.size + 1 + 1 + 1) w1 WX := by rw [← hWX];exact mid2 (by omega) (by omega) _ _
 rw [hWX];clear hWX;have nb : w.heap.size + 1 ≠ w.heap.size + 1 + 1 := by omega
 exact bodyPost_ret (zbA ((oX.cell nb).trans r0) ((oX.cell nb).trans r1) ((oX.cell nb).trans r2) ((oX.cell nb).trans r3) ((oX.cell nb).trans r4) _ (by rfl)) rfl (⟨qs,hcq,HVV.out,zTA (B := (((w.alloc (zCA 7 (.slice aa xs.length ca) (.slice ab ys.length cb) W (k : Int))).alloc zBA).alloc zBA).heap.size) (by rw [SZ.out];omega) HOQ.out (zRA _ _) (two_nil' _) B1.out (mid5 mX (by omega) (by omega) _ _ _ _ _)⟩)
theorem wants4_any {w : World} {va vb : Value} {xs ys : List Int} {W K : Int} (ha : Sl w.heap.size w va xs) (hb : Sl w.heap.size w vb ys) (la : xs.length ≤ 1099511627776) (lb : ys.length ≤ 1099511627776)  :
  Calls Try.prog 9 #[.agg #[.int .i64 4,va,vb,.int .u64 W,.int .i64 K]] w fun e w' => ∃ qs,zFA qs ∧ val qs = (ig (val xs) (val ys) : Int) ∧ Ans3 w qs [] 0 0 0 e w' := by
 have k1 : ((4 : Int) == 1) = false := by decide
 have k2 : ((4 : Int) == 2) = false := by decide
 have k3 : ((4 : Int) == 3) = false := by decide
 have k4 : ((4 : Int) == 4) = true := by decide
 have KB := hid (zHA w (zCA 4 va vb W K) zBA zBA);have HA := hid (ha.now KB.out);have HB := hid (hb.now KB.out);have SZ := hid (zJA w (zCA 4 va vb W K) zBA zBA);have KEEP : Hid (∀ w1,Below (((w.alloc (zCA 4 va vb W K)).alloc zBA).alloc zBA).heap.size (((w.alloc (zCA 4 va vb W K)).alloc zBA).alloc zBA) w1 → _) := fun w1 h => And.intro (boxes_kept h (w.heap.size + 1) (.inl rfl)) (boxes_kept h (w.heap.size + 1 + 1) (.inr rfl))
 obtain ⟨aa,ca,rfl⟩ : ∃ a c,va = .slice a xs.length c := by obtain ⟨_,a,c,e,_⟩ := ha;exact ⟨a,c,e⟩
 obtain ⟨ab,cb,rfl⟩ : ∃ a c,vb = .slice a ys.length c := by obtain ⟨_,a,c,e,_⟩ := hb;exact ⟨a,c,e⟩
 clear ha hb;go_enter Try.func9,Try.ntmps9;go_wp2_with fail;refine (rgcd_any HA.out HB.out la lb).mono ?_;rintro e w1 ⟨qs,q,rfl,hoq,hcq,hv,b1⟩;have HOQ := hid hoq;have HVV := hid hv;obtain ⟨qa,qc,rfl⟩ := hoq.form;clear hoq hv;obtain ⟨⟨⟨r0,r1,r2,r3,r4⟩,rf⟩,⟨z0,z1,z2,z3,z4⟩,zf⟩ := KEEP.out w1 b1;have rf0 := rf 0;have rf1 := rf 1;have rf2 := rf 2;have rf3 := rf 3;have rf4 := rf 4;have zf0 := zf 0;have zf1 := zf 1;have zf2 := zf 2;have zf3 := zf 3;have zf4 := zf 4;have B1 := hid (KB.out.trans (b1.mono (by rw [SZ.out];omega)));clear b1 rf zf KEEP HA HB;go_wp2;obtain ⟨WX,hWX⟩ : ∃ WX,(w1.setCell ⟨w.heap.size + 1 + 1,0,none⟩ (.slice qa qs.length qc)) = WX := ⟨_,rfl⟩
 have oX : Only (w.heap.size + 1 + 1) w1 WX := by rw [← hWX];exact zrG _
 have mX : Mid w.heap.size (w.heap.size + 1 + 1 + 1) w1 WX := by rw [← hWX];exact mid1 (by omega) (by omega) _
 rw [hWX];clear hWX;have nb : w.heap.size + 1 ≠ w.heap.size + 1 + 1 := by omega
 exact bodyPost_ret (zaA ((oX.cell nb).trans r0) ((oX.cell nb).trans r1) ((oX.cell nb).trans r2) ((oX.cell nb).trans r3) ((oX.cell nb).trans r4) _ (by rfl)) rfl (⟨qs,hcq,HVV.out,zTA (B := (((w.alloc (zCA 4 (.slice aa xs.length ca) (.slice ab ys.length cb) W K)).alloc zBA).alloc zBA).heap.size) (by rw [SZ.out];omega) HOQ.out (zRA _ _) (two_nil' _) B1.out (mid5 mX (by omega) (by omega) _ _ _ _ _)⟩)
theorem wants5_any {w : World} {va vb : Value} {xs ys : List Int} {W K : Int} (ha : Sl w.heap.size w va xs) (hb : Sl w.heap.size w vb ys) (la : xs.length ≤ 1099511627776) (lb : ys.length ≤ 1099511627776) (lx : xs.length ≤ 1048576) (ly : ys.length ≤ 1048576)  :
  Calls Try.prog 9 #[.agg #[.int .i64 5,va,vb,.int .u64 W,.int .i64 K]] w fun e w' => ∃ (r : Nat) (qs rs : List Int),zlA r (vn xs) 2 ∧ zFA qs ∧ zFA rs ∧ val qs = (r : Int) ∧ val rs = ((vn xs - r * r : Nat) : Int) ∧ Ans3 w qs rs 0 0 0 e w' := by
 have k1 : ((5 : Int) == 1) = false := by decide
 have k2 : ((5 : Int) == 2) = false := by decide
 have k3 : ((5 : Int) == 3) = false := by decide
 have k4 : ((5 : Int) == 4) = false := by decide
 have k5 : ((5 : Int) == 5) = true := by decide
 have KB := hid (zHA w (zCA 5 va vb W K) zBA zBA);have HA := hid (ha.now KB.out);have HB := hid (hb.now KB.out);have SZ := hid (zJA w (zCA 5 va vb W K) zBA zBA);have KEEP : Hid (∀ w1,Below (((w.alloc (zCA 5 va vb W K)).alloc zBA).alloc zBA).heap.size (((w.alloc (zCA 5 va vb W K)).alloc zBA).alloc zBA) w1 → _) := fun w1 h => And.intro (boxes_kept h (w.heap.size + 1) (.inl rfl)) (boxes_kept h (w.heap.size + 1 + 1) (.inr rfl))
 obtain ⟨aa,ca,rfl⟩ : ∃ a c,va = .slice a xs.length c := by obtain ⟨_,a,c,e,_⟩ := ha;exact ⟨a,c,e⟩
 obtain ⟨ab,cb,rfl⟩ : ∃ a c,vb = .slice a ys.length c := by obtain ⟨_,a,c,e,_⟩ := hb;exact ⟨a,c,e⟩
 clear ha hb;go_enter Try.func9,Try.ntmps9;go_wp2_with fail;refine (rsqrt_any HA.out la (zNA HA.out.1)).mono ?_;rintro e w1 ⟨r,qs,rs,q,rv,rfl,hroot,hoq,hor,hcq,hcr,hv,hl,htw,b1⟩;have HOQ := hid hoq;have HOR := hid hor;have HVV := hid (And.intro hroot (And.intro hv hl));have HTW := hid htw;obtain ⟨qa,qc,rfl⟩ := hoq.form;obtain ⟨ra,rc,rfl⟩ := hor.form;clear hoq hor hv hl hroot htw;obtain ⟨⟨⟨r0,r1,r2,r3,r4⟩,rf⟩,⟨z0,z1,z2,z3,z4⟩,zf⟩ := KEEP.out w1 b1;have rf0 := rf 0;have rf1 := rf 1;have rf2 := rf 2;have rf3 := rf 3;have rf4 := rf 4;have zf0 := zf 0;have zf1 := zf 1;have zf2 := zf 2;have zf3 := zf 3;have zf4 := zf 4;have B1 := hid (KB.out.trans (b1.mono (by rw [SZ.out];omega)));clear b1 rf zf KEEP HA HB;go_wp2;obtain ⟨WX,hWX⟩ : ∃ WX,((w1.setCell ⟨w.heap.size + 1 + 1,0,none⟩ (.slice qa qs.length qc)).setCell ⟨w.heap.size + 1 + 1,1,none⟩ (.slice ra rs.length rc)) = WX := ⟨_,rfl⟩
 have oX : Only (w.heap.size + 1 + 1) w1 WX := by rw [← hWX];exact zKD _ _
 have mX : Mid w.heap.size (w.heap.size + 1 + 1 + 1) w1 WX := by rw [← hWX];exact mid2 (by omega) (by omega) _ _
 rw [hWX];clear hWX;have nb : w.heap.size + 1 ≠ w.heap.size + 1 + 1 := by omega
 exact bodyPost_ret (zaA ((oX.cell nb).trans r0) ((oX.cell nb).trans r1) ((oX.cell nb).trans r2) ((oX.cell nb).trans r3) ((oX.cell nb).trans r4) _ (by rfl)) rfl (⟨r,qs,rs,HVV.out.1,hcq,hcr,HVV.out.2.1,HVV.out.2.2,zTA (B := (((w.alloc (zCA 5 (.slice aa xs.length ca) (.slice ab ys.length cb) W K)).alloc zBA).alloc zBA).heap.size) (by rw [SZ.out];omega) HOQ.out HOR.out HTW.out B1.out (mid5 mX (by omega) (by omega) _ _ _ _ _)⟩)
theorem wants6_bad {w : World} {va vb : Value} {xs ys : List Int} {W K : Int} (ha : Sl w.heap.size w va xs) (hb : Sl w.heap.size w vb ys) (la : xs.length ≤ 1099511627776) (lb : ys.length ≤ 1099511627776) (lx : xs.length ≤ 1048576) (ly : ys.length ≤ 1048576) (h0 : val xs = 0 ∨ val ys ≤ 1) :
  Calls Try.prog 9 #[.agg #[.int .i64 6,va,vb,.int .u64 W,.int .i64 K]] w (Ans3 w [] [] 0 0 3) := by
 have k1 : ((6 : Int) == 1) = false := by decide
 have k2 : ((6 : Int) == 2) = false := by decide
 have k3 : ((6 : Int) == 3) = false := by decide
 have k4 : ((6 : Int) == 4) = false := by decide
 have k5 : ((6 : Int) == 5) = false := by decide
 have k6 : ((6 : Int) == 6) = true := by decide
 have KB := hid (zHA w (zCA 6 va vb W K) zBA zBA);have HA := hid (ha.now KB.out);have HB := hid (hb.now KB.out);have SZ := hid (zJA w (zCA 6 va vb W K) zBA zBA);have KEEP : Hid (∀ w1,Below (((w.alloc (zCA 6 va vb W K)).alloc zBA).alloc zBA).heap.size (((w.alloc (zCA 6 va vb W K)).alloc zBA).alloc zBA) w1 → _) := fun w1 h => And.intro (boxes_kept h (w.heap.size + 1) (.inl rfl)) (boxes_kept h (w.heap.size + 1 + 1) (.inr rfl))
 obtain ⟨aa,ca,rfl⟩ : ∃ a c,va = .slice a xs.length c := by obtain ⟨_,a,c,e,_⟩ := ha;exact ⟨a,c,e⟩
 obtain ⟨ab,cb,rfl⟩ : ∃ a c,vb = .slice a ys.length c := by obtain ⟨_,a,c,e,_⟩ := hb;exact ⟨a,c,e⟩
 clear ha hb;go_enter Try.func9,Try.ntmps9;go_wp2_with fail;refine (rstrip_bad HA.out HB.out lx ly h0).mono ?_;rintro e w1 ⟨rfl,b1⟩;obtain ⟨⟨⟨r0,r1,r2,r3,r4⟩,rf⟩,⟨z0,z1,z2,z3,z4⟩,zf⟩ := KEEP.out w1 b1;have rf0 := rf 0;have rf1 := rf 1;have rf2 := rf 2;have rf3 := rf 3;have rf4 := rf 4;have zf0 := zf 0;have zf1 := zf 1;have zf2 := zf 2;have zf3 := zf 3;have zf4 := zf 4;have B1 := hid (KB.out.trans (b1.mono (by rw [SZ.out];omega)));clear b1 rf zf KEEP HA HB;go_wp2;obtain ⟨WX,hWX⟩ : ∃ WX,(((w1.setCell ⟨w.heap.size + 1 + 1,3,none⟩ (.int .i64 0)).setCell ⟨w.heap.size + 1 + 1,0,none⟩ (.slice none 0 0)).setCell ⟨w.heap.size + 1 + 1,4,none⟩ (.int .i64 3)) = WX := ⟨_,rfl⟩
 have oX : Only (w.heap.size + 1 + 1) w1 WX := by rw [← hWX];exact zJD _ _ _
 have mX : Mid w.heap.size (w.heap.size + 1 + 1 + 1) w1 WX := by rw [← hWX];exact mid3 (by omega) (by omega) _ _ _
 rw [hWX];clear hWX;have nb : w.heap.size + 1 ≠ w.heap.size + 1 + 1 := by omega
 exact bodyPost_ret (zaA ((oX.cell nb).trans r0) ((oX.cell nb).trans r1) ((oX.cell nb).trans r2) ((oX.cell nb).trans r3) ((oX.cell nb).trans r4) _ (by rfl)) rfl (zTA (B := w.heap.size + 1 + 1 + 1) (Nat.le_refl _) (zRA _ _) (zRA _ _) (zKB _) B1.out (mid5 mX (by omega) (by omega) _ _ _ _ _))
theorem wants6_any {w : World} {va vb : Value} {xs ys : List Int} {W K : Int} (ha : Sl w.heap.size w va xs) (hb : Sl w.heap.size w vb ys) (la : xs.length ≤ 1099511627776) (lb : ys.length ≤ 1099511627776) (lx : xs.length ≤ 1048576) (ly : ys.length ≤ 1048576) (h1 : 0 < val xs) (h2 : 2 ≤ val ys) :
  Calls Try.prog 9 #[.agg #[.int .i64 6,va,vb,.int .u64 W,.int .i64 K]] w fun e w' => ∃ (n : Nat) (qs : List Int),zFA qs ∧ val xs = val ys ^ n * val qs ∧ zBE (val ys) (val qs) ∧ Ans3 w qs [] 0 (n : Int) 0 e w' := by
 have k1 : ((6 : Int) == 1) = false := by decide
 have k2 : ((6 : Int) == 2) = false := by decide
 have k3 : ((6 : Int) == 3) = false := by decide
 have k4 : ((6 : Int) == 4) = false := by decide
 have k5 : ((6 : Int) == 5) = false := by decide
 have k6 : ((6 : Int) == 6) = true := by decide
 have KB := hid (zHA w (zCA 6 va vb W K) zBA zBA);have HA := hid (ha.now KB.out);have HB := hid (hb.now KB.out);have SZ := hid (zJA w (zCA 6 va vb W K) zBA zBA);have KEEP : Hid (∀ w1,Below (((w.alloc (zCA 6 va vb W K)).alloc zBA).alloc zBA).heap.size (((w.alloc (zCA 6 va vb W K)).alloc zBA).alloc zBA) w1 → _) := fun w1 h => And.intro (boxes_kept h (w.heap.size + 1) (.inl rfl)) (boxes_kept h (w.heap.size + 1 + 1) (.inr rfl))
 obtain ⟨aa,ca,rfl⟩ : ∃ a c,va = .slice a xs.length c := by obtain ⟨_,a,c,e,_⟩ := ha;exact ⟨a,c,e⟩
 obtain ⟨ab,cb,rfl⟩ : ∃ a c,vb = .slice a ys.length c := by obtain ⟨_,a,c,e,_⟩ := hb;exact ⟨a,c,e⟩
 clear ha hb;go_enter Try.func9,Try.ntmps9;go_wp2_with fail;refine (rstrip_any HA.out HB.out lx ly h1 h2).mono ?_;rintro e w1 ⟨n,qs,q,rfl,hoq,hcq,hv,hnd,hp,hl,b1⟩;have HOQ := hid hoq;have HVV := hid (And.intro hv hnd);obtain ⟨qa,qc,rfl⟩ := hoq.form;clear hoq hv hnd hp hl;obtain ⟨⟨⟨r0,r1,r2,r3,r4⟩,rf⟩,⟨z0,z1,z2,z3,z4⟩,zf⟩ := KEEP.out w1 b1;have rf0 := rf 0;have rf1 := rf 1;have rf2 := rf 2;have rf3 := rf 3;have rf4 := rf 4;have zf0 := zf 0;have zf1 := zf 1;have zf2 := zf 2;have zf3 := zf 3;have zf4 := zf 4;have B1 := hid (KB.out.trans (b1.mono (by rw [SZ.out];omega)));clear b1 rf zf KEEP HA HB;go_wp2;obtain ⟨WX,hWX⟩ : ∃ WX,(((w1.setCell ⟨w.heap.size + 1 + 1,3,none⟩ (.int .i64 (n : Int))).setCell ⟨w.heap.size + 1 + 1,0,none⟩ (.slice qa qs.length qc)).setCell ⟨w.heap.size + 1 + 1,4,none⟩ (.int .i64 0)) = WX := ⟨_,rfl⟩
 have oX : Only (w.heap.size + 1 + 1) w1 WX := by rw [← hWX];exact zJD _ _ _
 have mX : Mid w.heap.size (w.heap.size + 1 + 1 + 1) w1 WX := by rw [← hWX];exact mid3 (by omega) (by omega) _ _ _
 rw [hWX];clear hWX;have nb : w.heap.size + 1 ≠ w.heap.size + 1 + 1 := by omega
 exact bodyPost_ret (zaA ((oX.cell nb).trans r0) ((oX.cell nb).trans r1) ((oX.cell nb).trans r2) ((oX.cell nb).trans r3) ((oX.cell nb).trans r4) _ (by rfl)) rfl (⟨n,qs,hcq,HVV.out.1,HVV.out.2,zTA (B := (((w.alloc (zCA 6 (.slice aa xs.length ca) (.slice ab ys.length cb) W K)).alloc zBA).alloc zBA).heap.size) (by rw [SZ.out];omega) HOQ.out (zRA _ _) (two_nil' _) B1.out (mid5 mX (by omega) (by omega) _ _ _ _ _)⟩)
theorem wants7_bad {w : World} {va vb : Value} {xs ys : List Int} {W K : Int} (ha : Sl w.heap.size w va xs) (hb : Sl w.heap.size w vb ys) (la : xs.length ≤ 1099511627776) (lb : ys.length ≤ 1099511627776) (h0 : K < 1) (hl : -9223372036854775808 ≤ K) :
  Calls Try.prog 9 #[.agg #[.int .i64 7,va,vb,.int .u64 W,.int .i64 K]] w (Ans3 w [] [] 0 0 3) := by
 have k1 : ((7 : Int) == 1) = false := by decide
 have k2 : ((7 : Int) == 2) = false := by decide
 have k3 : ((7 : Int) == 3) = false := by decide
 have k4 : ((7 : Int) == 4) = false := by decide
 have k5 : ((7 : Int) == 5) = false := by decide
 have k6 : ((7 : Int) == 6) = false := by decide
 have k7 : ((7 : Int) == 7) = true := by decide
 have KB := hid (zHA w (zCA 7 va vb W K) zBA zBA);have HA := hid (ha.now KB.out);have HB := hid (hb.now KB.out);have SZ := hid (zJA w (zCA 7 va vb W K) zBA zBA);have KEEP : Hid (∀ w1,Below (((w.alloc (zCA 7 va vb W K)).alloc zBA).alloc zBA).heap.size (((w.alloc (zCA 7 va vb W K)).alloc zBA).alloc zBA) w1 → _) := fun w1 h => And.intro (boxes_kept h (w.heap.size + 1) (.inl rfl)) (boxes_kept h (w.heap.size + 1 + 1) (.inr rfl))
 obtain ⟨aa,ca,rfl⟩ : ∃ a c,va = .slice a xs.length c := by obtain ⟨_,a,c,e,_⟩ := ha;exact ⟨a,c,e⟩
 obtain ⟨ab,cb,rfl⟩ : ∃ a c,vb = .slice a ys.length c := by obtain ⟨_,a,c,e,_⟩ := hb;exact ⟨a,c,e⟩
 clear ha hb;go_enter Try.func9,Try.ntmps9;go_wp2_with fail;refine (rroot3_bad _ _ h0 hl).mono ?_;rintro e w1 ⟨rfl,b1⟩;obtain ⟨⟨⟨r0,r1,r2,r3,r4⟩,rf⟩,⟨z0,z1,z2,z3,z4⟩,zf⟩ := KEEP.out w1 b1;have rf0 := rf 0;have rf1 := rf 1;have rf2 := rf 2;have rf3 := rf 3;have rf4 := rf 4;have zf0 := zf 0;have zf1 := zf 1;have zf2 := zf 2;have zf3 := zf 3;have zf4 := zf 4;have B1 := hid (KB.out.trans (b1.mono (by rw [SZ.out];omega)));clear b1 rf zf KEEP HA HB;go_wp2;obtain ⟨WX,hWX⟩ : ∃ WX,((w1.setCell ⟨w.heap.size + 1 + 1,0,none⟩ (.slice none 0 0)).setCell ⟨w.heap.size + 1 + 1,4,none⟩ (.int .i64 3)) = WX := ⟨_,rfl⟩
 have oX : Only (w.heap.size + 1 + 1) w1 WX := by rw [← hWX];exact zKD _ _
 have mX : Mid w.heap.size (w.heap.size + 1 + 1 + 1) w1 WX := by rw [← hWX];exact mid2 (by omega) (by omega) _ _
 rw [hWX];clear hWX;have nb : w.heap.size + 1 ≠ w.heap.size + 1 + 1 := by omega
 exact bodyPost_ret (zaA ((oX.cell nb).trans r0) ((oX.cell nb).trans r1) ((oX.cell nb).trans r2) ((oX.cell nb).trans r3) ((oX.cell nb).trans r4) _ (by rfl)) rfl (zTA (B := w.heap.size + 1 + 1 + 1) (Nat.le_refl _) (zRA _ _) (zRA _ _) (zKB _) B1.out (mid5 mX (by omega) (by omega) _ _ _ _ _))
theorem wants7_any {w : World} {va vb : Value} {xs ys : List Int} {W K : Int} (ha : Sl w.heap.size w va xs) (hb : Sl w.heap.size w vb ys) (la : xs.length ≤ 1099511627776) (lb : ys.length ≤ 1099511627776) (lx : xs.length ≤ 1048576) (ly : ys.length ≤ 1048576) {k r : Nat} (hk : 1 ≤ k) (hk2 : k < 9223372036854775808) (hroot : zlA r (vn xs) k) (hK : K = (k : Int)) :
  Calls Try.prog 9 #[.agg #[.int .i64 7,va,vb,.int .u64 W,.int .i64 K]] w fun e w' => ∃ (qs : List Int),zFA qs ∧ val qs = (r : Int) ∧ Ans3 w qs [] 0 0 0 e w' := by
 have k1 : ((7 : Int) == 1) = false := by decide
 have k2 : ((7 : Int) == 2) = false := by decide
 have k3 : ((7 : Int) == 3) = false := by decide
 have k4 : ((7 : Int) == 4) = false := by decide
 have k5 : ((7 : Int) == 5) = false := by decide
 have k6 : ((7 : Int) == 6) = false := by decide
 have k7 : ((7 : Int) == 7) = true := by decide
 have KB := hid (zHA w (zCA 7 va vb W K) zBA zBA);have HA := hid (ha.now KB.out);have HB := hid (hb.now KB.out);have SZ := hid (zJA w (zCA 7 va vb W K) zBA zBA);have KEEP : Hid (∀ w1,Below (((w.alloc (zCA 7 va vb W K)).alloc zBA).alloc zBA).heap.size (((w.alloc (zCA 7 va vb W K)).alloc zBA).alloc zBA) w1 → _) := fun w1 h => And.intro (boxes_kept h (w.heap.size + 1) (.inl rfl)) (boxes_kept h (w.heap.size + 1 + 1) (.inr rfl))
 obtain ⟨aa,ca,rfl⟩ : ∃ a c,va = .slice a xs.length c := by obtain ⟨_,a,c,e,_⟩ := ha;exact ⟨a,c,e⟩
 obtain ⟨ab,cb,rfl⟩ : ∃ a c,vb = .slice a ys.length c := by obtain ⟨_,a,c,e,_⟩ := hb;exact ⟨a,c,e⟩
 subst hK;clear ha hb;go_enter Try.func9,Try.ntmps9;go_wp2_with fail;refine (rroot_any HA.out (zNA HA.out.1) hk hk2 hroot lx).mono ?_;rintro e w1 ⟨qs,q,rfl,hoq,hcq,hv,b1⟩;have HOQ := hid hoq;have HVV := hid hv;obtain ⟨qa,qc,rfl⟩ := hoq.form;clear hoq hv;obtain ⟨⟨⟨r0,r1,r2,r3,r4⟩,rf⟩,⟨z0,z1,z2,z3,z4⟩,zf⟩ := KEEP.out w1 b1;have rf0 := rf 0;have rf1 := rf 1;have rf2 := rf 2;have rf3 := rf 3;have rf4 := rf 4;have zf0 := zf 0;have zf1 := zf 1;have zf2 := zf 2;have zf3 := zf 3;have zf4 := zf 4;have B1 := hid (KB.out.trans (b1.mono (by rw [SZ.out];omega)));clear b1 rf zf KEEP HA HB;go_wp2;obtain ⟨WX,hWX⟩ : ∃ WX,((w1.setCell ⟨w.heap.size + 1 + 1,0,none⟩ (.slice qa qs.length qc)).setCell ⟨w.heap.size + 1 + 1,4,none⟩ (.int .i64 0)) = WX := ⟨_,rfl⟩
 have oX : Only (w.heap.size + 1 + 1) w1 WX := by rw [← hWX];exact zKD _ _
 have mX : Mid w.heap.size (w.heap.size + 1 + 1 + 1) w1 WX := by rw [← hWX];exact mid2 (by omega) (by omega) _ _
 rw [hWX];clear hWX;have nb : w.heap.size + 1 ≠ w.heap.size + 1 + 1 := by omega
 exact bodyPost_ret (zaA ((oX.cell nb).trans r0) ((oX.cell nb).trans r1) ((oX.cell nb).trans r2) ((oX.cell nb).trans r3) ((oX.cell nb).trans r4) _ (by rfl)) rfl (⟨qs,hcq,HVV.out,zTA (B := (((w.alloc (zCA 7 (.slice aa xs.length ca) (.slice ab ys.length cb) W (k : Int))).alloc zBA).alloc zBA).heap.size) (by rw [SZ.out];omega) HOQ.out (zRA _ _) (two_nil' _) B1.out (mid5 mX (by omega) (by omega) _ _ _ _ _)⟩)
end Go.Proofs.Ytppddlbkdoebmaa
