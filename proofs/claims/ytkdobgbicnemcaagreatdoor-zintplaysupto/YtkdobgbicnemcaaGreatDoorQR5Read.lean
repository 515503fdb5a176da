import Derived.Test.YtkdobgbicnemcaaGreatDoorQR5CmpToTrim3
import Derived.Test.YtkdobgbicnemcaaGreatDoorQRText4ToItr4
import Derived.Test.YtkdobgbicnemcaaGreatDoorQOnto4ToRRead4
import Derived.Test.YtkdobgbicnemcaaGreatDoorQReadDec4ToZWritten
set_option maxRecDepth 100000
set_option maxHeartbeats 6400000
set_option linter.unusedVariables false
set_option linter.unusedSimpArgs false
namespace Go.Proofs.YtkdobgbicnemcaaGreatDoor
open Go.RowKit
theorem rtext5_z {w : World} {v : Value} {z : Int} {k : Nat} (h : Zi w v z k) (hk : k ≤ 1048576) :
  Calls Tryz.prog 73 #[v] w fun e w' => e = .returned (.string (ztxt z)) ∧ Below w.heap.size w w' := by
 have hv := h;obtain ⟨n,xs,a,c,rfl,s0,z0,k0⟩ := h;obtain ⟨W0,hW0⟩ : ∃ W0,w.alloc (duo (.bool n) (.slice a xs.length c)) = W0 := ⟨_,rfl⟩
 obtain ⟨b0,sz0⟩ := zEB w (duo (.bool n) (.slice a xs.length c));rw [hW0] at b0 sz0;have p0 : Duo W0 w.heap.size (.bool n) (.slice a xs.length c) := by rw [← hW0];exact Duo.new w _ _
 have HD := hid (rdec_any (s0.now b0) (by omega));rw [zWI s0.1 z0] at HD;have HSZ : Hid ((txt 10 z.natAbs).size ≤ 67108865) := by
  unfold Hid;rw [← zWI s0.1 z0];exact zoG (by omega) s0.1 (by omega)
 have HS : Hid (∀ w',Below W0.heap.size W0 w' → Calls Tryz.prog 25 #[.agg #[.bool n,.slice a xs.length c]] w' _) := fun w' h => zGB ((hv.now b0).now h) (by omega)
 have P := hid p0;have i0 := p0.c0;have i1 := p0.c1;rw [← hW0] at i0 i1;have G := hid b0;have EW := hid hW0;have EZ : Hid (∀ t,txt 10 z.natAbs = t → ztxt z = if z < 0 then ⟨#[45]⟩ ++ t else t) := fun t h => by subst h;rfl
 obtain ⟨C,hC⟩ : ∃ C,cmpI z 0 = C := ⟨_,rfl⟩
 have hcs : (C < 0 ↔ z < 0) := by rw [← hC];unfold cmpI;(repeat' split) <;> omega
 have HCS := hid hcs;rw [hC] at HS;obtain ⟨t,ht⟩ : ∃ t,txt 10 z.natAbs = t := ⟨_,rfl⟩
 replace EZ := hid (EZ.out t ht);rw [ht] at HD HSZ;obtain ⟨u,hu⟩ : ∃ u,ztxt z = u := ⟨_,rfl⟩
 rw [hu] at EZ ⊢;clear hv s0 z0 k0 hW0 b0 p0 hC ht hu hcs;go_enter Tryz.func73,Tryz.ntmps73;go_wp2_with fail;rw [EW.out];clear EW;refine HD.out.mono ?_;rintro e w1 ⟨rfl,b⟩;have HS1 := hid (HS.out _ b);have P1 := hid (P.out.step b);have G1 := hid (below_step G.out b);clear b HD HS i0 i1;have i0 := P1.out.c0;have i1 := P1.out.c1;go_wp2_with fail;refine HS1.out.mono ?_;rintro e w2 ⟨rfl,b⟩;have G2 := hid (below_step G1.out b);clear b HS1 P1 i0 i1
 by_cases h : C < 0
 ·have e1 : (⟨#[45]⟩ : ByteArray) ++ t = u := by rw [EZ.out,if_pos (HCS.out.1 h)]
  have E1 := hid e1;have hsz := HSZ.out;clear e1;go_wp2;go_ret;exact ⟨by rw [← E1.out];rfl,G2.out⟩
 ·have e1 : t = u := by rw [EZ.out,if_neg (fun q => h (HCS.out.2 q))]
  subst e1;go_wp2;go_ret;exact ⟨rfl,G2.out⟩
def zEC (w : World) (l : List UInt8) (e : Ending) (w' : World) : Prop :=
 (zgA l ∧ ∃ r,e = .returned (.tuple #[r,.int .i64 0]) ∧ Zm w.heap.size w' r (sval l) 35184372088832 ∧ Below w.heap.size w w') ∨
 (¬ zgA l ∧ e = .returned (.tuple #[.agg #[.bool false,.slice none 0 0],.int .i64 7]) ∧ Below w.heap.size w w')
theorem zsH {w : World} {l : List UInt8} (hT : Sg w) (hl : l.length ≤ 1000000000) : Calls Tryz.prog 88 #[.string ⟨l.toArray⟩] w (zEC w l) := by
 have HC : Hid (∀ w,Calls Tryz.prog 117 #[.string ⟨l.toArray⟩] w fun e w' => e = .returned (.tuple #[.bool (cutS l).1,.string ⟨(cutS l).2.toArray⟩]) ∧ w' = w) := fun w => cutSign_any w l
 have hll := cutS_len l;have HQ : Hid (∀ n d,cutS l = (n,d) → ((d ≠ [] ∧ Good 10 d) ↔ zgA l)) := fun n d e => by unfold zgA;rw [e]
 have HV : Hid (∀ n d zs,cutS l = (n,d) → WF zs → vn zs = ofD 10 (dsL d) → iv n zs = sval l) := fun n d zs e hz hv => by
  unfold sval;rw [e,← hv];simp only [iv,zJA hz]
 obtain ⟨n,d,hc⟩ : ∃ n d,cutS l = (n,d) := ⟨_,_,rfl⟩
 have b0 := (Below.refl w.heap.size w).alloc (Nat.le_refl _) zbox;have p0 := zCA (w := w) (x := .bool false) (y := .slice none 0 0) rfl;obtain ⟨W0,hW0⟩ : ∃ W0,w.alloc zbox = W0 := ⟨_,rfl⟩
 have sz0 : W0.heap.size = w.heap.size + 1 := by rw [← hW0];simp
 change Duo (w.alloc zbox) _ _ _ at p0
 rw [hW0] at b0 p0;have HR : Hid (Calls Tryz.prog 118 #[.string ⟨d.toArray⟩] W0 (zIE W0 10 d)) := readDec_any (hT.now b0) (by rw [hc] at hll;simp at hll;omega);replace HQ := hid (HQ.out n d hc);replace HV : Hid (∀ zs,WF zs → vn zs = ofD 10 (dsL d) → iv n zs = sval l) := fun zs => HV.out n d zs hc
 have EW := hid hW0;have B0 := hid b0;have PR := hid p0;rw [hc] at HC;unfold zEC;generalize sval l = V at *;generalize zgA l = TK at *;dsimp only at HC;generalize (⟨l.toArray⟩ : ByteArray) = s at *;have HRP : Hid (∀ e w',zIE W0 10 d e w' → (TK ∧ ∃ zs a c,e = .returned (.tuple #[.slice a zs.length c,.int .i64 0]) ∧ Mine W0.heap.size w' (.slice a zs.length c) zs ∧ zHA zs ∧ iv n zs = V ∧ Below W0.heap.size W0 w') ∨ (¬ TK ∧ e = .returned (.tuple #[.slice none 0 0,.int .i64 7]) ∧ Below W0.heap.size W0 w')) := fun e w' h => by
  rcases h with ⟨g,zs,a,c,h1,h2,h3,h4,h5⟩ | ⟨g,h1,h2⟩
  ·exact .inl ⟨HQ.out.1 g,zs,a,c,h1,h2,h3,HV.out zs h3.1 h4,h5⟩
  ·exact .inr ⟨fun q => g (HQ.out.2 q),h1,h2⟩
 generalize (⟨d.toArray⟩ : ByteArray) = t at *;clear hT hl hll hc hW0 b0 p0 HQ HV;go_enter Tryz.func88,Tryz.ntmps88;go_wp2_with fail;rw [EW.out];refine (HC.out _).mono ?_;rintro e w1 ⟨rfl,hw1⟩;rw [hw1];clear HC EW hw1 w1;go_wp2_with fail;refine HR.out.mono ?_;rintro e w1 h;replace h := HRP.out e w1 h;clear HR HRP;rcases h with ⟨tk,zs,a,c,rfl,m,cn,hv,b⟩ | ⟨tk,rfl,b⟩
 ·replace PR := hid (PR.out.step b)
  replace B0 := hid (below_step B0.out b);have TKh := hid tk;have M := hid m;have CN := hid cn;have HV := hid hv;have q0 : ((0 : Int) != 0) = false := rfl;clear tk m cn hv b;go_wp2_with fail;refine (zbA _ n zs.length a c M.out.len).mono ?_;rintro e w2 ⟨rfl,b⟩;replace PR := hid (PR.out.step b);replace B0 := hid (below_step B0.out b);replace M := hid (M.out.below b);have r0 := PR.out.c0;have r1 := PR.out.c1;have f0 := PR.out.fz 0;have f1 := PR.out.fz 1;have Z := hid (ziF (n := n) M.out CN.out M.out.len);rw [HV.out] at Z;clear b;go_wp2;exact bodyPost_ret (zWA Tryz.results88 (PR.out.set _ _) _ (by rfl) (by rfl)) rfl (.inl ⟨TKh.out,_,rfl,(Z.out.box PR.out _ _).mono (by omega),bset (bset B0.out (by omega)) (by omega)⟩)
 ·replace PR := hid (PR.out.step b)
  replace B0 := hid (below_step B0.out b);have TKh := hid tk;have q7 : ((7 : Int) != 0) = true := rfl;have r0 := PR.out.c0;have r1 := PR.out.c1;have f0 := PR.out.fz 0;have f1 := PR.out.fz 1;clear tk b;go_wp2;exact bodyPost_ret (zWA Tryz.results88 (PR.out.set _ _) _ (by rfl) (by rfl)) rfl (.inr ⟨TKh.out,rfl,bset (bset B0.out (by omega)) (by omega)⟩)
theorem zyB {l : List UInt8} (hg : Good 10 l) : ofD 10 (dsL l) < 10 ^ l.length := by
 have h := zdI (B := 10) (by omega) (dsL l) (fun d hd => by
  obtain ⟨b,hb,rfl⟩ := List.mem_map.1 hd;exact hg b hb)
 rw [show (dsL l).length = l.length by simp [dsL]] at h;exact h
theorem zZB (l : List UInt8) (i : Nat) (h : i < (⟨l.toArray⟩ : ByteArray).size) (h' : i < l.length) : (⟨l.toArray⟩ : ByteArray)[i]'h = l[i] := rfl
theorem rread5_plus {w : World} {l : List UInt8} (hl : l.length ≤ 100000000) (hn : 1 ≤ l.length) (h0 : l[0] = 43) (hc : cutS l = (false,l.drop 1)) :
  Calls Tryz.prog 74 #[.string ⟨l.toArray⟩] w (zEC w l) := by
 have hsz : (⟨l.toArray⟩ : ByteArray).size = l.length := zqA l;have HQ : Hid ((l.drop 1 ≠ [] ∧ Good 10 (l.drop 1)) ↔ zgA l) := by unfold Hid zgA;rw [hc]
 have HV : Hid (∀ zs,WF zs → vn zs = ofD 10 (dsL (l.drop 1)) → iv false zs = sval l) := fun zs hz hv => by
  unfold sval;rw [hc,← hv];simp only [iv,zJA hz]
 obtain ⟨W0,hW0⟩ : ∃ W0,w.alloc zbox = W0 := ⟨_,rfl⟩
 obtain ⟨b0,sz0⟩ := zEB w zbox;rw [hW0] at b0 sz0;have p0 : Duo W0 w.heap.size (.bool false) (.slice none 0 0) := by rw [← hW0];exact Duo.new w _ _
 have hdl : (l.drop 1).length ≤ 100000000 := by simp;omega
 have HR : Hid (Calls Tryz.prog 106 #[.string ⟨(l.drop 1).toArray⟩] W0 (zOB W0 10 (l.drop 1))) := zpA hdl;have hex : (⟨l.toArray⟩ : ByteArray).extract 1 l.length = ⟨(l.drop 1).toArray⟩ := by rw [← hsz];exact zMB l 1 (by omega)
 have HEX := hid hex;clear hex;have hs0 : ∀ h,(⟨l.toArray⟩ : ByteArray)[0]'h = 43 := fun h => by rw [zZB l 0 h (by omega)];exact h0
 have EW := hid hW0;have B0 := hid b0;have PR := hid p0;have HRP : Hid (∀ e w',zOB W0 10 (l.drop 1) e w' → (zgA l ∧ ∃ zs a c,e = .returned (.tuple #[.slice a zs.length c,.int .i64 0]) ∧ Sl w'.heap.size w' (.slice a zs.length c) zs ∧ zHA zs ∧ iv false zs = sval l ∧ zs.length ≤ 100000000 ∧ Below W0.heap.size W0 w') ∨ (¬ zgA l ∧ e = .returned (.tuple #[.slice none 0 0,.int .i64 7]) ∧ Below W0.heap.size W0 w')) := fun e w' h => by
  rcases h with ⟨g,zs,a,c,h1,h2,h3,h4,h5⟩ | ⟨g,h1,h2⟩
  ·refine .inl ⟨HQ.out.1 g,zs,a,c,h1,h2,h3,HV.out zs h3.1 h4,Nat.le_trans (zSA (n := (l.drop 1).length) h3 ?_) hdl,h5⟩
   have q := zyB g.2;rw [← h4] at q;have q2 := zKD (l.drop 1).length;have q3 := zJA h3.1;omega
  ·exact .inr ⟨fun q => g (HQ.out.2 q),h1,h2⟩
 unfold zEC;generalize sval l = V at *;generalize zgA l = TK at *;generalize (⟨(l.drop 1).toArray⟩ : ByteArray) = t at *;clear HQ HV hdl h0;generalize (⟨l.toArray⟩ : ByteArray) = s at *;generalize l.length = n at *;clear hl hc hW0 b0 p0;go_enter Tryz.func74,Tryz.ntmps74;go_wp2_with fail;rw [EW.out,HEX.out];clear EW HEX;refine HR.out.mono ?_;rintro e w1 h;replace h := HRP.out e w1 h;clear HR HRP;rcases h with ⟨tk,zs,a,c,rfl,m,cn,hv,hzl,b⟩ | ⟨tk,rfl,b⟩
 ·replace PR := hid (PR.out.step b)
  replace B0 := hid (below_step B0.out b);have TKh := hid tk;have HL := hid (znB (n := false) m (by omega));have hle := B0.out.size;rw [hv] at HL;have q0 : ((0 : Int) != 0) = false := rfl;clear tk m cn hv b;go_wp2_with fail;refine HL.out.mono ?_;rintro e w2 ⟨r,rfl,m,b⟩;obtain ⟨nr,xr,ar,cr,rfl,-,-,-,-,-⟩ := id m;replace PR := hid (PR.out.step b);replace B0 := hid (below_step B0.out b);have Z := hid (m.mono (B' := w.heap.size) hle);have r0 := PR.out.c0;have r1 := PR.out.c1;have f0 := PR.out.fz 0;have f1 := PR.out.fz 1;clear b m HL;go_wp2;exact bodyPost_ret (zWA Tryz.results74 (PR.out.set _ _) _ (by rfl) (by rfl)) rfl (.inl ⟨TKh.out,_,rfl,(Z.out.box PR.out _ _).more (by omega),bset (bset B0.out (by omega)) (by omega)⟩)
 ·replace PR := hid (PR.out.step b)
  replace B0 := hid (below_step B0.out b);have TKh := hid tk;have q7 : ((7 : Int) != 0) = true := rfl;have r0 := PR.out.c0;have r1 := PR.out.c1;have f0 := PR.out.fz 0;have f1 := PR.out.fz 1;clear tk b;go_wp2;exact bodyPost_ret (zWA Tryz.results74 (PR.out.set _ _) _ (by rfl) (by rfl)) rfl (.inr ⟨TKh.out,rfl,bset (bset B0.out (by omega)) (by omega)⟩)
theorem rread5_minus {w : World} {l : List UInt8} (hl : l.length ≤ 100000000) (hn : 1 ≤ l.length) (h0 : l[0] = 45) (hc : cutS l = (true,l.drop 1)) :
  Calls Tryz.prog 74 #[.string ⟨l.toArray⟩] w (zEC w l) := by
 have hsz : (⟨l.toArray⟩ : ByteArray).size = l.length := zqA l;have HQ : Hid ((l.drop 1 ≠ [] ∧ Good 10 (l.drop 1)) ↔ zgA l) := by unfold Hid zgA;rw [hc]
 have HV : Hid (∀ zs,WF zs → vn zs = ofD 10 (dsL (l.drop 1)) → iv true zs = sval l) := fun zs hz hv => by
  unfold sval;rw [hc,← hv];simp only [iv,zJA hz]
 obtain ⟨W0,hW0⟩ : ∃ W0,w.alloc zbox = W0 := ⟨_,rfl⟩
 obtain ⟨b0,sz0⟩ := zEB w zbox;rw [hW0] at b0 sz0;have p0 : Duo W0 w.heap.size (.bool false) (.slice none 0 0) := by rw [← hW0];exact Duo.new w _ _
 have hdl : (l.drop 1).length ≤ 100000000 := by simp;omega
 have HR : Hid (Calls Tryz.prog 106 #[.string ⟨(l.drop 1).toArray⟩] W0 (zOB W0 10 (l.drop 1))) := zpA hdl;have hex : (⟨l.toArray⟩ : ByteArray).extract 1 l.length = ⟨(l.drop 1).toArray⟩ := by rw [← hsz];exact zMB l 1 (by omega)
 have HEX := hid hex;clear hex;have hs0 : ∀ h,(⟨l.toArray⟩ : ByteArray)[0]'h = 45 := fun h => by rw [zZB l 0 h (by omega)];exact h0
 have EW := hid hW0;have B0 := hid b0;have PR := hid p0;have HRP : Hid (∀ e w',zOB W0 10 (l.drop 1) e w' → (zgA l ∧ ∃ zs a c,e = .returned (.tuple #[.slice a zs.length c,.int .i64 0]) ∧ Sl w'.heap.size w' (.slice a zs.length c) zs ∧ zHA zs ∧ iv true zs = sval l ∧ zs.length ≤ 100000000 ∧ Below W0.heap.size W0 w') ∨ (¬ zgA l ∧ e = .returned (.tuple #[.slice none 0 0,.int .i64 7]) ∧ Below W0.heap.size W0 w')) := fun e w' h => by
  rcases h with ⟨g,zs,a,c,h1,h2,h3,h4,h5⟩ | ⟨g,h1,h2⟩
  ·refine .inl ⟨HQ.out.1 g,zs,a,c,h1,h2,h3,HV.out zs h3.1 h4,Nat.le_trans (zSA (n := (l.drop 1).length) h3 ?_) hdl,h5⟩
   have q := zyB g.2;rw [← h4] at q;have q2 := zKD (l.drop 1).length;have q3 := zJA h3.1;omega
  ·exact .inr ⟨fun q => g (HQ.out.2 q),h1,h2⟩
 unfold zEC;generalize sval l = V at *;generalize zgA l = TK at *;generalize (⟨(l.drop 1).toArray⟩ : ByteArray) = t at *;clear HQ HV hdl h0;generalize (⟨l.toArray⟩ : ByteArray) = s at *;generalize l.length = n at *;clear hl hc hW0 b0 p0;go_enter Tryz.func74,Tryz.ntmps74;go_wp2_with fail;rw [EW.out,HEX.out];clear EW HEX;refine HR.out.mono ?_;rintro e w1 h;replace h := HRP.out e w1 h;clear HR HRP;rcases h with ⟨tk,zs,a,c,rfl,m,cn,hv,hzl,b⟩ | ⟨tk,rfl,b⟩
 ·replace PR := hid (PR.out.step b)
  replace B0 := hid (below_step B0.out b);have TKh := hid tk;have HL := hid (znB (n := true) m (by omega));have hle := B0.out.size;rw [hv] at HL;have q0 : ((0 : Int) != 0) = false := rfl;clear tk m cn hv b;go_wp2_with fail;refine HL.out.mono ?_;rintro e w2 ⟨r,rfl,m,b⟩;obtain ⟨nr,xr,ar,cr,rfl,-,-,-,-,-⟩ := id m;replace PR := hid (PR.out.step b);replace B0 := hid (below_step B0.out b);have Z := hid (m.mono (B' := w.heap.size) hle);have r0 := PR.out.c0;have r1 := PR.out.c1;have f0 := PR.out.fz 0;have f1 := PR.out.fz 1;clear b m HL;go_wp2;exact bodyPost_ret (zWA Tryz.results74 (PR.out.set _ _) _ (by rfl) (by rfl)) rfl (.inl ⟨TKh.out,_,rfl,(Z.out.box PR.out _ _).more (by omega),bset (bset B0.out (by omega)) (by omega)⟩)
 ·replace PR := hid (PR.out.step b)
  replace B0 := hid (below_step B0.out b);have TKh := hid tk;have q7 : ((7 : Int) != 0) = true := rfl;have r0 := PR.out.c0;have r1 := PR.out.c1;have f0 := PR.out.fz 0;have f1 := PR.out.fz 1;clear tk b;go_wp2;exact bodyPost_ret (zWA Tryz.results74 (PR.out.set _ _) _ (by rfl) (by rfl)) rfl (.inr ⟨TKh.out,rfl,bset (bset B0.out (by omega)) (by omega)⟩)
theorem rread5_long {w : World} {l : List UInt8} (hl : l.length ≤ 100000000) (hn : 3 ≤ l.length) (h0 : l[0] = 226) (h1 : l[1] = 136) (h2 : l[2] = 146) (hc : cutS l = (true,l.drop 3)) :
  Calls Tryz.prog 74 #[.string ⟨l.toArray⟩] w (zEC w l) := by
 have hsz : (⟨l.toArray⟩ : ByteArray).size = l.length := zqA l;have HQ : Hid ((l.drop 3 ≠ [] ∧ Good 10 (l.drop 3)) ↔ zgA l) := by unfold Hid zgA;rw [hc]
 have HV : Hid (∀ zs,WF zs → vn zs = ofD 10 (dsL (l.drop 3)) → iv true zs = sval l) := fun zs hz hv => by
  unfold sval;rw [hc,← hv];simp only [iv,zJA hz]
 obtain ⟨W0,hW0⟩ : ∃ W0,w.alloc zbox = W0 := ⟨_,rfl⟩
 obtain ⟨b0,sz0⟩ := zEB w zbox;rw [hW0] at b0 sz0;have p0 : Duo W0 w.heap.size (.bool false) (.slice none 0 0) := by rw [← hW0];exact Duo.new w _ _
 have hdl : (l.drop 3).length ≤ 100000000 := by simp;omega
 have HR : Hid (Calls Tryz.prog 106 #[.string ⟨(l.drop 3).toArray⟩] W0 (zOB W0 10 (l.drop 3))) := zpA hdl;have hex : (⟨l.toArray⟩ : ByteArray).extract 3 l.length = ⟨(l.drop 3).toArray⟩ := by rw [← hsz];exact zMB l 3 (by omega)
 have HEX := hid hex;clear hex;have hs0 : ∀ h,(⟨l.toArray⟩ : ByteArray)[0]'h = 226 := fun h => by rw [zZB l 0 h (by omega)];exact h0
 have hs1 : ∀ h,(⟨l.toArray⟩ : ByteArray)[1]'h = 136 := fun h => by rw [zZB l 1 h (by omega)];exact h1
 have hs2 : ∀ h,(⟨l.toArray⟩ : ByteArray)[2]'h = 146 := fun h => by rw [zZB l 2 h (by omega)];exact h2
 have EW := hid hW0;have B0 := hid b0;have PR := hid p0;have HRP : Hid (∀ e w',zOB W0 10 (l.drop 3) e w' → (zgA l ∧ ∃ zs a c,e = .returned (.tuple #[.slice a zs.length c,.int .i64 0]) ∧ Sl w'.heap.size w' (.slice a zs.length c) zs ∧ zHA zs ∧ iv true zs = sval l ∧ zs.length ≤ 100000000 ∧ Below W0.heap.size W0 w') ∨ (¬ zgA l ∧ e = .returned (.tuple #[.slice none 0 0,.int .i64 7]) ∧ Below W0.heap.size W0 w')) := fun e w' h => by
  rcases h with ⟨g,zs,a,c,h1,h2,h3,h4,h5⟩ | ⟨g,h1,h2⟩
  ·refine .inl ⟨HQ.out.1 g,zs,a,c,h1,h2,h3,HV.out zs h3.1 h4,Nat.le_trans (zSA (n := (l.drop 3).length) h3 ?_) hdl,h5⟩
   have q := zyB g.2;rw [← h4] at q;have q2 := zKD (l.drop 3).length;have q3 := zJA h3.1;omega
  ·exact .inr ⟨fun q => g (HQ.out.2 q),h1,h2⟩
 unfold zEC;generalize sval l = V at *;generalize zgA l = TK at *;generalize (⟨(l.drop 3).toArray⟩ : ByteArray) = t at *;clear HQ HV hdl h0 h1 h2;generalize (⟨l.toArray⟩ : ByteArray) = s at *;generalize l.length = n at *;clear hl hc hW0 b0 p0;go_enter Tryz.func74,Tryz.ntmps74;go_wp2_with fail;rw [EW.out,HEX.out];clear EW HEX;refine HR.out.mono ?_;rintro e w1 h;replace h := HRP.out e w1 h;clear HR HRP;rcases h with ⟨tk,zs,a,c,rfl,m,cn,hv,hzl,b⟩ | ⟨tk,rfl,b⟩
 ·replace PR := hid (PR.out.step b)
  replace B0 := hid (below_step B0.out b);have TKh := hid tk;have HL := hid (znB (n := true) m (by omega));have hle := B0.out.size;rw [hv] at HL;have q0 : ((0 : Int) != 0) = false := rfl;clear tk m cn hv b;go_wp2_with fail;refine HL.out.mono ?_;rintro e w2 ⟨r,rfl,m,b⟩;obtain ⟨nr,xr,ar,cr,rfl,-,-,-,-,-⟩ := id m;replace PR := hid (PR.out.step b);replace B0 := hid (below_step B0.out b);have Z := hid (m.mono (B' := w.heap.size) hle);have r0 := PR.out.c0;have r1 := PR.out.c1;have f0 := PR.out.fz 0;have f1 := PR.out.fz 1;clear b m HL;go_wp2;exact bodyPost_ret (zWA Tryz.results74 (PR.out.set _ _) _ (by rfl) (by rfl)) rfl (.inl ⟨TKh.out,_,rfl,(Z.out.box PR.out _ _).more (by omega),bset (bset B0.out (by omega)) (by omega)⟩)
 ·replace PR := hid (PR.out.step b)
  replace B0 := hid (below_step B0.out b);have TKh := hid tk;have q7 : ((7 : Int) != 0) = true := rfl;have r0 := PR.out.c0;have r1 := PR.out.c1;have f0 := PR.out.fz 0;have f1 := PR.out.fz 1;clear tk b;go_wp2;exact bodyPost_ret (zWA Tryz.results74 (PR.out.set _ _) _ (by rfl) (by rfl)) rfl (.inr ⟨TKh.out,rfl,bset (bset B0.out (by omega)) (by omega)⟩)
theorem rread5_none {w : World} {l : List UInt8} (hl : l.length ≤ 100000000) (hn : l.length = 0) (hc : cutS l = (false,l.drop 0)) :
  Calls Tryz.prog 74 #[.string ⟨l.toArray⟩] w (zEC w l) := by
 have hsz : (⟨l.toArray⟩ : ByteArray).size = l.length := zqA l;have HQ : Hid ((l.drop 0 ≠ [] ∧ Good 10 (l.drop 0)) ↔ zgA l) := by unfold Hid zgA;rw [hc]
 have HV : Hid (∀ zs,WF zs → vn zs = ofD 10 (dsL (l.drop 0)) → iv false zs = sval l) := fun zs hz hv => by
  unfold sval;rw [hc,← hv];simp only [iv,zJA hz]
 obtain ⟨W0,hW0⟩ : ∃ W0,w.alloc zbox = W0 := ⟨_,rfl⟩
 obtain ⟨b0,sz0⟩ := zEB w zbox;rw [hW0] at b0 sz0;have p0 : Duo W0 w.heap.size (.bool false) (.slice none 0 0) := by rw [← hW0];exact Duo.new w _ _
 have hdl : (l.drop 0).length ≤ 100000000 := by simp;omega
 have HR : Hid (Calls Tryz.prog 106 #[.string ⟨(l.drop 0).toArray⟩] W0 (zOB W0 10 (l.drop 0))) := zpA hdl;have hex : (⟨l.toArray⟩ : ByteArray).extract 0 l.length = ⟨(l.drop 0).toArray⟩ := by rw [← hsz];exact zMB l 0 (by omega)
 have HEX := hid hex;clear hex;have HET : Hid ((⟨(l.drop 0).toArray⟩ : ByteArray) = ByteArray.empty) := by unfold Hid;rw [List.drop_zero,List.eq_nil_of_length_eq_zero hn];rfl
 have EW := hid hW0;have B0 := hid b0;have PR := hid p0;have HRP : Hid (∀ e w',zOB W0 10 (l.drop 0) e w' → (zgA l ∧ ∃ zs a c,e = .returned (.tuple #[.slice a zs.length c,.int .i64 0]) ∧ Sl w'.heap.size w' (.slice a zs.length c) zs ∧ zHA zs ∧ iv false zs = sval l ∧ zs.length ≤ 100000000 ∧ Below W0.heap.size W0 w') ∨ (¬ zgA l ∧ e = .returned (.tuple #[.slice none 0 0,.int .i64 7]) ∧ Below W0.heap.size W0 w')) := fun e w' h => by
  rcases h with ⟨g,zs,a,c,h1,h2,h3,h4,h5⟩ | ⟨g,h1,h2⟩
  ·refine .inl ⟨HQ.out.1 g,zs,a,c,h1,h2,h3,HV.out zs h3.1 h4,Nat.le_trans (zSA (n := (l.drop 0).length) h3 ?_) hdl,h5⟩
   have q := zyB g.2;rw [← h4] at q;have q2 := zKD (l.drop 0).length;have q3 := zJA h3.1;omega
  ·exact .inr ⟨fun q => g (HQ.out.2 q),h1,h2⟩
 unfold zEC;generalize sval l = V at *;generalize zgA l = TK at *;generalize (⟨(l.drop 0).toArray⟩ : ByteArray) = t at *;clear HQ HV hdl;generalize (⟨l.toArray⟩ : ByteArray) = s at *;generalize l.length = n at *;clear hl hc hW0 b0 p0;go_enter Tryz.func74,Tryz.ntmps74;go_wp2_with fail;rw [EW.out,← HET.out];clear EW HEX;refine HR.out.mono ?_;rintro e w1 h;replace h := HRP.out e w1 h;clear HR HRP;rcases h with ⟨tk,zs,a,c,rfl,m,cn,hv,hzl,b⟩ | ⟨tk,rfl,b⟩
 ·replace PR := hid (PR.out.step b)
  replace B0 := hid (below_step B0.out b);have TKh := hid tk;have HL := hid (znB (n := false) m (by omega));have hle := B0.out.size;rw [hv] at HL;have q0 : ((0 : Int) != 0) = false := rfl;clear tk m cn hv b;go_wp2_with fail;refine HL.out.mono ?_;rintro e w2 ⟨r,rfl,m,b⟩;obtain ⟨nr,xr,ar,cr,rfl,-,-,-,-,-⟩ := id m;replace PR := hid (PR.out.step b);replace B0 := hid (below_step B0.out b);have Z := hid (m.mono (B' := w.heap.size) hle);have r0 := PR.out.c0;have r1 := PR.out.c1;have f0 := PR.out.fz 0;have f1 := PR.out.fz 1;clear b m HL;go_wp2;exact bodyPost_ret (zWA Tryz.results74 (PR.out.set _ _) _ (by rfl) (by rfl)) rfl (.inl ⟨TKh.out,_,rfl,(Z.out.box PR.out _ _).more (by omega),bset (bset B0.out (by omega)) (by omega)⟩)
 ·replace PR := hid (PR.out.step b)
  replace B0 := hid (below_step B0.out b);have TKh := hid tk;have q7 : ((7 : Int) != 0) = true := rfl;have r0 := PR.out.c0;have r1 := PR.out.c1;have f0 := PR.out.fz 0;have f1 := PR.out.fz 1;clear tk b;go_wp2;exact bodyPost_ret (zWA Tryz.results74 (PR.out.set _ _) _ (by rfl) (by rfl)) rfl (.inr ⟨TKh.out,rfl,bset (bset B0.out (by omega)) (by omega)⟩)
theorem zjH {c : UInt8} (h : c ≠ 43) : ((c.toNat : Int) == 43) = false := by
 rw [beq_eq_false_iff_ne];intro e;have e2 : c.toNat = 43 := by omega
 exact h (UInt8.toNat_inj.1 e2)
theorem ziH {c : UInt8} (h : c ≠ 45) : ((c.toNat : Int) == 45) = false := by
 rw [beq_eq_false_iff_ne];intro e;have e2 : c.toNat = 45 := by omega
 exact h (UInt8.toNat_inj.1 e2)
theorem u8_ne226 {c : UInt8} (h : c ≠ 226) : ((c.toNat : Int) == 226) = false := by
 rw [beq_eq_false_iff_ne];intro e;have e2 : c.toNat = 226 := by omega
 exact h (UInt8.toNat_inj.1 e2)
theorem u8_ne136 {c : UInt8} (h : c ≠ 136) : ((c.toNat : Int) == 136) = false := by
 rw [beq_eq_false_iff_ne];intro e;have e2 : c.toNat = 136 := by omega
 exact h (UInt8.toNat_inj.1 e2)
theorem u8_ne146 {c : UInt8} (h : c ≠ 146) : ((c.toNat : Int) == 146) = false := by
 rw [beq_eq_false_iff_ne];intro e;have e2 : c.toNat = 146 := by omega
 exact h (UInt8.toNat_inj.1 e2)
theorem ztD {w : World} {l : List UInt8} (hl : l.length ≤ 100000000) (hn : 1 ≤ l.length) (h043 : l[0] ≠ 43) (h045 : l[0] ≠ 45) (hn2 : l.length ≤ 2) (hc : cutS l = (false,l.drop 0)) :
  Calls Tryz.prog 74 #[.string ⟨l.toArray⟩] w (zEC w l) := by
 have hsz : (⟨l.toArray⟩ : ByteArray).size = l.length := zqA l;have HQ : Hid ((l.drop 0 ≠ [] ∧ Good 10 (l.drop 0)) ↔ zgA l) := by unfold Hid zgA;rw [hc]
 have HV : Hid (∀ zs,WF zs → vn zs = ofD 10 (dsL (l.drop 0)) → iv false zs = sval l) := fun zs hz hv => by
  unfold sval;rw [hc,← hv];simp only [iv,zJA hz]
 obtain ⟨W0,hW0⟩ : ∃ W0,w.alloc zbox = W0 := ⟨_,rfl⟩
 obtain ⟨b0,sz0⟩ := zEB w zbox;rw [hW0] at b0 sz0;have p0 : Duo W0 w.heap.size (.bool false) (.slice none 0 0) := by rw [← hW0];exact Duo.new w _ _
 have hdl : (l.drop 0).length ≤ 100000000 := by simp;omega
 have HR : Hid (Calls Tryz.prog 106 #[.string ⟨(l.drop 0).toArray⟩] W0 (zOB W0 10 (l.drop 0))) := zpA hdl;have hex : (⟨l.toArray⟩ : ByteArray).extract 0 l.length = ⟨(l.drop 0).toArray⟩ := by rw [← hsz];exact zMB l 0 (by omega)
 have HEX := hid hex;clear hex;obtain ⟨c0,hc0⟩ : ∃ c,l[0]'(by omega) = c := ⟨_,rfl⟩
 have hs0 : ∀ h,(⟨l.toArray⟩ : ByteArray)[0]'h = c0 := fun h => by rw [zZB l 0 h (by omega)];exact hc0
 have hb043 : ((c0.toNat : Int) == 43) = false := by rw [← hc0];exact zjH h043
 have hb045 : ((c0.toNat : Int) == 45) = false := by rw [← hc0];exact ziH h045
 clear hc0;have EW := hid hW0;have B0 := hid b0;have PR := hid p0;have HRP : Hid (∀ e w',zOB W0 10 (l.drop 0) e w' → (zgA l ∧ ∃ zs a c,e = .returned (.tuple #[.slice a zs.length c,.int .i64 0]) ∧ Sl w'.heap.size w' (.slice a zs.length c) zs ∧ zHA zs ∧ iv false zs = sval l ∧ zs.length ≤ 100000000 ∧ Below W0.heap.size W0 w') ∨ (¬ zgA l ∧ e = .returned (.tuple #[.slice none 0 0,.int .i64 7]) ∧ Below W0.heap.size W0 w')) := fun e w' h => by
  rcases h with ⟨g,zs,a,c,h1,h2,h3,h4,h5⟩ | ⟨g,h1,h2⟩
  ·refine .inl ⟨HQ.out.1 g,zs,a,c,h1,h2,h3,HV.out zs h3.1 h4,Nat.le_trans (zSA (n := (l.drop 0).length) h3 ?_) hdl,h5⟩
   have q := zyB g.2;rw [← h4] at q;have q2 := zKD (l.drop 0).length;have q3 := zJA h3.1;omega
  ·exact .inr ⟨fun q => g (HQ.out.2 q),h1,h2⟩
 unfold zEC;generalize sval l = V at *;generalize zgA l = TK at *;generalize (⟨(l.drop 0).toArray⟩ : ByteArray) = t at *;clear HQ HV hdl h043 h045;generalize (⟨l.toArray⟩ : ByteArray) = s at *;generalize l.length = n at *;clear hl hc hW0 b0 p0;go_enter Tryz.func74,Tryz.ntmps74;go_wp2_with fail;rw [EW.out,HEX.out];clear EW HEX;refine HR.out.mono ?_;rintro e w1 h;replace h := HRP.out e w1 h;clear HR HRP;rcases h with ⟨tk,zs,a,c,rfl,m,cn,hv,hzl,b⟩ | ⟨tk,rfl,b⟩
 ·replace PR := hid (PR.out.step b)
  replace B0 := hid (below_step B0.out b);have TKh := hid tk;have HL := hid (znB (n := false) m (by omega));have hle := B0.out.size;rw [hv] at HL;have q0 : ((0 : Int) != 0) = false := rfl;clear tk m cn hv b;go_wp2_with fail;refine HL.out.mono ?_;rintro e w2 ⟨r,rfl,m,b⟩;obtain ⟨nr,xr,ar,cr,rfl,-,-,-,-,-⟩ := id m;replace PR := hid (PR.out.step b);replace B0 := hid (below_step B0.out b);have Z := hid (m.mono (B' := w.heap.size) hle);have r0 := PR.out.c0;have r1 := PR.out.c1;have f0 := PR.out.fz 0;have f1 := PR.out.fz 1;clear b m HL;go_wp2;exact bodyPost_ret (zWA Tryz.results74 (PR.out.set _ _) _ (by rfl) (by rfl)) rfl (.inl ⟨TKh.out,_,rfl,(Z.out.box PR.out _ _).more (by omega),bset (bset B0.out (by omega)) (by omega)⟩)
 ·replace PR := hid (PR.out.step b)
  replace B0 := hid (below_step B0.out b);have TKh := hid tk;have q7 : ((7 : Int) != 0) = true := rfl;have r0 := PR.out.c0;have r1 := PR.out.c1;have f0 := PR.out.fz 0;have f1 := PR.out.fz 1;clear tk b;go_wp2;exact bodyPost_ret (zWA Tryz.results74 (PR.out.set _ _) _ (by rfl) (by rfl)) rfl (.inr ⟨TKh.out,rfl,bset (bset B0.out (by omega)) (by omega)⟩)
theorem rread5_x0 {w : World} {l : List UInt8} (hl : l.length ≤ 100000000) (hn : 3 ≤ l.length) (h043 : l[0] ≠ 43) (h045 : l[0] ≠ 45) (h0226 : l[0] ≠ 226) (hc : cutS l = (false,l.drop 0)) :
  Calls Tryz.prog 74 #[.string ⟨l.toArray⟩] w (zEC w l) := by
 have hsz : (⟨l.toArray⟩ : ByteArray).size = l.length := zqA l;have HQ : Hid ((l.drop 0 ≠ [] ∧ Good 10 (l.drop 0)) ↔ zgA l) := by unfold Hid zgA;rw [hc]
 have HV : Hid (∀ zs,WF zs → vn zs = ofD 10 (dsL (l.drop 0)) → iv false zs = sval l) := fun zs hz hv => by
  unfold sval;rw [hc,← hv];simp only [iv,zJA hz]
 obtain ⟨W0,hW0⟩ : ∃ W0,w.alloc zbox = W0 := ⟨_,rfl⟩
 obtain ⟨b0,sz0⟩ := zEB w zbox;rw [hW0] at b0 sz0;have p0 : Duo W0 w.heap.size (.bool false) (.slice none 0 0) := by rw [← hW0];exact Duo.new w _ _
 have hdl : (l.drop 0).length ≤ 100000000 := by simp;omega
 have HR : Hid (Calls Tryz.prog 106 #[.string ⟨(l.drop 0).toArray⟩] W0 (zOB W0 10 (l.drop 0))) := zpA hdl;have hex : (⟨l.toArray⟩ : ByteArray).extract 0 l.length = ⟨(l.drop 0).toArray⟩ := by rw [← hsz];exact zMB l 0 (by omega)
 have HEX := hid hex;clear hex;obtain ⟨c0,hc0⟩ : ∃ c,l[0]'(by omega) = c := ⟨_,rfl⟩
 have hs0 : ∀ h,(⟨l.toArray⟩ : ByteArray)[0]'h = c0 := fun h => by rw [zZB l 0 h (by omega)];exact hc0
 have hb043 : ((c0.toNat : Int) == 43) = false := by rw [← hc0];exact zjH h043
 have hb045 : ((c0.toNat : Int) == 45) = false := by rw [← hc0];exact ziH h045
 have hb0226 : ((c0.toNat : Int) == 226) = false := by rw [← hc0];exact u8_ne226 h0226
 clear hc0;have EW := hid hW0;have B0 := hid b0;have PR := hid p0;have HRP : Hid (∀ e w',zOB W0 10 (l.drop 0) e w' → (zgA l ∧ ∃ zs a c,e = .returned (.tuple #[.slice a zs.length c,.int .i64 0]) ∧ Sl w'.heap.size w' (.slice a zs.length c) zs ∧ zHA zs ∧ iv false zs = sval l ∧ zs.length ≤ 100000000 ∧ Below W0.heap.size W0 w') ∨ (¬ zgA l ∧ e = .returned (.tuple #[.slice none 0 0,.int .i64 7]) ∧ Below W0.heap.size W0 w')) := fun e w' h => by
  rcases h with ⟨g,zs,a,c,h1,h2,h3,h4,h5⟩ | ⟨g,h1,h2⟩
  ·refine .inl ⟨HQ.out.1 g,zs,a,c,h1,h2,h3,HV.out zs h3.1 h4,Nat.le_trans (zSA (n := (l.drop 0).length) h3 ?_) hdl,h5⟩
   have q := zyB g.2;rw [← h4] at q;have q2 := zKD (l.drop 0).length;have q3 := zJA h3.1;omega
  ·exact .inr ⟨fun q => g (HQ.out.2 q),h1,h2⟩
 unfold zEC;generalize sval l = V at *;generalize zgA l = TK at *;generalize (⟨(l.drop 0).toArray⟩ : ByteArray) = t at *;clear HQ HV hdl h043 h045 h0226;generalize (⟨l.toArray⟩ : ByteArray) = s at *;generalize l.length = n at *;clear hl hc hW0 b0 p0;go_enter Tryz.func74,Tryz.ntmps74;go_wp2_with fail;rw [EW.out,HEX.out];clear EW HEX;refine HR.out.mono ?_;rintro e w1 h;replace h := HRP.out e w1 h;clear HR HRP;rcases h with ⟨tk,zs,a,c,rfl,m,cn,hv,hzl,b⟩ | ⟨tk,rfl,b⟩
 ·replace PR := hid (PR.out.step b)
  replace B0 := hid (below_step B0.out b);have TKh := hid tk;have HL := hid (znB (n := false) m (by omega));have hle := B0.out.size;rw [hv] at HL;have q0 : ((0 : Int) != 0) = false := rfl;clear tk m cn hv b;go_wp2_with fail;refine HL.out.mono ?_;rintro e w2 ⟨r,rfl,m,b⟩;obtain ⟨nr,xr,ar,cr,rfl,-,-,-,-,-⟩ := id m;replace PR := hid (PR.out.step b);replace B0 := hid (below_step B0.out b);have Z := hid (m.mono (B' := w.heap.size) hle);have r0 := PR.out.c0;have r1 := PR.out.c1;have f0 := PR.out.fz 0;have f1 := PR.out.fz 1;clear b m HL;go_wp2;exact bodyPost_ret (zWA Tryz.results74 (PR.out.set _ _) _ (by rfl) (by rfl)) rfl (.inl ⟨TKh.out,_,rfl,(Z.out.box PR.out _ _).more (by omega),bset (bset B0.out (by omega)) (by omega)⟩)
 ·replace PR := hid (PR.out.step b)
  replace B0 := hid (below_step B0.out b);have TKh := hid tk;have q7 : ((7 : Int) != 0) = true := rfl;have r0 := PR.out.c0;have r1 := PR.out.c1;have f0 := PR.out.fz 0;have f1 := PR.out.fz 1;clear tk b;go_wp2;exact bodyPost_ret (zWA Tryz.results74 (PR.out.set _ _) _ (by rfl) (by rfl)) rfl (.inr ⟨TKh.out,rfl,bset (bset B0.out (by omega)) (by omega)⟩)
theorem rread5_x1 {w : World} {l : List UInt8} (hl : l.length ≤ 100000000) (hn : 3 ≤ l.length) (h0 : l[0] = 226) (h1136 : l[1] ≠ 136) (hc : cutS l = (false,l.drop 0)) :
  Calls Tryz.prog 74 #[.string ⟨l.toArray⟩] w (zEC w l) := by
 have hsz : (⟨l.toArray⟩ : ByteArray).size = l.length := zqA l;have HQ : Hid ((l.drop 0 ≠ [] ∧ Good 10 (l.drop 0)) ↔ zgA l) := by unfold Hid zgA;rw [hc]
 have HV : Hid (∀ zs,WF zs → vn zs = ofD 10 (dsL (l.drop 0)) → iv false zs = sval l) := fun zs hz hv => by
  unfold sval;rw [hc,← hv];simp only [iv,zJA hz]
 obtain ⟨W0,hW0⟩ : ∃ W0,w.alloc zbox = W0 := ⟨_,rfl⟩
 obtain ⟨b0,sz0⟩ := zEB w zbox;rw [hW0] at b0 sz0;have p0 : Duo W0 w.heap.size (.bool false) (.slice none 0 0) := by rw [← hW0];exact Duo.new w _ _
 have hdl : (l.drop 0).length ≤ 100000000 := by simp;omega
 have HR : Hid (Calls Tryz.prog 106 #[.string ⟨(l.drop 0).toArray⟩] W0 (zOB W0 10 (l.drop 0))) := zpA hdl;have hex : (⟨l.toArray⟩ : ByteArray).extract 0 l.length = ⟨(l.drop 0).toArray⟩ := by rw [← hsz];exact zMB l 0 (by omega)
 have HEX := hid hex;clear hex;have hs0 : ∀ h,(⟨l.toArray⟩ : ByteArray)[0]'h = 226 := fun h => by rw [zZB l 0 h (by omega)];exact h0
 obtain ⟨c1,hc1⟩ : ∃ c,l[1]'(by omega) = c := ⟨_,rfl⟩
 have hs1 : ∀ h,(⟨l.toArray⟩ : ByteArray)[1]'h = c1 := fun h => by rw [zZB l 1 h (by omega)];exact hc1
 have hb1136 : ((c1.toNat : Int) == 136) = false := by rw [← hc1];exact u8_ne136 h1136
 clear hc1;have EW := hid hW0;have B0 := hid b0;have PR := hid p0;have HRP : Hid (∀ e w',zOB W0 10 (l.drop 0) e w' → (zgA l ∧ ∃ zs a c,e = .returned (.tuple #[.slice a zs.length c,.int .i64 0]) ∧ Sl w'.heap.size w' (.slice a zs.length c) zs ∧ zHA zs ∧ iv false zs = sval l ∧ zs.length ≤ 100000000 ∧ Below W0.heap.size W0 w') ∨ (¬ zgA l ∧ e = .returned (.tuple #[.slice none 0 0,.int .i64 7]) ∧ Below W0.heap.size W0 w')) := fun e w' h => by
  rcases h with ⟨g,zs,a,c,h1,h2,h3,h4,h5⟩ | ⟨g,h1,h2⟩
  ·refine .inl ⟨HQ.out.1 g,zs,a,c,h1,h2,h3,HV.out zs h3.1 h4,Nat.le_trans (zSA (n := (l.drop 0).length) h3 ?_) hdl,h5⟩
   have q := zyB g.2;rw [← h4] at q;have q2 := zKD (l.drop 0).length;have q3 := zJA h3.1;omega
  ·exact .inr ⟨fun q => g (HQ.out.2 q),h1,h2⟩
 unfold zEC;generalize sval l = V at *;generalize zgA l = TK at *;generalize (⟨(l.drop 0).toArray⟩ : ByteArray) = t at *;clear HQ HV hdl h0 h1136;generalize (⟨l.toArray⟩ : ByteArray) = s at *;generalize l.length = n at *;clear hl hc hW0 b0 p0;go_enter Tryz.func74,Tryz.ntmps74;go_wp2_with fail;rw [EW.out,HEX.out];clear EW HEX;refine HR.out.mono ?_;rintro e w1 h;replace h := HRP.out e w1 h;clear HR HRP;rcases h with ⟨tk,zs,a,c,rfl,m,cn,hv,hzl,b⟩ | ⟨tk,rfl,b⟩
 ·replace PR := hid (PR.out.step b)
  replace B0 := hid (below_step B0.out b);have TKh := hid tk;have HL := hid (znB (n := false) m (by omega));have hle := B0.out.size;rw [hv] at HL;have q0 : ((0 : Int) != 0) = false := rfl;clear tk m cn hv b;go_wp2_with fail;refine HL.out.mono ?_;rintro e w2 ⟨r,rfl,m,b⟩;obtain ⟨nr,xr,ar,cr,rfl,-,-,-,-,-⟩ := id m;replace PR := hid (PR.out.step b);replace B0 := hid (below_step B0.out b);have Z := hid (m.mono (B' := w.heap.size) hle);have r0 := PR.out.c0;have r1 := PR.out.c1;have f0 := PR.out.fz 0;have f1 := PR.out.fz 1;clear b m HL;go_wp2;exact bodyPost_ret (zWA Tryz.results74 (PR.out.set _ _) _ (by rfl) (by rfl)) rfl (.inl ⟨TKh.out,_,rfl,(Z.out.box PR.out _ _).more (by omega),bset (bset B0.out (by omega)) (by omega)⟩)
 ·replace PR := hid (PR.out.step b)
  replace B0 := hid (below_step B0.out b);have TKh := hid tk;have q7 : ((7 : Int) != 0) = true := rfl;have r0 := PR.out.c0;have r1 := PR.out.c1;have f0 := PR.out.fz 0;have f1 := PR.out.fz 1;clear tk b;go_wp2;exact bodyPost_ret (zWA Tryz.results74 (PR.out.set _ _) _ (by rfl) (by rfl)) rfl (.inr ⟨TKh.out,rfl,bset (bset B0.out (by omega)) (by omega)⟩)
theorem rread5_x2 {w : World} {l : List UInt8} (hl : l.length ≤ 100000000) (hn : 3 ≤ l.length) (h0 : l[0] = 226) (h1 : l[1] = 136) (h2146 : l[2] ≠ 146) (hc : cutS l = (false,l.drop 0)) :
  Calls Tryz.prog 74 #[.string ⟨l.toArray⟩] w (zEC w l) := by
 have hsz : (⟨l.toArray⟩ : ByteArray).size = l.length := zqA l;have HQ : Hid ((l.drop 0 ≠ [] ∧ Good 10 (l.drop 0)) ↔ zgA l) := by unfold Hid zgA;rw [hc]
 have HV : Hid (∀ zs,WF zs → vn zs = ofD 10 (dsL (l.drop 0)) → iv false zs = sval l) := fun zs hz hv => by
  unfold sval;rw [hc,← hv];simp only [iv,zJA hz]
 obtain ⟨W0,hW0⟩ : ∃ W0,w.alloc zbox = W0 := ⟨_,rfl⟩
 obtain ⟨b0,sz0⟩ := zEB w zbox;rw [hW0] at b0 sz0;have p0 : Duo W0 w.heap.size (.bool false) (.slice none 0 0) := by rw [← hW0];exact Duo.new w _ _
 have hdl : (l.drop 0).length ≤ 100000000 := by simp;omega
 have HR : Hid (Calls Tryz.prog 106 #[.string ⟨(l.drop 0).toArray⟩] W0 (zOB W0 10 (l.drop 0))) := zpA hdl;have hex : (⟨l.toArray⟩ : ByteArray).extract 0 l.length = ⟨(l.drop 0).toArray⟩ := by rw [← hsz];exact zMB l 0 (by omega)
 have HEX := hid hex;clear hex;have hs0 : ∀ h,(⟨l.toArray⟩ : ByteArray)[0]'h = 226 := fun h => by rw [zZB l 0 h (by omega)];exact h0
 have hs1 : ∀ h,(⟨l.toArray⟩ : ByteArray)[1]'h = 136 := fun h => by rw [zZB l 1 h (by omega)];exact h1
 obtain ⟨c2,hc2⟩ : ∃ c,l[2]'(by omega) = c := ⟨_,rfl⟩
 have hs2 : ∀ h,(⟨l.toArray⟩ : ByteArray)[2]'h = c2 := fun h => by rw [zZB l 2 h (by omega)];exact hc2
 have hb2146 : ((c2.toNat : Int) == 146) = false := by rw [← hc2];exact u8_ne146 h2146
 clear hc2;have EW := hid hW0;have B0 := hid b0;have PR := hid p0;have HRP : Hid (∀ e w',zOB W0 10 (l.drop 0) e w' → (zgA l ∧ ∃ zs a c,e = .returned (.tuple #[.slice a zs.length c,.int .i64 0]) ∧ Sl w'.heap.size w' (.slice a zs.length c) zs ∧ zHA zs ∧ iv false zs = sval l ∧ zs.length ≤ 100000000 ∧ Below W0.heap.size W0 w') ∨ (¬ zgA l ∧ e = .returned (.tuple #[.slice none 0 0,.int .i64 7]) ∧ Below W0.heap.size W0 w')) := fun e w' h => by
  rcases h with ⟨g,zs,a,c,h1,h2,h3,h4,h5⟩ | ⟨g,h1,h2⟩
  ·refine .inl ⟨HQ.out.1 g,zs,a,c,h1,h2,h3,HV.out zs h3.1 h4,Nat.le_trans (zSA (n := (l.drop 0).length) h3 ?_) hdl,h5⟩
   have q := zyB g.2;rw [← h4] at q;have q2 := zKD (l.drop 0).length;have q3 := zJA h3.1;omega
  ·exact .inr ⟨fun q => g (HQ.out.2 q),h1,h2⟩
 unfold zEC;generalize sval l = V at *;generalize zgA l = TK at *;generalize (⟨(l.drop 0).toArray⟩ : ByteArray) = t at *;clear HQ HV hdl h0 h1 h2146;generalize (⟨l.toArray⟩ : ByteArray) = s at *;generalize l.length = n at *;clear hl hc hW0 b0 p0;go_enter Tryz.func74,Tryz.ntmps74;go_wp2_with fail;rw [EW.out,HEX.out];clear EW HEX;refine HR.out.mono ?_;rintro e w1 h;replace h := HRP.out e w1 h;clear HR HRP;rcases h with ⟨tk,zs,a,c,rfl,m,cn,hv,hzl,b⟩ | ⟨tk,rfl,b⟩
 ·replace PR := hid (PR.out.step b)
  replace B0 := hid (below_step B0.out b);have TKh := hid tk;have HL := hid (znB (n := false) m (by omega));have hle := B0.out.size;rw [hv] at HL;have q0 : ((0 : Int) != 0) = false := rfl;clear tk m cn hv b;go_wp2_with fail;refine HL.out.mono ?_;rintro e w2 ⟨r,rfl,m,b⟩;obtain ⟨nr,xr,ar,cr,rfl,-,-,-,-,-⟩ := id m;replace PR := hid (PR.out.step b);replace B0 := hid (below_step B0.out b);have Z := hid (m.mono (B' := w.heap.size) hle);have r0 := PR.out.c0;have r1 := PR.out.c1;have f0 := PR.out.fz 0;have f1 := PR.out.fz 1;clear b m HL;go_wp2;exact bodyPost_ret (zWA Tryz.results74 (PR.out.set _ _) _ (by rfl) (by rfl)) rfl (.inl ⟨TKh.out,_,rfl,(Z.out.box PR.out _ _).more (by omega),bset (bset B0.out (by omega)) (by omega)⟩)
 ·replace PR := hid (PR.out.step b)
  replace B0 := hid (below_step B0.out b);have TKh := hid tk;have q7 : ((7 : Int) != 0) = true := rfl;have r0 := PR.out.c0;have r1 := PR.out.c1;have f0 := PR.out.fz 0;have f1 := PR.out.fz 1;clear tk b;go_wp2;exact bodyPost_ret (zWA Tryz.results74 (PR.out.set _ _) _ (by rfl) (by rfl)) rfl (.inr ⟨TKh.out,rfl,bset (bset B0.out (by omega)) (by omega)⟩)
theorem zvG {w : World} {l : List UInt8} (hl : l.length ≤ 100000000) : Calls Tryz.prog 74 #[.string ⟨l.toArray⟩] w (zEC w l) := by
 match l,hl with
 | [],hl => exact rread5_none hl rfl rfl
 | a :: t,hl =>
  by_cases h1 : a = 43
  ·subst h1;exact rread5_plus hl (by simp) rfl rfl
  by_cases h2 : a = 45
  ·subst h2;exact rread5_minus hl (by simp) rfl rfl
  match t,hl with
  | [],hl => exact ztD hl (by simp) h1 h2 (by simp) (by simp [cutS,h1,h2])
  | [b],hl => exact ztD hl (by simp) h1 h2 (by simp) (by simp [cutS,h1,h2])
  | b :: c :: r,hl =>
   by_cases h3 : a = 226
   ·subst h3
    by_cases h4 : b = 136
    ·subst h4
     by_cases h5 : c = 146
     ·subst h5;exact rread5_long hl (by simp) rfl rfl rfl rfl
     ·exact rread5_x2 hl (by simp) rfl rfl h5 (by simp [cutS,h5])
    ·exact rread5_x1 hl (by simp) rfl h4 (by simp [cutS,h4])
   ·exact rread5_x0 hl (by simp) h1 h2 h3 (by simp [cutS,h1,h2,h3])
end Go.Proofs.YtkdobgbicnemcaaGreatDoor
