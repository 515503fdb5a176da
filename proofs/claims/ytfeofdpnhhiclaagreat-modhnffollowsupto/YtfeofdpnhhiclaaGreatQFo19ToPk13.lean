/-
 QFo19ToPk13: Fo19, Mu19, Like11, Scaled9, Lm14, Sc14, Pf19, Ld13, Pk13, joined.
-/
import Derived.Test.YtfeofdpnhhiclaaGreatQFm19
import Derived.Test.YtfeofdpnhhiclaaGreatQVo19ToSa19
import Derived.Test.YtfeofdpnhhiclaaGreatQBm19ToPickA9
import Derived.Test.YtfeofdpnhhiclaaGreatQLm6ToChkN9
import Derived.Test.YtfeofdpnhhiclaaGreatQEach9ToOpenM9
import Derived.Test.YtfeofdpnhhiclaaGreatQFil9ToRowsOf9
import Derived.Test.YtfeofdpnhhiclaaGreatQPd19ToFw19
import Derived.Test.YtfeofdpnhhiclaaGreatQDt13ToSl13
import Derived.Test.YtfeofdpnhhiclaaGreatQPickB9ToPl19

set_option maxRecDepth 100000
set_option maxHeartbeats 6400000
set_option linter.unusedVariables false
set_option linter.unusedSimpArgs false
namespace Go.Proofs.YtfeofdpnhhiclaaGreat
open Go.RowKit
def zOI (w : World) (r c : Nat) (zs : List Int) (k : Nat) (e : Ending) (w' : World) : Prop :=
 ∃ rs cs odd v H,e = .returned (.tuple #[v,.int .i64 0]) ∧ Stz (en c zs) c r rs cs odd ∧ Hb19 (srt cs).length H (Md19 r (srt cs).length (en (srt cs).length (zKB r c zs (List.range r) (srt cs))) ((detS (en c zs) rs cs odd).natAbs : Int)) ∧ Mc w' v r c (zBB c (srt cs).length (srt cs) (zF (srt cs).length (srt cs).length H) (List.replicate (r * c) 0) (srt cs).length) (2 * (64 * k + 7) + 1) ∧ Below w.heap.size w w'
theorem formOf19 {w : World} {v : Value} {r c k : Nat} {zs : List Int} (hm : Mx w v r c zs k) (hk : k ≤ 100000000) (hx : ∀ rs cs odd,Stz (en c zs) c r rs cs odd → ∀ x,x < c → x ∈ srt cs) : Calls Tryz.prog 20 #[v] w (zOI w r c zs k) := by
 have M0 := hid hm;have HZA : Hid (∀ z ∈ zs,(z.natAbs : Int) < pw k) := by obtain ⟨_,_,_,_,h,_⟩ := hm;exact h.lt
 have HZL : Hid (zs.length = r * c) := by obtain ⟨_,_,_,_,_,h,_⟩ := hm;exact h
 obtain ⟨aa,ca,rfl,hr64,hc64⟩ := hm.form;obtain ⟨la,hla⟩ : ∃ la,r * c = la := ⟨_,rfl⟩
 rw [hla] at M0 ⊢;obtain ⟨W0,hW⟩ : ∃ W0,(w.alloc (matO r c (.slice aa la ca))).alloc mbox = W0 := ⟨_,rfl⟩
 obtain ⟨b0,sz0⟩ := zcA w (matO r c (.slice aa la ca)) mbox;rw [hW] at b0 sz0;have pa : Cel W0 w.heap.size 24 (matc r c (.slice aa la ca)) := by
  rw [← hW];exact (Cel.new w 24 (matc r c (.slice aa la ca))).step ((Below.refl _ _).alloc (Nat.le_refl _) _)
 have PR : Hid (Cel W0 (w.heap.size + 1) 24 [.int .i64 0,.int .i64 0,.slice none 0 0]) := by
  unfold Hid;rw [← hW];have := Cel.new (w.alloc (matO r c (.slice aa la ca))) 24 [.int .i64 0,.int .i64 0,.slice none 0 0]
  simpa using this
 replace M0 := hid (M0.out.now b0);have HC := hid (zlE M0.out (by omega));have x0 := pa.at (i := 0) rfl;have x1 := pa.at (i := 1) rfl;have x2 := pa.at (i := 2) rfl;rw [← hW] at x0 x1 x2;have G0 := hid b0;have EW := hid hW;have SZ := hid sz0;have HK := hid hk;have HX := hid hx;clear hm hk hx b0 sz0 hW pa hla;go_enter Tryz.func20,Tryz.ntmps20;go_wp2_with fail;rw [EW.out];clear EW x0 x1 x2;refine HC.out.mono ?_;rintro e w1 ⟨rs,cs,odd,ra,rl,rcap,ga,gl,gcap,n,a,l,cc,rfl,hst,hi1,hi2,hz,b⟩;obtain ⟨V2,hV⟩ : ∃ V2,w1.alloc (.cells #[.int .i64 (r : Int),.int .i64 (c : Int),.slice aa la ca,.slice ra rl rcap,.slice ga gl gcap,.bool n,.slice a l cc] 71) = V2 := ⟨_,rfl⟩
 obtain ⟨b2,sz2⟩ := alo1 w1 (.cells #[.int .i64 (r : Int),.int .i64 (c : Int),.slice aa la ca,.slice ra rl rcap,.slice ga gl gcap,.bool n,.slice a l cc] 71);rw [hV] at b2 sz2;have D2 : Cel V2 w1.heap.size 71 [.int .i64 (r : Int),.int .i64 (c : Int),.slice aa la ca,.slice ra rl rcap,.slice ga gl gcap,.bool n,.slice a l cc] := by rw [← hV];exact Cel.new w1 _ _
 have bb := below_step b b2;have PR2 := hid (PR.out.step bb);have G2 := hid (below_step G0.out bb);have hdz : detS (en c zs) rs cs odd ≠ 0 := by
  unfold detS;have h1 := hst.nz rs.length (Nat.le_refl _);exact Int.mul_ne_zero (by cases odd <;> simp [sgb]) h1
 have hdl := hz.zi.lt;have hkw : pw (64 * k + 7) + 64 * (((detS (en c zs) rs cs odd).natAbs : Int) * ((detS (en c zs) rs cs odd).natAbs : Int)) < pw (2 * (64 * k + 7) + 1) := zXF (by omega) hdl;have hjl : ∀ j ∈ srt cs,j < c := fun j hj => hst.cl j ((hst.srt.2.2 j).1 hj)
 have hjr : (srt cs).length ≤ r := by rw [hst.srt.2.1,hst.len];exact hst.le
 have hple : pw k ≤ pw (64 * k + 7) := by rw [pw13,pw13];exact Int.ofNat_le.2 (Nat.pow_le_pow_right (by omega) (by omega))
 have HB := hid (form19 (rl := rl) (rcap := rcap) (ra := ra) (M0.out.now bb) (hi2.now b2) hjl (by omega) ((hz.now b2).zi) hdz (Int.le_of_lt hdl) (fun x hx => by
  have := HZA.out x (zFE (fun i hi => by simpa using hi) hjl HZL.out x hx);omega) hkw (by omega) (by omega) (by omega) (by have := HK.out;omega) (HX.out rs cs odd hst) hjr)
 have y0 := D2.at (i := 0) rfl;have y1 := D2.at (i := 1) rfl;have y2 := D2.at (i := 2) rfl;have y3 := D2.at (i := 3) rfl;have y4 := D2.at (i := 4) rfl;have y5 := D2.at (i := 5) rfl;have y6 := D2.at (i := 6) rfl;rw [← hV] at y0 y1 y2 y3 y4 y5 y6;have HST := hid hst;have EV := hid hV;clear HC hst hi1 hi2 hz b b2 sz2 hV D2 bb hdz hdl hkw hjl hjr hple M0 PR G0 HX;go_wp2_with fail;rw [EV.out];clear EV y0 y1 y2 y3 y4 y5 y6;refine HB.out.mono ?_;rintro e w3 ⟨vm,H,rfl,mm,hh,b⟩;obtain ⟨am,cm,rfl,-,-⟩ := mm.mx.form;have PR3 := hid (PR2.out.step b);have r0 := PR3.out.at (i := 0) rfl;have r1 := PR3.out.at (i := 1) rfl;have r2 := PR3.out.at (i := 2) rfl;have f0 := PR3.out.fz 0;have f1 := PR3.out.fz 1;have f2 := PR3.out.fz 2;have hsz := SZ.out;have FF : Hid (zOI w r c zs k (.returned (.tuple #[.agg #[.int .i64 (r : Int),.int .i64 (c : Int),.slice am (r * c) cm],.int .i64 0])) (put3 w3 (w.heap.size + 1) (.int .i64 (r : Int)) (.int .i64 (c : Int)) (.slice am (r * c) cm))) :=
  ⟨rs,cs,odd,_,H,rfl,HST.out,hh,mm.wk PR3.out _ _ _,zNA (below_step G2.out b) (by omega) _ _ _⟩
 have PG := hid (PR3.out.put3 (.int .i64 (r : Int)) (.int .i64 (c : Int)) (.slice am (r * c) cm));obtain ⟨lm,hlm⟩ : ∃ lm,r * c = lm := ⟨_,rfl⟩
 rw [hlm] at FF PG ⊢;clear HB mm hh b PR2 PR3 G2 hsz HST hlm;go_wp2;exact bodyPost_ret (zHE Tryz.results20 PG.out _ (by rfl) (by rfl)) rfl FF.out
def ztH (w : World) (r c : Nat) (A : Nat → Nat → Int) (D : Int) (kw : Nat) (e : Ending) (w' : World) : Prop :=
 ∃ v H,e = .returned (.tuple #[v,.int .i64 0]) ∧ Mc w' v c c (zF c c H) kw ∧ Hb19 c H (Md19 r c A D) ∧ Below w.heap.size w w'
theorem modulo19 {w : World} {v u : Value} {r c : Nat} {zs : List Int} {z M : Int} {k k1 kw : Nat} (hm : Mx w v r c zs k1) (hd : Zi w u z k) (hz : z ≠ 0) (hMz : (z.natAbs : Int) ≤ M) (hMA : ∀ x ∈ zs,(x.natAbs : Int) ≤ M) (hM : M + 64 * ((z.natAbs : Int) * (z.natAbs : Int)) < pw kw) (hk : 1 ≤ k) (hkw : k ≤ kw) (hkw1 : k1 ≤ kw) (hK : kw ≤ 17179869184) :
  Calls Tryz.prog 9 #[v,u] w (ztH w r c (en c zs) (z.natAbs : Int) kw) := by
 have M0 := hid hm;obtain ⟨aa,ca,rfl,hr,hc⟩ := hm.form;obtain ⟨nz,xz,az,cz,rfl,-,-,-⟩ := id hd;obtain ⟨la,hla⟩ : ∃ la,r * c = la := ⟨_,rfl⟩
 rw [hla] at M0 ⊢;obtain ⟨W0,hW⟩ : ∃ W0,((w.alloc (matO r c (.slice aa la ca))).alloc (duo (.bool nz) (.slice az xz.length cz))).alloc mbox = W0 := ⟨_,rfl⟩
 obtain ⟨b0,sz0⟩ := zvB w (matO r c (.slice aa la ca)) (duo (.bool nz) (.slice az xz.length cz)) mbox;rw [hW] at b0 sz0;have pa : Cel W0 w.heap.size 24 (matc r c (.slice aa la ca)) := by
  rw [← hW];exact ((Cel.new w 24 (matc r c (.slice aa la ca))).step ((Below.refl _ _).alloc (Nat.le_refl _) _)).step ((Below.refl _ _).alloc (Nat.le_refl _) _)
 have pd : Duo W0 (w.heap.size + 1) (.bool nz) (.slice az xz.length cz) := by rw [← hW];exact zDA (zGA (by simp)) _
 have PR : Hid (Cel W0 (w.heap.size + 1 + 1) 24 [.int .i64 0,.int .i64 0,.slice none 0 0]) := by
  unfold Hid;rw [← hW];have := Cel.new ((w.alloc (matO r c (.slice aa la ca))).alloc (duo (.bool nz) (.slice az xz.length cz))) 24 [.int .i64 0,.int .i64 0,.slice none 0 0]
  simpa using this
 have HCK := hid (zqC (M0.out.now b0));have x0 := pa.at (i := 0) rfl;have x1 := pa.at (i := 1) rfl;have x2 := pa.at (i := 2) rfl;rw [← hW] at x0 x1 x2;have PA := hid pa;have PD := hid pd;have G0 := hid b0;have EW := hid hW;have SZ := hid sz0;have ZD := hid (hd.now b0);have HB : Hid (∀ w',Mx w' (matv r c (.slice aa la ca)) r c zs k1 → Zi w' (.agg #[.bool nz,.slice az xz.length cz]) z k → Calls Tryz.prog 29 #[matv r c (.slice aa la ca),.agg #[.bool nz,.slice az xz.length cz]] w' (zfF w' r c (en c zs) (z.natAbs : Int) kw)) := fun w' h1 h2 => ztC h1 h2 hz hMz hMA hM hk hkw hkw1 hK
 have HZN := hid hz;replace M0 := hid (M0.out.now b0);clear hm hd hz hMz hMA hM hk hkw hkw1 hK hla b0 sz0 hW pa pd;go_enter Tryz.func9,Tryz.ntmps9;go_wp2_with fail;rw [EW.out];clear EW x0 x1 x2;refine HCK.out.mono ?_;rintro e w1 ⟨rfl,b⟩;replace PA := hid (PA.out.step b);replace PD := hid (PD.out.step b);replace PR := hid (PR.out.step b);replace M0 := hid (M0.out.now b);replace ZD := hid (ZD.out.now b);replace G0 := hid (below_step G0.out b);have HSG := hid (zmA ZD.out);have y0 := PD.out.c0;have y1 := PD.out.c1;have hsg : ¬ cmpI z 0 = 0 := by
  have := HZN.out;unfold cmpI
  split <;> (try split) <;> omega
 obtain ⟨sg,hse⟩ : ∃ sg,cmpI z 0 = sg := ⟨_,rfl⟩
 rw [hse] at hsg HSG;clear HCK b hse;go_wp2_with fail;clear y0 y1;refine HSG.out.mono ?_;rintro e w2 ⟨rfl,b⟩;replace PA := hid (PA.out.step b);replace PD := hid (PD.out.step b);replace PR := hid (PR.out.step b);replace M0 := hid (M0.out.now b);replace ZD := hid (ZD.out.now b);replace G0 := hid (below_step G0.out b);have HBM := hid (HB.out w2 M0.out ZD.out);have x0 := PA.out.at (i := 0) rfl;have x1 := PA.out.at (i := 1) rfl;have x2 := PA.out.at (i := 2) rfl;have y0 := PD.out.c0;have y1 := PD.out.c1;clear HSG b HB;go_wp2_with fail;clear x0 x1 x2 y0 y1;refine HBM.out.mono ?_;rintro e w3 ⟨vm,H,rfl,mm,hh,b⟩;obtain ⟨am,cm,rfl,-,-⟩ := mm.mx.form;have PR2 := hid (PR.out.step b);have G2 := hid (below_step G0.out b);have r0 := PR2.out.at (i := 0) rfl;have r1 := PR2.out.at (i := 1) rfl;have r2 := PR2.out.at (i := 2) rfl;have f0 := PR2.out.fz 0;have f1 := PR2.out.fz 1;have f2 := PR2.out.fz 2;have FIN : Hid (ztH w r c (en c zs) (z.natAbs : Int) kw (.returned (.tuple #[.agg #[.int .i64 (c : Int),.int .i64 (c : Int),.slice am (c * c) cm],.int .i64 0])) (put3 w3 (w.heap.size + 1 + 1) (.int .i64 (c : Int)) (.int .i64 (c : Int)) (.slice am (c * c) cm))) :=
  ⟨_,H,rfl,mm.wk PR2.out _ _ _,hh,zNA G2.out (by omega) _ _ _⟩
 have PF := hid (PR2.out.put3 (.int .i64 (c : Int)) (.int .i64 (c : Int)) (.slice am (c * c) cm));obtain ⟨lm,hlm⟩ : ∃ lm,c * c = lm := ⟨_,rfl⟩
 rw [hlm] at FIN PF ⊢;clear HBM mm hh b PR G0 G2 PA PD M0 ZD hlm;go_wp2;exact bodyPost_ret (zHE Tryz.results9 PF.out _ (by rfl) (by rfl)) rfl FIN.out
instance snd11 (r c : Int) (l : Nat) : Decidable (Snd r c l) := by unfold Snd;infer_instance



theorem zoB {w : World} {v u : Value} {r c : Nat} {zs : List Int} {z : Int} {k k1 a : Nat} (hm : Mx w v r c zs k1) (hd : Zi w u z k) (hz : z ≠ 0) (hk : 1 ≤ k) (hka : k ≤ a) (hk1 : k1 ≤ a) (ha : a ≤ 8000000000) :
  Calls Tryz.prog 9 #[v,u] w (ztH w r c (en c zs) (z.natAbs : Int) (2 * a + 1)) := by
 have mono : ∀ {x y : Nat},x ≤ y → pw x ≤ pw y := fun {x y} h => by rw [pw13,pw13];exact Int.ofNat_le.2 (Nat.pow_le_pow_right (by omega) (by omega))
 have hdl := hd.lt;have m1 := mono hka;have m2 := mono hk1;refine modulo19 (M := pw a) hm hd hz (by omega) (fun x hx => ?_) (zXF (by omega) (by omega)) hk (by omega) (by omega) (by omega);obtain ⟨_,_,_,_,h,_⟩ := hm;have := h.lt x hx;omega
open Go.RowKit Go.Shelf
attribute [local go_sem] Oper.semAt_some
end Go.Proofs.YtfeofdpnhhiclaaGreat
namespace Go.Proofs.YtfeofdpnhhiclaaGreat
open Go.RowKit
theorem row_getD13 {r c i j : Nat} {xs : List Int} (hi : i < r) (hj : j < c) : ((rowsL r c xs).getD i []).getD j 0 = xs.getD (i * c + j) 0 := by
 have e : (rowsL r c xs).getD i [] = (xs.drop (i * c)).take c := by simp [rowsL,hi]
 rw [e,List.getD_eq_getElem?_getD,List.getD_eq_getElem?_getD,List.getElem?_take,if_pos hj,List.getElem?_drop]
theorem pick_en {r c a b : Nat} {zs : List Int} {is js : List Nat} (hi : ∀ i ∈ is,i < r) (hj : ∀ j ∈ js,j < c) (ha : a < is.length) (hb : b < js.length) : en js.length (zKB r c zs is js) a b = en c zs (is.getD a 0) (js.getD b 0) := by
 unfold en zKB;rw [zOF hb (by intro x hx;unfold pickR at hx;simp only [List.mem_map] at hx;obtain ⟨row,_,rfl⟩ := hx;simp) (by simp [pickR,ha])];have e : (pickR (rowsL r c zs) is js).getD a [] = js.map (ent9 (rowsL r c zs) is[a]) := by simp [pickR,ha]
 rw [e];have e2 : (js.map (ent9 (rowsL r c zs) is[a])).getD b 0 = ent9 (rowsL r c zs) is[a] js[b] := by simp [hb]
 rw [e2];have e3 : is.getD a 0 = is[a] := by simp [ha]
 have e4 : js.getD b 0 = js[b] := by simp [hb]
 rw [e3,e4];exact row_getD13 (hi _ (List.getElem_mem ha)) (hj _ (List.getElem_mem hb))
end Go.Proofs.YtfeofdpnhhiclaaGreat
