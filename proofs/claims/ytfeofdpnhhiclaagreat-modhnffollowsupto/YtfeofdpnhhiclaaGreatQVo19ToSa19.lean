/-
 QVo19ToSa19: Vo19, Sa19, joined.
-/
import Derived.Test.YtfeofdpnhhiclaaGreatQPi19ToDg19
import Derived.Test.YtfeofdpnhhiclaaGreatQCo13
import Derived.Test.YtfeofdpnhhiclaaGreatQPn19ToRs19
import Derived.Test.YtfeofdpnhhiclaaGreatQEach9ToOpenM9
import Derived.Test.YtfeofdpnhhiclaaGreatQLitsToNow
import Derived.Deep.Cut

set_option maxRecDepth 100000
set_option maxHeartbeats 6400000
set_option linter.unusedVariables false
set_option linter.unusedSimpArgs false
namespace Go.Proofs.YtfeofdpnhhiclaaGreat
open Go.RowKit
theorem cback19 {f : Func} {s t : Nat} (hr : f.results = #[ResultVar.cell s 71,ResultVar.tmp t]) {W : World} {b : Nat} {x0 x1 x2 x3 x4 x5 x6 y : Value} (h : Cel W b 71 [x0,x1,x2,x3,x4,x5,x6]) (tmps : Array Value) (ht : tmps[s]? = some (.pointer (some ⟨b,0,none⟩))) (hy : tmps[t]? = some y) :
  (results f tmps).run Tryz.prog W = .ok (.tuple #[.agg #[x0,x1,x2,x3,x4,x5,x6],y]) W := by
 simp [results,hr,go_sem,ht,hy,h.at (i := 0) rfl,h.at (i := 1) rfl,h.at (i := 2) rfl,h.at (i := 3) rfl,h.at (i := 4) rfl,h.at (i := 5) rfl,h.at (i := 6) rfl]
abbrev put7 (w : World) (b : Nat) (y0 y1 y2 y3 y4 y5 y6 : Value) : World := ((((((w.setCell ⟨b,0,none⟩ y0).setCell ⟨b,1,none⟩ y1).setCell ⟨b,2,none⟩ y2).setCell ⟨b,3,none⟩ y3).setCell ⟨b,4,none⟩ y4).setCell ⟨b,5,none⟩ y5).setCell ⟨b,6,none⟩ y6
def zQI (w : World) (r c la ca : Nat) (aa : Option Addr) (zs : List Int) (kw : Nat) (e : Ending) (w' : World) : Prop :=
 ∃ rs cs odd ra rl rcap ga gl gcap n a l cc,e = .returned (.tuple #[.agg #[.int .i64 (r : Int),.int .i64 (c : Int),.slice aa la ca,.slice ra rl rcap,.slice ga gl gcap,.bool n,.slice a l cc],.int .i64 0]) ∧ Stz (en c zs) c r rs cs odd ∧ In9 w' (.slice ra rl rcap) (natv rs) ∧ In9 w' (.slice ga gl gcap) (natv (srt cs)) ∧ Zm 0 w' (.agg #[.bool n,.slice a l cc]) (detS (en c zs) rs cs odd) kw ∧ Below w.heap.size w w'
theorem zJF {B : Nat} {w : World} {v : Value} {l : List Nat} (h : Ivs B w v l) (hl : l.length ≤ 1048576) : In9 w v (natv l) := by
 have h' := h;obtain ⟨q1,⟨q2,q3⟩ | ⟨g,cap,cur,q2,q3,q4,q5,q6,q7,q8⟩⟩ := h
 ·have : l = [] := List.length_eq_zero_iff.1 q3
  subst this;exact ⟨none,0,by rw [q2];rfl,by simp,by simp,.inl (by simp)⟩
 ·refine ⟨some ⟨g,0,none⟩,cap,by rw [q2];simp,by simpa using q5,by simpa using hl,.inr ⟨g,0,rfl,(Array.getElem?_eq_some_iff.1 q4).1,fun j hj => ?_⟩⟩
  rw [q2] at h';have hj' : j < l.length := by simpa using hj
  have := h'.at (i := j) hj';rw [Nat.zero_add,this];simp [hj']
theorem zlE {w : World} {r c la ca k : Nat} {aa : Option Addr} {zs : List Int} (hm : Mx w (matv r c (.slice aa la ca)) r c zs k) (hk : k ≤ 4000000000) : Calls Tryz.prog 38 #[matv r c (.slice aa la ca)] w (zQI w r c la ca aa zs (64 * k + 7)) := by
 obtain ⟨_,_,-,hr64,hc64⟩ := hm.form;obtain ⟨W0,hW⟩ : ∃ W0,(w.alloc (matO r c (.slice aa la ca))).alloc (.cells #[.int .i64 0,.int .i64 0,.slice none 0 0,.slice none 0 0,.slice none 0 0,.bool false,.slice none 0 0] 71) = W0 := ⟨_,rfl⟩
 obtain ⟨b0,sz0⟩ := zcA w (matO r c (.slice aa la ca)) (.cells #[.int .i64 0,.int .i64 0,.slice none 0 0,.slice none 0 0,.slice none 0 0,.bool false,.slice none 0 0] 71);rw [hW] at b0 sz0;have pa : Cel W0 w.heap.size 24 (matc r c (.slice aa la ca)) := by
  rw [← hW];exact (Cel.new w 24 (matc r c (.slice aa la ca))).step ((Below.refl _ _).alloc (Nat.le_refl _) _)
 have PR : Hid (Cel W0 (w.heap.size + 1) 71 [.int .i64 0,.int .i64 0,.slice none 0 0,.slice none 0 0,.slice none 0 0,.bool false,.slice none 0 0]) := by
  unfold Hid;rw [← hW];have := Cel.new (w.alloc (matO r c (.slice aa la ca))) 71 [.int .i64 0,.int .i64 0,.slice none 0 0,.slice none 0 0,.slice none 0 0,.bool false,.slice none 0 0]
  simpa using this
 have HC := hid (zCG (hm.now b0) hk);have x0 := pa.at (i := 0) rfl;have x1 := pa.at (i := 1) rfl;have x2 := pa.at (i := 2) rfl;rw [← hW] at x0 x1 x2;have PA := hid pa;have G0 := hid b0;have EW := hid hW;have SZ := hid sz0;have HR64 := hid hr64;clear hm hk b0 sz0 hW pa;go_enter Tryz.func38,Tryz.ntmps38;go_wp2_with fail;rw [EW.out];clear EW x0 x1 x2;refine HC.out.mono ?_;rintro e w1 ⟨rs,cs,odd,rv,cv,n,a,l,cc,rfl,hst,hi1,hi2,hz,-,b⟩;obtain ⟨ra,rcap,rfl,-,-⟩ := hi1.form;obtain ⟨ga,gcap,rfl,-,-⟩ := hi2.form;obtain ⟨V2,hV⟩ : ∃ V2,w1.alloc (duo (.bool n) (.slice a l cc)) = V2 := ⟨_,rfl⟩
 obtain ⟨b2,sz2⟩ := alo1 w1 (duo (.bool n) (.slice a l cc));rw [hV] at b2 sz2;have D2 : Duo V2 w1.heap.size (.bool n) (.slice a l cc) := by rw [← hV];exact Duo.new w1 _ _
 have bb := below_step b b2;have PA2 := PA.out.step bb;have PR2 := PR.out.step bb;have x0 := PA2.at (i := 0) rfl;have x1 := PA2.at (i := 1) rfl;have x2 := PA2.at (i := 2) rfl;have d0 := D2.c0;have d1 := D2.c1;have q0 := PR2.at (i := 0) rfl;have q1 := PR2.at (i := 1) rfl;have q2 := PR2.at (i := 2) rfl;have q3 := PR2.at (i := 3) rfl;have q4 := PR2.at (i := 4) rfl;have q5 := PR2.at (i := 5) rfl;have q6 := PR2.at (i := 6) rfl;have f0 := PR2.fz 0;have f1 := PR2.fz 1;have f2 := PR2.fz 2;have f3 := PR2.fz 3;have f4 := PR2.fz 4;have f5 := PR2.fz 5;have f6 := PR2.fz 6;have hsz := SZ.out;obtain ⟨rl,hrl⟩ : ∃ rl,rs.length = rl := ⟨_,rfl⟩
 obtain ⟨gl,hgl⟩ : ∃ gl,(srt cs).length = gl := ⟨_,rfl⟩
 have hst2 : (srt cs).length ≤ 64 := by rw [hst.srt.2.1,hst.len];exact Nat.le_trans hst.le HR64.out
 have hst1 : rs.length ≤ 64 := Nat.le_trans hst.le HR64.out;rw [hrl] at hi1 ⊢;rw [hgl] at hi2 ⊢;have FIN : Hid (zQI w r c la ca aa zs (64 * k + 7) (.returned (.tuple #[.agg #[.int .i64 (r : Int),.int .i64 (c : Int),.slice aa la ca,.slice ra rl rcap,.slice ga gl gcap,.bool n,.slice a l cc],.int .i64 0])) (put7 V2 (w.heap.size + 1) (.int .i64 (r : Int)) (.int .i64 (c : Int)) (.slice aa la ca) (.slice ra rl rcap) (.slice ga gl gcap) (.bool n) (.slice a l cc))) := by
  have s0 := PR2.set 0 (.int .i64 (r : Int));have s1 := s0.set 1 (.int .i64 (c : Int));have s2 := s1.set 2 (.slice aa la ca);have s3 := s2.set 3 (.slice ra rl rcap);have s4 := s3.set 4 (.slice ga gl gcap);have s5 := s4.set 5 (.bool n);have ty : Ty 71 V2 (put7 V2 (w.heap.size + 1) (.int .i64 (r : Int)) (.int .i64 (c : Int)) (.slice aa la ca) (.slice ra rl rcap) (.slice ga gl gcap) (.bool n) (.slice a l cc)) := ((((((Ty.set PR2).trans (Ty.set s0)).trans (Ty.set s1)).trans (Ty.set s2)).trans (Ty.set s3)).trans (Ty.set s4)).trans (Ty.set s5);have bw := below_step G0.out bb;exact ⟨rs,cs,odd,ra,rl,rcap,ga,gl,gcap,n,a,l,cc,rfl,hst,zJF ((hi1.now b2).keep fun b L _ e => ty.2 b _ _ _ e (by decide)) (by omega),zJF ((hi2.now b2).keep fun b L _ e => ty.2 b _ _ _ e (by decide)) (by omega),((hz.mono (Nat.zero_le _)).now b2).ty ty (by decide),bset (bset (bset (bset (bset (bset (bset bw (by omega)) (by omega)) (by omega)) (by omega)) (by omega)) (by omega)) (by omega)⟩
 have PF : Hid (Cel (put7 V2 (w.heap.size + 1) (.int .i64 (r : Int)) (.int .i64 (c : Int)) (.slice aa la ca) (.slice ra rl rcap) (.slice ga gl gcap) (.bool n) (.slice a l cc)) (w.heap.size + 1) 71 [.int .i64 (r : Int),.int .i64 (c : Int),.slice aa la ca,.slice ra rl rcap,.slice ga gl gcap,.bool n,.slice a l cc]) := ((((((PR2.set 0 _).set 1 _).set 2 _).set 3 _).set 4 _).set 5 _).set 6 _;have EV := hid hV;rw [← hV] at x0 x1 x2 d0 d1 q0 q1 q2 q3 q4 q5 q6 f0 f1 f2 f3 f4 f5 f6;clear HC hst hi1 hi2 hz b b2 sz2 hV D2 bb PA2 PR2 PA PR G0 hsz hst1 hst2 hrl hgl;go_wp2;rw [EV.out];exact bodyPost_ret (cback19 Tryz.results38 PF.out _ (by rfl) (by rfl)) rfl FIN.out
def zII (w : World) (r c : Nat) (zs : List Int) (k : Nat) (e : Ending) (w' : World) : Prop :=
 ∃ rs cs odd n a l cc H,e = .returned (.tuple #[.agg #[.bool n,.slice a l cc],.int .i64 0]) ∧ Stz (en c zs) c r rs cs odd ∧ Hb19 (srt cs).length H (Md19 r (srt cs).length (en (srt cs).length (zKB r c zs (List.range r) (srt cs))) ((detS (en c zs) rs cs odd).natAbs : Int)) ∧ Zm 0 w' (.agg #[.bool n,.slice a l cc]) (zyA H (srt cs).length) (64 * (2 * (64 * k + 7) + 1) + 1) ∧ Below w.heap.size w w'
theorem zXF {D : Int} {a : Nat} (h0 : 0 ≤ D) (h : D < pw a) : pw a + 64 * (D * D) < pw (2 * a + 1) := by
 have e : pw (2 * a + 1) = 18446744073709551616 * (pw a * pw a) := by
  rw [pw13,pw13,← Int.natCast_mul,← Nat.pow_add];have : (18446744073709551616 : Int) = ((2 ^ 64 : Nat) : Int) := by decide
  rw [this,← Int.natCast_mul,← Nat.pow_add]
  congr 2
  omega
 rw [e];have p1 : 1 ≤ pw a := by omega
 have m1 : D * D ≤ pw a * pw a := Int.mul_le_mul (by omega) (by omega) h0 (by omega);have m2 : pw a * 1 ≤ pw a * pw a := Int.mul_le_mul_of_nonneg_left p1 (by omega);have m3 : 1 * 1 ≤ pw a * pw a := Int.mul_le_mul p1 p1 (by omega) (by omega);generalize pw a * pw a = q at *;omega
theorem zqD {F G : Nat → Nat → Int} : ∀ {n : Nat},(∀ i,i < n → F i i = G i i) → zyA F n = zyA G n
 | 0,_ => rfl
 | n + 1,h => by
  show zyA F n * F n n = zyA G n * G n n
  rw [zqD fun i hi => h i (by omega),h n (by omega)]
theorem zFE {r c : Nat} {zs : List Int} {is js : List Nat} (hi : ∀ i ∈ is,i < r) (hj : ∀ j ∈ js,j < c) (hl : zs.length = r * c) : ∀ x ∈ zKB r c zs is js,x ∈ zs := fun x hx => by
 unfold zKB pickR at hx;simp only [List.mem_flatten,List.mem_map] at hx;obtain ⟨l,⟨i,h1,rfl⟩,h2⟩ := hx;simp only [List.mem_map] at h2;obtain ⟨j,h3,rfl⟩ := h2;have a1 := hi i h1;have a2 := hj j h3;have e : ent9 (rowsL r c zs) i j = zs.getD (i * c + j) 0 := by
  unfold ent9;have e1 : (rowsL r c zs).getD i [] = (zs.drop (i * c)).take c := by simp [rowsL,a1]
  rw [e1,List.getD_eq_getElem?_getD,List.getD_eq_getElem?_getD,List.getElem?_take,if_pos a2,List.getElem?_drop]
 have hlt : i * c + j < zs.length := by rw [hl];exact zGG a1 a2
 rw [e];simp [hlt]
theorem ziF {w : World} {v : Value} {r c k : Nat} {zs : List Int} (hm : Mx w v r c zs k) (hk : k ≤ 100000000) : Calls Tryz.prog 18 #[v] w (zII w r c zs k) := by
 have M0 := hid hm;have HZA : Hid (∀ z ∈ zs,(z.natAbs : Int) < pw k) := by obtain ⟨_,_,_,_,h,_⟩ := hm;exact h.lt
 have HZL : Hid (zs.length = r * c) := by obtain ⟨_,_,_,_,_,h,_⟩ := hm;exact h
 obtain ⟨aa,ca,rfl,hr64,hc64⟩ := hm.form;obtain ⟨la,hla⟩ : ∃ la,r * c = la := ⟨_,rfl⟩
 rw [hla] at M0 ⊢;obtain ⟨W0,hW⟩ : ∃ W0,(w.alloc (matO r c (.slice aa la ca))).alloc zbox = W0 := ⟨_,rfl⟩
 obtain ⟨b0,sz0⟩ := zcA w (matO r c (.slice aa la ca)) zbox;rw [hW] at b0 sz0;have pa : Cel W0 w.heap.size 24 (matc r c (.slice aa la ca)) := by
  rw [← hW];exact (Cel.new w 24 (matc r c (.slice aa la ca))).step ((Below.refl _ _).alloc (Nat.le_refl _) _)
 have pR : Duo W0 (w.heap.size + 1) (.bool false) (.slice none 0 0) := by rw [← hW];exact zGA (by simp)
 replace M0 := hid (M0.out.now b0);have HC := hid (zlE M0.out (by omega));have x0 := pa.at (i := 0) rfl;have x1 := pa.at (i := 1) rfl;have x2 := pa.at (i := 2) rfl;rw [← hW] at x0 x1 x2;have PR := hid pR;have G0 := hid b0;have EW := hid hW;have SZ := hid sz0;have HK := hid hk;clear hm hk b0 sz0 hW pa pR hla;go_enter Tryz.func18,Tryz.ntmps18;go_wp2_with fail;rw [EW.out];clear EW x0 x1 x2;refine HC.out.mono ?_;rintro e w1 ⟨rs,cs,odd,ra,rl,rcap,ga,gl,gcap,n,a,l,cc,rfl,hst,hi1,hi2,hz,b⟩;obtain ⟨V2,hV⟩ : ∃ V2,w1.alloc (.cells #[.int .i64 (r : Int),.int .i64 (c : Int),.slice aa la ca,.slice ra rl rcap,.slice ga gl gcap,.bool n,.slice a l cc] 71) = V2 := ⟨_,rfl⟩
 obtain ⟨b2,sz2⟩ := alo1 w1 (.cells #[.int .i64 (r : Int),.int .i64 (c : Int),.slice aa la ca,.slice ra rl rcap,.slice ga gl gcap,.bool n,.slice a l cc] 71);rw [hV] at b2 sz2;have D2 : Cel V2 w1.heap.size 71 [.int .i64 (r : Int),.int .i64 (c : Int),.slice aa la ca,.slice ra rl rcap,.slice ga gl gcap,.bool n,.slice a l cc] := by rw [← hV];exact Cel.new w1 _ _
 have bb := below_step b b2;have PR2 := hid (PR.out.step bb);have G2 := hid (below_step G0.out bb);have hdz : detS (en c zs) rs cs odd ≠ 0 := by
  unfold detS;have h1 := hst.nz rs.length (Nat.le_refl _);exact Int.mul_ne_zero (by cases odd <;> simp [sgb]) h1
 have hdl := hz.zi.lt;have hkw : pw (64 * k + 7) + 64 * (((detS (en c zs) rs cs odd).natAbs : Int) * ((detS (en c zs) rs cs odd).natAbs : Int)) < pw (2 * (64 * k + 7) + 1) := zXF (by omega) hdl;have hjl : ∀ j ∈ srt cs,j < c := fun j hj => hst.cl j ((hst.srt.2.2 j).1 hj)
 have hjs : (srt cs).length ≤ 64 := by rw [hst.srt.2.1,hst.len];exact Nat.le_trans hst.le hr64
 have hple : pw k ≤ pw (64 * k + 7) := by rw [pw13,pw13];exact Int.ofNat_le.2 (Nat.pow_le_pow_right (by omega) (by omega))
 have HB := hid (zjG (rl := rl) (rcap := rcap) (ra := ra) (M0.out.now bb) (hi2.now b2) hjl hjs ((hz.now b2).zi) hdz (Int.le_of_lt hdl) (fun x hx => by
  have := HZA.out x (zFE (fun i hi => by simpa using hi) hjl HZL.out x hx);omega) hkw (by omega) (by omega) (by omega) (by have := HK.out;omega))
 have y0 := D2.at (i := 0) rfl;have y1 := D2.at (i := 1) rfl;have y2 := D2.at (i := 2) rfl;have y3 := D2.at (i := 3) rfl;have y4 := D2.at (i := 4) rfl;have y5 := D2.at (i := 5) rfl;have y6 := D2.at (i := 6) rfl;rw [← hV] at y0 y1 y2 y3 y4 y5 y6;have HST := hid hst;have HJS := hid hjs;have EV := hid hV;clear HC hst hi1 hi2 hz b b2 sz2 hV D2 bb hdz hdl hkw hjl hjs hple M0 PR G0;go_wp2_with fail;rw [EV.out];clear EV y0 y1 y2 y3 y4 y5 y6;refine HB.out.mono ?_;rintro e w3 ⟨vm,H,rfl,mm,hh,b⟩;have HD := hid (diag19 mm.mx (by have := HK.out;omega));obtain ⟨jl,hjll⟩ : ∃ jl,(srt cs).length = jl := ⟨_,rfl⟩
 rw [hjll] at mm HD hh;obtain ⟨am,cm,rfl,-,-⟩ := mm.mx.form;have HH := hid hh;have PR3 := hid (PR2.out.step b);have G3 := hid (below_step G2.out b);have EJL := hid hjll;clear HB mm hh b PR2 G2 hjll;go_wp2_with fail;refine HD.out.mono ?_;rintro e w4 ⟨rv,rfl,mv,b⟩;obtain ⟨nv,xv,av,cv,rfl⟩ := mv.parts;have R4 := hid (PR3.out.step b);have r0 := R4.out.c0;have r1 := R4.out.c1;have r2 := R4.out.fz 0;have r3 := R4.out.fz 1;have hsz := SZ.out;have FF : Hid (zII w r c zs k (.returned (.tuple #[.agg #[.bool nv,.slice av xv.length cv],.int .i64 0])) ((w4.setCell ⟨w.heap.size + 1,0,none⟩ (.bool nv)).setCell ⟨w.heap.size + 1,1,none⟩ (.slice av xv.length cv))) := by
  refine ⟨rs,cs,odd,nv,av,xv.length,cv,H,rfl,HST.out,by rw [EJL.out];exact HH.out,?_,bset (bset (below_step G3.out b) (by omega)) (by omega)⟩;have h := mv.ty (R4.out.ty13 (.bool nv) (.slice av xv.length cv)) (by decide);rw [zqD (G := H) fun i hi => en_zF hi hi] at h;rw [EJL.out];refine h.more ?_;have : jl ≤ 64 := by rw [← EJL.out];exact HJS.out
  have := Nat.mul_le_mul_right (2 * (64 * k + 7) + 1) this;omega
 clear HD mv b PR3 G3 hsz HH;go_wp2;exact bodyPost_ret (zBE Tryz.results18 (R4.out.set _ _) _ (by rfl) (by rfl)) rfl FF.out
theorem zwE {w : World} {v u : Value} {z y : Int} {k l : Nat} (h : Zc w v z k) (h' : Zc w u y l) (hzy : z = y) : Calls Tryz.prog 26 #[v,u] w fun e w' => e = .returned (.bool true) ∧ Below w.heap.size w w' := by
 subst hzy;obtain ⟨n,xs,a,c,rfl,s0,q0,e0,z0,k0⟩ := h;obtain ⟨m,ys,b,d,rfl,s1,q1,e1,z1,k1⟩ := h';obtain ⟨rfl,rfl⟩ := iv_one (z0.trans z1.symm) q0 q1 e0 e1;have b0 := (zcA w (duo (.bool n) (.slice a xs.length c)) (duo (.bool n) (.slice b xs.length d))).1;have HC := hid (same_yes (s0.now b0) (s1.now b0) rfl);have B0 := hid b0;have hq : (n == n) = true := by simp
 clear s0 s1 z0 z1 b0 q0 q1 e0 e1;go_enter Tryz.func26,Tryz.ntmps26;go_wp2_with fail;refine HC.out.mono ?_;rintro e w1 ⟨rfl,b1⟩;have B1 := hid (below_step B0.out b1);clear b1 HC;go_wp2;go_ret;exact ⟨rfl,B1.out⟩
def Lc19 (w : World) (v : Value) (zs : List Int) (k : Nat) : Prop := ∃ ps,Prs 0 w v ps ∧ Zcs w ps zs k
theorem Lc19.now {w w' : World} {v : Value} {zs : List Int} {k : Nat} (h : Lc19 w v zs k) (hb : Below w.heap.size w w') : Lc19 w' v zs k := by
 obtain ⟨ps,h1,h2⟩ := h;exact ⟨ps,h1.now hb,h2.now hb⟩
theorem Lc19.len19 {w : World} {v : Value} {zs : List Int} {k : Nat} (h : Lc19 w v zs k) : zs.length ≤ 1048576 := by
 obtain ⟨ps,⟨a,c,h1,h2,h3,_⟩,h4⟩ := h;rw [← h4.1];exact h3
theorem Lc19.full19 {w : World} {v : Value} {zs : List Int} {k : Nat} (h : Lc19 w v zs k) : ∃ a c,v = .slice a zs.length c ∧ (zs ≠ [] → ∃ b off,a = some ⟨b,off,none⟩) := by
 obtain ⟨ps,⟨a,c,h1,h2,h3,hx,h4⟩,h5⟩ := h;refine ⟨a,c,by rw [← h5.1];exact h1,fun hne => ?_⟩;rcases h4 with h4 | ⟨b,off,h6,_⟩
 ·exact absurd (List.length_eq_zero_iff.1 (by rw [← h5.1,h4];rfl)) hne
 ·exact ⟨b,off,h6⟩
theorem Lc19.at19 {w : World} {b off l c : Nat} {zs : List Int} {k : Nat} (h : Lc19 w (.slice (some ⟨b,off,none⟩) l c) zs k) {i : Nat} (hi : i < zs.length) : ∃ n,∃ xs : List Int,∃ a c,w.cell? ⟨b,off + i * 2,none⟩ = some (.bool n) ∧ w.cell? ⟨b,off + i * 2 + 1,none⟩ = some (.slice a xs.length c) ∧ Zc w (.agg #[.bool n,.slice a xs.length c]) (zs.getD i 0) k := by
 obtain ⟨ps,h1,h2⟩ := h;have hp := List.getElem?_eq_getElem (l := ps) (i := i) (by rw [h2.1];exact hi);have q := h1.at hp;have zz := h2.2 i _ (zs.getD i 0) hp (by simp [hi]);obtain ⟨n,xs,a,c',e,r⟩ := id zz;simp only [Value.agg.injEq,Array.mk.injEq,List.cons.injEq,and_true] at e;rw [e.1,e.2] at q zz;exact ⟨n,xs,a,c',q.1,q.2,zz⟩
def zmH (w : World) (n gk : Nat) (s : Value) (wx : World) : Prop := ∃ i : Nat,s = .int .i64 (i : Int) ∧ i ≤ n ∧ gk = n - i ∧ Below w.heap.size w wx
theorem sameRow19 {w : World} {v u : Value} {zs ys : List Int} {k l : Nat} (h : Lc19 w v zs k) (h' : Lc19 w u ys l) (he : zs = ys) : Calls Tryz.prog 33 #[v,u] w fun e w' => e = .returned (.bool true) ∧ Below w.heap.size w w' := by
 subst he;have Z0 := hid h;have Z1 := hid h';have hn0 : zs.length ≤ 1048576 := h.len19;obtain ⟨a0,c0,rfl,hf0⟩ := h.full19;obtain ⟨a1,c1,rfl,hf1⟩ := h'.full19;have F0 := hid hf0;have F1 := hid hf1;have H0 : Hid (zmH w zs.length zs.length (.int .i64 0) w) := ⟨0,rfl,Nat.zero_le _,by omega,Below.refl _ _⟩
 obtain ⟨n,hn⟩ : ∃ n,zs.length = n := ⟨_,rfl⟩
 rw [hn] at Z0 Z1 H0 hn0 ⊢;have HN := hid hn;have hnn : ((n : Int) != (n : Int)) = false := by simp
 clear h h' hf0 hf1 hn;go_enter Tryz.func33,Tryz.ntmps33;go_wp2_with fail
 go_loopg [5] n (fun gk s5 wx => zmH w n gk s5 wx)
 case atStart => exact H0.out
 case round =>
  clear H0;obtain ⟨i,rfl,hin,hg,hB⟩ := hrel;have B := hid hB;have HG := hid hg;clear hB hg
  by_cases hlt : i < n
  ·have hlt' : (i : Int) < (n : Int) := by omega
   have hi : i < zs.length := by rw [HN.out];exact hlt
   have hwi := zjA (i := i) (by omega);obtain ⟨b1,o1,rfl⟩ := F0.out (fun e => by rw [e] at hi;simp at hi);obtain ⟨b2,o2,rfl⟩ := F1.out (fun e => by rw [e] at hi;simp at hi);obtain ⟨nf,xf,adf,qf,k0,k1,zf⟩ := (Z0.out.now B.out).at19 hi;obtain ⟨ng,xg,adg,qg,j0,j1,zg⟩ := (Z1.out.now B.out).at19 hi;obtain ⟨lf,hlf⟩ : ∃ lf,xf.length = lf := ⟨_,rfl⟩
   obtain ⟨lg,hlg⟩ : ∃ lg,xg.length = lg := ⟨_,rfl⟩
   rw [hlf] at k1 zf;rw [hlg] at j1 zg;have ZF := hid zf;have ZG := hid zg;have HMM : Hid (n - (i + 1) < gk) := by unfold Hid;rw [HG.out];omega
   clear zf zg hlf hlg HG;go_upto_region 6 with fail
   have KB : Hid (∀ w',Below wr.heap.size wr w' → w'.cell? ⟨b1,o1 + i * 2,none⟩ = some (.bool nf) ∧ w'.cell? ⟨b1,o1 + i * 2 + 1,none⟩ = some (.slice adf lf qf) ∧ w'.cell? ⟨b2,o2 + i * 2,none⟩ = some (.bool ng) ∧ w'.cell? ⟨b2,o2 + i * 2 + 1,none⟩ = some (.slice adg lg qg)) := fun w' h => ⟨cnow h k0,cnow h k1,cnow h j0,cnow h j1⟩
   refine zFA (fun w' => w'.cell? ⟨b1,o1 + i * 2,none⟩ = some (.bool nf) ∧ w'.cell? ⟨b1,o1 + i * 2 + 1,none⟩ = some (.slice adf lf qf) ∧ w'.cell? ⟨b2,o2 + i * 2,none⟩ = some (.bool ng) ∧ w'.cell? ⟨b2,o2 + i * 2 + 1,none⟩ = some (.slice adg lg qg)) 9 (by kernel_rfl) ?_;obtain ⟨D61,hD⟩ : ∃ D61,wr.drew = D61 := ⟨_,rfl⟩
   have GB : Hid (Below wr.heap.size wr D61) := by unfold Hid;rw [← hD];exact (Below.refl _ _).drew
   rw [hD];clear hD;refine zEA [(0,(.slice (some ⟨b1,o1,none⟩) n c0)),(1,(.int .i64 (i : Int))),(2,(.pointer (some ⟨b1,o1 + i * 2,none⟩))),(3,(.agg #[.bool nf,.slice adf lf qf])),(4,(.slice (some ⟨b2,o2,none⟩) n c1)),(5,(.int .i64 (i : Int))),(6,(.pointer (some ⟨b2,o2 + i * 2,none⟩))),(7,(.agg #[.bool ng,.slice adg lg qg]))] 8 ?_ (KB.out _ GB.out) ?_
   ·simp only [zPA,gA9,g09,g19,Act.put,sI9,s09,s19]
    (repeat' (first | exact trivial | refine And.intro (Or.inl ⟨by rfl,?_⟩) ?_)) <;> (intro w hSw;(try dsimp only at hSw);go_simp)
   simp only [actV,gA9,g09,g19,Act.put,sI9,s09,s19];refine zAA (i := 8) (o := ⟨some 25,.call { callee := .value (.func 26),args := #[.tmp 20,.tmp 24],argTypes := #[27,27] },4, "keep.go:115",#[⟨3,.data⟩,⟨7,.data⟩],none⟩) (by kernel_rfl) rfl (fun K hK => ?_);go_simp;go_at_call 26;refine (zwE (ZF.out.now GB.out) (ZG.out.now GB.out) rfl).mono ?_;rintro e w62 ⟨rfl,b⟩;have lz62 := (show Below _ _ _ from b).size;replace GB := hid (below_step GB.out b);clear b;refine hK.out _ _ (fun _ => KB.out _ GB.out) ?_;clear hK;refine zAA (i := 9) (o := ⟨some 26,.unOp .not 4 (.tmp 25),4, "keep.go:115",#[⟨8,.data⟩],none⟩) (by kernel_rfl) rfl (fun K hK => ?_);go_simp;refine hK.out _ _ (fun h => absurd h (by decide)) ?_;clear hK
   try simp only [Act.put]
   refine zCA (by kernel_rfl) ?_ _;have HN1 : Hid (zmH w n (n - (i + 1)) (.int .i64 ((i + 1 : Nat) : Int)) w62) := ⟨i + 1,rfl,by omega,rfl,below_step B.out GB.out⟩
   clear B GB KB ZF ZG;go_wp2_with fail;go_roundg (n - (i + 1))
   case rel => exact HN1.out
   case measure => exact HMM.out
  ·have hlt' : ¬ (i : Int) < (n : Int) := by omega
   have FIN : Hid (Below w.heap.size w wr) := B.out;clear B HG;go_wp2;go_ret;exact ⟨rfl,FIN.out⟩
theorem Mc.lc19 {w : World} {a : Option Addr} {r c l cap k : Nat} {zs : List Int} (h : Mc w (matv r c (.slice a l cap)) r c zs k) : Lc19 w (.slice a l cap) zs k := by
 obtain ⟨at_,ps,h1,h2,h3,_⟩ := h;simp only [Value.agg.injEq,Array.mk.injEq,List.cons.injEq,and_true,true_and] at h1;subst h1;exact ⟨ps,h2,h3⟩
theorem zvE {w : World} {v u : Value} {r c k l : Nat} {zs ys : List Int} (h : Mc w v r c zs k) (h' : Mc w u r c ys l) (he : zs = ys) : Calls Tryz.prog 12 #[v,u] w fun e w' => e = .returned (.bool true) ∧ Below w.heap.size w w' := by
 obtain ⟨aa,ca,rfl,-,-⟩ := h.mx.form;obtain ⟨ab,cb,rfl,-,-⟩ := h'.mx.form;obtain ⟨la,hla⟩ : ∃ la,r * c = la := ⟨_,rfl⟩
 rw [hla] at h h' ⊢;obtain ⟨W0,hW⟩ : ∃ W0,(w.alloc (matO r c (.slice aa la ca))).alloc (matO r c (.slice ab la cb)) = W0 := ⟨_,rfl⟩
 obtain ⟨b0,sz0⟩ := zcA w (matO r c (.slice aa la ca)) (matO r c (.slice ab la cb));rw [hW] at b0 sz0;have HS := hid (sameRow19 ((h.now b0).lc19) ((h'.now b0).lc19) he);have G0 := hid b0;have EW := hid hW;have q0 : ((r : Int) == (r : Int)) = true := by simp
 have q1 : ((c : Int) == (c : Int)) = true := by simp
 clear h h' he hla b0 sz0 hW;go_enter Tryz.func12,Tryz.ntmps12;go_wp2_with fail;rw [EW.out];refine HS.out.mono ?_;rintro e w1 ⟨rfl,b⟩;have G1 := hid (below_step G0.out b);clear HS b EW G0;go_wp2;go_ret;exact ⟨rfl,G1.out⟩
theorem of19 {n : Int} (h0 : 0 < n) (h1 : n ≤ 18446744073709551615) (w : World) :
  Calls Tryz.prog 13 #[.int .u64 n] w fun e w' => ∃ a c,e = .returned (.agg #[.bool false,.slice a 1 c]) ∧ Zc w' (.agg #[.bool false,.slice a 1 c]) n 1 ∧ Below w.heap.size w w' := by
 obtain ⟨WX,hWX⟩ : ∃ WX,(w.alloc (duo (.bool false) (.slice (some ⟨w.heap.size + 1,0,none⟩) 1 1))).alloc (.cells #[.int .u64 n] 38) = WX := ⟨_,rfl⟩
 obtain ⟨b0,sz0⟩ := zcA w (duo (.bool false) (.slice (some ⟨w.heap.size + 1,0,none⟩) 1 1)) (.cells #[.int .u64 n] 38);rw [hWX] at b0 sz0;have dX : Duo WX w.heap.size (.bool false) (.slice (some ⟨w.heap.size + 1,0,none⟩) 1 1) := by rw [← hWX];exact zDA (zGA rfl) _
 have sX : Sl WX.heap.size WX (.slice (some ⟨w.heap.size + 1,0,none⟩) 1 1) [n] := by
  have := zQD (w.alloc (duo (.bool false) (.slice (some ⟨w.heap.size + 1,0,none⟩) 1 1))) n ⟨by omega,h1⟩;rw [hWX] at this
  simpa using this
 have eV : iv false [n] = n := by simp [iv,val]
 have cn : zYA [n] := ⟨sX.1,by simp [wid];omega⟩
 have FIN : Hid (Zc WX (.agg #[.bool false,.slice (some ⟨w.heap.size + 1,0,none⟩) 1 1]) n 1) := ⟨false,[n],_,_,rfl,sX,cn,fun e => by simp at e,eV,by simp⟩
 have EW := hid hWX;have DX := hid dX;have BX := hid b0;clear sX dX eV b0 hWX cn;go_enter Tryz.func13,Tryz.ntmps13;go_wp2;rw [EW.out];exact bodyPost_ret (zfB Tryz.results13 DX.out _ (by rfl)) rfl ⟨_,_,rfl,FIN.out,BX.out⟩
end Go.Proofs.YtfeofdpnhhiclaaGreat
