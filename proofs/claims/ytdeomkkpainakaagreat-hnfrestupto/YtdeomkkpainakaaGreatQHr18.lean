import Derived.Test.YtdeomkkpainakaaGreatQLd18ToIn18
import Derived.Test.YtdeomkkpainakaaGreatQWj18ToRk18
import Derived.Test.YtdeomkkpainakaaGreatQRz18ToSr18
import Derived.Test.YtdeomkkpainakaaGreatQR5AddToLx18
import Derived.Test.YtdeomkkpainakaaGreatQAlikeToShift
set_option maxRecDepth 100000
set_option maxHeartbeats 6400000
set_option linter.unusedVariables false
set_option linter.unusedSimpArgs false
namespace Go.Proofs.YtdeomkkpainakaaGreat
open Go.RowKit
def zeI (w : World) (r : Nat) (γ : Nat → Nat) (e : Ending) (w' : World) : Prop := ∃ u,e = .returned (.tuple #[u,.int .i64 0]) ∧ Ivs w.heap.size w' u (zmA γ r) ∧ Below w.heap.size w w'
theorem pivotsH18 {w : World} {v : Value} {m n k r : Nat} {γ : Nat → Nat} {zs : List Int} (h : Mx w v m n zs k) (hE : Ec18 n m r id γ (en18 n zs)) (hR : Rd18 0 r id γ (en18 n zs)) :
  Calls Tryz.prog 7 #[v] w (zeI w r γ) := by
 have M0 := hid h;obtain ⟨aa,ca,rfl,hr,hc⟩ := h.form;obtain ⟨la,hla⟩ : ∃ la,m * n = la := ⟨_,rfl⟩
 rw [hla] at M0 ⊢;obtain ⟨W0,hW⟩ : ∃ W0,w.alloc (matO m n (.slice aa la ca)) = W0 := ⟨_,rfl⟩
 obtain ⟨b0,sz0⟩ := alo1 w (matO m n (.slice aa la ca));rw [hW] at b0 sz0;have pa : Cel W0 w.heap.size 24 (matc m n (.slice aa la ca)) := by rw [← hW];exact Cel.new w _ _
 have HF := hid (zyB (M0.out.now b0) hE hR);have x0 := pa.at (i := 0) rfl;have x1 := pa.at (i := 1) rfl;have x2 := pa.at (i := 2) rfl;rw [← hW] at x0 x1 x2;have G := hid b0;have EW := hid hW;clear h b0 sz0 hW pa hE hR hla M0;go_enter Tryz.func7,Tryz.ntmps7;go_wp2_with fail;rw [EW.out];refine HF.out.mono ?_;rintro e w1 ⟨lv,gs,cv,rfl,-,hI,b⟩;obtain ⟨al,cl,rfl,-,-⟩ := hI.form;have FIN : Hid (zeI w r γ (.returned (.tuple #[.slice al (zmA γ r).length cl,.int .i64 0])) w1) := ⟨_,rfl,hI.mono18 G.out.size,below_step G.out b⟩
 obtain ⟨ll,hll⟩ : ∃ ll,(zmA γ r).length = ll := ⟨_,rfl⟩
 rw [hll] at FIN ⊢;clear HF hI b hll EW x0 x1 x2;go_wp2;go_ret2;exact FIN.out
theorem zc_zero18 {w : World} {n : Bool} {a : Option Addr} {l q k : Nat} (h : Zc w (.agg #[.bool n,.slice a l q]) 0 k) : n = false ∧ l = 0 := by
 obtain ⟨m,xs,b,d,e,-,hc,hn,hv,-⟩ := h;simp only [Value.agg.injEq,Array.mk.injEq,List.cons.injEq,Value.bool.injEq,Value.slice.injEq,and_true] at e;obtain ⟨rfl,rfl,rfl,rfl⟩ := e;have h0 : val xs = 0 := by
  cases n
  ·simpa [iv] using hv
  ·simp only [iv,if_true] at hv;omega
 have h1 := zCB hc h0;subst h1;exact ⟨hn rfl,rfl⟩
theorem hrF18 (n : Nat) (F : Nat → Int) {j : Nat} (hj : j < n) : ((List.range n).map F).getD j 0 = F j := by simp [hj]
theorem hr_sum18 {m n r : Nat} {γ : Nat → Nat} {hs : List Int} (hrm : r ≤ m) (V : Nat → Int) {j : Nat} (hj : j < n) :
  vmF n ((List.range m).map fun a => if a < r then zhB γ (en18 n hs) V a else 0) hs j m + zRB γ (en18 n hs) V r j = V j := by
 have e : vmF n ((List.range m).map fun a => if a < r then zhB γ (en18 n hs) V a else 0) hs j m = su r fun a => zhB γ (en18 n hs) V a * en18 n hs a j := by
  unfold vmF;rw [zpH hrm fun a h1 h2 => by simp [h2,Nat.not_lt.2 h1]];exact zNA fun a ha => by simp [ha,Nat.lt_of_lt_of_le ha hrm,en18]
 rw [e];have := zoE (γ := γ) (X := en18 n hs) V j r;omega
theorem hr_same18 {m n r : Nat} {γ : Nat → Nat} {X : Nat → Nat → Int} {xs us vs : List Int} (h : Hb18 m n m r id γ X (en18 n xs)) :
  ∀ j,j < n → zRB γ (en18 n (zG18 m n X)) (fun j => ((List.range n).map fun i => vmF n us xs i m + vs.getD i 0).getD j 0) r j = zRB γ (en18 n (zG18 m n X)) (fun j => vs.getD j 0) r j := by
 refine rs_same18 h.on.ec ?_;have h0 : Cm19 m n (en18 n xs) fun j => vmF n us xs j m := ⟨fun a => us.getD a 0,fun j hj => rfl⟩
 have h1 := (h.lat _).2 h0;have h2 := (Cm19.only (X := X) (Y := en18 n (zG18 m n X)) (fun i j hi hj => (zCH hi hj).symm) _).1 h1;exact h2.congr fun j hj => by rw [hrF18 n _ hj];omega
def zLE (W : World) (lo n gk : Nat) (s : Value) (wx : World) : Prop := ∃ i : Nat,s = .int .i64 (i : Int) ∧ lo ≤ i ∧ i ≤ n ∧ gk = n - i ∧ Below W.heap.size W wx
def zkF (P V : Nat → Int) (i : Nat) : Nat → Int := fun j => if j < i then P j + V j else P j
def zRI (W : World) (g n : Nat) (P V : Nat → Int) (k gk : Nat) (s : Value) (wx : World) : Prop := ∃ i : Nat,s = .int .i64 (i : Int) ∧ i ≤ n ∧ gk = n - i ∧ Rw17 wx g n (zkF P V i) (k + i) ∧ Below W.heap.size W wx
theorem Rw17.more18 {w : World} {g n k l : Nat} {F : Nat → Int} (h : Rw17 w g n F k) (hl : k ≤ l) : Rw17 w g n F l := by
 obtain ⟨ps,h1,h2⟩ := h;exact ⟨ps,h1,h2.1,fun j p z hp hz => (h2.2 j p z hp hz).more hl⟩
theorem Rw17.fun18 {w : World} {g n k : Nat} {F G : Nat → Int} (h : Rw17 w g n F k) (e : ∀ j,j < n → F j = G j) : Rw17 w g n G k := by
 obtain ⟨ps,h1,h2⟩ := h;exact ⟨ps,h1,by rwa [show (List.range n).map G = (List.range n).map F from List.map_congr_left fun j hj => (e j (List.mem_range.1 hj)).symm]⟩
theorem hnfRest_un {w : World} {r c : Int} {a av ax : Option Addr} {l cap lv cv lx cx : Nat} (hl : l ≤ 1048576) (hs : ¬ Snd r c l) :
  Calls Tryz.prog 3 #[.agg #[.int .i64 r,.int .i64 c,.slice a l cap],.slice av lv cv,.slice ax lx cx] w fun e w' => e = .returned (.bool true) ∧ Below w.heap.size w w' := by
 obtain ⟨W0,hW⟩ : ∃ W0,w.alloc (.cells #[.int .i64 r,.int .i64 c,.slice a l cap] 24) = W0 := ⟨_,rfl⟩
 obtain ⟨b0,sz0⟩ := alo1 w (.cells #[.int .i64 r,.int .i64 c,.slice a l cap] 24);rw [hW] at b0 sz0;have PA : Hid (Cel W0 w.heap.size 24 [.int .i64 r,.int .i64 c,.slice a l cap]) := by unfold Hid;rw [← hW];exact Cel.new w _ _
 have HW := hid (zzF W0);have G0 := hid b0;have EW := hid hW;have HS := hid hs;clear b0 sz0 hW hs;go_enter Tryz.func3,Tryz.ntmps3;go_wp2_with fail;rw [EW.out];refine HW.out.mono ?_;rintro e w1 ⟨rfl,b1⟩;replace PA := hid (PA.out.step b1);have G := hid (below_step G0.out b1);clear HW EW b1 G0;have x0 := PA.out.at (i := 0) rfl;have x1 := PA.out.at (i := 1) rfl;have x2 := PA.out.at (i := 2) rfl;go_wp2_with fail;refine (znE (w := w1) hl).mono ?_;rintro e w2 ⟨bb,rfl,hb,b⟩;obtain rfl : bb = false := by
  rcases Bool.eq_false_or_eq_true bb with q | q
  ·exact absurd (hb.1 q) HS.out
  ·exact q
 have G2 := hid (below_step G.out b);clear b x0 x1 x2 PA G hb;go_wp2;go_ret;exact ⟨rfl,G2.out⟩
theorem hnfRest_ok {w : World} {va vv vx : Value} {m n k : Nat} {zs vs us : List Int} (hk : k = 1048576) (ha : Mx w va m n zs k) (hv : Zl w vv vs k) (hx : Zl w vx us k) (hxn : ∀ c,vx = .slice none 0 c → c = 0) :
  Calls Tryz.prog 3 #[va,vv,vx] w fun e w' => e = .returned (.bool true) ∧ Below w.heap.size w w' := by
 have HZL : Hid (zs.length = m * n) := by unfold Hid;obtain ⟨_,_,_,_,_,h,_⟩ := ha;exact h
 have HBD := hid ha.lt;obtain ⟨aa,ca,rfl,hm64,hn64⟩ := ha.form;obtain ⟨px,hpx1,hpx2⟩ := hx.prs hxn;obtain ⟨av,cv,rfl,hcv,hvl,hvf⟩ := hv.form9;obtain ⟨ax,cx,rfl,hcx,hxl,-⟩ := hx.form9;obtain ⟨nv,hnv⟩ : ∃ nv,vs.length = nv := ⟨_,rfl⟩
 obtain ⟨nx,hnx⟩ : ∃ nx,us.length = nx := ⟨_,rfl⟩
 have HNV := hid hnv;have HNX := hid hnx;have HVF := hid hvf;have RA := hid ha;have RV := hid hv;have PX := hid hpx1;have PZ := hid hpx2;rw [hnv] at RV hvl hcv ⊢;rw [hnx] at PX hxl hcx ⊢;have HKL : Hid (1 ≤ k ∧ k ≤ 1048576) := hid (by omega);have SNA : Hid (Snd (m : Int) (n : Int) (m * n)) := ⟨by omega,by omega,by omega,by omega,by simp⟩
 have hmn : m * n ≤ 64 * 64 := Nat.mul_le_mul hm64 hn64;obtain ⟨T,hTb,hTk⟩ := zgG hn64 HZL.out HBD.out HKL.out.1;obtain ⟨t,het⟩ : ∃ t,64 * k + 65 = t := ⟨_,rfl⟩
 rw [het] at hTk;have HT : Hid (1 ≤ t ∧ k ≤ t ∧ t ≤ 200000000 ∧ k + k + 65 + 64 * t ≤ 100000000000) := hid (by have := HKL.out;clear hTk;omega);have HFM : Hid (∀ w',Below w.heap.size w w' → Calls Tryz.prog 6 #[matv m n (.slice aa (m * n) ca)] w' (zTI w' m n (en18 n zs) t)) := fun w' h => zuH (kw := 128 * (t + 1) + t) (RA.out.now h) hTb (by have := HT.out;omega) (zuF hTk 128) (by have := HT.out;omega) (by have := HT.out;omega) hTk
 have HVX : Hid (∀ w',Below w.heap.size w w' → nx = m → Calls Tryz.prog 11 #[.slice ax nx cx,matv m n (.slice aa (m * n) ca)] w' (zyF w' m n us zs (k + k + 64))) := fun w' h e => zoG (PX.out.now h) (PZ.out.now h) (by rw [hnx,e]) (RA.out.now h) (by have := HKL.out;omega)
 obtain ⟨la,hla⟩ : ∃ la,m * n = la := ⟨_,rfl⟩
 simp only [hla] at HFM HVX SNA;rw [hla] at RA hmn ⊢;have HLA := hid hla;obtain ⟨W0,hW⟩ : ∃ W0,w.alloc (matO m n (.slice aa la ca)) = W0 := ⟨_,rfl⟩
 obtain ⟨b0,sz0⟩ := alo1 w (matO m n (.slice aa la ca));rw [hW] at b0 sz0;have PA : Hid (Cel W0 w.heap.size 24 (matc m n (.slice aa la ca))) := by unfold Hid;rw [← hW];exact Cel.new w _ _
 have HW := hid (zzF W0);have G0 := hid b0;have EW := hid hW;clear ha hv hx hxn hpx1 hpx2 hvf hnv hnx b0 sz0 hW hTb hTk het hla hk;go_enter Tryz.func3,Tryz.ntmps3;go_wp2_with fail;rw [EW.out];refine HW.out.mono ?_;rintro e w1 ⟨rfl,b⟩;replace PA := hid (PA.out.step b);have G := hid (below_step G0.out b);clear HW EW b G0;have x0 := PA.out.at (i := 0) rfl;have x1 := PA.out.at (i := 1) rfl;have x2 := PA.out.at (i := 2) rfl;go_wp2_with fail;refine (znE (w := w1) (by omega)).mono ?_;rintro e w2 ⟨bb,rfl,hb,b⟩;obtain rfl : bb = true := hb.2 SNA.out;replace PA := hid (PA.out.step b);replace G := hid (below_step G.out b);clear b hb x0 x1 x2;have x0 := PA.out.at (i := 0) rfl;have x1 := PA.out.at (i := 1) rfl;have x2 := PA.out.at (i := 2) rfl;go_wp2_with fail;refine (HFM.out _ G.out).mono ?_;rintro e w5 ⟨v5,r,γ,X5,rfl,hm5,hb5,b⟩;obtain ⟨a5,c5,rfl,-,-⟩ := hm5.mx.form;rw [HLA.out] at hm5 ⊢;obtain ⟨V5,hV5⟩ : ∃ V5,w5.alloc (matO m n (.slice a5 la c5)) = V5 := ⟨_,rfl⟩
 obtain ⟨bv5,sz5⟩ := alo1 w5 (matO m n (.slice a5 la c5));rw [hV5] at bv5 sz5;have d5 : Cel V5 w5.heap.size 24 (matc m n (.slice a5 la c5)) := by rw [← hV5];exact Cel.new w5 _ _
 have bb := below_step b bv5;replace PA := hid (PA.out.step bb);replace G := hid (below_step G.out bb);have M5 := hid (hm5.now bv5);have D5 := hid d5;have H5 := hid hb5;have EV := hid hV5;obtain ⟨b7,hb7⟩ : ∃ b7,w5.heap.size = b7 := ⟨_,rfl⟩
 rw [hb7] at D5;have EB7 := hid hb7;have hrm : r ≤ m := by
  rcases Nat.eq_zero_or_pos r with q | q
  ·omega
  ·have := hb5.ec.rl (r - 1) (by omega);simp only [id] at this;omega
 have HRM := hid hrm;clear b bv5 sz5 hV5 d5 bb hb7 hm5 hb5 x0 x1 x2 HFM;have y0 := D5.out.at (i := 0) rfl;have y1 := D5.out.at (i := 1) rfl;have y2 := D5.out.at (i := 2) rfl;go_wp2_with fail;rw [EV.out,EB7.out];clear EV EB7;refine (pivotsH18 M5.out.mx H5.out.on.ec H5.out.on.rd).mono ?_;rintro e w6 ⟨u6,rfl,hI6,b⟩;obtain ⟨a6,c6,rfl,-,-⟩ := hI6.form;rw [zKA] at hI6 ⊢;have L6 := hid hI6;replace PA := hid (PA.out.step b);replace G := hid (below_step G.out b);replace D5 := hid (D5.out.step b);replace M5 := hid (M5.out.now b);clear hI6 b y0 y1 y2;have y0 := D5.out.at (i := 0) rfl;have y1 := D5.out.at (i := 1) rfl;have y2 := D5.out.at (i := 2) rfl;go_wp2_with fail;refine (znE (w := w6) (by omega)).mono ?_;rintro e w7 ⟨bb,rfl,hb,b⟩;obtain rfl : bb = true := hb.2 SNA.out;replace PA := hid (PA.out.step b);replace G := hid (below_step G.out b);replace D5 := hid (D5.out.step b);replace M5 := hid (M5.out.now b);replace L6 := hid (L6.out.now b);clear hb b y0 y1 y2;have y0 := D5.out.at (i := 0) rfl;have y1 := D5.out.at (i := 1) rfl;have y2 := D5.out.at (i := 2) rfl;have x0 := PA.out.at (i := 0) rfl;have x1 := PA.out.at (i := 1) rfl;have qm : ((m : Int) != (m : Int)) = false := by simp
 have qn : ((n : Int) != (n : Int)) = false := by simp
 go_wp2_with fail;refine (lpivots18 M5.out.mx (by have := HT.out;omega) H5.out.on.ec H5.out.on.rd).mono ?_;rintro e w8 ⟨u8,rfl,hI8,b⟩;obtain ⟨a8,c8,rfl,-,-⟩ := hI8.form;rw [zKA] at hI8 ⊢;have L8 := hid hI8;replace PA := hid (PA.out.step b);replace G := hid (below_step G.out b);replace D5 := hid (D5.out.step b);replace M5 := hid (M5.out.now b);replace L6 := hid (L6.out.now b);clear hI8 b y0 y1 y2 x0 x1;have qr : ((r : Int) != (r : Int)) = false := by simp
 obtain ⟨W8,hW8⟩ : ∃ W8,w8 = W8 := ⟨_,rfl⟩
 rw [hW8] at PA G D5 M5 L6 L8 ⊢;have J0 : Hid (zLE W8 0 r r (.int .i64 0) W8) := ⟨0,rfl,Nat.le_refl _,Nat.zero_le _,rfl,Below.refl _ _⟩
 clear hW8;go_wp2_with fail;clear qr
 go_loopg [13] r (fun gk s13 wx => zLE W8 0 r gk s13 wx)
 case atStart => exact J0.out
 case round =>
  clear J0;obtain ⟨i,rfl,-,hir,hg,hb⟩ := hrel;have B0 := hid hb;have HG := hid hg;clear hb hg
  by_cases hlt : i < r
  ·have hlt' : (i : Int) < (r : Int) := by omega
   have hw := zVA (i := i) (by omega);have HMM : Hid (r - (i + 1) < gk) := by unfold Hid;rw [HG.out];omega
   obtain ⟨g6,q6,e6,k6⟩ := (L6.out.now B0.out).at18 (t := i) (by rw [zKA];exact hlt);obtain ⟨g8,q8,e8,k8⟩ := (L8.out.now B0.out).at18 (t := i) (by rw [zKA];exact hlt);rw [zKA] at e6 e8;simp only [Value.slice.injEq] at e6 e8;obtain ⟨rfl,-,rfl⟩ := e6;obtain ⟨rfl,-,rfl⟩ := e8;obtain ⟨x,hx⟩ : ∃ x,(zmA γ r).getD i 0 = x := ⟨_,rfl⟩
   rw [hx] at k6 k8;have HN1 : Hid (zLE W8 0 r (r - (i + 1)) (.int .i64 ((i + 1 : Nat) : Int)) wr.drew) := ⟨i + 1,rfl,Nat.zero_le _,by omega,rfl,B0.out.drew⟩
   have qx : ((x : Int) != (x : Int)) = false := by simp
   obtain ⟨Wd,hWd⟩ : ∃ Wd,wr.drew = Wd := ⟨_,rfl⟩
   clear hx HG;go_wp2_with fail;have KB : Hid (∀ w',Below wr.heap.size wr w' → w'.cell? ⟨g6,i,none⟩ = some (.int .i64 (x : Int)) ∧ w'.cell? ⟨g8,i,none⟩ = some (.int .i64 (x : Int))) := fun w' h => ⟨cnow h k6,cnow h k8⟩
   refine zEA (fun w' => w'.cell? ⟨g6,i,none⟩ = some (.int .i64 (x : Int)) ∧ w'.cell? ⟨g8,i,none⟩ = some (.int .i64 (x : Int))) 8 (by kernel_rfl) ?_;obtain ⟨D1,hD⟩ : ∃ D1,wr.drew = D1 := ⟨_,rfl⟩
   have GB : Hid (Below wr.heap.size wr D1) := by unfold Hid;rw [← hD];exact (Below.refl _ _).drew
   rw [hD];clear hD;refine zGA [(0,(.slice (some ⟨g8,0,none⟩) r c8)),(1,(.int .i64 (i : Int))),(2,(.pointer (some ⟨g8,i,none⟩))),(3,(.int .i64 (x : Int))),(4,(.slice (some ⟨g6,0,none⟩) r c6)),(5,(.int .i64 (i : Int))),(6,(.pointer (some ⟨g6,i,none⟩))),(7,(.int .i64 (x : Int)))] 8 ?_ (KB.out _ GB.out) ?_
   ·simp only [zQA,gA9,g09,g19,Act.put,sI9,s09,s19]
    (repeat' (first | exact trivial | refine And.intro (Or.inl ⟨by rfl,?_⟩) ?_)) <;> (intro w hSw;(try dsimp only at hSw);go_simp)
   simp only [actV,gA9,g09,g19,Act.put,sI9,s09,s19];refine zAA (i := 8) (o := ⟨some 95,.binOp .neq 3 (.tmp 90) (.tmp 94) 3,4, "plain.go:177",#[⟨3,.data⟩,⟨7,.data⟩],none⟩) (by kernel_rfl) rfl (fun K hK => ?_);go_simp;refine hK.out _ _ (fun h => absurd h (by decide)) ?_;clear hK
   try simp only [Act.put]
   refine zDA (by kernel_rfl) ?_ _;clear KB k6 k8;have HN2 : Hid (zLE W8 0 r (r - (i + 1)) (.int .i64 ((i + 1 : Nat) : Int)) D1) := ⟨i + 1,rfl,Nat.zero_le _,by omega,rfl,below_step B0.out GB.out⟩
   clear HN1 GB B0;go_wp2_with fail;go_roundg (r - (i + 1))
   case rel => exact HN2.out
   case measure => exact HMM.out
  ·have hlt' : ¬ (i : Int) < (r : Int) := by omega
   obtain rfl : i = r := by omega
   replace PA := hid (PA.out.step B0.out);replace G := hid (below_step G.out B0.out);replace D5 := hid (D5.out.step B0.out);replace M5 := hid (M5.out.now B0.out);replace L8 := hid (L8.out.now B0.out);have y0 := D5.out.at (i := 0) rfl;have y1 := D5.out.at (i := 1) rfl;have y2 := D5.out.at (i := 2) rfl;have x1 := PA.out.at (i := 1) rfl;clear HG B0 L6 qm qn
   by_cases hvn : nv = n
   ·obtain rfl : n = nv := hvn.symm
    have HRD : Hid (Calls Tryz.prog 9 #[matv m n (.slice a5 la c5),.slice av n cv] wr (zMH wr m n i (zRB γ (en18 n (zG18 m n X5)) fun j => vs.getD j 0) (zhB γ (en18 n (zG18 m n X5)) fun j => vs.getD j 0) (k + 64 * t))) :=
     zJF M5.out.mx H5.out.on.ec H5.out.on.rd (RV.out.now G.out) HNV.out HT.out.1 (by have := HT.out;omega)
    go_wp2_with fail;refine HRD.out.mono ?_;rintro e w9 ⟨gR,gC,rfl,-,-,hR,hC,b⟩;have RR := hid hR;have RC := hid hC;replace PA := hid (PA.out.step b);replace G := hid (below_step G.out b);replace D5 := hid (D5.out.step b);replace M5 := hid (M5.out.now b);replace L8 := hid (L8.out.now b);clear HRD hR hC b y0 y1 y2 x1;have y0 := D5.out.at (i := 0) rfl;have y1 := D5.out.at (i := 1) rfl;have y2 := D5.out.at (i := 2) rfl;have x0 := PA.out.at (i := 0) rfl;have x1 := PA.out.at (i := 1) rfl;have qm : ((m : Int) != (m : Int)) = false := by simp
    have qn : ((n : Int) != (n : Int)) = false := by simp
    have HLD := hid (lreduced18 M5.out.mx (by have := HT.out;omega) (by have := HT.out;have := HKL.out;omega) L8.out hrm (fun a ha => H5.out.ec.cl a ha) RR.out (fun a ha => zSD H5.out.on.ec _ i (Nat.le_refl _) a ha));go_wp2_with fail;refine HLD.out.mono ?_;rintro e w10 ⟨rfl,b⟩;replace PA := hid (PA.out.step b);replace G := hid (below_step G.out b);replace D5 := hid (D5.out.step b);replace M5 := hid (M5.out.now b);replace RR := hid (RR.out.now b);replace RC := hid (RC.out.now b);obtain ⟨W10,hW10⟩ : ∃ W10,w10 = W10 := ⟨_,rfl⟩
    rw [hW10] at PA G D5 M5 RR RC ⊢;have J1 : Hid (zLE W10 i m (m - i) (.int .i64 (i : Int)) W10) := ⟨i,rfl,Nat.le_refl _,hrm,rfl,Below.refl _ _⟩
    clear HLD b hW10 y0 y1 y2 x0 x1 qm qn L8;go_wp2_with fail
    go_loopg [17] (m - i) (fun gk s17 wx => zLE W10 i m gk s17 wx)
    case atStart => exact J1.out
    case round =>
     clear J1;obtain ⟨j,rfl,hij,hjm,hg,hb⟩ := hrel;have B0 := hid hb;have HG := hid hg;clear hb hg;have x0 := (PA.out.step B0.out).at (i := 0) rfl
     by_cases hlt2 : j < m
     ·have hlt2' : (j : Int) < (m : Int) := by omega
      have hw2 := zVA (i := j) (by omega);have HMM : Hid (m - (j + 1) < gk) := by unfold Hid;rw [HG.out];omega
      obtain ⟨nc,ac,lc,qc,k0,k1,-,-,zc⟩ := (RC.out.now B0.out).at hlt2;rw [if_neg (by omega)] at zc;obtain ⟨rfl,rfl⟩ := zc_zero18 zc.zc;have HN1 : Hid (zLE W10 i m (m - (j + 1)) (.int .i64 ((j + 1 : Nat) : Int)) wr) := ⟨j + 1,rfl,by omega,by omega,rfl,B0.out⟩
      clear zc HG B0;go_wp2_with fail;go_roundg (m - (j + 1))
      case rel => exact HN1.out
      case measure => exact HMM.out
     ·have hlt2' : ¬ (j : Int) < (m : Int) := by omega
      obtain rfl : j = m := by omega
      replace PA := hid (PA.out.step B0.out);replace G := hid (below_step G.out B0.out);replace D5 := hid (D5.out.step B0.out);replace M5 := hid (M5.out.now B0.out);replace RR := hid (RR.out.now B0.out);replace RC := hid (RC.out.now B0.out);obtain ⟨pc,pc1,pc2⟩ := RC.out.zcs18 hm64;have HVC := hid (rvec12 pc1 pc2.zis (by simp) M5.out.mx (by have := HT.out;have := HKL.out;omega));have y0 := D5.out.at (i := 0) rfl;have y1 := D5.out.at (i := 1) rfl;have y2 := D5.out.at (i := 2) rfl;clear HG B0 pc1 pc2 RC;go_wp2_with fail;refine HVC.out.mono ?_;rintro e w11 ⟨v,pv,rfl,hv1,hv2,b⟩;have ULA : Hid (∀ wx,Below w11.heap.size w11 wx → ∀ s,s < n → ∃ b off cap n1 a l q,v = .slice (some ⟨b,off,none⟩) n cap ∧ wx.cell? ⟨b,off + s * 2,none⟩ = some (.bool n1) ∧ wx.cell? ⟨b,off + s * 2 + 1,none⟩ = some (.slice a l q) ∧ Zi wx (.agg #[.bool n1,.slice a l q]) (vmF n ((List.range j).map fun a => if a < i then zhB γ (en18 n (zG18 j n X5)) (fun j => vs.getD j 0) a else 0) (zG18 j n X5) s j) (k + 64 * t + t + 64)) := fun wx hb s hs => by
       have := (hv1.1.now hb).isI12 (hv2.zcs.zis.now hb) (t := s) (by simp [vecZ];exact hs);simp only [vecZ,List.length_map,List.length_range] at this
       simpa [hs] using this
      obtain ⟨ap,cp,rfl,-⟩ := hv1.1.form;have hvl2 : pv.length = n := by rw [hv2.1];simp [vecZ]
      rw [hvl2] at ULA ⊢;replace PA := hid (PA.out.step b);replace G := hid (below_step G.out b);replace D5 := hid (D5.out.step b);replace M5 := hid (M5.out.now b);replace RR := hid (RR.out.now b);have RV2 := hid (RV.out.now G.out);obtain ⟨W11,hW11⟩ : ∃ W11,w11 = W11 := ⟨_,rfl⟩
      rw [hW11] at PA G D5 M5 RR RV2 ULA ⊢;have J2 : Hid (zLE W11 0 n n (.int .i64 0) W11) := ⟨0,rfl,Nat.le_refl _,Nat.zero_le _,rfl,Below.refl _ _⟩
      clear hv1 hv2 hvl2 b hW11 HVC y0 y1 y2;go_wp2_with fail
      go_loopg [20] n (fun gk s20 wx => zLE W11 0 n gk s20 wx)
      case atStart => exact J2.out
      case round =>
       clear J2;obtain ⟨s,rfl,-,hsn,hg,hb⟩ := hrel;have B0 := hid hb;have HG := hid hg;clear hb hg;have x1 := (PA.out.step B0.out).at (i := 1) rfl
       by_cases hlt3 : s < n
       ·have hlt3' : (s : Int) < (n : Int) := by omega
        have hw3 := zVA (i := s) (by omega);have HMM : Hid (n - (s + 1) < gk) := by unfold Hid;rw [HG.out];omega
        obtain ⟨bp,op,qp,np,a1,l1,d1,ep,u0,u1,zp⟩ := ULA.out wr B0.out s hlt3;simp only [Value.slice.injEq] at ep;obtain ⟨rfl,-,rfl⟩ := ep;obtain ⟨nf,af,lf,qf,f0,f1,-,-,zf⟩ := (RR.out.now B0.out).at hlt3;obtain ⟨bv,ov,rfl⟩ := HVF.out (fun e => by have := HNV.out;rw [e] at this;simp at this;omega);obtain ⟨nw,yw,aw,dw,g0,g1,zw⟩ := (RV2.out.now B0.out).at9 (i := s) (by rw [HNV.out];exact hlt3);obtain ⟨lw,hlw⟩ : ∃ lw,yw.length = lw := ⟨_,rfl⟩
        rw [hlw] at g1 zw;have evs : vs[s]'(by rw [HNV.out];exact hlt3) = vs.getD s 0 := by simp [show s < vs.length by rw [HNV.out];exact hlt3]
        rw [evs] at zw;have hsum := hr_sum18 (γ := γ) (hs := zG18 j n X5) hrm (fun j => vs.getD j 0) hlt3;obtain ⟨zz,hzz⟩ : ∃ zz,vs.getD s 0 = zz := ⟨_,rfl⟩
        rw [hzz] at hsum zw;have HAD : Hid (∀ w',Below wr.heap.size wr w' → Calls Tryz.prog 12 #[.agg #[.bool np,.slice a1 l1 d1],.agg #[.bool nf,.slice af lf qf]] w' (zhA w' zz (k + 64 * t + t + 64 + 1))) := fun w' hb => by
         have := zrG (zp.now hb) ((zf.zi.now hb).more (l := k + 64 * t + t + 64) (by omega)) (by have := HT.out;have := HKL.out;omega) (by have := HT.out;have := HKL.out;omega);rw [hsum,Nat.max_self] at this;exact this
        have ZW := hid zw;clear zp zf zw hsum hzz evs hlw HG;go_wp2_with fail;have KB : Hid (∀ w',Below wr.heap.size wr w' → w'.cell? ⟨bp,op + s * 2,none⟩ = some (.bool np) ∧ w'.cell? ⟨bp,op + s * 2 + 1,none⟩ = some (.slice a1 l1 d1) ∧ w'.cell? ⟨gR,s * 2,none⟩ = some (.bool nf) ∧ w'.cell? ⟨gR,s * 2 + 1,none⟩ = some (.slice af lf qf)) := fun w' h => ⟨cnow h u0,cnow h u1,cnow h f0,cnow h f1⟩
        refine zEA (fun w' => w'.cell? ⟨bp,op + s * 2,none⟩ = some (.bool np) ∧ w'.cell? ⟨bp,op + s * 2 + 1,none⟩ = some (.slice a1 l1 d1) ∧ w'.cell? ⟨gR,s * 2,none⟩ = some (.bool nf) ∧ w'.cell? ⟨gR,s * 2 + 1,none⟩ = some (.slice af lf qf)) 10 (by kernel_rfl) ?_;obtain ⟨D31,hD⟩ : ∃ D31,wr.drew = D31 := ⟨_,rfl⟩
        have GB : Hid (Below wr.heap.size wr D31) := by unfold Hid;rw [← hD];exact (Below.refl _ _).drew
        rw [hD];clear hD;have GZ : Hid (wr.heap.size ≤ D31.heap.size) := GB.out.size;refine zGA [(0,(.slice (some ⟨bp,op,none⟩) n cp)),(1,(.int .i64 (s : Int))),(2,(.pointer (some ⟨bp,op + s * 2,none⟩))),(3,(.agg #[.bool np,.slice a1 l1 d1])),(4,(.slice (some ⟨gR,0,none⟩) n n)),(5,(.int .i64 (s : Int))),(6,(.pointer (some ⟨gR,s * 2,none⟩))),(7,(.agg #[.bool nf,.slice af lf qf]))] 8 ?_ (KB.out _ GB.out) ?_
        ·simp only [zQA,gA9,g09,g19,Act.put,sI9,s09,s19]
         (repeat' (first | exact trivial | refine And.intro (Or.inl ⟨by rfl,?_⟩) ?_)) <;> (intro w hSw;(try dsimp only at hSw);go_simp)
        simp only [actV,gA9,g09,g19,Act.put,sI9,s09,s19];refine zTA (i := 8) (j := 9) (oi := ⟨some 185,.call { callee := .value (.func 12),args := #[.tmp 180,.tmp 184],argTypes := #[40,40] },40, "plain.go:195",#[⟨3,.data⟩,⟨7,.data⟩],none⟩) (oj := ⟨some 21,.alloc 40,0, "plain.go:195",#[],none⟩) (by kernel_rfl) rfl rfl (fun K hK => ?_) (fun K hK => ?_)
        ·skip
         go_simp;go_at_call 12;refine (HAD.out _ GB.out).mono ?_;rintro e w32 ⟨rr,rfl,m1,b⟩;have lz32 := (show Below _ _ _ from b).size;replace GB := hid (below_step GB.out b);have M1 := hid (m1.mono (Nat.zero_le _));obtain ⟨nr,xr,ar,cr,rfl⟩ := m1.parts;clear m1;clear b;refine hK.out _ _ (fun _ => KB.out _ GB.out) ?_;clear hK;refine zAA (i := 9) (o := ⟨some 21,.alloc 40,0, "plain.go:195",#[],none⟩) (by kernel_rfl) rfl (fun K hK => ?_);go_simp;obtain ⟨V33,hW⟩ : ∃ V33,w32.alloc zbox = V33 := ⟨_,rfl⟩
         obtain ⟨b,sz33⟩ := alo1 w32 zbox;rw [hW] at b sz33;replace GB := hid (below_step GB.out b);have PX : Hid (Duo V33 w32.heap.size (.bool false) (.slice none 0 0)) := by unfold Hid;rw [← hW];exact Duo.new w32 _ _
         have SP : Hid (wr.heap.size ≤ w32.heap.size) := by unfold Hid;have := GZ.out;omega
         replace M1 := hid (M1.out.now b);rw [hW];clear hW b;refine hK.out _ _ (fun _ => KB.out _ GB.out) ?_;clear hK
         try simp only [Act.put]
         refine zAA (i := 10) (o := ⟨none,.store 40 (.tmp 21) (.tmp 185),0, "plain.go:195",#[⟨9,.data⟩,⟨8,.data⟩,⟨8,.chain⟩,⟨0,.phase⟩,⟨1,.phase⟩,⟨2,.phase⟩,⟨3,.phase⟩,⟨4,.phase⟩,⟨5,.phase⟩,⟨6,.phase⟩,⟨7,.phase⟩,⟨8,.phase⟩,⟨9,.phase⟩],none⟩) (by kernel_rfl) rfl (fun K hK => ?_);have p0 := PX.out.c0;have p1 := PX.out.c1;have p2 := PX.out.fz 0;have p3 := PX.out.fz 1;go_simp;clear p0 p1 p2 p3;obtain ⟨V34,hW⟩ : ∃ V34,((V33.setCell ⟨w32.heap.size,0,none⟩ (.bool nr)).setCell ⟨w32.heap.size,1,none⟩ (.slice ar xr.length cr)) = V34 := ⟨_,rfl⟩
         replace GB : Hid (Below wr.heap.size wr V34) := by unfold Hid;rw [← hW];exact bset (bset GB.out SP.out) SP.out
         replace M1 : Hid (Zm 0 V34 (.agg #[.bool nr,.slice ar xr.length cr]) zz (k + 64 * t + t + 64 + 1)) := by unfold Hid;rw [← hW];exact M1.out.box PX.out _ _
         replace PX : Hid (Duo V34 w32.heap.size (.bool nr) (.slice ar xr.length cr)) := by unfold Hid;rw [← hW];exact PX.out.set _ _
         rw [hW];clear hW;refine hK.out _ _ (fun h => absurd h (by decide)) ?_;clear hK
         try simp only [Act.put]
         refine zDA (by kernel_rfl) ?_ _;obtain ⟨Y,hY⟩ : ∃ Y,Y = V34 := ⟨_,rfl⟩
         obtain ⟨bq,hbq⟩ : ∃ bq,w32.heap.size = bq := ⟨_,rfl⟩
         rw [hbq] at PX ⊢;rw [← hY] at GB M1 PX ⊢;have HCM : Hid (∀ w',Below Y.heap.size Y w' → Calls Tryz.prog 13 #[.agg #[.bool nr,.slice ar xr.length cr],.agg #[.bool nw,.slice aw lw dw]] w' fun e w'' => e = .returned (.int .i64 0) ∧ Below w'.heap.size w' w'') := fun w' hb => by
          have := zGG ((M1.out.now hb).zi) ((ZW.out.now GB.out).now hb) (by have := HT.out;have := HKL.out;omega) (by have := HT.out;have := HKL.out;omega);rw [cmpI_self] at this;exact this
         have s0 := PX.out.c0;have s1 := PX.out.c1;have w0 := cnow GB.out g0;have w1 := cnow GB.out g1;have GY := GB;clear hY hbq KB GZ SP HAD u0 u1 f0 f1 g0 g1 M1 PX GB x1;go_wp2_with fail;have KB : Hid (∀ w',Below Y.heap.size Y w' → w'.cell? ⟨bq,0,none⟩ = some (.bool nr) ∧ w'.cell? ⟨bq,1,none⟩ = some (.slice ar xr.length cr) ∧ w'.cell? ⟨bv,ov + s * 2,none⟩ = some (.bool nw) ∧ w'.cell? ⟨bv,ov + s * 2 + 1,none⟩ = some (.slice aw lw dw)) := fun w' h => ⟨cnow h s0,cnow h s1,cnow h w0,cnow h w1⟩
         refine zEA (fun w' => w'.cell? ⟨bq,0,none⟩ = some (.bool nr) ∧ w'.cell? ⟨bq,1,none⟩ = some (.slice ar xr.length cr) ∧ w'.cell? ⟨bv,ov + s * 2,none⟩ = some (.bool nw) ∧ w'.cell? ⟨bv,ov + s * 2 + 1,none⟩ = some (.slice aw lw dw)) 6 (by kernel_rfl) ?_;obtain ⟨D55,hD⟩ : ∃ D55,Y.drew = D55 := ⟨_,rfl⟩
         have GB : Hid (Below Y.heap.size Y D55) := by unfold Hid;rw [← hD];exact (Below.refl _ _).drew
         rw [hD];clear hD;refine zGA [(0,(.agg #[.bool nr,.slice ar xr.length cr])),(1,(.slice (some ⟨bv,ov,none⟩) n cv)),(2,(.int .i64 (s : Int))),(3,(.pointer (some ⟨bv,ov + s * 2,none⟩))),(4,(.agg #[.bool nw,.slice aw lw dw]))] 5 ?_ (KB.out _ GB.out) ?_
         ·simp only [zQA,gA9,g09,g19,Act.put,sI9,s09,s19]
          (repeat' (first | exact trivial | refine And.intro (Or.inl ⟨by rfl,?_⟩) ?_)) <;> (intro w hSw;(try dsimp only at hSw);go_simp)
         simp only [actV,gA9,g09,g19,Act.put,sI9,s09,s19];refine zAA (i := 5) (o := ⟨some 191,.call { callee := .value (.func 13),args := #[.tmp 186,.tmp 190],argTypes := #[40,40] },3, "plain.go:196",#[⟨0,.data⟩,⟨4,.data⟩],none⟩) (by kernel_rfl) rfl (fun K hK => ?_);go_simp;go_at_call 13;refine (HCM.out _ GB.out).mono ?_;rintro e w56 ⟨rfl,b⟩;have lz56 := (show Below _ _ _ from b).size;replace GB := hid (below_step GB.out b);clear b;refine hK.out _ _ (fun _ => KB.out _ GB.out) ?_;clear hK;refine zAA (i := 6) (o := ⟨some 192,.binOp .neq 3 (.tmp 191) (.const (.int .i64 0)) 3,4, "plain.go:196",#[⟨5,.data⟩],none⟩) (by kernel_rfl) rfl (fun K hK => ?_);go_simp;refine hK.out _ _ (fun h => absurd h (by decide)) ?_;clear hK
         try simp only [Act.put]
         refine zDA (by kernel_rfl) ?_ _;have HN1 : Hid (zLE W11 0 n (n - (s + 1)) (.int .i64 ((s + 1 : Nat) : Int)) w56) := ⟨s + 1,rfl,Nat.zero_le _,by omega,rfl,below_step (below_step B0.out GY.out) GB.out⟩
         clear GB KB HCM s0 s1 w0 w1 GY B0 ZW;go_wp2_with fail;go_roundg (n - (s + 1))
         case rel => exact HN1.out
         case measure => exact HMM.out
        ·skip
         go_simp;obtain ⟨V35,hW⟩ : ∃ V35,D31.alloc zbox = V35 := ⟨_,rfl⟩
         obtain ⟨b,sz35⟩ := alo1 D31 zbox;rw [hW] at b sz35;replace GB := hid (below_step GB.out b);have PX : Hid (Duo V35 D31.heap.size (.bool false) (.slice none 0 0)) := by unfold Hid;rw [← hW];exact Duo.new D31 _ _
         have SP : Hid (wr.heap.size ≤ D31.heap.size) := by unfold Hid;have := GZ.out;omega
         rw [hW];clear hW b;refine hK.out _ _ (fun _ => KB.out _ GB.out) ?_;clear hK
         try simp only [Act.put]
         refine zAA (i := 8) (o := ⟨some 185,.call { callee := .value (.func 12),args := #[.tmp 180,.tmp 184],argTypes := #[40,40] },40, "plain.go:195",#[⟨3,.data⟩,⟨7,.data⟩],none⟩) (by kernel_rfl) rfl (fun K hK => ?_);go_simp;go_at_call 12;refine (HAD.out _ GB.out).mono ?_;rintro e w36 ⟨rr,rfl,m1,b⟩;have lz36 := (show Below _ _ _ from b).size;replace GB := hid (below_step GB.out b);have M1 := hid (m1.mono (Nat.zero_le _));obtain ⟨nr,xr,ar,cr,rfl⟩ := m1.parts;clear m1;replace PX := hid (PX.out.step b);clear b;refine hK.out _ _ (fun _ => KB.out _ GB.out) ?_;clear hK;refine zAA (i := 10) (o := ⟨none,.store 40 (.tmp 21) (.tmp 185),0, "plain.go:195",#[⟨9,.data⟩,⟨8,.data⟩,⟨8,.chain⟩,⟨0,.phase⟩,⟨1,.phase⟩,⟨2,.phase⟩,⟨3,.phase⟩,⟨4,.phase⟩,⟨5,.phase⟩,⟨6,.phase⟩,⟨7,.phase⟩,⟨8,.phase⟩,⟨9,.phase⟩],none⟩) (by kernel_rfl) rfl (fun K hK => ?_);have p0 := PX.out.c0;have p1 := PX.out.c1;have p2 := PX.out.fz 0;have p3 := PX.out.fz 1;go_simp;clear p0 p1 p2 p3;obtain ⟨V37,hW⟩ : ∃ V37,((w36.setCell ⟨D31.heap.size,0,none⟩ (.bool nr)).setCell ⟨D31.heap.size,1,none⟩ (.slice ar xr.length cr)) = V37 := ⟨_,rfl⟩
         replace GB : Hid (Below wr.heap.size wr V37) := by unfold Hid;rw [← hW];exact bset (bset GB.out SP.out) SP.out
         replace M1 : Hid (Zm 0 V37 (.agg #[.bool nr,.slice ar xr.length cr]) zz (k + 64 * t + t + 64 + 1)) := by unfold Hid;rw [← hW];exact M1.out.box PX.out _ _
         replace PX : Hid (Duo V37 D31.heap.size (.bool nr) (.slice ar xr.length cr)) := by unfold Hid;rw [← hW];exact PX.out.set _ _
         rw [hW];clear hW;refine hK.out _ _ (fun h => absurd h (by decide)) ?_;clear hK
         try simp only [Act.put]
         refine zDA (by kernel_rfl) ?_ _;obtain ⟨Y,hY⟩ : ∃ Y,Y = V37 := ⟨_,rfl⟩
         obtain ⟨bq,hbq⟩ : ∃ bq,D31.heap.size = bq := ⟨_,rfl⟩
         rw [hbq] at PX ⊢;rw [← hY] at GB M1 PX ⊢;have HCM : Hid (∀ w',Below Y.heap.size Y w' → Calls Tryz.prog 13 #[.agg #[.bool nr,.slice ar xr.length cr],.agg #[.bool nw,.slice aw lw dw]] w' fun e w'' => e = .returned (.int .i64 0) ∧ Below w'.heap.size w' w'') := fun w' hb => by
          have := zGG ((M1.out.now hb).zi) ((ZW.out.now GB.out).now hb) (by have := HT.out;have := HKL.out;omega) (by have := HT.out;have := HKL.out;omega);rw [cmpI_self] at this;exact this
         have s0 := PX.out.c0;have s1 := PX.out.c1;have w0 := cnow GB.out g0;have w1 := cnow GB.out g1;have GY := GB;clear hY hbq KB GZ SP HAD u0 u1 f0 f1 g0 g1 M1 PX GB x1;go_wp2_with fail;have KB : Hid (∀ w',Below Y.heap.size Y w' → w'.cell? ⟨bq,0,none⟩ = some (.bool nr) ∧ w'.cell? ⟨bq,1,none⟩ = some (.slice ar xr.length cr) ∧ w'.cell? ⟨bv,ov + s * 2,none⟩ = some (.bool nw) ∧ w'.cell? ⟨bv,ov + s * 2 + 1,none⟩ = some (.slice aw lw dw)) := fun w' h => ⟨cnow h s0,cnow h s1,cnow h w0,cnow h w1⟩
         refine zEA (fun w' => w'.cell? ⟨bq,0,none⟩ = some (.bool nr) ∧ w'.cell? ⟨bq,1,none⟩ = some (.slice ar xr.length cr) ∧ w'.cell? ⟨bv,ov + s * 2,none⟩ = some (.bool nw) ∧ w'.cell? ⟨bv,ov + s * 2 + 1,none⟩ = some (.slice aw lw dw)) 6 (by kernel_rfl) ?_;obtain ⟨D58,hD⟩ : ∃ D58,Y.drew = D58 := ⟨_,rfl⟩
         have GB : Hid (Below Y.heap.size Y D58) := by unfold Hid;rw [← hD];exact (Below.refl _ _).drew
         rw [hD];clear hD;refine zGA [(0,(.agg #[.bool nr,.slice ar xr.length cr])),(1,(.slice (some ⟨bv,ov,none⟩) n cv)),(2,(.int .i64 (s : Int))),(3,(.pointer (some ⟨bv,ov + s * 2,none⟩))),(4,(.agg #[.bool nw,.slice aw lw dw]))] 5 ?_ (KB.out _ GB.out) ?_
         ·simp only [zQA,gA9,g09,g19,Act.put,sI9,s09,s19]
          (repeat' (first | exact trivial | refine And.intro (Or.inl ⟨by rfl,?_⟩) ?_)) <;> (intro w hSw;(try dsimp only at hSw);go_simp)
         simp only [actV,gA9,g09,g19,Act.put,sI9,s09,s19];refine zAA (i := 5) (o := ⟨some 191,.call { callee := .value (.func 13),args := #[.tmp 186,.tmp 190],argTypes := #[40,40] },3, "plain.go:196",#[⟨0,.data⟩,⟨4,.data⟩],none⟩) (by kernel_rfl) rfl (fun K hK => ?_);go_simp;go_at_call 13;refine (HCM.out _ GB.out).mono ?_;rintro e w59 ⟨rfl,b⟩;have lz59 := (show Below _ _ _ from b).size;replace GB := hid (below_step GB.out b);clear b;refine hK.out _ _ (fun _ => KB.out _ GB.out) ?_;clear hK;refine zAA (i := 6) (o := ⟨some 192,.binOp .neq 3 (.tmp 191) (.const (.int .i64 0)) 3,4, "plain.go:196",#[⟨5,.data⟩],none⟩) (by kernel_rfl) rfl (fun K hK => ?_);go_simp;refine hK.out _ _ (fun h => absurd h (by decide)) ?_;clear hK
         try simp only [Act.put]
         refine zDA (by kernel_rfl) ?_ _;have HN1 : Hid (zLE W11 0 n (n - (s + 1)) (.int .i64 ((s + 1 : Nat) : Int)) w59) := ⟨s + 1,rfl,Nat.zero_le _,by omega,rfl,below_step (below_step B0.out GY.out) GB.out⟩
         clear GB KB HCM s0 s1 w0 w1 GY B0 ZW;go_wp2_with fail;go_roundg (n - (s + 1))
         case rel => exact HN1.out
         case measure => exact HMM.out
       ·have hlt3' : ¬ (s : Int) < (n : Int) := by omega
        replace PA := hid (PA.out.step B0.out);replace G := hid (below_step G.out B0.out);replace D5 := hid (D5.out.step B0.out);replace M5 := hid (M5.out.now B0.out);replace RR := hid (RR.out.now B0.out);have x0 := PA.out.at (i := 0) rfl;clear HG B0 ULA x1 RV2
        by_cases hxm : nx = j
        ·have HVQ := hid (HVX.out _ G.out hxm)
         have qx : ((nx : Int) != (j : Int)) = false := by simp;omega
         have x1 := PA.out.at (i := 1) rfl;have x2 := PA.out.at (i := 2) rfl;have HXM := hid hxm;obtain ⟨W12,hW12⟩ : ∃ W12,wr = W12 := ⟨_,rfl⟩
         rw [hW12] at PA G D5 M5 RR x0 x1 x2 HVQ ⊢;clear hxm HVX hW12;go_wp2_with fail;refine HVQ.out.mono ?_;rintro e w13 ⟨gq,rfl,hgq,hq,b⟩;have RQ : Hid (Rw17 w13 gq n (zkF (fun s => vmF n us zs s j) (fun s => vs.getD s 0) 0) (k + k + 64)) := by
          have h1 : Rw17 w13 gq n (fun s => vmF n us zs s j) (k + k + 64) := hq;exact h1.fun18 fun s hs => by simp [zkF]
         have GQ := hid hgq;have B12 := hid b;have J3 : Hid (zRI W12 gq n (fun s => vmF n us zs s j) (fun s => vs.getD s 0) (k + k + 64) n (.int .i64 0) w13) := ⟨0,rfl,Nat.zero_le _,rfl,RQ.out,b⟩
         clear hgq hq b HVQ x0 x1 x2 qx RQ;go_wp2_with fail
         go_loopg [24] n (fun gk s24 wx => zRI W12 gq n (fun s => vmF n us zs s j) (fun s => vs.getD s 0) (k + k + 64) gk s24 wx)
         case atStart => exact J3.out
         case round =>
          clear J3;obtain ⟨s,rfl,hsn,hg,hrq,hb⟩ := hrel;have RQ := hid hrq;have B0 := hid hb;have HG := hid hg;clear hb hg hrq;have x1 := (PA.out.step B0.out).at (i := 1) rfl
          by_cases hlt4 : s < n
          ·have hlt4' : (s : Int) < (n : Int) := by omega
           have hw4 := zVA (i := s) (by omega);have HMM : Hid (n - (s + 1) < gk) := by unfold Hid;rw [HG.out];omega
           obtain ⟨nf,af,lf,qf,f0,f1,-,-,zf⟩ := RQ.out.at hlt4;have ef : zkF (fun s => vmF n us zs s j) (fun s => vs.getD s 0) s s = vmF n us zs s j := by simp [zkF]
           rw [ef] at zf;obtain ⟨bv,ov,rfl⟩ := HVF.out (fun e => by have := HNV.out;rw [e] at this;simp at this;omega);obtain ⟨nw,yw,aw,dw,g0,g1,zw⟩ := (RV.out.now (below_step G.out B0.out)).at9 (i := s) (by rw [HNV.out];exact hlt4);obtain ⟨lw,hlw⟩ : ∃ lw,yw.length = lw := ⟨_,rfl⟩
           rw [hlw] at g1 zw;have evs : vs[s]'(by rw [HNV.out];exact hlt4) = vs.getD s 0 := by simp [show s < vs.length by rw [HNV.out];exact hlt4]
           rw [evs] at zw;obtain ⟨zz,hzz⟩ : ∃ zz,vmF n us zs s j + vs.getD s 0 = zz := ⟨_,rfl⟩
           have HAD : Hid (∀ w',Below wr.heap.size wr w' → Calls Tryz.prog 12 #[.agg #[.bool nf,.slice af lf qf],.agg #[.bool nw,.slice aw lw dw]] w' (zhA w' zz (k + k + 64 + s + 1))) := fun w' hb => by
            have := zrG (zf.zi.now hb) ((zw.now hb).more (l := k + k + 64 + s) (by omega)) (by have := HT.out;have := HKL.out;omega) (by have := HT.out;have := HKL.out;omega);rw [hzz,Nat.max_self] at this;exact this
           have HZZ := hid hzz;have HLT := hid hlt4;clear zf zw hzz evs hlw HG ef;go_wp2_with fail;have KB : Hid (∀ w',Below wr.heap.size wr w' → w'.cell? ⟨gq,s * 2,none⟩ = some (.bool nf) ∧ w'.cell? ⟨gq,s * 2 + 1,none⟩ = some (.slice af lf qf) ∧ w'.cell? ⟨bv,ov + s * 2,none⟩ = some (.bool nw) ∧ w'.cell? ⟨bv,ov + s * 2 + 1,none⟩ = some (.slice aw lw dw)) := fun w' h => ⟨cnow h f0,cnow h f1,cnow h g0,cnow h g1⟩
           refine zEA (fun w' => w'.cell? ⟨gq,s * 2,none⟩ = some (.bool nf) ∧ w'.cell? ⟨gq,s * 2 + 1,none⟩ = some (.slice af lf qf) ∧ w'.cell? ⟨bv,ov + s * 2,none⟩ = some (.bool nw) ∧ w'.cell? ⟨bv,ov + s * 2 + 1,none⟩ = some (.slice aw lw dw)) 12 (by kernel_rfl) ?_;obtain ⟨D61,hD⟩ : ∃ D61,wr.drew = D61 := ⟨_,rfl⟩
           have GB : Hid (Below wr.heap.size wr D61) := by unfold Hid;rw [← hD];exact (Below.refl _ _).drew
           rw [hD];clear hD;refine zGA [(0,(.slice (some ⟨gq,0,none⟩) n n)),(1,(.int .i64 (s : Int))),(2,(.slice (some ⟨gq,0,none⟩) n n)),(3,(.int .i64 (s : Int))),(4,(.pointer (some ⟨gq,s * 2,none⟩))),(5,(.agg #[.bool nf,.slice af lf qf])),(6,(.slice (some ⟨bv,ov,none⟩) n cv)),(7,(.int .i64 (s : Int))),(8,(.pointer (some ⟨bv,ov + s * 2,none⟩))),(9,(.agg #[.bool nw,.slice aw lw dw]))] 10 ?_ (KB.out _ GB.out) ?_
           ·simp only [zQA,gA9,g09,g19,Act.put,sI9,s09,s19]
            (repeat' (first | exact trivial | refine And.intro (Or.inl ⟨by rfl,?_⟩) ?_)) <;> (intro w hSw;(try dsimp only at hSw);go_simp)
           simp only [actV,gA9,g09,g19,Act.put,sI9,s09,s19];refine zAA (i := 10) (o := ⟨some 220,.call { callee := .value (.func 12),args := #[.tmp 215,.tmp 219],argTypes := #[40,40] },40, "plain.go:205",#[⟨5,.data⟩,⟨9,.data⟩],none⟩) (by kernel_rfl) rfl (fun K hK => ?_);go_simp;go_at_call 12;refine (HAD.out _ GB.out).mono ?_;rintro e w62 ⟨rr,rfl,m1,b⟩;have lz62 := (show Below _ _ _ from b).size;replace GB := hid (below_step GB.out b);have M1 := hid ((m1.mono (Nat.zero_le _)));obtain ⟨nr,xr,ar,cr,rfl⟩ := m1.parts;clear m1;clear b;refine hK.out _ _ (fun _ => KB.out _ GB.out) ?_;clear hK;refine zGA [(11,(.pointer (some ⟨gq,s * 2,none⟩)))] 1 ?_ (KB.out _ GB.out) ?_
           ·simp only [zQA,gA9,g09,g19,Act.put,sI9,s09,s19]
            (repeat' (first | exact trivial | refine And.intro (Or.inl ⟨by rfl,?_⟩) ?_)) <;> (intro w hSw;(try dsimp only at hSw);go_simp)
           simp only [actV,gA9,g09,g19,Act.put,sI9,s09,s19];refine zAA (i := 12) (o := ⟨none,.store 40 (.tmp 221) (.tmp 220),0, "plain.go:205",#[⟨11,.data⟩,⟨10,.data⟩,⟨10,.chain⟩,⟨0,.phase⟩,⟨1,.phase⟩,⟨2,.phase⟩,⟨3,.phase⟩,⟨4,.phase⟩,⟨5,.phase⟩,⟨6,.phase⟩,⟨7,.phase⟩,⟨8,.phase⟩,⟨9,.phase⟩,⟨10,.phase⟩],none⟩) (by kernel_rfl) rfl (fun K hK => ?_);obtain ⟨_,_,_,_,p0,p1,p2,p3,-⟩ := (RQ.out.now GB.out).at HLT.out;go_simp;clear p0 p1 p2 p3;obtain ⟨V63,hW⟩ : ∃ V63,((w62.setCell ⟨gq,s * 2,none⟩ (.bool nr)).setCell ⟨gq,s * 2 + 1,none⟩ (.slice ar xr.length cr)) = V63 := ⟨_,rfl⟩
           have HN1 : Hid (zRI W12 gq n (fun s => vmF n us zs s j) (fun s => vs.getD s 0) (k + k + 64) (n - (s + 1)) (.int .i64 ((s + 1 : Nat) : Int)) V63) := by
            unfold Hid;rw [← hW];have M2 : Zm 0 w62 (.agg #[.bool nr,.slice ar xr.length cr]) zz (k + k + 64 + (s + 1)) := M1.out;refine ⟨s + 1,rfl,by omega,rfl,(((RQ.out.more18 (l := k + k + 64 + (s + 1)) (by omega)).now GB.out).put HLT.out M2).1.fun18 fun i hi => ?_,bset (bset (below_step B0.out GB.out) GQ.out) GQ.out⟩;unfold zkF
            by_cases q : i = s
            ·rw [if_pos q,if_pos (by omega),q,HZZ.out]
            ·rw [if_neg q]
             by_cases q2 : i < s
             ·rw [if_pos q2,if_pos (by omega)]
             ·rw [if_neg q2,if_neg (by omega)]
           rw [hW];clear hW;refine hK.out _ _ (fun h => absurd h (by decide)) ?_;clear hK
           try simp only [Act.put]
           refine zDA (by kernel_rfl) ?_ _;clear KB GB HAD RQ B0 f0 f1 g0 g1 x1 M1;go_wp2_with fail;go_roundg (n - (s + 1))
           case rel => exact HN1.out
           case measure => exact HMM.out
          ·have hlt4' : ¬ (s : Int) < (n : Int) := by omega
           obtain rfl : s = n := by omega
           have RQ2 : Hid (Rw17 wr gq s (fun i => vmF s us zs i j + vs.getD i 0) (k + k + 64 + s)) := RQ.out.fun18 fun i hi => by simp [zkF,hi]
           replace PA := hid (PA.out.step B0.out);replace G := hid (below_step G.out B0.out);replace D5 := hid (D5.out.step B0.out);replace M5 := hid (M5.out.now B0.out);replace RR := hid (RR.out.now B0.out);have HRD := hid (zJF M5.out.mx H5.out.on.ec H5.out.on.rd (RQ2.out.zl18 hn64) (by simp) HT.out.1 (by have := HT.out;omega));have y0 := D5.out.at (i := 0) rfl;have y1 := D5.out.at (i := 1) rfl;have y2 := D5.out.at (i := 2) rfl;clear HG B0 RQ RQ2;go_wp2_with fail;refine HRD.out.mono ?_;rintro e w14 ⟨gR2,gC2,rfl,-,-,hR2,-,b⟩;replace RR := hid (RR.out.now b);replace G := hid (below_step G.out b);obtain ⟨p1,p11,p12⟩ := (hR2.fun18 (hr_same18 (us := us) (vs := vs) H5.out)).zcs18 hn64;obtain ⟨p2,p21,p22⟩ := RR.out.zcs18 hn64;have HAL := hid (ztB p11 p12 p21 p22);clear hR2 p11 p12 p21 p22 b HRD y0 y1 y2;go_wp2_with fail;refine HAL.out.mono ?_;rintro e w15 ⟨rfl,b⟩;have GE := hid (below_step G.out b);clear HAL b G;go_wp2;go_ret;exact ⟨rfl,GE.out⟩
        ·have qx : ((nx : Int) != (j : Int)) = true := by simp;omega
         have x1 := PA.out.at (i := 1) rfl;have x2 := PA.out.at (i := 2) rfl;have GE := G;clear hxm G HVX;go_wp2;go_ret;exact ⟨rfl,GE.out⟩
   ·have HRD := hid (reduceNoFit18 (a := av) (c := cv) M5.out.mx hvn)
    have qv : ((nv : Int) != (n : Int)) = true := by simp;omega
    go_wp2_with fail;refine HRD.out.mono ?_;rintro e w9 ⟨rfl,b⟩;replace PA := hid (PA.out.step b);have GE := hid (below_step G.out b);clear HRD b y0 y1 y2 x1 G hvn;have x1 := PA.out.at (i := 1) rfl;go_wp2;go_ret;exact ⟨rfl,GE.out⟩
end Go.Proofs.YtdeomkkpainakaaGreat
