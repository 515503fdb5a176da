/-
 QNeg11ToAdd11: Neg11, Add11, joined.
-/
import Derived.Test.YtnfpjgmmhhdgbaaGreatQDo11
import Derived.Test.YtnfpjgmmhhdgbaaGreatQZOnesToZCmp
import Derived.Test.YtnfpjgmmhhdgbaaGreatQZAdd

set_option maxRecDepth 100000
set_option maxHeartbeats 6400000
set_option linter.unusedVariables false
set_option linter.unusedSimpArgs false
namespace Go.Proofs.YtnfpjgmmhhdgbaaGreat
open Go.RowKit
def mixR (xs ys : List Int) (t : Nat) : List Int := ys.take t ++ xs.drop t
theorem mixR_zero (xs ys : List Int) : mixR xs ys 0 = xs := by simp [mixR]
theorem mixR_all {xs ys : List Int} {c : Nat} (hx : xs.length = c) (hy : ys.length = c) : mixR xs ys c = ys := by
 rw [mixR,List.take_of_length_le (by omega),List.drop_eq_nil_of_le (by omega),List.append_nil]
theorem mixR_length {xs ys : List Int} {c t : Nat} (hx : xs.length = c) (hy : ys.length = c) (ht : t ≤ c) : (mixR xs ys t).length = c := by
 simp [mixR];omega
theorem ztF {xs ys : List Int} {c t : Nat} (hx : xs.length = c) (hy : ys.length = c) (ht : t < c) : (mixR xs ys t)[t]? = xs[t]? := by
 rw [mixR,List.getElem?_append_right (by simp;omega)]
 simp
 congr 1
 omega
theorem zcE {xs ys : List Int} {c t : Nat} (hx : xs.length = c) (hy : ys.length = c) (ht : t < c) : (mixR xs ys t).set t (ys.getD t 0) = mixR xs ys (t + 1) := by
 apply List.ext_getElem?
 intro s
 by_cases q : s = t
 ·subst q
  rw [List.getElem?_set_self (by rw [mixR_length hx hy (by omega)];omega),mixR,List.getElem?_append_left (by simp;omega),List.getElem?_take,if_pos (by omega)];simp [show s < ys.length by omega]
 ·rw [List.getElem?_set_ne (by omega)]
  by_cases p : s < t
  ·rw [mixR,mixR,List.getElem?_append_left (by simp;omega),List.getElem?_append_left (by simp;omega),List.getElem?_take,List.getElem?_take,if_pos (by omega),if_pos (by omega)]
  ·rw [mixR,mixR,List.getElem?_append_right (by simp;omega),List.getElem?_append_right (by simp;omega),List.getElem?_drop,List.getElem?_drop]
   congr 1
   simp
   omega
theorem zJC {m : List (List Int)} {i : Nat} {r : List Int} (hi : i < m.length) : zHA (m.set i r) i = r := by simp [zHA,hi]
theorem rowAt_ne {m : List (List Int)} {i j : Nat} {r : List Int} (h : i ≠ j) : zHA (m.set i r) j = zHA m j := by simp [zHA,List.getElem?_set_ne h]
theorem set_rowAt {m : List (List Int)} {i : Nat} (hi : i < m.length) : m.set i (zHA m i) = m := by
 have e : zHA m i = m[i] := by simp [zHA,hi]
 rw [e,List.set_getElem_self]
theorem Sht.at {B c k : Nat} {w : World} {lv : Value} {gs : List Nat} {m : List (List Int)} (h : Sht B w lv c gs m k) {i g t : Nat} (hg : gs[i]? = some g) (ht : t < c) :
  ∃ nv av lw cv,w.cell? ⟨g,t * 2,none⟩ = some (.bool nv) ∧ w.cell? ⟨g,t * 2 + 1,none⟩ = some (.slice av lw cv) ∧ w.frozen? ⟨g,t * 2,none⟩ = false ∧ w.frozen? ⟨g,t * 2 + 1,none⟩ = false ∧ Zc w (.agg #[.bool nv,.slice av lw cv]) ((zHA m i).getD t 0) k := by
 obtain ⟨h1,h2,h3,h4,h5,h6⟩ := h;have hi : i < gs.length := (List.getElem?_eq_some_iff.1 hg).1;obtain ⟨ps,p1,p2⟩ := h6 i g hg;have hl := h5.at (show i < m.length by omega);have hp : ps[t]? = some (ps[t]'(by rw [p2.1];omega)) := List.getElem?_eq_getElem (by rw [p2.1];omega);obtain ⟨n0,a0,l0,c0,eI⟩ := p1.2 _ (List.getElem_mem (show t < ps.length by rw [p2.1];omega));have hz : (zHA m i)[t]? = some ((zHA m i).getD t 0) := by simp [show t < (zHA m i).length by omega]
 have q := p1.at hp;have z := p2.2 t _ _ hp hz;rw [eI] at q z;exact ⟨n0,a0,l0,c0,q.1,q.2,p1.1.fz _,p1.1.fz _,z⟩
theorem Sht.col {B c k : Nat} {w : World} {lv : Value} {gs : List Nat} {m : List (List Int)} (h : Sht B w lv c gs m k) {i : Nat} (hi : i < m.length) : (zHA m i).length = c := h.2.2.2.2.1.at hi
def RowH (B : Nat) (w : World) (lv : Value) (c : Nat) (gs : List Nat) (m : List (List Int)) (i : Nat) (ys : List Int) (k n : Nat) (gk : Nat) (s : Value) (wx : World) : Prop :=
 ∃ t : Nat,s = .int .i64 (t : Int) ∧ t ≤ c ∧ gk = c - t ∧ Sht B wx lv c gs (m.set i (mixR (zHA m i) ys t)) k ∧ Below B w wx ∧ Kw w wx ∧ n ≤ wx.heap.size
theorem do_neg {B c k i : Nat} {w : World} {lv : Value} {gs : List Nat} {m : List (List Int)} (h : Sht B w lv c gs m k) (hi : i < m.length) (hc : c ≤ 64) :
  Calls Tryz.prog 179 #[.agg #[.int .i64 (i : Int)],lv] w (Dn B w lv c ((St.neg i).run m) k) := by
 have hB := h.size (by omega);obtain ⟨W0,hW⟩ : ∃ W0,w.alloc (.cells #[.int .i64 (i : Int)] 155) = W0 := ⟨_,rfl⟩
 obtain ⟨b0,sz0⟩ := alo1 w (.cells #[.int .i64 (i : Int)] 155);rw [hW] at b0 sz0;have P1 : Hid (Cel W0 w.heap.size 155 [.int .i64 (i : Int)]) := by unfold Hid;rw [← hW];exact Cel.new w _ _
 obtain ⟨a,cap,rfl,hcap,hL⟩ := h.form;obtain ⟨L,rfl,hBL,hLs⟩ := hL (by omega);have S0 := hid (h.now b0);obtain ⟨g,hg,-⟩ := h.blk hi;have la := (S0.out.lineZ rfl hg).1;have y0 := P1.out.at (i := 0) rfl;rw [← hW] at la y0;have ii : (i : Int) < (m.length : Int) := by omega
 have HX := hid (h.col hi);have HY : Hid ((zDB (zHA m i)).length = c) := by unfold Hid;rw [zNC];exact h.col hi
 have HI := hid hi;have H0 : Hid (∀ n,m.length = n → RowH B w (.slice (some ⟨L,0,none⟩) n cap) c gs m i (zDB (zHA m i)) k W0.heap.size c (.int .i64 0) W0) := by
  rintro n rfl;refine ⟨0,rfl,Nat.zero_le _,by omega,?_,b0.mono hB,Kw.of b0,Nat.le_refl _⟩;rw [mixR_zero,set_rowAt hi];exact S0.out
 obtain ⟨n,hn⟩ : ∃ n,m.length = n := ⟨_,rfl⟩
 replace H0 := hid (H0.out n hn);rw [hn] at ii ⊢;have HN := hid hn;have EW := hid hW;have GI := hid hg;have FIN : Hid (∀ wr,Sht B wr (.slice (some ⟨L,0,none⟩) n cap) c gs (m.set i (mixR (zHA m i) (zDB (zHA m i)) c)) k → Below B w wr → Kw w wr → Dn B w (.slice (some ⟨L,0,none⟩) n cap) c ((St.neg i).run m) k (.returned (.tuple #[])) wr) := by
  intro wr s1 s2 s3;refine ⟨gs,rfl,?_,s2,s3⟩;rw [mixR_all HX.out HY.out] at s1;exact s1
 clear h b0 sz0 hW hL hg hi hn hBL hLs hB S0 P1 hcap;go_enter Tryz.func179,Tryz.ntmps179;go_wp2_with fail;rw [EW.out]
 go_loopg [14] c (fun gk s14 wx => RowH B w (.slice (some ⟨L,0,none⟩) n cap) c gs m i (zDB (zHA m i)) k W0.heap.size gk s14 wx)
 case atStart => exact H0.out
 case round =>
  clear H0 la y0 EW;obtain ⟨t,rfl,htc,hgk,hS,hBw,hK,hsz⟩ := hrel;have SS := hid hS;have BW := hid hBw;have KW := hid hK;have SZ := hid hsz;have HG := hid hgk;clear hS hBw hK hgk hsz
  by_cases hlt : t < c
  ·have hlt' : (t : Int) < (c : Int) := by omega
   obtain ⟨nf,adf,lf,qf,k0,k1,-,-,zf⟩ := SS.out.at GI.out hlt;obtain ⟨V1,hV⟩ : ∃ V1,wr.alloc (duo (.bool nf) (.slice adf lf qf)) = V1 := ⟨_,rfl⟩
   obtain ⟨b,sz1⟩ := alo1 wr (duo (.bool nf) (.slice adf lf qf));rw [hV] at b sz1;have PN : Hid (Duo V1 wr.heap.size (.bool nf) (.slice adf lf qf)) := by unfold Hid;rw [← hV];exact Duo.new wr _ _
   have HS := hid (zJH (zf.zi.now b));have SS1 := hid (SS.out.now b);have BW1 := hid (BW.out.trans (b.mono (Nat.le_trans (SS.out.size (by rw [List.length_set];exact Nat.lt_of_le_of_lt (Nat.zero_le _) HI.out)) (Nat.le_refl _))));have KW1 := hid (KW.out.trans (Kw.of b));replace SZ := hid (Nat.le_trans SZ.out b.size);have n0 := PN.out.c0;have n1 := PN.out.c1;rw [← hV] at n0 n1;have EV := hid hV;have hw := zgA (i := t) (by omega);clear zf b sz1 hV PN SS BW KW;go_wp2_with fail;rw [EV.out];refine HS.out.mono ?_;rintro e w1 ⟨r,rfl,m1,b⟩;have hz0 : 0 < (m.set i (mixR (zHA m i) (zDB (zHA m i)) t)).length := by rw [List.length_set];exact Nat.lt_of_le_of_lt (Nat.zero_le _) HI.out
   have SS2 := hid (SS1.out.now b);have BW2 := hid (BW1.out.trans (b.mono (SS1.out.size hz0)));have KW2 := hid (KW1.out.trans (Kw.of b));have M1 := hid m1.zc;obtain ⟨nr,xr,ar,cr,rfl⟩ := m1.parts;obtain ⟨m0,am,lm,cm,e0,e1,e2,e3,-⟩ := SS2.out.at GI.out hlt;have HN1 : Hid (RowH B w (.slice (some ⟨L,0,none⟩) n cap) c gs m i (zDB (zHA m i)) k W0.heap.size (c - (t + 1)) (.int .i64 ((t + 1 : Nat) : Int)) ((w1.setCell ⟨g,t * 2,none⟩ (.bool nr)).setCell ⟨g,t * 2 + 1,none⟩ (.slice ar xr.length cr))) := by
    have hp := M1.out;have er : (zHA (m.set i (mixR (zHA m i) (zDB (zHA m i)) t)) i).getD t 0 = (zHA m i).getD t 0 := by
     rw [zJC HI.out,List.getD_eq_getElem?_getD,ztF HX.out HY.out hlt,List.getD_eq_getElem?_getD]
    have en : -((zHA m i).getD t 0) = (zDB (zHA m i)).getD t 0 := by
     have : t < (zHA m i).length := by rw [HX.out];exact hlt
     simp [zDB,this]
    rw [er,en] at hp;obtain ⟨s1,s2,s3⟩ := SS2.out.put GI.out hlt hp;refine ⟨t + 1,rfl,by omega,rfl,?_,BW2.out.trans s2,KW2.out.trans s3,Nat.le_trans (Nat.le_trans SZ.out b.size) s3.1⟩;rw [zJC HI.out,List.set_set,zcE HX.out HY.out hlt] at s1;exact s1
   have HMM : Hid (c - (t + 1) < gk) := by unfold Hid;rw [HG.out];omega
   clear HS SS1 BW1 KW1 SS2 BW2 KW2 HG M1 m1 b k0 k1 n0 n1 EV hz0 SZ;go_wp2_with fail;go_roundg (c - (t + 1))
   case rel => exact HN1.out
   case measure => exact HMM.out
  ·have hlt' : ¬ (t : Int) < (c : Int) := by omega
   obtain rfl : t = c := by omega
   have FF := hid (FIN.out wr SS.out BW.out KW.out);clear SS BW KW HG FIN SZ;go_wp2;go_end0;exact FF.out
theorem Zc.fit {w : World} {v : Value} {z : Int} {k l : Nat} (h : Zc w v z k) (hz : (z.natAbs : Int) < pw l) : Zc w v z l := by
 obtain ⟨n,xs,a,c,h1,h2,h3,h4,h5,h6⟩ := h;have e := zIA h3.1;refine ⟨n,xs,a,c,h1,h2,h3,h4,h5,zGB h3 ?_⟩;cases n <;> simp [iv] at h5 <;> omega
theorem do_add {B c k l i j : Nat} {w : World} {lv : Value} {gs : List Nat} {m : List (List Int)} {nk : Bool} {ak : Option Addr} {lk ck : Nat} {z : Int} (h : Sht B w lv c gs m k) (hi : i < m.length) (hj : j < m.length) (hij : i ≠ j) (hc : c ≤ 64)
  (hz : Zi w (.agg #[.bool nk,.slice ak lk ck]) z l) (hkl : l + k + 1 < 35184372088832) :
  Calls Tryz.prog 183 #[.agg #[.int .i64 (i : Int),.int .i64 (j : Int),.bool nk,.slice ak lk ck],lv] w (Dn B w lv c ((St.add i j z).run m) (l + k + 1)) := by
 have hB := h.size (by omega);obtain ⟨W0,hW⟩ : ∃ W0,w.alloc (.cells #[.int .i64 (i : Int),.int .i64 (j : Int),.bool nk,.slice ak lk ck] 157) = W0 := ⟨_,rfl⟩
 obtain ⟨b0,sz0⟩ := alo1 w (.cells #[.int .i64 (i : Int),.int .i64 (j : Int),.bool nk,.slice ak lk ck] 157);rw [hW] at b0 sz0;have P1 : Hid (Cel W0 w.heap.size 157 [.int .i64 (i : Int),.int .i64 (j : Int),.bool nk,.slice ak lk ck]) := by unfold Hid;rw [← hW];exact Cel.new w _ _
 obtain ⟨a,cap,rfl,hcap,hL⟩ := h.form;obtain ⟨L,rfl,hBL,hLs⟩ := hL (by omega);have S0 := hid (h.now b0);obtain ⟨g,hg,-⟩ := h.blk hi;obtain ⟨gj,hgj,-⟩ := h.blk hj;have la := (S0.out.lineZ rfl hg).1;have lb := (S0.out.lineZ rfl hgj).1;have y0 := P1.out.at (i := 0) rfl;have y1 := P1.out.at (i := 1) rfl;rw [← hW] at la lb y0 y1;have ii : (i : Int) < (m.length : Int) := by omega
 have jj : (j : Int) < (m.length : Int) := by omega
 have HX := hid (h.col hi);have HXJ := hid (h.col hj);have HY : Hid ((zyA z (zHA m i) (zHA m j)).length = c) := by unfold Hid;exact zXC (h.col hi) (h.col hj)
 have HI := hid hi;have HIJ := hid hij;have FI : Hid (∀ t,t < c → (((zHA m i).getD t 0).natAbs : Int) < pw k) := fun t ht => by
  obtain ⟨_,_,_,_,_,_,_,_,q⟩ := h.at hg ht;exact q.zi.lt
 have FJ : Hid (∀ t,t < c → (((zHA m j).getD t 0).natAbs : Int) < pw k) := fun t ht => by
  obtain ⟨_,_,_,_,_,_,_,_,q⟩ := h.at hgj ht;exact q.zi.lt
 have ZK := hid (hz.now b0);have HB0 : Hid (B ≤ W0.heap.size) := by unfold Hid;omega
 have H0 : Hid (∀ n,m.length = n → RowH B W0 (.slice (some ⟨L,0,none⟩) n cap) c gs m i (zyA z (zHA m i) (zHA m j)) (l + k + 1) W0.heap.size c (.int .i64 0) W0) := by
  rintro n rfl;refine ⟨0,rfl,Nat.zero_le _,by omega,?_,Below.refl _ _,Kw.refl _,Nat.le_refl _⟩;rw [mixR_zero,set_rowAt hi];exact S0.out.more (by omega)
 obtain ⟨n,hn⟩ : ∃ n,m.length = n := ⟨_,rfl⟩
 replace H0 := hid (H0.out n hn);rw [hn] at ii jj ⊢;have EW := hid hW;have GI := hid hg;have GJ := hid hgj;have HKL := hid hkl;have FIN : Hid (∀ wr,Sht B wr (.slice (some ⟨L,0,none⟩) n cap) c gs (m.set i (mixR (zHA m i) (zyA z (zHA m i) (zHA m j)) c)) (l + k + 1) → Below B W0 wr → Kw W0 wr → Dn B w (.slice (some ⟨L,0,none⟩) n cap) c ((St.add i j z).run m) (l + k + 1) (.returned (.tuple #[])) wr) := by
  intro wr s1 s2 s3;refine ⟨gs,rfl,?_,(b0.mono hB).trans s2,(Kw.of b0).trans s3⟩;rw [mixR_all HX.out HY.out] at s1;exact s1
 clear h b0 sz0 hW hL hg hgj hi hj hij hn hBL hLs hB S0 hcap hz hkl;go_enter Tryz.func183,Tryz.ntmps183;go_wp2_with fail;rw [EW.out]
 go_loopg [18] c (fun gk s18 wx => RowH B W0 (.slice (some ⟨L,0,none⟩) n cap) c gs m i (zyA z (zHA m i) (zHA m j)) (l + k + 1) W0.heap.size gk s18 wx)
 case atStart => exact H0.out
 case round =>
  clear H0 la lb y0 y1 EW;obtain ⟨t,rfl,htc,hgk,hS,hBw,hK,hsz⟩ := hrel;have SS := hid hS;have BW := hid hBw;have KW := hid hK;have HG := hid hgk;clear hS hBw hK hgk hsz
  by_cases hlt : t < c
  ·have hlt' : (t : Int) < (c : Int) := by omega
   obtain ⟨nf,adf,lf,qf,k0,k1,-,-,zf⟩ := SS.out.at GJ.out hlt;rw [rowAt_ne HIJ.out] at zf;have ZJ := hid ((zf.fit (FJ.out t hlt)).zi);obtain ⟨V1,hV⟩ : ∃ V1,wr.alloc (duo (.bool nf) (.slice adf lf qf)) = V1 := ⟨_,rfl⟩
   obtain ⟨b,sz1⟩ := alo1 wr (duo (.bool nf) (.slice adf lf qf));rw [hV] at b sz1;have PN : Hid (Duo V1 wr.heap.size (.bool nf) (.slice adf lf qf)) := by unfold Hid;rw [← hV];exact Duo.new wr _ _
   have hz0 : 0 < (m.set i (mixR (zHA m i) (zyA z (zHA m i) (zHA m j)) t)).length := by rw [List.length_set];exact Nat.lt_of_le_of_lt (Nat.zero_le _) HI.out
   have HZ0 := hid hz0;have SS1 := hid (SS.out.now b);have BW1 := hid (BW.out.trans (b.mono (SS.out.size hz0)));have KW1 := hid (KW.out.trans (Kw.of b));replace ZJ := hid (ZJ.out.now b);have ZK1 := hid (ZK.out.wk KW1.out.2.2);have P11 := hid (KW1.out.cel P1.out (by decide) (by decide));obtain ⟨ni,adi,li,qi,g0,g1,-,-,zi⟩ := SS1.out.at GI.out hlt;rw [zJC HI.out,List.getD_eq_getElem?_getD,ztF HX.out HY.out hlt,← List.getD_eq_getElem?_getD] at zi;have ZI := hid ((zi.fit (FI.out t hlt)).zi);have n0 := PN.out.c0;have n1 := PN.out.c1;have x2 := P11.out.at (i := 2) rfl;have x3 := P11.out.at (i := 3) rfl;have EV := hid hV;have hw := zgA (i := t) (by omega);clear zf zi b sz1 hV SS BW KW hz0 P11;go_wp2_with fail;rw [EV.out];clear EV k0 k1;have KB : Hid (∀ w',Below V1.heap.size V1 w' → w'.cell? ⟨w.heap.size,2,none⟩ = some (.bool nk) ∧ w'.cell? ⟨w.heap.size,3,none⟩ = some (.slice ak lk ck) ∧ w'.cell? ⟨wr.heap.size,0,none⟩ = some (.bool nf) ∧ w'.cell? ⟨wr.heap.size,1,none⟩ = some (.slice adf lf qf) ∧ w'.cell? ⟨g,t * 2,none⟩ = some (.bool ni) ∧ w'.cell? ⟨g,t * 2 + 1,none⟩ = some (.slice adi li qi)) := fun w' h => ⟨cnow h x2,cnow h x3,cnow h n0,cnow h n1,cnow h g0,cnow h g1⟩
   refine zEA (fun w' => w'.cell? ⟨w.heap.size,2,none⟩ = some (.bool nk) ∧ w'.cell? ⟨w.heap.size,3,none⟩ = some (.slice ak lk ck) ∧ w'.cell? ⟨wr.heap.size,0,none⟩ = some (.bool nf) ∧ w'.cell? ⟨wr.heap.size,1,none⟩ = some (.slice adf lf qf) ∧ w'.cell? ⟨g,t * 2,none⟩ = some (.bool ni) ∧ w'.cell? ⟨g,t * 2 + 1,none⟩ = some (.slice adi li qi)) 11 (by kernel_rfl) ?_;obtain ⟨D1,hD⟩ : ∃ D1,V1.drew = D1 := ⟨_,rfl⟩
   have GB : Hid (Below V1.heap.size V1 D1) := by unfold Hid;rw [← hD];exact (Below.refl _ _).drew
   rw [hD];clear hD;refine zBA (i := 0) (oi := ⟨some 23,.move (.tmp 4),22, "kinds.go:51",#[],none⟩) (v := (.slice (some ⟨g,0,none⟩) c c)) rfl (by kernel_rfl) (fun _ _ _ h => h) (Or.inl ⟨by rfl,?_⟩) (KB.out _ GB.out) ?_
   ·intro w hSw;(try dsimp only at hSw);go_simp
   simp only [Act.put,sIb,sC0,sC1];refine zBA (i := 1) (oi := ⟨some 24,.move (.tmp 5),3, "kinds.go:51",#[],none⟩) (v := (.int .i64 (t : Int))) rfl (by kernel_rfl) (fun _ _ _ h => h) (Or.inl ⟨by rfl,?_⟩) (KB.out _ GB.out) ?_
   ·intro w hSw;(try dsimp only at hSw);go_simp
   simp only [Act.put,sIb,sC0,sC1];refine zBA (i := 2) (oi := ⟨some 25,.fieldAddr 157 (.tmp 2) 2,0, "kinds.go:51",#[],none⟩) (v := (.pointer (some ⟨w.heap.size,2,none⟩))) rfl (by kernel_rfl) (fun _ _ _ h => h) (Or.inl ⟨by rfl,?_⟩) (KB.out _ GB.out) ?_
   ·intro w hSw;(try dsimp only at hSw);go_simp
   simp only [Act.put,sIb,sC0,sC1];refine zBA (i := 3) (oi := ⟨some 26,.load 51 (.tmp 25),51, "kinds.go:51",#[⟨2,.data⟩],none⟩) (v := (.agg #[.bool nk,.slice ak lk ck])) rfl (by kernel_rfl) (fun _ _ _ h => h) (Or.inl ⟨by rfl,?_⟩) (KB.out _ GB.out) ?_
   ·intro w hSw;(try dsimp only at hSw);go_simp
   simp only [Act.put,sIb,sC0,sC1];refine zBA (i := 4) (oi := ⟨some 27,.load 51 (.tmp 6),51, "kinds.go:51",#[],none⟩) (v := (.agg #[.bool nf,.slice adf lf qf])) rfl (by kernel_rfl) (fun _ _ _ h => h) (Or.inl ⟨by rfl,?_⟩) (KB.out _ GB.out) ?_
   ·intro w hSw;(try dsimp only at hSw);go_simp
   simp only [Act.put,sIb,sC0,sC1];refine zBA (i := 5) (oi := ⟨some 28,.move (.tmp 4),22, "kinds.go:51",#[],none⟩) (v := (.slice (some ⟨g,0,none⟩) c c)) rfl (by kernel_rfl) (fun _ _ _ h => h) (Or.inl ⟨by rfl,?_⟩) (KB.out _ GB.out) ?_
   ·intro w hSw;(try dsimp only at hSw);go_simp
   simp only [Act.put,sIb,sC0,sC1];refine zBA (i := 6) (oi := ⟨some 29,.move (.tmp 5),3, "kinds.go:51",#[],none⟩) (v := (.int .i64 (t : Int))) rfl (by kernel_rfl) (fun _ _ _ h => h) (Or.inl ⟨by rfl,?_⟩) (KB.out _ GB.out) ?_
   ·intro w hSw;(try dsimp only at hSw);go_simp
   simp only [Act.put,sIb,sC0,sC1];refine zBA (i := 7) (oi := ⟨some 30,.indexAddr 22 (.tmp 28) (.tmp 29),0, "kinds.go:51",#[⟨5,.data⟩,⟨6,.data⟩],none⟩) (v := (.pointer (some ⟨g,t * 2,none⟩))) rfl (by kernel_rfl) (fun _ _ _ h => h) (Or.inl ⟨by rfl,?_⟩) (KB.out _ GB.out) ?_
   ·intro w hSw;(try dsimp only at hSw);go_simp
   simp only [Act.put,sIb,sC0,sC1];refine zBA (i := 8) (oi := ⟨some 31,.load 51 (.tmp 30),51, "kinds.go:51",#[⟨7,.data⟩],none⟩) (v := (.agg #[.bool ni,.slice adi li qi])) rfl (by kernel_rfl) (fun _ _ _ h => h) (Or.inl ⟨by rfl,?_⟩) (KB.out _ GB.out) ?_
   ·intro w hSw;(try dsimp only at hSw);go_simp
   simp only [Act.put,sIb,sC0,sC1];refine zAA (i := 9) (o := ⟨some 32,.call { callee := .value (.func 99),args := #[.tmp 26,.tmp 27,.tmp 31],argTypes := #[51,51,51] },51, "kinds.go:51",#[⟨3,.data⟩,⟨4,.data⟩,⟨8,.data⟩],none⟩) (by kernel_rfl) rfl (fun K hK => ?_);go_simp;go_at_call 99;refine (zDE (ZK1.out.now GB.out) (ZJ.out.now GB.out) (ZI.out.now GB.out) (show l + k < 35184372088832 by have := HKL.out;omega) (show k < 35184372088832 by have := HKL.out;omega)).mono ?_;rintro e w2 ⟨r,rfl,m1,b⟩;have lz2 := (show Below _ _ _ from b).size;replace GB := hid (below_step GB.out b);have M1 := hid (m1.zc.more (show max (l + k) k + 1 ≤ l + k + 1 by omega));obtain ⟨nr,xr,ar,cr,rfl⟩ := m1.parts;have SS2 := hid (SS1.out.now GB.out);have BW2 := hid (BW1.out.trans (GB.out.mono (SS1.out.size HZ0.out)));have KW2 := hid (KW1.out.trans (Kw.of GB.out));clear m1;clear b;refine hK.out _ _ (fun _ => KB.out _ GB.out) ?_;clear hK;refine zBA (i := 10) (oi := ⟨some 33,.indexAddr 22 (.tmp 23) (.tmp 24),0, "kinds.go:51",#[⟨0,.data⟩,⟨1,.data⟩,⟨0,.phase⟩,⟨1,.phase⟩,⟨2,.phase⟩,⟨3,.phase⟩,⟨4,.phase⟩,⟨5,.phase⟩,⟨6,.phase⟩,⟨7,.phase⟩,⟨8,.phase⟩,⟨9,.phase⟩],none⟩) (v := (.pointer (some ⟨g,t * 2,none⟩))) rfl (by kernel_rfl) (fun _ _ _ h => h) (Or.inl ⟨by rfl,?_⟩) (KB.out _ GB.out) ?_
   ·intro w hSw;(try dsimp only at hSw);go_simp
   simp only [Act.put,sIb,sC0,sC1];refine zAA (i := 11) (o := ⟨none,.store 51 (.tmp 33) (.tmp 32),0, "kinds.go:51",#[⟨10,.data⟩,⟨9,.data⟩,⟨9,.chain⟩,⟨0,.phase⟩,⟨1,.phase⟩,⟨2,.phase⟩,⟨3,.phase⟩,⟨4,.phase⟩,⟨5,.phase⟩,⟨6,.phase⟩,⟨7,.phase⟩,⟨8,.phase⟩,⟨9,.phase⟩],none⟩) (by kernel_rfl) rfl (fun K hK => ?_);obtain ⟨m0,am,lm,cm,e0,e1,e2,e3,-⟩ := SS2.out.at GI.out hlt;go_simp;clear e0 e1 e2 e3;obtain ⟨V3,hW⟩ : ∃ V3,((w2.setCell ⟨g,t * 2,none⟩ (.bool nr)).setCell ⟨g,t * 2 + 1,none⟩ (.slice ar xr.length cr)) = V3 := ⟨_,rfl⟩
   have HN1 : Hid (RowH B W0 (.slice (some ⟨L,0,none⟩) n cap) c gs m i (zyA z (zHA m i) (zHA m j)) (l + k + 1) W0.heap.size (c - (t + 1)) (.int .i64 ((t + 1 : Nat) : Int)) V3) := by
    unfold Hid;rw [← hW];have hp := M1.out;have en : z * ((zHA m j).getD t 0) + (zHA m i).getD t 0 = (zyA z (zHA m i) (zHA m j)).getD t 0 := by
     have h1 : t < (zHA m i).length := by rw [HX.out];exact hlt
     have h2 : t < (zHA m j).length := by rw [HXJ.out];exact hlt
     have h3 : t < (zyA z (zHA m i) (zHA m j)).length := by rw [HY.out];exact hlt
     rw [List.getD_eq_getElem?_getD (l := zyA z (zHA m i) (zHA m j)),List.getElem?_eq_getElem h3];simp [zyA,h1,h2]
    rw [en] at hp;obtain ⟨s1,s2,s3⟩ := SS2.out.put GI.out hlt hp;refine ⟨t + 1,rfl,by omega,rfl,?_,BW2.out.trans s2,KW2.out.trans s3,(KW2.out.trans s3).1⟩;rw [zJC HI.out,List.set_set,zcE HX.out HY.out hlt] at s1;exact s1
   rw [hW];clear hW;refine hK.out _ _ (fun h => absurd h (by decide)) ?_;clear hK
   try simp only [Act.put]
   refine zDA (by kernel_rfl) ?_ _;have HMM : Hid (c - (t + 1) < gk) := by unfold Hid;rw [HG.out];omega
   clear SS1 BW1 KW1 SS2 BW2 KW2 HG M1 GB KB ZI ZJ ZK1 n0 n1 x2 x3 g0 g1;go_wp2_with fail;go_roundg (c - (t + 1))
   case rel => exact HN1.out
   case measure => exact HMM.out
  ·have hlt' : ¬ (t : Int) < (c : Int) := by omega
   obtain rfl : t = c := by omega
   have FF := hid (FIN.out wr SS.out BW.out KW.out);clear SS BW KW HG FIN;go_wp2;go_end0;exact FF.out
end Go.Proofs.YtnfpjgmmhhdgbaaGreat
