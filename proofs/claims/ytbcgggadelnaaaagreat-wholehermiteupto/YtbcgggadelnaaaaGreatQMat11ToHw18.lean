/-
 QMat11ToHw18: Mat11, Zg18, Fo18, Do11, Neg11, Add11, In11, Fit11, Ck11, OpenSt11, Rows11, Gr16, Hw18, joined.
-/
import Derived.Test.YtbcgggadelnaaaaGreatQOf11ToDz12
import Derived.Test.YtbcgggadelnaaaaGreatQFil9ToDot9
import Derived.Test.YtbcgggadelnaaaaGreatQLm6ToWk9
import Derived.Test.YtbcgggadelnaaaaGreatQRb18ToLi18
import Derived.Test.YtbcgggadelnaaaaGreatQZOnesToZCmp
import Derived.Test.YtbcgggadelnaaaaGreatQZAdd
import Derived.Handy
import Derived.Test.YtbcgggadelnaaaaGreatRows
import Derived.Test.YtbcgggadelnaaaaGreatQAlikeToShift
import Derived.Test.YtbcgggadelnaaaaGreatQWordsToBulk
import Derived.Lib.SmallJoins
import Derived.Test.YtbcgggadelnaaaaGreatQProd9ToMul9

set_option maxRecDepth 100000
set_option maxHeartbeats 6400000
set_option linter.unusedVariables false
set_option linter.unusedSimpArgs false
namespace Go.Proofs.YtbcgggadelnaaaaGreat
open Go.RowKit
theorem make_yes {w : World} {B r c : Nat} {at_ : Value} {ps : List (Value × Value)} {zs : List Int} {k : Nat} (hA : Prs B w at_ ps) (hz : Zis w ps zs k) (hl : zs.length = r * c) (hr : r ≤ 64) (hc : c ≤ 64) :
  Calls Tryz.prog 72 #[.int .i64 (r : Int),.int .i64 (c : Int),at_] w (zzB w r c zs k) := by
 obtain ⟨W0,hW⟩ : ∃ W0,w.alloc mbox = W0 := ⟨_,rfl⟩
 obtain ⟨b0,sz0⟩ := alo1 w mbox;rw [hW] at b0 sz0;have PR := hid (zvA hW);have HE := hid (zlC (hA.now b0) (hz.now b0));have HS := hid (zSC (w := W0) hr hc);obtain ⟨a,cap,rfl,-,-,-,-⟩ := hA.form;have hm0 := zqB (i := r) (c := c) hr hc;have hpl : ps.length = r * c := by rw [hz.1,hl]
 rw [hpl] at HE ⊢;obtain ⟨n,hn⟩ : ∃ n,r * c = n := ⟨_,rfl⟩
 rw [hn] at hm0 HE ⊢;have hm2 := hm0;rw [IntKind.wrap_i64] at hm2;have q0 : ((n : Int) != (n : Int)) = false := by simp
 have G0 := hid b0;have EW := hid hW;have HL := hid hl;have HN := hid hn;have SZ := hid sz0;clear b0 sz0 hW hA hz hl hn hpl;go_enter Tryz.func72,Tryz.ntmps72;go_wp2_with fail;rw [EW.out];refine HS.out.mono ?_;rintro e w1 ⟨rfl,hw1⟩;have hw2 := hw1.symm;subst hw2;clear hw1 HS;go_wp2_with fail;refine HE.out.mono ?_;rintro e w2 ⟨u,qs,rfl,p1,p2,b⟩;have PR2 := hid (PR.out.step b);have G2 := hid (below_step G0.out b);obtain ⟨au,cu,rfl,-,-,-,-⟩ := p1.form;have hql : qs.length = n := by rw [p2.1,HL.out,HN.out]
 rw [hql] at p1 ⊢;have FIN : Hid (zzB w r c zs k (.returned (.tuple #[.agg #[.int .i64 (r : Int),.int .i64 (c : Int),.slice au n cu],.int .i64 0])) (put3 w2 w.heap.size (.int .i64 (r : Int)) (.int .i64 (c : Int)) (.slice au n cu))) :=
  ⟨_,rfl,⟨_,qs,rfl,(p1.put3 (by have := SZ.out;omega) _ _ _).mono (Nat.zero_le _),p2.wk (PR2.out.wk3 _ _ _),HL.out,hr,hc⟩,zMA G2.out (by omega) _ _ _⟩
 have PF := hid (PR2.out.put3 (.int .i64 (r : Int)) (.int .i64 (c : Int)) (.slice au n cu));have r0 := PR2.out.at (i := 0) rfl;have r1 := PR2.out.at (i := 1) rfl;have r2 := PR2.out.at (i := 2) rfl;have f0 := PR2.out.fz 0;have f1 := PR2.out.fz 1;have f2 := PR2.out.fz 2;clear HE p1 p2 b PR G0 G2 EW hql;go_wp2;exact bodyPost_ret (zmD Tryz.results72 PF.out _ (by rfl) (by rfl)) rfl FIN.out
end Go.Proofs.YtbcgggadelnaaaaGreat
namespace Go.Proofs.YtbcgggadelnaaaaGreat
def zG18 (m n : Nat) (F : Nat → Nat → Int) : List Int := (List.range (m * n)).map fun t => F (t / n) (t % n)
theorem zsA (m n : Nat) (F : Nat → Nat → Int) : (zG18 m n F).length = m * n := by simp [zG18]
theorem zsC {m n i j : Nat} (hi : i < m) (hj : j < n) : i * n + j < m * n := by
 have h := Nat.mul_le_mul_right n (show i + 1 ≤ m from hi);rw [Nat.succ_mul] at h;omega
theorem zWG {n i j : Nat} (hj : j < n) : (i * n + j) / n = i ∧ (i * n + j) % n = j := by
 have hn : 0 < n := by omega
 rw [Nat.mul_comm i n,Nat.mul_add_div hn,Nat.mul_add_mod,Nat.div_eq_of_lt hj,Nat.mod_eq_of_lt hj];exact ⟨by omega,rfl⟩
theorem zG18_at {m n i j : Nat} {F : Nat → Nat → Int} (hi : i < m) (hj : j < n) : (zG18 m n F).getD (i * n + j) 0 = F i j := by
 have h := zsC hi hj;have e := zWG (i := i) hj;simp [zG18,h,e.1,e.2]
theorem ztC {m n : Nat} {F G : Nat → Nat → Int} (h : ∀ i j,i < m → j < n → F i j = G i j) : zG18 m n F = zG18 m n G := List.map_congr_left fun t ht => by
 have ht' : t < m * n := by simpa using ht
 have hn : 0 < n := Nat.pos_of_ne_zero fun e => by subst e;simp at ht'
 exact h _ _ (Nat.div_lt_of_lt_mul (by rw [Nat.mul_comm];exact ht')) (Nat.mod_lt _ hn)
def en18 (n : Nat) (zs : List Int) : Nat → Nat → Int := fun i j => zs.getD (i * n + j) 0
theorem zVG {m n : Nat} {zs : List Int} (h : zs.length = m * n) : zG18 m n (en18 n zs) = zs := by
 refine List.ext_getElem (by rw [zsA,h]) fun t h1 h2 => ?_
 have ht : t < m * n := by rw [zsA] at h1;exact h1
 simp only [zG18,List.getElem_map,List.getElem_range,en18];rw [Nat.mul_comm (t / n) n,Nat.div_add_mod];simp [h2]
theorem zuB {m n i j : Nat} {F : Nat → Nat → Int} (hi : i < m) (hj : j < n) : en18 n (zG18 m n F) i j = F i j := zG18_at hi hj
open Go.RowKit
attribute [local go_sem] zQC
theorem zG18_flat18 (m n : Nat) (F : Nat → Nat → Int) : ((List.range m).map fun i => (List.range n).map (F i)).flatten = zG18 m n F := by
 induction m with
 | zero => simp [zG18]
 | succ m ih =>
  rw [List.range_succ,List.map_append,List.flatten_append,ih]
  apply List.ext_getElem?
  intro t
  by_cases q : t < m * n
  ·have q2 : t < (m + 1) * n := by rw [Nat.succ_mul];omega
   rw [List.getElem?_append_left (by rw [zsA];exact q)];simp [zG18,q,q2]
  ·rw [List.getElem?_append_right (by rw [zsA];omega),zsA]
   simp only [List.map_cons,List.map_nil,List.flatten_cons,List.flatten_nil,List.append_nil]
   by_cases q2 : t < (m + 1) * n
   ·have q3 : t - m * n < n := by rw [Nat.succ_mul] at q2;omega
    have e := zWG (i := m) q3;rw [show m * n + (t - m * n) = t by omega] at e;simp [zG18,q2,q3,e.1,e.2]
   ·rw [List.getElem?_eq_none (by simp;rw [Nat.succ_mul] at q2;omega),List.getElem?_eq_none (by rw [zsA];omega)]
theorem Sh17.prr18 {B m n k : Nat} {w : World} {lv : Value} {gs : Nat → Nat} {L : Nat → Nat → Int} (h : Sh17 B w lv m n gs L k) (hm : m ≤ 64) (hn : n ≤ 64) : ∃ pss,Prr 0 w lv pss ∧ Zcss w pss ((List.range m).map fun i => (List.range n).map (L i)) k ∧ zBH n pss := by
 obtain ⟨h1,h4,h5⟩ := h;obtain ⟨q,hq⟩ := Deep.choose_lt (α := List (Value × Value)) (n := m) (p := fun j ps => Arr w (gs j) ps ∧ Zms w ps ((List.range n).map (L j)) k) (fun j hj => (h5 j hj).2);have hat : ∀ j ps,((List.range m).map q)[j]? = some ps → j < m ∧ ps = q j := fun j ps hp => by
  have hj : j < m := by simpa using (List.getElem?_eq_some_iff.1 hp).1
  rw [List.getElem?_map,List.getElem?_range hj] at hp;exact ⟨hj,by simpa using hp.symm⟩
 have hlen : ∀ j,j < m → (q j).length = n := fun j hj => by rw [(hq j hj).2.1];simp
 refine ⟨(List.range m).map q,?_,⟨by simp,fun j ps hp => ?_⟩,fun ps hps => ?_⟩
 ·rcases h1 with ⟨h0,rfl⟩ | ⟨h0,Lb,cap,r,rfl,e0,e1,e2⟩
  ·subst h0
   exact ⟨none,0,by simp,by simp,by simp,.inl (by simp)⟩
  ·refine ⟨_,cap,by simp,by simpa using e0,by simp;omega,.inr ⟨Lb,0,rfl,e2.blk,fun j ps hp => ?_⟩⟩
   obtain ⟨hj,rfl⟩ := hat j ps hp;refine ⟨rowv n (gs j),by rw [Nat.zero_add];exact e2.at (zmE hj),?_⟩;have := (hq j hj).1.prs (B := 0) (Nat.zero_le _) (by rw [hlen j hj];omega) (Nat.le_refl _);rw [hlen j hj] at this;exact this
 ·obtain ⟨hj,rfl⟩ := hat j ps hp
  have : ((List.range m).map fun i => (List.range n).map (L i)).getD j [] = (List.range n).map (L j) := by simp [hj]
  rw [this];exact (hq j hj).2.zcs
 ·obtain ⟨j,hj,e⟩ := List.getElem_of_mem hps
  have hj' : j < m := by simpa using hj
  have e' : q j = ps := by simpa using e
  subst e';exact ⟨hlen j hj',(hq j hj').1.2⟩
theorem zQD {w : World} {B m n kw : Nat} {lv : Value} {gs : Nat → Nat} {H : Nat → Nat → Int} (h : Sh17 B w lv m n gs H kw) (hr : m ≤ 64) (hc : n ≤ 64) :
  Calls Tryz.prog 32 #[lv,.int .i64 (n : Int)] w (zMD w m n (zG18 m n H) kw) := by
 obtain ⟨pss,hp,hz,hsm⟩ := h.prr18 hr hc;obtain ⟨la,lc,rfl⟩ : ∃ la lc,lv = .slice la m lc := by
  rcases h.1 with ⟨e,h⟩ | ⟨h0,Lb,cap,r,e,_⟩
  ·exact ⟨none,0,by rw [e];exact h⟩
  ·exact ⟨_,cap,e⟩
 obtain ⟨W0,hW⟩ : ∃ W0,w.alloc mbox = W0 := ⟨_,rfl⟩
 obtain ⟨b0,sz0⟩ := alo1 w mbox;rw [hW] at b0 sz0;have PR := hid (zvA hW);have hrc : m * n ≤ 64 * 64 := Nat.mul_le_mul hr hc;have HPL : Hid (pss.length = m) := by unfold Hid;rw [hz.1];simp
 have HC := hid (zUE (hp.now b0) hsm (by rw [HPL.out];omega) (by omega));have ZF := hid (((Zcss.flat hz).now b0));rw [zG18_flat18] at ZF;have hfl := zsA m n H;obtain ⟨FT,hFT⟩ : ∃ FT,pss.flatten = FT := ⟨_,rfl⟩
 obtain ⟨ZS,hZS⟩ : ∃ ZS,zG18 m n H = ZS := ⟨_,rfl⟩
 rw [hFT] at HC ZF;rw [hZS] at ZF hfl ⊢;have HFL := hid hfl;have G := hid b0;have EW := hid hW;clear h hp hz hsm hfl b0 sz0 hW hFT hZS HPL;go_enter Tryz.func32,Tryz.ntmps32;go_upto_region 1 with fail
 rw [EW.out];clear EW;go_wp2_with fail;refine HC.out.mono ?_;rintro e w1 ⟨v1,rfl,q1,b1⟩;have HMK := hid (make_yes q1 (ZF.out.now b1).zis HFL.out hr hc);have B1 := hid (below_step G.out b1);have PR1 := hid (PR.out.step b1);clear HC q1 b1 G PR ZF;go_wp2_with fail;refine HMK.out.mono ?_;rintro e w2 ⟨v2,rfl,q2,b2⟩;obtain ⟨a2,c2,rfl,-,-⟩ := q2.mx.form;dsimp only [matv];obtain ⟨V3,hV3⟩ : ∃ V3,w2.alloc (.cells #[.int .i64 (m : Int),.int .i64 (n : Int),.slice a2 (m * n) c2] 24) = V3 := ⟨_,rfl⟩
 obtain ⟨b3,sz3⟩ := alo1 w2 (.cells #[.int .i64 (m : Int),.int .i64 (n : Int),.slice a2 (m * n) c2] 24);rw [hV3] at b3 sz3;have d3 : Cel V3 w2.heap.size 24 [.int .i64 (m : Int),.int .i64 (n : Int),.slice a2 (m * n) c2] := by rw [← hV3];exact Cel.new w2 _ _
 have pr := PR1.out.step (below_step b2 b3);have x0 := d3.at (i := 0) rfl;have x1 := d3.at (i := 1) rfl;have x2 := d3.at (i := 2) rfl;have y0 := pr.at (i := 0) rfl;have y1 := pr.at (i := 1) rfl;have y2 := pr.at (i := 2) rfl;have f0 := pr.fz 0;have f1 := pr.fz 1;have f2 := pr.fz 2;have FF : Hid (zMD w m n ZS kw (.returned (.agg #[.int .i64 (m : Int),.int .i64 (n : Int),.slice a2 (m * n) c2])) (put3 V3 w.heap.size (.int .i64 (m : Int)) (.int .i64 (n : Int)) (.slice a2 (m * n) c2)) ∧ Cel (put3 V3 w.heap.size (.int .i64 (m : Int)) (.int .i64 (n : Int)) (.slice a2 (m * n) c2)) w.heap.size 24 [.int .i64 (m : Int),.int .i64 (n : Int),.slice a2 (m * n) c2]) :=
  ⟨⟨_,rfl,(q2.now b3).wk pr _ _ _,bset (bset (bset (below_step B1.out (below_step b2 b3)) (Nat.le_refl _)) (Nat.le_refl _)) (Nat.le_refl _)⟩,pr.put3 _ _ _⟩
 have EV := hid hV3;rw [← hV3] at x0 x1 x2 y0 y1 y2 f0 f1 f2;clear HMK q2 b2 b3 sz3 hV3 d3 pr PR1 B1;go_wp2_with fail;rw [EV.out];refine bodyPost_ret (zHE Tryz.results32 FF.out.2 _ (by rfl)) rfl ?_;exact FF.out.1
theorem zoG {f : Func} {s : Nat} (hr : f.results = #[ResultVar.cell s 70]) {W : World} {b : Nat} {x0 x1 x2 x3 : Value} (h : Cel W b 70 [x0,x1,x2,x3]) (tmps : Array Value) (ht : tmps[s]? = some (.pointer (some ⟨b,0,none⟩))) :
  (results f tmps).run Tryz.prog W = .ok (.agg #[x0,x1,x2,x3]) W := by
 simp [results,hr,go_sem,ht,h.at (i := 0) rfl,h.at (i := 1) rfl,h.at (i := 2) rfl,h.at (i := 3) rfl]
theorem zsE {w : World} {a : Option Addr} {l c : Nat} : Calls Tryz.prog 28 #[.slice a l c] w fun e w' => e = .returned (.agg #[hf1 w.heap.size,hf2 w.heap.size,hf3 w.heap.size,hf4 w.heap.size]) ∧ Cel w' w.heap.size 61 [.slice a l c] ∧ Below w.heap.size w w' := by
 obtain ⟨W0,hW⟩ : ∃ W0,(w.alloc (.cells #[.slice a l c] 61)).alloc (.cells #[hf1 w.heap.size,hf2 w.heap.size,hf3 w.heap.size,hf4 w.heap.size] 70) = W0 := ⟨_,rfl⟩
 obtain ⟨b0,sz0⟩ := zZA w (.cells #[.slice a l c] 61) (.cells #[hf1 w.heap.size,hf2 w.heap.size,hf3 w.heap.size,hf4 w.heap.size] 70);rw [hW] at b0 sz0;have d0 : Cel W0 w.heap.size 61 [.slice a l c] := by rw [← hW];exact (Cel.new w _ _).step ((Below.refl _ _).alloc (Nat.le_refl _) _)
 have d1 : Cel W0 (w.heap.size + 1) 70 [hf1 w.heap.size,hf2 w.heap.size,hf3 w.heap.size,hf4 w.heap.size] := by
  rw [← hW];have := Cel.new (w.alloc (.cells #[.slice a l c] 61)) 70 [hf1 w.heap.size,hf2 w.heap.size,hf3 w.heap.size,hf4 w.heap.size]
  simpa using this
 have EW := hid hW;have FF := hid (show Cel W0 w.heap.size 61 [.slice a l c] ∧ Below w.heap.size w W0 ∧ Cel W0 (w.heap.size + 1) 70 [hf1 w.heap.size,hf2 w.heap.size,hf3 w.heap.size,hf4 w.heap.size] from ⟨d0,b0,d1⟩);clear d0 d1 b0 sz0 hW;go_enter Tryz.func28,Tryz.ntmps28;go_wp2_with fail;rw [EW.out];refine bodyPost_ret (zoG Tryz.results28 FF.out.2.2 _ (by rfl)) rfl ?_;exact ⟨rfl,FF.out.1,FF.out.2.1⟩
def zaI (B : Nat) (w : World) (lv : Value) (m n : Nat) (A : Nat → Nat → Int) (kw : Nat) (e : Ending) (w' : World) : Prop :=
 ∃ (r : Nat) (γ gs : Nat → Nat) (X : Nat → Nat → Int),e = .returned (.int .i64 (r : Int)) ∧ Sh17 B w' lv m n gs X kw ∧ Hb18 m n m r id γ X A ∧ Below B w w'
def zZI (w : World) (m n : Nat) (A : Nat → Nat → Int) (kt : Nat) (e : Ending) (w' : World) : Prop :=
 ∃ v r γ X,e = .returned (.tuple #[v,.int .i64 0]) ∧ Mc w' v m n (zG18 m n X) kt ∧ Hb18 m n m r id γ X A ∧ Below w.heap.size w w'
theorem Sh17.more18 {B m n k l : Nat} {w : World} {lv : Value} {gs : Nat → Nat} {L : Nat → Nat → Int} (h : Sh17 B w lv m n gs L k) (hl : k ≤ l) : Sh17 B w lv m n gs L l := ⟨h.1,h.2.1,fun i hi => ⟨(h.2.2 i hi).1,(h.2.2 i hi).2.more hl⟩⟩
theorem zhF {m n : Nat} {zs : List Int} (hz : zs.length = m * n) {i j : Nat} (hi : i < m) (hj : j < n) : lm18 (rowsL m n zs) i j = en18 n zs i j := by
 have hl := zsC hi hj;unfold lm18 en18 zcB rowsL;simp only [List.getD_eq_getElem?_getD,List.getElem?_map,List.getElem?_range hi,Option.map_some,Option.getD_some,List.getElem?_take,List.getElem?_drop,if_pos hj]
theorem Zc.fit18 {w : World} {v : Value} {z : Int} {k l : Nat} (h : Zc w v z k) (hz : (z.natAbs : Int) < pw l) : Zc w v z l := by
 obtain ⟨n,xs,a,c,h1,h2,h3,h4,h5,h6⟩ := h;have e := zIA h3.1;refine ⟨n,xs,a,c,h1,h2,h3,h4,h5,zfB h3 ?_⟩;cases n <;> simp [iv] at h5 <;> omega
theorem Mc.fit18 {w : World} {v : Value} {r c : Nat} {zs : List Int} {k l : Nat} (h : Mc w v r c zs k) (hz : ∀ z ∈ zs,(z.natAbs : Int) < pw l) : Mc w v r c zs l := by
 obtain ⟨a,ps,h1,h2,h3,h4⟩ := h;exact ⟨a,ps,h1,h2,⟨h3.1,fun j p z hp hzz => Zc.fit18 (h3.2 j p z hp hzz) (hz z (List.mem_of_getElem? hzz))⟩,h4⟩
end Go.Proofs.YtbcgggadelnaaaaGreat
namespace Go.Proofs.YtbcgggadelnaaaaGreat
open Go.RowKit


structure Rs where
 kind : Int
 i : Int
 j : Int
 z : Int
def Rs.fit (n : Nat) (s : Rs) : Prop := (s.kind = 1 ∧ (0 ≤ s.i ∧ s.i < n) ∧ (0 ≤ s.j ∧ s.j < n)) ∨ (s.kind = 2 ∧ (0 ≤ s.i ∧ s.i < n)) ∨ (s.kind = 3 ∧ (0 ≤ s.i ∧ s.i < n) ∧ (0 ≤ s.j ∧ s.j < n) ∧ s.i ≠ s.j)
instance (n : Nat) (s : Rs) : Decidable (s.fit n) := by unfold Rs.fit;infer_instance


open Go.ChangeShapes Go.WideShapes Go.ChangeAt Go.RowKit
instance rsInh : Inhabited Rs := ⟨⟨0,0,0,0⟩⟩
end Go.Proofs.YtbcgggadelnaaaaGreat
namespace Go.Proofs.YtbcgggadelnaaaaGreat
open Go.RowKit
open Go.ChangeShapes Go.WideShapes Go.ChangeAt Go.RowKit
theorem Mx.lt {w : World} {v : Value} {r c : Nat} {zs : List Int} {k : Nat} (h : Mx w v r c zs k) : ∀ z ∈ zs,(z.natAbs : Int) < pw k := by
 obtain ⟨a,ps,h1,h2,h3,h4⟩ := h;intro z hz;obtain ⟨j,hj,e⟩ := List.getElem_of_mem hz;exact (h3.2 j _ z (List.getElem?_eq_getElem (by rw [h3.1];exact hj)) (by rw [List.getElem?_eq_getElem hj,e])).lt
end Go.Proofs.YtbcgggadelnaaaaGreat
namespace Go.Proofs.YtbcgggadelnaaaaGreat
theorem Hb18.same {m n r r' : Nat} {γ γ' : Nat → Nat} {X X' A A' : Nat → Nat → Int} (h : Hb18 m n m r id γ X A) (h' : Hb18 m n m r' id γ' X' A') (e : ∀ v,Cm19 m n A v ↔ Cm19 m n A' v) : zG18 m n X = zG18 m n X' := by
 obtain ⟨rfl,hq⟩ := h.ec.one h'.ec h.rd h'.rd fun v => (h.lat v).trans ((e v).trans (h'.lat v).symm)
 refine ztC fun i j hi hj => ?_
 by_cases q : i < r
 ·exact (hq i q).2 j hj
 ·rw [h.ec.rest i hi (fun a ha => by simp;omega) j hj,h'.ec.rest i hi (fun a ha => by simp;omega) j hj]
theorem znF {T t : Nat} (h : ((T : Nat) : Int) < pw t) : ∀ e,((bd18 T e : Nat) : Int) < pw (e * (t + 1) + t)
 | 0 => by rw [zCE,Nat.zero_mul,Nat.zero_add];exact h
 | e + 1 => by
  have ih := znF h e;rw [zyB,show (e + 1) * (t + 1) + t = (t + 1) + (e * (t + 1) + t) by rw [Nat.succ_mul];omega,zwA];have h1 : ((2 * T : Nat) : Int) < pw (t + 1) := by
   have := zwA t 1;rw [this];have hp := zuA t;have h2 : pw t * 2 ≤ pw t * pw 1 := Int.mul_le_mul_of_nonneg_left (by decide) (by omega);omega
  have h3 : ((2 * T * bd18 T e : Nat) : Int) = ((2 * T : Nat) : Int) * ((bd18 T e : Nat) : Int) := by simp
  rw [h3];have q1 : ((2 * T : Nat) : Int) * ((bd18 T e : Nat) : Int) ≤ ((2 * T : Nat) : Int) * pw (e * (t + 1) + t) := Int.mul_le_mul_of_nonneg_left (by omega) (by omega);exact Int.lt_of_le_of_lt q1 (Int.mul_lt_mul_of_pos_right h1 (by have := zuA (e * (t + 1) + t);omega))
theorem zuH {Y k : Nat} (h : ((Y : Nat) : Int) < pw k) : ((64 * (64 * Y) ^ 64 : Nat) : Int) < pw (64 * k + 65) := by
 have h1 : ((64 * Y : Nat) : Int) < pw (k + 1) := by
  rw [zwA];have hp := zuA k;have h2 : pw k * 64 ≤ pw k * pw 1 := Int.mul_le_mul_of_nonneg_left (by decide) (by omega);omega
 have h2 : ∀ e,(((64 * Y) ^ e : Nat) : Int) ≤ pw ((k + 1) * e) := by
  intro e
  induction e with
  | zero => simp [pw]
  | succ e ih =>
   rw [Nat.pow_succ,Nat.mul_succ,zwA];have h3 : (((64 * Y) ^ e * (64 * Y) : Nat) : Int) = (((64 * Y) ^ e : Nat) : Int) * ((64 * Y : Nat) : Int) := by simp
   rw [h3];exact Int.mul_le_mul ih (by omega) (by omega) (by have := zuA ((k + 1) * e);omega)
 have h3 := h2 64;have e : 64 * k + 65 = (k + 1) * 64 + 1 := by omega
 rw [e,zwA];have h4 : ((64 * (64 * Y) ^ 64 : Nat) : Int) = 64 * (((64 * Y) ^ 64 : Nat) : Int) := by simp
 rw [h4];have hp := zuA ((k + 1) * 64);have h5 : pw ((k + 1) * 64) * 65 ≤ pw ((k + 1) * 64) * pw 1 := Int.mul_le_mul_of_nonneg_left (by decide) (by omega);omega
theorem tb_of18 {m n k : Nat} {zs : List Int} (hn : n ≤ 64) (hz : zs.length = m * n) (hb : ∀ z ∈ zs,(z.natAbs : Int) < pw k) (hk : 1 ≤ k) : ∃ T,Tb18 m n (en18 n zs) T ∧ ((T : Nat) : Int) < pw (64 * k + 65) := by
 have hp1 : (1 : Int) < pw k := by
  obtain ⟨d,rfl⟩ : ∃ d,k = d + 1 := ⟨k - 1,by omega⟩
  rw [zwA];have hp := zuA d;have : 1 * pw 1 ≤ pw d * pw 1 := Int.mul_le_mul_of_nonneg_right (by omega) (by decide);have : (1 : Int) < pw 1 := by decide
  omega
 refine ⟨64 * (64 * (pw k - 1).toNat) ^ 64,tb18 hn (by omega) (fun t j ht hj => ?_),zuH (by omega)⟩;have hl := zsC ht hj;have e : en18 n zs t j = zs[t * n + j]'(by omega) := by unfold en18;simp [show t * n + j < zs.length by omega]
 have := hb _ (List.getElem_mem (l := zs) (n := t * n + j) (by omega));rw [e];omega
theorem two_form18 : Hb18 2 2 2 2 id id (en18 2 [2,0,0,4]) (en18 2 [2,4,6,8]) := by
 have x00 : en18 2 [2,0,0,4] 0 0 = 2 := rfl;have x01 : en18 2 [2,0,0,4] 0 1 = 0 := rfl;have x10 : en18 2 [2,0,0,4] 1 0 = 0 := rfl;have x11 : en18 2 [2,0,0,4] 1 1 = 4 := rfl;have a00 : en18 2 [2,4,6,8] 0 0 = 2 := rfl;have a01 : en18 2 [2,4,6,8] 0 1 = 4 := rfl;have a10 : en18 2 [2,4,6,8] 1 0 = 6 := rfl;have a11 : en18 2 [2,4,6,8] 1 1 = 8 := rfl;have c2 : ∀ i : Nat,i < 2 → i = 0 ∨ i = 1 := fun i hi => by omega
 refine ⟨⟨fun a b h1 h2 => h1,fun a ha => ha,fun a ha => ha,fun a b _ _ e => e,fun a j ha hj => ?_,fun a ha => ?_,fun t ht hn j hj => absurd rfl (hn t ht)⟩,fun a b h1 h2 h3 => ?_,fun v => ⟨fun k => k.trans fun t ht => ?_,fun k => k.trans fun t ht => ?_⟩,fun t ht => ?_⟩
 ·have hj : j < a := hj
  rcases c2 a ha with rfl | rfl
  ·omega
  ·obtain rfl : j = 0 := by omega
   exact x10
 ·rcases c2 a ha with rfl | rfl
  ·show 0 < en18 2 [2,0,0,4] 0 0;rw [x00];decide
  ·show 0 < en18 2 [2,0,0,4] 1 1;rw [x11];decide
 ·obtain rfl : a = 0 := by omega
  obtain rfl : b = 1 := by omega
  show 0 ≤ en18 2 [2,0,0,4] 0 1 ∧ en18 2 [2,0,0,4] 0 1 < en18 2 [2,0,0,4] 1 1
  rw [x01,x11];decide
 ·have r0 := Cm19.row (n := 2) (en18 2 [2,4,6,8]) (show 0 < 2 by omega)
  have r1 := Cm19.row (n := 2) (en18 2 [2,4,6,8]) (show 1 < 2 by omega);rcases c2 t ht with rfl | rfl
  ·exact ((r0.mul (-2)).add r1).congr fun j hj => by rcases c2 j hj with rfl | rfl <;> simp [x00,x01,a00,a01,a10,a11]
  ·exact ((r0.mul 3).add (r1.mul (-1))).congr fun j hj => by rcases c2 j hj with rfl | rfl <;> simp [x10,x11,a00,a01,a10,a11]
 ·have r0 := Cm19.row (n := 2) (en18 2 [2,0,0,4]) (show 0 < 2 by omega)
  have r1 := Cm19.row (n := 2) (en18 2 [2,0,0,4]) (show 1 < 2 by omega);rcases c2 t ht with rfl | rfl
  ·exact (r0.add r1).congr fun j hj => by rcases c2 j hj with rfl | rfl <;> simp [x00,x01,x10,x11,a00,a01]
  ·exact ((r0.mul 3).add (r1.mul 2)).congr fun j hj => by rcases c2 j hj with rfl | rfl <;> simp [x00,x01,x10,x11,a10,a11]
 ·funext c
  unfold en18;rw [List.getD_eq_getElem?_getD,List.getD_eq_getElem?_getD,List.getElem?_eq_none (by simp;omega),List.getElem?_eq_none (by simp;omega)]
end Go.Proofs.YtbcgggadelnaaaaGreat
