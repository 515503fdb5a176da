import Derived.Test.YtmnecbniappnaaaGreatQOr18
import Derived.Test.YtmnecbniappnaaaGreatQLi18ToZg18
set_option maxRecDepth 100000
set_option maxHeartbeats 6400000
set_option linter.unusedVariables false
set_option linter.unusedSimpArgs false
namespace Go.Proofs.YtmnecbniappnaaaGreat
open Go.RowKit
attribute [local go_sem] zkG
theorem zVD (m n : Nat) (F : Nat → Nat → Int) : ((List.range m).map fun i => (List.range n).map (F i)).flatten = zG18 m n F := by
 induction m with
 | zero => simp [zG18]
 | succ m ih =>
  rw [List.range_succ,List.map_append,List.flatten_append,ih]
  apply List.ext_getElem?
  intro t
  by_cases q : t < m * n
  ·have q2 : t < (m + 1) * n := by rw [Nat.succ_mul];omega
   rw [List.getElem?_append_left (by rw [zyA];exact q)];simp [zG18,q,q2]
  ·rw [List.getElem?_append_right (by rw [zyA];omega),zyA]
   simp only [List.map_cons,List.map_nil,List.flatten_cons,List.flatten_nil,List.append_nil]
   by_cases q2 : t < (m + 1) * n
   ·have q3 : t - m * n < n := by rw [Nat.succ_mul] at q2;omega
    have e := zfG (i := m) q3;rw [show m * n + (t - m * n) = t by omega] at e;simp [zG18,q2,q3,e.1,e.2]
   ·rw [List.getElem?_eq_none (by simp;rw [Nat.succ_mul] at q2;omega),List.getElem?_eq_none (by rw [zyA];omega)]
theorem Sh17.prr18 {B m n k : Nat} {w : World} {lv : Value} {gs : Nat → Nat} {L : Nat → Nat → Int} (h : Sh17 B w lv m n gs L k) (hm : m ≤ 65) (hn : n ≤ 64) : ∃ pss,Prr 0 w lv pss ∧ Zcss w pss ((List.range m).map fun i => (List.range n).map (L i)) k ∧ zKI n pss := by
 obtain ⟨h1,h4,h5⟩ := h;obtain ⟨q,hq⟩ := Deep.choose_lt (α := List (Value × Value)) (n := m) (p := fun j ps => Arr w (gs j) ps ∧ Zms w ps ((List.range n).map (L j)) k) (fun j hj => (h5 j hj).2);have hat : ∀ j ps,((List.range m).map q)[j]? = some ps → j < m ∧ ps = q j := fun j ps hp => by
  have hj : j < m := by simpa using (List.getElem?_eq_some_iff.1 hp).1
  rw [List.getElem?_map,List.getElem?_range hj] at hp;exact ⟨hj,by simpa using hp.symm⟩
 have hlen : ∀ j,j < m → (q j).length = n := fun j hj => by rw [(hq j hj).2.1];simp
 refine ⟨(List.range m).map q,?_,⟨by simp,fun j ps hp => ?_⟩,fun ps hps => ?_⟩
 ·rcases h1 with ⟨h0,rfl⟩ | ⟨h0,Lb,cap,r,rfl,e0,e1,e2⟩
  ·subst h0
   exact ⟨none,0,by simp,by simp,by simp,.inl (by simp)⟩
  ·refine ⟨_,cap,by simp,by simpa using e0,by simp;omega,.inr ⟨Lb,0,rfl,e2.blk,fun j ps hp => ?_⟩⟩
   obtain ⟨hj,rfl⟩ := hat j ps hp;refine ⟨rowv n (gs j),by rw [Nat.zero_add];exact e2.at (ztE hj),?_⟩;have := (hq j hj).1.prs (B := 0) (Nat.zero_le _) (by rw [hlen j hj];omega) (Nat.le_refl _);rw [hlen j hj] at this;exact this
 ·obtain ⟨hj,rfl⟩ := hat j ps hp
  have : ((List.range m).map fun i => (List.range n).map (L i)).getD j [] = (List.range n).map (L j) := by simp [hj]
  rw [this];exact (hq j hj).2.zcs
 ·obtain ⟨j,hj,e⟩ := List.getElem_of_mem hps
  have hj' : j < m := by simpa using hj
  have e' : q j = ps := by simpa using e
  subst e';exact ⟨hlen j hj',(hq j hj').1.2⟩
theorem matrix18 {w : World} {B m n kw : Nat} {lv : Value} {gs : Nat → Nat} {H : Nat → Nat → Int} (h : Sh17 B w lv m n gs H kw) (hr : m ≤ 64) (hc : n ≤ 64) :
  Calls Tryz.prog 16 #[lv,.int .i64 (n : Int)] w (zfE w m n (zG18 m n H) kw) := by
 obtain ⟨pss,hp,hz,hsm⟩ := h.prr18 (by omega) hc;obtain ⟨la,lc,rfl⟩ : ∃ la lc,lv = .slice la m lc := by
  rcases h.1 with ⟨e,h⟩ | ⟨h0,Lb,cap,r,e,_⟩
  ·exact ⟨none,0,by rw [e];exact h⟩
  ·exact ⟨_,cap,e⟩
 obtain ⟨W0,hW⟩ : ∃ W0,w.alloc mbox = W0 := ⟨_,rfl⟩
 obtain ⟨b0,sz0⟩ := alo1 w mbox;rw [hW] at b0 sz0;have PR := hid (zkB hW);have hrc : m * n ≤ 64 * 64 := Nat.mul_le_mul hr hc;have HPL : Hid (pss.length = m) := by unfold Hid;rw [hz.1];simp
 have HC := hid (zZE (hp.now b0) hsm (by rw [HPL.out];omega) (by omega));have ZF := hid (((Zcss.flat hz).now b0));rw [zVD] at ZF;have hfl := zyA m n H;obtain ⟨FT,hFT⟩ : ∃ FT,pss.flatten = FT := ⟨_,rfl⟩
 obtain ⟨ZS,hZS⟩ : ∃ ZS,zG18 m n H = ZS := ⟨_,rfl⟩
 rw [hFT] at HC ZF;rw [hZS] at ZF hfl ⊢;have HFL := hid hfl;have G := hid b0;have EW := hid hW;clear h hp hz hsm hfl b0 sz0 hW hFT hZS HPL;go_enter Tryz.func16,Tryz.ntmps16;go_upto_region 1 with fail
 rw [EW.out];clear EW;go_wp2_with fail;refine HC.out.mono ?_;rintro e w1 ⟨v1,rfl,q1,b1⟩;have HMK := hid (zIG q1 (ZF.out.now b1).zis HFL.out hr hc);have B1 := hid (below_step G.out b1);have PR1 := hid (PR.out.step b1);clear HC q1 b1 G PR ZF;go_wp2_with fail;refine HMK.out.mono ?_;rintro e w2 ⟨v2,rfl,q2,b2⟩;obtain ⟨a2,c2,rfl,-,-⟩ := q2.mx.form;dsimp only [matv];obtain ⟨V3,hV3⟩ : ∃ V3,w2.alloc (.cells #[.int .i64 (m : Int),.int .i64 (n : Int),.slice a2 (m * n) c2] 24) = V3 := ⟨_,rfl⟩
 obtain ⟨b3,sz3⟩ := alo1 w2 (.cells #[.int .i64 (m : Int),.int .i64 (n : Int),.slice a2 (m * n) c2] 24);rw [hV3] at b3 sz3;have d3 : Cel V3 w2.heap.size 24 [.int .i64 (m : Int),.int .i64 (n : Int),.slice a2 (m * n) c2] := by rw [← hV3];exact Cel.new w2 _ _
 have pr := PR1.out.step (below_step b2 b3);have x0 := d3.at (i := 0) rfl;have x1 := d3.at (i := 1) rfl;have x2 := d3.at (i := 2) rfl;have y0 := pr.at (i := 0) rfl;have y1 := pr.at (i := 1) rfl;have y2 := pr.at (i := 2) rfl;have f0 := pr.fz 0;have f1 := pr.fz 1;have f2 := pr.fz 2;have FF : Hid (zfE w m n ZS kw (.returned (.agg #[.int .i64 (m : Int),.int .i64 (n : Int),.slice a2 (m * n) c2])) (put3 V3 w.heap.size (.int .i64 (m : Int)) (.int .i64 (n : Int)) (.slice a2 (m * n) c2)) ∧ Cel (put3 V3 w.heap.size (.int .i64 (m : Int)) (.int .i64 (n : Int)) (.slice a2 (m * n) c2)) w.heap.size 24 [.int .i64 (m : Int),.int .i64 (n : Int),.slice a2 (m * n) c2]) :=
  ⟨⟨_,rfl,(q2.now b3).wk pr _ _ _,bset (bset (bset (below_step B1.out (below_step b2 b3)) (Nat.le_refl _)) (Nat.le_refl _)) (Nat.le_refl _)⟩,pr.put3 _ _ _⟩
 have EV := hid hV3;rw [← hV3] at x0 x1 x2 y0 y1 y2 f0 f1 f2;clear HMK q2 b2 b3 sz3 hV3 d3 pr PR1 B1;go_wp2_with fail;rw [EV.out];refine bodyPost_ret (zGI Tryz.results16 FF.out.2 _ (by rfl)) rfl ?_;exact FF.out.1
theorem hback18 {f : Func} {s : Nat} (hr : f.results = #[ResultVar.cell s 58]) {W : World} {b : Nat} {x0 x1 x2 x3 : Value} (h : Cel W b 58 [x0,x1,x2,x3]) (tmps : Array Value) (ht : tmps[s]? = some (.pointer (some ⟨b,0,none⟩))) :
  (results f tmps).run Tryz.prog W = .ok (.agg #[x0,x1,x2,x3]) W := by
 simp [results,hr,go_sem,ht,h.at (i := 0) rfl,h.at (i := 1) rfl,h.at (i := 2) rfl,h.at (i := 3) rfl]
theorem zFH {w : World} {a : Option Addr} {l c : Nat} : Calls Tryz.prog 19 #[.slice a l c] w fun e w' => e = .returned (.agg #[hf1 w.heap.size,hf2 w.heap.size,hf3 w.heap.size,hf4 w.heap.size]) ∧ Cel w' w.heap.size 45 [.slice a l c] ∧ Below w.heap.size w w' := by
 obtain ⟨W0,hW⟩ : ∃ W0,(w.alloc (.cells #[.slice a l c] 45)).alloc (.cells #[hf1 w.heap.size,hf2 w.heap.size,hf3 w.heap.size,hf4 w.heap.size] 58) = W0 := ⟨_,rfl⟩
 obtain ⟨b0,sz0⟩ := zYA w (.cells #[.slice a l c] 45) (.cells #[hf1 w.heap.size,hf2 w.heap.size,hf3 w.heap.size,hf4 w.heap.size] 58);rw [hW] at b0 sz0;have d0 : Cel W0 w.heap.size 45 [.slice a l c] := by rw [← hW];exact (Cel.new w _ _).step ((Below.refl _ _).alloc (Nat.le_refl _) _)
 have d1 : Cel W0 (w.heap.size + 1) 58 [hf1 w.heap.size,hf2 w.heap.size,hf3 w.heap.size,hf4 w.heap.size] := by
  rw [← hW];have := Cel.new (w.alloc (.cells #[.slice a l c] 45)) 58 [hf1 w.heap.size,hf2 w.heap.size,hf3 w.heap.size,hf4 w.heap.size]
  simpa using this
 have EW := hid hW;have FF := hid (show Cel W0 w.heap.size 45 [.slice a l c] ∧ Below w.heap.size w W0 ∧ Cel W0 (w.heap.size + 1) 58 [hf1 w.heap.size,hf2 w.heap.size,hf3 w.heap.size,hf4 w.heap.size] from ⟨d0,b0,d1⟩);clear d0 d1 b0 sz0 hW;go_enter Tryz.func19,Tryz.ntmps19;go_wp2_with fail;rw [EW.out];refine bodyPost_ret (hback18 Tryz.results19 FF.out.2.2 _ (by rfl)) rfl ?_;exact ⟨rfl,FF.out.1,FF.out.2.1⟩
def zkI (B : Nat) (w : World) (lv : Value) (m n : Nat) (A : Nat → Nat → Int) (kw : Nat) (e : Ending) (w' : World) : Prop :=
 ∃ (r : Nat) (γ gs : Nat → Nat) (X : Nat → Nat → Int),e = .returned (.int .i64 (r : Int)) ∧ Sh17 B w' lv m n gs X kw ∧ Hb18 m n m r id γ X A ∧ Below B w w'
theorem zLG {B m n kw T : Nat} {w : World} {lv : Value} {gs : Nat → Nat} {A : Nat → Nat → Int} (h : Sh17 B w lv m n gs A kw) (hTb : Tb18 m n A T) (hB : B ≤ w.heap.size) (hm : m ≤ 64) (hn : n ≤ 64) (hT : ((bd18 T 128 : Nat) : Int) < pw kw) (hk1 : 1 ≤ kw) (hK : kw ≤ 68719476736) :
  Calls Tryz.prog 15 #[lv] w (zkI B w lv m n A kw) := by
 obtain ⟨la,lc,rfl⟩ : ∃ la lc,lv = .slice la m lc := by
  rcases h.1 with ⟨e,h⟩ | ⟨h0,Lb,cap,r,e,_⟩
  ·exact ⟨none,0,by rw [e];exact h⟩
  ·exact ⟨_,cap,e⟩
 obtain ⟨W0,hW⟩ : ∃ W0,w.alloc (.cells #[.slice la m lc] 45) = W0 := ⟨_,rfl⟩
 obtain ⟨b0,sz0⟩ := alo1 w (.cells #[.slice la m lc] 45);rw [hW] at b0 sz0;have d0 : Cel W0 w.heap.size 45 [.slice la m lc] := by rw [← hW];exact Cel.new w _ _
 have HAL := hid (zFH (w := W0) (a := la) (l := m) (c := lc));have SH := hid (h.now b0);have D0 := hid d0;have B0 := hid b0;have SZ0 := hid sz0;have EW := hid hW;have HTB := hid hTb;have HBW := hid hB;have HT := hid hT;have Hk1 := hid hk1;have HK := hid hK;clear h hTb hB hT hk1 hK b0 d0 sz0 hW;go_enter Tryz.func15,Tryz.ntmps15;go_wp2_with fail;rw [EW.out];refine HAL.out.mono ?_;rintro e w1 ⟨rfl,dA,b1⟩;obtain ⟨V2,hV2⟩ : ∃ V2,w1.alloc (.cells #[hf1 W0.heap.size,hf2 W0.heap.size,hf3 W0.heap.size,hf4 W0.heap.size] 58) = V2 := ⟨_,rfl⟩
 obtain ⟨b2,sz2⟩ := alo1 w1 (.cells #[hf1 W0.heap.size,hf2 W0.heap.size,hf3 W0.heap.size,hf4 W0.heap.size] 58);rw [hV2] at b2 sz2;have dH : Cel V2 w1.heap.size 58 [hf1 W0.heap.size,hf2 W0.heap.size,hf3 W0.heap.size,hf4 W0.heap.size] := by rw [← hV2];exact Cel.new w1 _ _
 obtain ⟨V3,hV3⟩ : ∃ V3,V2.alloc (.cells #[.slice (some ⟨w.heap.size,0,none⟩) 1 1,.slice (some ⟨w1.heap.size,0,none⟩) 1 1,.slice none 0 0] 63) = V3 := ⟨_,rfl⟩
 obtain ⟨b3,sz3⟩ := alo1 V2 (.cells #[.slice (some ⟨w.heap.size,0,none⟩) 1 1,.slice (some ⟨w1.heap.size,0,none⟩) 1 1,.slice none 0 0] 63);rw [hV3] at b3 sz3;have dS : Cel V3 V2.heap.size 63 [.slice (some ⟨w.heap.size,0,none⟩) 1 1,.slice (some ⟨w1.heap.size,0,none⟩) 1 1,.slice none 0 0] := by rw [← hV3];exact Cel.new V2 _ _
 have bb := below_step b1 (below_step b2 b3);have wk : Wk18 B V3 V2.heap.size w.heap.size w1.heap.size W0.heap.size (.slice la m lc) (.slice none 0 0) m n 0 id id gs A kw := ⟨dS,D0.out.step bb,dH.step b3,dA.step (below_step b2 b3),.inl ⟨rfl,rfl⟩,SH.out.now bb⟩
 have hs1 := b1.size;have hs2 := SZ0.out;have hs0 := HBW.out;have HSA := hid (settleAll18 wk HTB.out (by omega) (by omega) (by omega) hn HT.out Hk1.out HK.out);have HBB : Hid (Below B w V3) := by
  unfold Hid;have q := below_step B0.out bb;exact ⟨q.os,q.tape,q.output,q.size,fun b hb => q.block b (by omega)⟩
 have EV2 := hid hV2;have EV3 := hid hV3;have ESZ : Hid (w1.heap.size + 1 = V2.heap.size) := sz2.symm;obtain ⟨bs,hbs⟩ : ∃ bs,V2.heap.size = bs := ⟨_,rfl⟩
 rw [hbs] at HSA ESZ;clear HAL dA b1 b2 sz2 b3 sz3 dH dS bb wk hV2 hV3 hs1 hs2 hs0 D0 SH B0 SZ0 EW hbs;go_wp2_with fail;rw [EV2.out,EV3.out,ESZ.out];refine HSA.out.mono ?_;rintro e w4 ⟨sv,r,γ,gs',X,rfl,h1,h2,h3⟩;obtain ⟨sa,sc,rfl⟩ := h1.sform;have s2 := h1.1.at (i := 2) rfl;have FF : Hid (zkI B w (.slice la m lc) m n A kw (.returned (.int .i64 (r : Int))) w4) := ⟨r,γ,gs',X,rfl,h1.2.2.2.2.2,h2,zXA HBB.out h3⟩
 clear HSA h1 h2 h3 EV2 EV3 HBB ESZ;go_wp2;go_ret;exact FF.out
def zVI (w : World) (m n : Nat) (A : Nat → Nat → Int) (kt : Nat) (e : Ending) (w' : World) : Prop :=
 ∃ v r γ X,e = .returned (.tuple #[v,.int .i64 0]) ∧ Mc w' v m n (zG18 m n X) kt ∧ Hb18 m n m r id γ X A ∧ Below w.heap.size w w'
theorem Sh17.more18 {B m n k l : Nat} {w : World} {lv : Value} {gs : Nat → Nat} {L : Nat → Nat → Int} (h : Sh17 B w lv m n gs L k) (hl : k ≤ l) : Sh17 B w lv m n gs L l := ⟨h.1,h.2.1,fun i hi => ⟨(h.2.2 i hi).1,(h.2.2 i hi).2.more hl⟩⟩
theorem zkF {m n : Nat} {zs : List Int} (hz : zs.length = m * n) {i j : Nat} (hi : i < m) (hj : j < n) : lm18 (rowsL m n zs) i j = en18 n zs i j := by
 have hl := zgF hi hj;unfold lm18 en18 zgB rowsL;simp only [List.getD_eq_getElem?_getD,List.getElem?_map,List.getElem?_range hi,Option.map_some,Option.getD_some,List.getElem?_take,List.getElem?_drop,if_pos hj]
theorem Zc.fit18 {w : World} {v : Value} {z : Int} {k l : Nat} (h : Zc w v z k) (hz : (z.natAbs : Int) < pw l) : Zc w v z l := by
 obtain ⟨n,xs,a,c,h1,h2,h3,h4,h5,h6⟩ := h;have e := zIA h3.1;refine ⟨n,xs,a,c,h1,h2,h3,h4,h5,zrA h3 ?_⟩;cases n <;> simp [iv] at h5 <;> omega
theorem Mc.fit18 {w : World} {v : Value} {r c : Nat} {zs : List Int} {k l : Nat} (h : Mc w v r c zs k) (hz : ∀ z ∈ zs,(z.natAbs : Int) < pw l) : Mc w v r c zs l := by
 obtain ⟨a,ps,h1,h2,h3,h4⟩ := h;exact ⟨a,ps,h1,h2,⟨h3.1,fun j p z hp hzz => Zc.fit18 (h3.2 j p z hp hzz) (hz z (List.mem_of_getElem? hzz))⟩,h4⟩
theorem zvH {w : World} {v : Value} {m n k kw kt T : Nat} {zs : List Int} (h : Mx w v m n zs k) (hTb : Tb18 m n (en18 n zs) T) (hkk : k ≤ kw) (hT : ((bd18 T 128 : Nat) : Int) < pw kw) (hk1 : 1 ≤ kw) (hK : kw ≤ 68719476736) (hkt : ((T : Nat) : Int) < pw kt) :
  Calls Tryz.prog 11 #[v] w (zVI w m n (en18 n zs) kt) := by
 obtain ⟨aa,ca,rfl,hm,hn⟩ := h.form;have hzl : zs.length = m * n := by obtain ⟨_,_,_,_,_,h,_⟩ := h;exact h
 obtain ⟨la,hla⟩ : ∃ la,m * n = la := ⟨_,rfl⟩
 have HLA := hid hla;rw [hla] at h ⊢;dsimp only [matv] at h ⊢;obtain ⟨W0,hW⟩ : ∃ W0,(w.alloc (.cells #[.int .i64 (m : Int),.int .i64 (n : Int),.slice aa la ca] 24)).alloc mbox = W0 := ⟨_,rfl⟩
 obtain ⟨b0,sz0⟩ := zYA w (.cells #[.int .i64 (m : Int),.int .i64 (n : Int),.slice aa la ca] 24) mbox;rw [hW] at b0 sz0;have dA : Cel W0 w.heap.size 24 [.int .i64 (m : Int),.int .i64 (n : Int),.slice aa la ca] := by rw [← hW];exact (Cel.new w _ _).step ((Below.refl _ _).alloc (Nat.le_refl _) _)
 have dR : Cel W0 (w.heap.size + 1) 24 [.int .i64 0,.int .i64 0,.slice none 0 0] := by
  rw [← hW];have := Cel.new (w.alloc (.cells #[.int .i64 (m : Int),.int .i64 (n : Int),.slice aa la ca] 24)) 24 [.int .i64 0,.int .i64 0,.slice none 0 0]
  simpa using this
 have MX := hid (h.now b0);have HCK := hid (zoC MX.out);have DA := hid dA;have DR := hid dR;have B0 := hid b0;have SZ0 := hid sz0;have EW := hid hW;have HZL := hid hzl;have HTB := hid hTb;have HKK := hid hkk;have HT := hid hT;have Hk1 := hid hk1;have HK := hid hK;have HKT := hid hkt;have x0 := dA.at (i := 0) rfl;have x1 := dA.at (i := 1) rfl;have x2 := dA.at (i := 2) rfl;rw [← hW] at x0 x1 x2;clear h hTb hkk hT hk1 hK hkt b0 sz0 hW dA dR hzl hla;go_enter Tryz.func11,Tryz.ntmps11;go_upto_region 1 with fail
 rw [EW.out] at x0 x1 x2;rw [EW.out];go_wp2_with fail;refine HCK.out.mono ?_;rintro e w1 ⟨rfl,b1⟩;have DA1 := hid (DA.out.step b1);have DR1 := hid (DR.out.step b1);have B1 := hid (below_step B0.out b1);have HLI := hid (zPF (MX.out.now b1));clear HCK x0 x1 x2 EW DA DR MX;have x0 := DA1.out.at (i := 0) rfl;have x1 := DA1.out.at (i := 1) rfl;have x2 := DA1.out.at (i := 2) rfl;have hs1 := b1.size;have hsz0 := SZ0.out;clear b1;go_wp2_with fail;refine HLI.out.mono ?_;rintro e w2 ⟨lv,gs,rfl,q1,q2⟩;have hml : (rowsL m n zs).length = m := zbB;rw [hml] at q1;have SH2 := hid ((q1.congr (fun i j hi hj => zkF HZL.out hi hj)).more18 HKK.out);have DA2 := hid (DA1.out.step q2);have DR2 := hid (DR1.out.step q2);have B2 := hid (below_step B1.out q2);have HFD := hid (zLG SH2.out HTB.out q2.size hm hn HT.out Hk1.out HK.out);have HS2 := hid q2.size;obtain ⟨lla,llc,rfl⟩ : ∃ la lc,lv = .slice la m lc := by
  rcases q1.1 with ⟨e,h⟩ | ⟨h0,Lb,cap,r,e,_⟩
  ·exact ⟨none,0,by rw [e];exact h⟩
  ·exact ⟨_,cap,e⟩
 clear HLI q1 q2 DA1 DR1 B1 x0 x1 x2 hml;go_wp2_with fail;refine HFD.out.mono ?_;rintro e w3 ⟨r,γ,gs',X,rfl,h1,h2,h3⟩;have DA3 : Cel w3 w.heap.size 24 [.int .i64 (m : Int),.int .i64 (n : Int),.slice aa la ca] := (h3.block _ (by omega)).trans DA2.out;have DR3 := hid (show Cel w3 (w.heap.size + 1) 24 [.int .i64 0,.int .i64 0,.slice none 0 0] from (h3.block _ (by omega)).trans DR2.out);have B3 : Hid (Below w.heap.size w w3) := zXA B2.out ⟨h3.os,h3.tape,h3.output,h3.size,fun b hb => h3.block b (by omega)⟩;have x1 := DA3.at (i := 1) rfl;have HMA := hid (matrix18 h1 hm hn);have HHB := hid h2;have hs3 := h3.size;clear HFD h1 h2 h3 DA2 DR2 B2 DA3 SH2;go_wp2_with fail;refine HMA.out.mono ?_;rintro e w4 ⟨v4,rfl,q3,q4⟩;have q5 := q3.fit18 (l := kt) (fun z hz => by
  have hz' := hz;unfold zG18 at hz';simp only [List.mem_map,List.mem_range] at hz';obtain ⟨t,ht,rfl⟩ := hz';have hn0 : 0 < n := Nat.pos_of_ne_zero fun e => by subst e;simp at ht
  have := HHB.out.size HTB.out (Nat.le_refl _) (t / n) (t % n) (Nat.div_lt_of_lt_mul (by rw [Nat.mul_comm];exact ht)) (Nat.mod_lt _ hn0);have := HKT.out;omega)
 obtain ⟨a4,c4,rfl,-,-⟩ := q3.mx.form;rw [HLA.out] at q5;dsimp only [matv] at q5 ⊢;have pr := DR3.out.step q4;have y0 := pr.at (i := 0) rfl;have y1 := pr.at (i := 1) rfl;have y2 := pr.at (i := 2) rfl;have f0 := pr.fz 0;have f1 := pr.fz 1;have f2 := pr.fz 2;have FF : Hid (zVI w m n (en18 n zs) kt (.returned (.tuple #[.agg #[.int .i64 (m : Int),.int .i64 (n : Int),.slice a4 la c4],.int .i64 0])) (put3 w4 (w.heap.size + 1) (.int .i64 (m : Int)) (.int .i64 (n : Int)) (.slice a4 la c4)) ∧ Cel (put3 w4 (w.heap.size + 1) (.int .i64 (m : Int)) (.int .i64 (n : Int)) (.slice a4 la c4)) (w.heap.size + 1) 24 [.int .i64 (m : Int),.int .i64 (n : Int),.slice a4 la c4]) :=
  ⟨⟨_,r,γ,X,rfl,q5.wk pr _ _ _,HHB.out,bset (bset (bset (below_step B3.out q4) (by omega)) (by omega)) (by omega)⟩,pr.put3 _ _ _⟩
 rw [HLA.out];clear HMA q3 q4 q5 pr DR3 B3 HHB x1;go_wp2_with fail;refine bodyPost_ret (zMF Tryz.results11 FF.out.2 _ (by rfl) (by rfl)) rfl ?_;exact FF.out.1
end Go.Proofs.YtmnecbniappnaaaGreat
