import Derived.Test.YtmnecbniappnaaaGreatQFp18ToJa18
import Derived.Test.YtmnecbniappnaaaGreatQBf18ToIi18
import Derived.Test.YtmnecbniappnaaaGreatQTailLToTo18
set_option maxRecDepth 100000
set_option maxHeartbeats 6400000
set_option linter.unusedVariables false
set_option linter.unusedSimpArgs false
namespace Go.Proofs.YtmnecbniappnaaaGreat
open Go.RowKit
theorem isH18 {n m r : Nat} {γ : Nat → Nat} {X : Nat → Nat → Int} {vs : List Int} (hE : Ec18 n m r id γ X) (hR : Rd18 0 r id γ X) : Hb18 (r + 1) n r r id γ (zAB r X vs) (zAB r X vs) := by
 have e : ∀ i j,i < r → zAB r X vs i j = X i j := fun i j hi => if_pos hi
 refine ⟨⟨hE.up,hE.cl,fun a ha => ha,hE.inj,fun a j ha hj => ?_,fun a ha => ?_,fun t ht hn j hj => absurd rfl (hn t ht)⟩,fun a b h1 h2 h3 => ?_,fun v => Iff.rfl,fun t _ => rfl⟩
 ·rw [show id a = a from rfl,e a j ha];exact hE.zero a j ha hj
 ·rw [show id a = a from rfl,e a _ ha];exact hE.pos a ha
 ·rw [show id a = a from rfl,show id b = b from rfl,e a _ (by omega),e b _ (by omega)];exact hR a b h1 h2 h3
theorem zFG {B n s : Nat} {T T' : TypeId} {w w' : World} {v : Value} {xs : List Value} (h : w.ownsRow B T s v n xs) (ht : Ty T' w w') (hT : T ≠ T') : w'.ownsRow B T s v n xs := by
 obtain ⟨h0,h1 | ⟨g,cap,cur,q1,q2,q3,q4⟩⟩ := h
 ·exact ⟨h0,.inl h1⟩
 ·exact ⟨h0,.inr ⟨g,cap,cur,q1,q2,ht.2 g _ _ _ q3 hT,q4⟩⟩
theorem Ivs.tyI18 {B : Nat} {T' : TypeId} {w w' : World} {v : Value} {l : List Nat} (h : Ivs B w v l) (ht : Ty T' w w') (hT : 3 ≠ T') : Ivs B w' v l := zFG h ht hT
theorem Ivs.atI18 {B : Nat} {w : World} {v : Value} {l : List Nat} (h : Ivs B w v l) {t : Nat} (ht : t < l.length) : ∃ g cap,v = .slice (some ⟨g,0,none⟩) l.length cap ∧ w.cell? ⟨g,t,none⟩ = some (.int .i64 (l.getD t 0 : Nat)) := by
 have h0 := h;obtain ⟨q1,⟨q2,q3⟩ | ⟨g,cap,cur,q2,q3,q4,q5,q6⟩⟩ := h
 ·omega
 ·refine ⟨g,cap,q2,?_⟩
  have h1 : w.ownsRow B 3 1 (.slice (some ⟨g,0,none⟩) l.length cap) l.length (l.map fun (a : Nat) => Value.int .i64 (a : Int)) := ⟨q1,.inr ⟨g,cap,cur,rfl,q3,q4,q5,q6⟩⟩
  rw [h1.cellAt t (by omega)];simp [ht]
def zhI (w : World) (B : Nat) (wx : World) (bm br bs Bl Bh Ba m n t r k : Nat) (lm lv sv pv : Value) (γ gs : Nat → Nat) (A : Nat → Nat → Int) : Prop :=
 Cel wx bm 24 [.int .i64 (m : Int),.int .i64 (n : Int),lm] ∧ Cel wx br 24 [.int .i64 0,.int .i64 0,.slice none 0 0] ∧ Cel wx bs 63 [.slice (some ⟨Bl,0,none⟩) 1 1,.slice (some ⟨Bh,0,none⟩) 1 1,sv] ∧ Cel wx Bl 45 [lv] ∧ Cel wx Bh 58 [hf1 Ba,hf2 Ba,hf3 Ba,hf4 Ba] ∧ Cel wx Ba 45 [lv]
 ∧ wx.ownsRow B 65 2 sv t (sc18 t id γ) ∧ Sh17 B wx lv (r + 1) n gs A k ∧ Ivs B wx pv (zwA γ r) ∧ Below w.heap.size w wx
theorem own_sh18 {B m n k : Nat} {w : World} {v : Value} {gs : Nat → Nat} {L : Nat → Nat → Int} (h : w.ownsRow B 22 1 v m (gv17 m n gs)) (hm : 0 < m) (hi : ∀ i j,i < m → j < m → gs i = gs j → i = j) (hr : ∀ i,i < m → B ≤ gs i ∧ Rw17 w (gs i) n (L i) k) : Sh17 B w v m n gs L k := by
 obtain ⟨h0,⟨q1,q2⟩ | ⟨g,cap,cur,q1,q2,q3,q4,q5,q6,q7⟩⟩ := h
 ·omega
 ·refine ⟨.inr ⟨hm,g,cap,cur.toList.drop m,q1,q4,q2,?_⟩,hi,hr⟩
  have e : gv17 m n gs ++ cur.toList.drop m = cur.toList := by rw [← q7,Nat.mul_one,List.take_append_drop]
  rw [e]
  show w.heap[g]? = some (.cells cur.toList.toArray _ _)
  simpa using q3
theorem gv_app18 {m n r g : Nat} {gs : Nat → Nat} (hr : r ≤ m) : (gv17 m n gs).take r ++ [rowv n g] = gv17 (r + 1) n (fun t => if t = r then g else gs t) := by
 unfold gv17;rw [List.range_succ,List.map_append,← List.map_take,List.take_range,Nat.min_eq_left hr]
 congr 1
 ·exact List.map_congr_left fun t ht => by
   have : t < r := List.mem_range.1 ht
   show rowv n (gs t) = rowv n (if t = r then g else gs t)
   rw [if_neg (by omega)]
 ·simp
theorem Rw17.lt18 {w : World} {g n k : Nat} {F : Nat → Int} (h : Rw17 w g n F k) : g < w.heap.size := by
 obtain ⟨ps,h1,_⟩ := h;exact h1.1.blk
theorem pv_at18 {γ : Nat → Nat} {r t : Nat} (h : t < r) : (zwA γ r).getD t 0 = γ t := by simp [zwA,h]
theorem zlE (γ : Nat → Nat) (r : Nat) : (zwA γ r).length = r := by simp [zwA]
def zSI (w : World) (B bm br bs Bl Bh Ba m n r k : Nat) (lm lv pv : Value) (γ gs : Nat → Nat) (A : Nat → Nat → Int) (gk : Nat) (s : Value) (wx : World) : Prop := ∃ (t : Nat) (sv : Value),s = .int .i64 (t : Int) ∧ t ≤ r ∧ gk = r - t ∧ (t = 0 → sv = .slice none 0 0) ∧ zhI w B wx bm br bs Bl Bh Ba m n t r k lm lv sv pv γ gs A
theorem own_sp18 {B r : Nat} {w : World} {v : Value} {γ : Nat → Nat} (h : w.ownsRow B 65 2 v r (sc18 r id γ)) (hn : r = 0 → v = .slice none 0 0) : Sp18 B w v r id γ := by
 obtain ⟨h0,⟨q1,q2⟩ | ⟨g,cap,cur,q1,q2,q3,q4,q5,q6,q7⟩⟩ := h
 ·exact .inl ⟨q2,q1⟩
 ·by_cases hr : r = 0
  ·exact .inl ⟨hr,hn hr⟩
  ·have hml : cap ≤ 9223372036854775807 := by
    have : maxLen ≤ 9223372036854775807 := by unfold maxLen;omega
    omega
   refine .inr ⟨by omega,g,cap,cur.toList.drop (r * 2),q1,q4,q2,hml,by simp;omega,?_⟩;have e : sc18 r id γ ++ cur.toList.drop (r * 2) = cur.toList := by rw [← q7,List.take_append_drop]
   rw [e]
   show w.heap[g]? = some (.cells cur.toList.toArray _ _)
   simpa using q3
theorem zUF {w : World} {vh vv : Value} {m n k r kw kt T : Nat} {γ : Nat → Nat} {hs vs : List Int} (h : Mx w vh m n hs k) (hE : Ec18 n m r id γ (en18 n hs)) (hR : Rd18 0 r id γ (en18 n hs)) (hv : Zl w vv vs k) (hvn : vs.length = n) (hrm : r ≤ m)
  (hTb : Tb18 (r + 1) n (zAB r (en18 n hs) vs) T) (hkk : k ≤ kw) (hT : ((bd18 T 128 : Nat) : Int) < pw kw) (hk1 : 1 ≤ kw) (hK : kw ≤ 68719476736) (hkt : ((T : Nat) : Int) < pw kt) :
  Calls Tryz.prog 7 #[vh,vv] w (zVH w (r + 1) n (zAB r (en18 n hs) vs) kt) := by
 obtain ⟨aa,ca,rfl,hm64,hn64⟩ := h.form;obtain ⟨av,cv,rfl,-,-,-⟩ := hv.form9;rw [hvn];have M0 := h;have V0 := hid hv;rw [hvn] at V0;obtain ⟨la,hla⟩ : ∃ la,m * n = la := ⟨_,rfl⟩
 rw [hla] at M0 ⊢;dsimp only [matv] at M0 ⊢;obtain ⟨W0,hW⟩ : ∃ W0,(w.alloc (.cells #[.int .i64 (m : Int),.int .i64 (n : Int),.slice aa la ca] 24)).alloc mbox = W0 := ⟨_,rfl⟩
 obtain ⟨b0,sz0⟩ := zYA w (.cells #[.int .i64 (m : Int),.int .i64 (n : Int),.slice aa la ca] 24) mbox;rw [hW] at b0 sz0;obtain ⟨pa,pr⟩ := zaD (o1 := [.int .i64 (m : Int),.int .i64 (n : Int),.slice aa la ca]) hW;have HF := hid (formAndPivotsO18 (M0.now b0) hE hR);obtain ⟨B,hB⟩ : ∃ B,W0.heap.size = B := ⟨_,rfl⟩
 have HB := hid hB;have HBW : Hid (B = w.heap.size + 1 + 1) := hid (by rw [← hB];exact sz0);have x0 := pa.at (i := 0) rfl;have x1 := pa.at (i := 1) rfl;have x2 := pa.at (i := 2) rfl;rw [← hW] at x0 x1 x2;have PA := hid pa;have PR := hid pr;have G := hid b0;have SZ := hid sz0;have EW := hid hW;have HVN := hid hvn;have HTB := hid hTb;have HKK := hid hkk;have HT := hid hT;have Hk1 := hid hk1;have HK := hid hK;have HKT := hid hkt;have HE := hid hE;have HRD := hid hR;have HRM := hid hrm;have HRN : Hid (r ≤ n) := hE.few;clear h hv hvn hTb hkk hT hk1 hK hkt hE hR hrm b0 sz0 hW pa pr M0 hla hB;go_enter Tryz.func7,Tryz.ntmps7;go_wp2_with fail;rw [EW.out];clear EW x0 x1 x2;refine HF.out.mono ?_;rintro e w1 ⟨lv,gs,pv,rfl,sh,ow,iv,b⟩;obtain ⟨ll,lc,rfl,hlc,ot,hform⟩ := own_top18 ow HRM.out;have hsl : ∀ wx : World,(Instr.slice 45 (.slice ll m lc) none (some (.int .i64 (r : Int))) none).run Tryz.prog wx = .ok (.slice ll r lc) wx := fun wx => zeD (by have := HRM.out;omega) hform
 obtain ⟨ac,cc,rfl,-,-⟩ := iv.form;rw [zlE] at iv ⊢;rw [HB.out] at sh ot iv;have SH := hid sh;have OT := hid ot;have IV := hid iv;have HB1 : Hid (B ≤ w1.heap.size) := hid (by have := b.size;have := HB.out;omega);replace PA := hid (PA.out.step b);replace PR := hid (PR.out.step b);have V1 := hid (V0.out.now (below_step G.out b));replace G := hid (below_step G.out b);have HLO : Hid (∀ w',Below w1.heap.size w1 w' → Calls Tryz.prog 18 #[.slice av n cv] w' (zFE w' vs k)) := fun w' b => leastOf18 (V1.out.now b)
 clear HF sh ow ot iv b hlc hform;go_upto_region 4 with fail
 refine zFA (fun _ => True) 7 (by kernel_rfl) ?_;obtain ⟨D1,hD⟩ : ∃ D1,w1.drew = D1 := ⟨_,rfl⟩
 have GB : Hid (Below w1.heap.size w1 D1) := by unfold Hid;rw [← hD];exact (Below.refl _ _).drew
 rw [hD];clear hD;refine zHA [(0,(.slice ll m lc)),(1,(.slice ac r cc)),(2,(.int .i64 (r : Int))),(3,(.slice ll r lc)),(4,(.slice av n cv))] 5 ?_ (trivial) ?_
 ·simp only [zSA,gA9,g09,g19,Act.put,sI9,s09,s19]
  (repeat' (first | exact trivial | refine And.intro (Or.inl ⟨by rfl,?_⟩) ?_)) <;> (intro w hSw;(try dsimp only at hSw);go_simp)
 simp only [actV,gA9,g09,g19,Act.put,sI9,s09,s19];refine zAA (i := 5) (o := ⟨some 30,.call { callee := .value (.func 18),args := #[.tmp 29],argTypes := #[22] },22, "hnf.go:79",#[⟨4,.data⟩],none⟩) (by kernel_rfl) rfl (fun K hK => ?_);have GBp := GB;go_simp;go_at_call 18;refine (HLO.out _ GB.out).mono ?_;rintro e w2 ⟨gx,nx,px,rfl,hgx,hpl,arx,zmx,b⟩;have lz2 := (show Below _ _ _ from b).size;replace GB := hid (below_step GB.out b);obtain rfl : nx = n := by have h1 := zmx.1;have h2 := HVN.out;omega
 have ARX := hid arx;have ZMX := hid zmx;have HGX : Hid (w1.heap.size ≤ gx) := hid (Nat.le_trans GBp.out.size hgx);clear arx zmx hgx hpl;clear b;refine hK.out _ _ (fun _ => trivial) ?_;clear hK;refine zAA (i := 6) (o := ⟨some 31,.buildSlice 45 1 #[(0,.tmp 30)],45, "hnf.go:79",#[⟨5,.data⟩],none⟩) (by kernel_rfl) rfl (fun K hK => ?_);go_simp;obtain ⟨V3,hW⟩ : ∃ V3,w2.alloc (.cells #[.slice (some ⟨gx,0,none⟩) nx nx] 22) = V3 := ⟨_,rfl⟩
 obtain ⟨b,sz3⟩ := alo1 w2 (.cells #[.slice (some ⟨gx,0,none⟩) nx nx] 22);rw [hW] at b sz3;replace GB := hid (below_step GB.out b);have CB : Hid (Cel V3 w2.heap.size 22 [.slice (some ⟨gx,0,none⟩) nx nx]) := by unfold Hid;rw [← hW];exact Cel.new _ _ _
 replace ARX := hid (ARX.out.step b);replace ZMX := hid (ZMX.out.now b);rw [hW];clear hW b;refine hK.out _ _ (fun _ => trivial) ?_;clear hK
 try simp only [Act.put]
 refine zAA (i := 7) (o := ⟨some 32,.call { callee := .builtin .append,args := #[.tmp 28,.tmp 31],argTypes := #[45,45] },45, "hnf.go:79",#[⟨3,.data⟩,⟨6,.data⟩,⟨5,.chain⟩],none⟩) (by kernel_rfl) rfl (fun K hK => ?_);have OT2 := hid (zvB OT.out fun b _ hlt => GB.out.block b hlt);have q0 := CB.out.at (i := 0) rfl;refine step_append_ln18 _ rfl (.tmp 28) (.tmp 31) rfl B r (.slice ll r lc) ((gv17 m nx gs).take r) (rowv nx gx) rfl OT2.out w2.heap.size rfl q0 rfl (by have := HRM.out;omega) (by have := GB.out.size;have := HB1.out;omega) ?_;intro a9 cap9 w9 LN9 TY9 BB9;replace LN9 := hid (show _ from LN9.out);rw [gv_app18 HRM.out] at LN9;have TYW : Hid (Ty 22 w1 w9) := hid ((Ty.of GB.out).trans TY9.out);have SHN : Hid (Sh17 B w9 (.slice (some ⟨a9,0,none⟩) (r + 1) cap9) (r + 1) nx (fun t => if t = r then gx else gs t) (zAB r (en18 nx hs) vs) kw) := by
  have hlt : ∀ i,i < r → gs i < gx := fun i hi => by
   have := (SH.out.2.2 i (by have := HRM.out;omega)).2.lt18;have := HGX.out;omega
  refine (own_sh18 (k := k) LN9.out (by omega) (fun i j hi hj e => ?_) fun i hi => ?_).more18 HKK.out
  ·try dsimp only at e
   by_cases hi' : i = r
   ·by_cases hj' : j = r
    ·omega
    ·rw [if_pos hi',if_neg hj'] at e;have := hlt j (by omega);omega
   ·by_cases hj' : j = r
    ·rw [if_neg hi',if_pos hj'] at e;have := hlt i (by omega);omega
    ·rw [if_neg hi',if_neg hj'] at e;exact SH.out.2.1 i j (by have := HRM.out;omega) (by have := HRM.out;omega) e
  ·try dsimp only
   by_cases hi' : i = r
   ·rw [if_pos hi']
    refine ⟨by have := HGX.out;have := HB1.out;omega,px,?_,?_⟩
    ·exact ⟨ARX.out.1.ty13 TY9.out (by decide),ARX.out.2⟩
    ·have e : (List.range nx).map (zAB r (en18 nx hs) vs i) = vs := by
      apply List.ext_getElem
      ·simp [HVN.out]
      ·intro j h1 h2
       simp [zAB,hi',h2]
     rw [e];exact ZMX.out.ty TY9.out (by decide)
   ·rw [if_neg hi']
    have hir : i < r := by omega
    have q := SH.out.2.2 i (by have := HRM.out;omega);refine ⟨q.1,?_⟩;have e : zAB r (en18 nx hs) vs i = en18 nx hs i := by funext j;simp [zAB,hir]
    rw [e];exact q.2.ty TYW.out (by decide) (by decide)
 have PA9 := hid (PA.out.ty13 TYW.out (by decide));have PR9 := hid (PR.out.ty13 TYW.out (by decide));have IV9 := hid (IV.out.tyI18 TYW.out (by decide));have G9 : Hid (Below w.heap.size w w9) := (below_step G.out GB.out).trans (BB9.out.mono (by have := HBW.out;omega));clear OT OT2 q0 CB LN9 TY9 BB9 SH ARX ZMX TYW PA PR IV G GB HLO V1 hsl;refine hK.out _ _ (fun h => absurd h (by decide)) ?_;clear hK
 try simp only [Act.put]
 refine zAA (i := 8) (o := ⟨some 9,.assign (.tmp 32),45, "hnf.go:79",#[⟨7,.data⟩,⟨7,.chain⟩,⟨0,.phase⟩,⟨1,.phase⟩,⟨2,.phase⟩,⟨3,.phase⟩,⟨4,.phase⟩,⟨5,.phase⟩,⟨6,.phase⟩,⟨7,.phase⟩],none⟩) (by kernel_rfl) rfl (fun K hK => ?_);go_simp;refine hK.out _ _ (fun h => absurd h (by decide)) ?_;clear hK
 try simp only [Act.put]
 refine zDA (by kernel_rfl) ?_ _;obtain ⟨V5,hV5⟩ : ∃ V5,w9.alloc (.cells #[.slice (some ⟨a9,0,none⟩) (r + 1) cap9] 45) = V5 := ⟨_,rfl⟩
 obtain ⟨b5,sz5⟩ := alo1 w9 (.cells #[.slice (some ⟨a9,0,none⟩) (r + 1) cap9] 45);rw [hV5] at b5 sz5;have d5 : Cel V5 w9.heap.size 45 [.slice (some ⟨a9,0,none⟩) (r + 1) cap9] := by rw [← hV5];exact Cel.new w9 _ _
 have HAL := hid (zFH (w := V5) (a := some ⟨a9,0,none⟩) (l := r + 1) (c := cap9));have D5 := hid d5;have B5 := hid b5;have SZ5 := hid sz5;have EV5 := hid hV5;clear d5 b5 sz5 hV5;go_wp2_with fail;rw [EV5.out];clear EV5;refine HAL.out.mono ?_;rintro e w10 ⟨rfl,dA,b10⟩;obtain ⟨V11,hV11⟩ : ∃ V11,w10.alloc (.cells #[hf1 V5.heap.size,hf2 V5.heap.size,hf3 V5.heap.size,hf4 V5.heap.size] 58) = V11 := ⟨_,rfl⟩
 obtain ⟨b11,sz11⟩ := alo1 w10 (.cells #[hf1 V5.heap.size,hf2 V5.heap.size,hf3 V5.heap.size,hf4 V5.heap.size] 58);rw [hV11] at b11 sz11;have dH : Cel V11 w10.heap.size 58 [hf1 V5.heap.size,hf2 V5.heap.size,hf3 V5.heap.size,hf4 V5.heap.size] := by rw [← hV11];exact Cel.new w10 _ _
 obtain ⟨V12,hV12⟩ : ∃ V12,V11.alloc (.cells #[.slice (some ⟨w9.heap.size,0,none⟩) 1 1,.slice (some ⟨w10.heap.size,0,none⟩) 1 1,.slice none 0 0] 63) = V12 := ⟨_,rfl⟩
 obtain ⟨b12,sz12⟩ := alo1 V11 (.cells #[.slice (some ⟨w9.heap.size,0,none⟩) 1 1,.slice (some ⟨w10.heap.size,0,none⟩) 1 1,.slice none 0 0] 63);rw [hV12] at b12 sz12;have dS : Cel V12 V11.heap.size 63 [.slice (some ⟨w9.heap.size,0,none⟩) 1 1,.slice (some ⟨w10.heap.size,0,none⟩) 1 1,.slice none 0 0] := by rw [← hV12];exact Cel.new V11 _ _
 have bb := below_step b10 (below_step b11 b12);have bc := below_step B5.out bb;have ESZ : Hid (w10.heap.size + 1 = V11.heap.size) := sz11.symm;obtain ⟨bs,hbs⟩ : ∃ bs,V11.heap.size = bs := ⟨_,rfl⟩
 rw [hbs] at dS ESZ;have HBS : Hid (B ≤ bs) := hid (by
  have h1 := b11.size;have h2 := b10.size;have h3 := B5.out.size;have h4 := G9.out.size;have h5 := PR9.out.blk;have h6 := HBW.out;omega)
 have O0 : zhI w B V12 w.heap.size (w.heap.size + 1) bs w9.heap.size w10.heap.size V5.heap.size m nx 0 r kw (.slice aa la ca) (.slice (some ⟨a9,0,none⟩) (r + 1) cap9) (.slice none 0 0) (.slice ac r cc) γ (fun t => if t = r then gx else gs t) (zAB r (en18 nx hs) vs) :=
  ⟨PA9.out.step bc,PR9.out.step bc,dS,D5.out.step bb,dH.step b12,dA.step (below_step b11 b12),World.ownsRow_nil _ _ _ _,SHN.out.now bc,IV9.out.now bc,below_step G9.out bc⟩
 have H0 : Hid (zSI w B w.heap.size (w.heap.size + 1) bs w9.heap.size w10.heap.size V5.heap.size m nx r kw (.slice aa la ca) (.slice (some ⟨a9,0,none⟩) (r + 1) cap9) (.slice ac r cc) γ (fun t => if t = r then gx else gs t) (zAB r (en18 nx hs) vs) r (.int .i64 0) V12) := ⟨0,_,rfl,Nat.zero_le _,rfl,fun _ => rfl,O0⟩
 have EV11 := hid hV11;have EV12 := hid hV12;clear HAL dA b10 b11 sz11 b12 sz12 dH dS bb bc hV11 hV12 hbs O0 D5 B5 SZ5 PA9 PR9 IV9 SHN G9;go_wp2_with fail;rw [EV11.out,EV12.out,ESZ.out];clear EV11 EV12 ESZ
 go_loopg [41] r (fun gk s wx => zSI w B w.heap.size (w.heap.size + 1) bs w9.heap.size w10.heap.size V5.heap.size m nx r kw (.slice aa la ca) (.slice (some ⟨a9,0,none⟩) (r + 1) cap9) (.slice ac r cc) γ (fun t => if t = r then gx else gs t) (zAB r (en18 nx hs) vs) gk s wx)
 case atStart => exact H0.out
 case round =>
  clear H0;obtain ⟨t,sv,rfl,htr,hgk,hnil,o1,o2,o3,o4,o5,o6,o7,o8,o9,o10⟩ := hrel;obtain ⟨ss,sc,rfl⟩ : ∃ a c,sv = .slice a t c := by
   obtain ⟨_,⟨q1,q2⟩ | ⟨g,cap,cur,q1,q2,_⟩⟩ := o7
   ·exact ⟨none,0,by rw [q1,q2]⟩
   ·exact ⟨_,cap,q1⟩
  have O1 := hid o1;have O2 := hid o2;have O3 := hid o3;have O4 := hid o4;have O5 := hid o5;have O6 := hid o6;have O7 := hid o7;have O8 := hid o8;have O9 := hid o9;have O10 := hid o10;have HN := hid hnil;have HG := hid hgk;clear o1 o2 o3 o4 o5 o6 o7 o8 o9 o10 hgk hnil
  by_cases hlt : ¬ t < r
  ·have hlt' : ¬ (t : Int) < (r : Int) := by omega
   obtain rfl : t = r := by omega
   have WK : Wk18 B wr bs w9.heap.size w10.heap.size V5.heap.size (.slice (some ⟨a9,0,none⟩) (t + 1) cap9) (.slice ss t sc) (t + 1) nx t id γ (fun t_1 => if t_1 = t then gx else gs t_1) (zAB t (en18 nx hs) vs) kw := ⟨O3.out,O4.out,O5.out,O6.out,own_sp18 O7.out HN.out,O8.out⟩
   have hB2 : B ≤ wr.heap.size := by have := O3.out.blk;have := HBS.out;omega
   have HSE := hid (zAG WK (isH18 HE.out HRD.out) HTB.out (by omega) HBS.out hB2 (by have := HRN.out;omega) hn64 HT.out Hk1.out HK.out);have HB2 := hid hB2;clear WK hB2 O3 O4 O5 O6 O7 O8 O9 HN HG hlt;go_wp2_with fail;refine HSE.out.mono ?_;rintro e w20 ⟨sv1,r1,ρ1,γ1,X1,rfl,h1,h2,h3⟩;have hB3 : B ≤ w20.heap.size := by have := h3.size;have := HB2.out;omega
   have HOR := hid (zrG h1 h2 hB3 (by have := HRN.out;omega) hn64);have BA := hid h3;have HB3 := hid hB3;clear HSE h1 h2 h3 hB3;go_wp2_with fail;refine HOR.out.mono ?_;rintro e w21 ⟨gs2,X2,rfl,h1,h2,h3⟩;obtain ⟨sa2,sc2,rfl⟩ := h1.sform;have DA3 : Cel w21 w.heap.size 24 [.int .i64 (m : Int),.int .i64 (nx : Int),.slice aa la ca] := (h3.block _ (by have := HBW.out;omega)).trans ((BA.out.block _ (by have := HBW.out;omega)).trans O1.out);have DR3 := hid (show Cel w21 (w.heap.size + 1) 24 [.int .i64 0,.int .i64 0,.slice none 0 0] from (h3.block _ (by have := HBW.out;omega)).trans ((BA.out.block _ (by have := HBW.out;omega)).trans O2.out));have B3 : Hid (Below w.heap.size w w21) := hid ((O10.out.trans (BA.out.mono (by have := HBW.out;omega))).trans (h3.mono (by have := HBW.out;omega)));have x1 := DA3.at (i := 1) rfl;have s2 := h1.1.at (i := 2) rfl;have HHB := hid h2;have hr1n : r1 ≤ nx := h2.ec.few;have hr1m : r1 ≤ t + 1 := by
    rcases Nat.eq_zero_or_pos r1 with q | q
    ·omega
    ·have := h2.ec.rl (r1 - 1) (by omega);simp at this;omega
   have HRM1 := hid hr1m;have SH2 := h1.2.2.2.2.2;obtain ⟨pss,hp,hz,hsm⟩ := SH2.prr18 (by have := HRN.out;omega) hn64;have hpl : pss.length = t + 1 := by rw [hz.1];simp
   have hlc : t + 1 ≤ cap9 := by
    rcases SH2.1 with ⟨e,_⟩ | ⟨_,Lb,cap,_,e,e1,_⟩
    ·omega
    ·simp only [Value.slice.injEq] at e;omega
   have hsl : ∀ wx : World,(Instr.slice 45 (.slice (some ⟨a9,0,none⟩) (t + 1) cap9) none (some (.int .i64 (r1 : Int))) none).run Tryz.prog wx = .ok (.slice (some ⟨a9,0,none⟩) r1 cap9) wx := fun wx => zeD (by omega) (.inr ⟨_,rfl⟩)
   have HMA : Hid (∀ w',Below w21.heap.size w21 w' → Calls Tryz.prog 16 #[.slice (some ⟨a9,0,none⟩) r1 cap9,.int .i64 (nx : Int)] w' (zfE w' r1 nx (zG18 r1 nx X2) kw)) := fun w' hb => zNF ((hp.top18 (by omega)).now hb) ((hz.top18 hr1m).now hb) (fun ps hps => hsm ps (List.mem_of_mem_take hps)) (by omega) hn64
   clear HOR h1 h2 h3 DA3 SH2 hp hz hsm hpl hlc O1 O2 O10 BA;go_upto_region 13 with fail
   have KB : Hid (∀ w',Below w21.heap.size w21 w' → w'.cell? ⟨bs,2,none⟩ = some (.slice sa2 r1 sc2) ∧ w'.cell? ⟨w.heap.size,1,none⟩ = some (.int .i64 (nx : Int))) := fun w' h => ⟨cnow h s2,cnow h x1⟩
   refine zFA (fun w' => w'.cell? ⟨bs,2,none⟩ = some (.slice sa2 r1 sc2) ∧ w'.cell? ⟨w.heap.size,1,none⟩ = some (.int .i64 (nx : Int))) 8 (by kernel_rfl) ?_;obtain ⟨D401,hD⟩ : ∃ D401,w21.drew = D401 := ⟨_,rfl⟩
   have GB : Hid (Below w21.heap.size w21 D401) := by unfold Hid;rw [← hD];exact (Below.refl _ _).drew
   rw [hD];clear hD;refine zHA [(0,(.slice (some ⟨a9,0,none⟩) (t + 1) cap9)),(1,(.pointer (some ⟨bs,2,none⟩))),(2,(.slice sa2 r1 sc2)),(3,(.int .i64 (r1 : Int))),(4,(.slice (some ⟨a9,0,none⟩) r1 cap9)),(5,(.pointer (some ⟨w.heap.size,1,none⟩))),(6,(.int .i64 (nx : Int)))] 7 ?_ (KB.out _ GB.out) ?_
   ·simp only [zSA,gA9,g09,g19,Act.put,sI9,s09,s19]
    (repeat' (first | exact trivial | refine And.intro (Or.inl ⟨by rfl,?_⟩) ?_)) <;> (intro w hSw;(try dsimp only at hSw);go_simp)
   simp only [actV,gA9,g09,g19,Act.put,sI9,s09,s19];refine zAA (i := 7) (o := ⟨some 66,.call { callee := .value (.func 16),args := #[.tmp 63,.tmp 65],argTypes := #[45,3] },24, "hnf.go:86",#[⟨4,.data⟩,⟨6,.data⟩],none⟩) (by kernel_rfl) rfl (fun K hK => ?_);go_simp;go_at_call 16;refine (HMA.out _ GB.out).mono ?_;rintro e w402 ⟨v4,rfl,q3,b⟩;have lz402 := (show Below _ _ _ from b).size;replace GB := hid (below_step GB.out b);have q5 : Mc w402 v4 r1 nx (zG18 r1 nx X2) kt := q3.fit18 (l := kt) (fun z hz => by
    have hz' := hz;unfold zG18 at hz';simp only [List.mem_map,List.mem_range] at hz';obtain ⟨t0,ht,rfl⟩ := hz';have hn0 : 0 < nx := Nat.pos_of_ne_zero fun e => by subst e;simp at ht
    have hrm' := HRM1.out;have := HHB.out.size HTB.out (Nat.le_refl _) (t0 / nx) (t0 % nx) (by have := Nat.div_lt_of_lt_mul (show t0 < nx * r1 by rw [Nat.mul_comm];exact ht);omega) (Nat.mod_lt _ hn0);have := HKT.out;omega)
   obtain ⟨a4,c4,rfl,-,-⟩ := q3.mx.form;obtain ⟨l4,hl4⟩ : ∃ l4,r1 * nx = l4 := ⟨_,rfl⟩
   rw [hl4] at q5 ⊢;have Q5 := hid q5;have PR := hid (DR3.out.step GB.out);have B4 := hid (below_step B3.out GB.out);clear q3 q5 hl4;clear b;refine hK.out _ _ (fun _ => KB.out _ GB.out) ?_;clear hK;refine zAA (i := 8) (o := ⟨none,.store 24 (.tmp 4) (.tmp 66),0, "hnf.go:86",#[⟨7,.data⟩,⟨7,.chain⟩,⟨0,.phase⟩,⟨1,.phase⟩,⟨2,.phase⟩,⟨3,.phase⟩,⟨4,.phase⟩,⟨5,.phase⟩,⟨6,.phase⟩,⟨7,.phase⟩],none⟩) (by kernel_rfl) rfl (fun K hK => ?_);have r0 := PR.out.at (i := 0) rfl;have r1_ := PR.out.at (i := 1) rfl;have r2 := PR.out.at (i := 2) rfl;have f0 := PR.out.fz 0;have f1 := PR.out.fz 1;have f2 := PR.out.fz 2;go_simp;clear r0 r1_ r2 f0 f1 f2;obtain ⟨V403,hW⟩ : ∃ V403,(((w402.setCell ⟨w.heap.size + 1,0,none⟩ (.int .i64 (r1 : Int))).setCell ⟨w.heap.size + 1,1,none⟩ (.int .i64 (nx : Int))).setCell ⟨w.heap.size + 1,2,none⟩ (.slice a4 l4 c4)) = V403 := ⟨_,rfl⟩
   have PF : Hid (Cel V403 (w.heap.size + 1) 24 [(.int .i64 (r1 : Int)),(.int .i64 (nx : Int)),(.slice a4 l4 c4)]) := by unfold Hid;rw [← hW];exact PR.out.put3 _ _ _
   have FIN : Hid (zVH w (t + 1) nx (zAB t (en18 nx hs) vs) kt (.returned (.tuple #[.agg #[(.int .i64 (r1 : Int)),(.int .i64 (nx : Int)),(.slice a4 l4 c4)],.int .i64 0])) V403) := by
    unfold Hid;rw [← hW];exact ⟨_,r1,γ1,X2,rfl,Q5.out.wk PR.out _ _ _,HHB.out,zTA B4.out (Nat.le_succ _) _ _ _⟩
   rw [hW];clear hW;refine hK.out _ _ (fun h => absurd h (by decide)) ?_;clear hK
   try simp only [Act.put]
   refine zAA (i := 9) (o := ⟨some 5,.assign (.const (.int .i64 0)),27, "hnf.go:86",#[⟨8,.chain⟩,⟨0,.phase⟩,⟨1,.phase⟩,⟨2,.phase⟩,⟨3,.phase⟩,⟨4,.phase⟩,⟨5,.phase⟩,⟨6,.phase⟩,⟨7,.phase⟩,⟨8,.phase⟩],none⟩) (by kernel_rfl) rfl (fun K hK => ?_);go_simp;refine hK.out _ _ (fun h => absurd h (by decide)) ?_;clear hK
   try simp only [Act.put]
   refine zDA (by kernel_rfl) ?_ _;clear KB GB PR B4 Q5 HMA B3 DR3 HHB;go_wp2;exact bodyPost_ret (zMF Tryz.results7 PF.out _ (by rfl) (by rfl)) rfl FIN.out
  ·have hlt2 : t < r := Classical.not_not.1 hlt
   clear hlt;have hlt' : (t : Int) < (r : Int) := by omega
   have hwt := zVA (i := t) (by have := HRN.out;omega);have HMM : Hid (r - (t + 1) < gk) := by unfold Hid;rw [HG.out];omega
   clear HG HN;obtain ⟨gp,cp,ep,p0⟩ := O9.out.atI18 (t := t) (by rw [zlE];exact hlt2);rw [zlE] at ep;simp only [Value.slice.injEq,true_and] at ep;obtain ⟨rfl,rfl⟩ := ep;rw [pv_at18 hlt2] at p0;have s2 := O3.out.at (i := 2) rfl;obtain ⟨V,hV⟩ : ∃ V,wr.alloc (.cells #[.int .i64 (t : Int),.int .i64 (γ t : Int)] 65) = V := ⟨_,rfl⟩
   obtain ⟨bv,szv⟩ := alo1 wr (.cells #[.int .i64 (t : Int),.int .i64 (γ t : Int)] 65);rw [hV] at bv szv;have dV : Cel V wr.heap.size 65 [.int .i64 (t : Int),.int .i64 (γ t : Int)] := by rw [← hV];exact Cel.new wr _ _
   have q0 := dV.at (i := 0) rfl;have q1 := dV.at (i := 1) rfl;have Q0 := hid q0;have Q1 := hid q1;replace O1 := hid (O1.out.step bv);replace O2 := hid (O2.out.step bv);replace O3 := hid (O3.out.step bv);replace O4 := hid (O4.out.step bv);replace O5 := hid (O5.out.step bv);replace O6 := hid (O6.out.step bv);replace O7 := hid (zvB O7.out fun b _ hb => bv.block b hb);replace O8 := hid (O8.out.now bv);replace O9 := hid (O9.out.now bv);replace O10 := hid (below_step O10.out bv);have HBV : Hid (B ≤ V.heap.size) := hid (by have := O3.out.blk;have := HBS.out;omega);have EV := hid hV;clear hV bv szv dV q0 q1;go_wp2_with (at_builtin;rw [EV.out];refine wpList_append_st18 V rfl (.tmp 47) (.tmp 51) rfl B t (.slice ss t sc) γ rfl O7.out wr.heap.size rfl Q0.out Q1.out (by have := HRN.out;omega) HBV.out ?_)
   intro g' cap' w3 OWN TY BB;have Y3 := O3.out.ty13 TY.out (by decide);have y2 := Y3.at (i := 2) rfl;have f2 := Y3.fz 2;have ty2 : Ty 63 w3 (w3.setCell ⟨bs,2,none⟩ (.slice (some ⟨g',0,none⟩) (t + 1) cap')) := Ty.set Y3;have FIN : Hid (zSI w B w.heap.size (w.heap.size + 1) bs w9.heap.size w10.heap.size V5.heap.size m nx r kw (.slice aa la ca) (.slice (some ⟨a9,0,none⟩) (r + 1) cap9) (.slice (some ⟨gp,0,none⟩) r cc) γ (fun t => if t = r then gx else gs t) (zAB r (en18 nx hs) vs) (r - (t + 1)) (.int .i64 ((t + 1 : Nat) : Int)) (w3.setCell ⟨bs,2,none⟩ (.slice (some ⟨g',0,none⟩) (t + 1) cap'))) :=
    ⟨t + 1,_,rfl,by omega,rfl,fun q => by omega,(O1.out.ty13 TY.out (by decide)).ty13 ty2 (by decide),(O2.out.ty13 TY.out (by decide)).ty13 ty2 (by decide),Y3.set 2 _,(O4.out.ty13 TY.out (by decide)).ty13 ty2 (by decide),(O5.out.ty13 TY.out (by decide)).ty13 ty2 (by decide),(O6.out.ty13 TY.out (by decide)).ty13 ty2 (by decide),
     zFG OWN.out ty2 (by decide),(O8.out.ty TY.out (by decide) (by decide) (by decide)).ty ty2 (by decide) (by decide) (by decide),(O9.out.tyI18 TY.out (by decide)).tyI18 ty2 (by decide),bset (O10.out.trans (BB.out.mono (by have := HBW.out;omega))) (by have := HBS.out;have := HBW.out;omega)⟩
   clear OWN TY BB ty2 Y3 O1 O2 O3 O4 O5 O6 O7 O8 O9 O10 EV s2 p0 Q0 Q1;go_wp2_with fail;go_roundg (r - (t + 1))
   case rel => exact FIN.out
   case measure => exact HMM.out
end Go.Proofs.YtmnecbniappnaaaGreat
