/-
 QWj18ToR5Cmp: Wj18, R5Cmp, joined.
-/
import Derived.Test.YtmnecbniappnaaaGreatQBf18ToIi18
import Derived.Test.YtmnecbniappnaaaGreatQFo18
import Derived.Test.YtmnecbniappnaaaGreatQVm12ToLx18
import Derived.Test.YtmnecbniappnaaaGreatQTailLToTo18
import Derived.Test.YtmnecbniappnaaaGreatQR5OnesToRSub

set_option maxRecDepth 100000
set_option maxHeartbeats 6400000
set_option linter.unusedVariables false
set_option linter.unusedSimpArgs false
namespace Go.Proofs.YtmnecbniappnaaaGreat
open Go.RowKit
theorem zFI {n : Int} (h0 : 0 < n) (h1 : n ≤ 18446744073709551615) (w : World) : Calls Tryz.prog 12 #[.int .u64 n] w (zkA w n 1) := by
 obtain ⟨WX,hWX⟩ : ∃ WX,(w.alloc (duo (.bool false) (.slice (some ⟨w.heap.size + 1,0,none⟩) 1 1))).alloc (.cells #[.int .u64 n] 42) = WX := ⟨_,rfl⟩
 obtain ⟨b0,sz0⟩ := zYA w (duo (.bool false) (.slice (some ⟨w.heap.size + 1,0,none⟩) 1 1)) (.cells #[.int .u64 n] 42);rw [hWX] at b0 sz0;have dX : Duo WX w.heap.size (.bool false) (.slice (some ⟨w.heap.size + 1,0,none⟩) 1 1) := by rw [← hWX];exact zBA (zEA rfl) _
 have rX : Row WX (w.heap.size + 1) [.int .u64 n] := by
  have := heap_alloc_new (w.alloc (duo (.bool false) (.slice (some ⟨w.heap.size + 1,0,none⟩) 1 1))) (.cells #[.int .u64 n] 42);rw [hWX] at this
  simpa [Row] using this
 have wX : WF [n] := by
  have := zgE w n ⟨Int.le_of_lt h0,h1⟩;exact this.1
 have eV : iv false [n] = n := by simp [iv,val]
 have FIN : Hid (Zm w.heap.size WX (.agg #[.bool false,.slice (some ⟨w.heap.size + 1,0,none⟩) 1 1]) n 1) :=
  ⟨false,[n],_,_,rfl,⟨wX,.inr ⟨w.heap.size + 1,[],1,by omega,by simp,by simp,.inl rfl,rfl,by simpa [ws] using rX⟩⟩,⟨wX,by simp [wid];omega⟩,fun e => by simp at e,eV,by simp⟩
 have EW := hid hWX;have DX := hid dX;have BX := hid b0;clear rX wX dX eV b0 hWX;go_enter Tryz.func12,Tryz.ntmps12;go_wp2;rw [EW.out];exact bodyPost_ret (zNB Tryz.results12 DX.out _ (by rfl)) rfl ⟨_,rfl,FIN.out,BX.out⟩
theorem col_form18 : Hb18 2 1 2 1 id (fun _ => 0) (en18 1 [2,0]) (en18 1 [4,6]) := by
 have x0 : en18 1 [2,0] 0 0 = 2 := rfl;have x1 : en18 1 [2,0] 1 0 = 0 := rfl;have a0 : en18 1 [4,6] 0 0 = 4 := rfl;have a1 : en18 1 [4,6] 1 0 = 6 := rfl;have c1 : ∀ i : Nat,i < 1 → i = 0 := fun i hi => by omega
 have c2 : ∀ i : Nat,i < 2 → i = 0 ∨ i = 1 := fun i hi => by omega
 refine ⟨⟨fun a b h1 h2 => by omega,fun a ha => by show 0 < 1;decide,fun a ha => by simp only [id];omega,fun a b h1 h2 _ => by omega,fun a j ha hj => absurd hj (Nat.not_lt_zero _),fun a ha => ?_,fun t ht hn j hj => ?_⟩,fun a b h1 h2 h3 => by omega,fun v => ⟨fun k => k.trans fun t ht => ?_,fun k => k.trans fun t ht => ?_⟩,fun t ht => ?_⟩
 ·obtain rfl := c1 a ha
  show 0 < en18 1 [2,0] 0 0;rw [x0];decide
 ·obtain rfl := c1 j hj
  rcases c2 t ht with rfl | rfl
  ·exact absurd rfl (hn 0 (by omega))
  ·exact x1
 ·have r0 := Cm19.row (n := 1) (en18 1 [4,6]) (show 0 < 2 by omega)
  have r1 := Cm19.row (n := 1) (en18 1 [4,6]) (show 1 < 2 by omega);rcases c2 t ht with rfl | rfl
  ·exact ((r0.mul (-1)).add r1).congr fun j hj => by obtain rfl := c1 j hj;simp [x0,a0,a1]
  ·exact (r0.mul 0).congr fun j hj => by obtain rfl := c1 j hj;simp [x1,a0]
 ·have r0 := Cm19.row (n := 1) (en18 1 [2,0]) (show 0 < 2 by omega)
  rcases c2 t ht with rfl | rfl
  ·exact (r0.mul 2).congr fun j hj => by obtain rfl := c1 j hj;simp [x0,a0]
  ·exact (r0.mul 3).congr fun j hj => by obtain rfl := c1 j hj;simp [x0,a1]
 ·funext c
  unfold en18;rw [List.getD_eq_getElem?_getD,List.getD_eq_getElem?_getD,List.getElem?_eq_none (by simp;omega),List.getElem?_eq_none (by simp;omega)]
theorem zHG {V : World} {g : Nat} {n0 n1 : Bool} {a0 a1 : Option Addr} {l0 l1 q0 q1 : Nat} {z0 z1 : Int} {k : Nat} (d : Cel V g 40 [.bool n0,.slice a0 l0 q0,.bool n1,.slice a1 l1 q1])
  (h0 : Zc V (.agg #[.bool n0,.slice a0 l0 q0]) z0 k) (h1 : Zc V (.agg #[.bool n1,.slice a1 l1 q1]) z1 k) : Mc V (.agg #[.int .i64 2,.int .i64 1,.slice (some ⟨g,0,none⟩) 2 2]) 2 1 [z0,z1] k := by
 have AZ : Arr V g [(.bool n0,.slice a0 l0 q0),(.bool n1,.slice a1 l1 q1)] := ⟨d,fun q hq => by simp at hq;rcases hq with rfl | rfl <;> exact ⟨_,_,_,_,rfl⟩⟩
 refine ⟨_,_,rfl,AZ.prs (B := 0) (Nat.zero_le _) (by simp) (cap := 2) (by simp),⟨rfl,fun t q z hq hz => ?_⟩,rfl,by omega,by omega⟩
 match t,hq,hz with
 | 0,hq,hz => simp at hq hz;subst hq;subst hz;exact h0
 | 1,hq,hz => simp at hq hz;subst hq;subst hz;exact h1
theorem zvF (w : World) : Calls Tryz.prog 4 #[] w fun e w' => e = .returned (.bool true) ∧ Below w.heap.size w w' := by
 go_enter Tryz.func4,Tryz.ntmps4;go_wp2_with fail;refine (zFI (n := 4) (by decide) (by decide) _).mono ?_;rintro e w1 ⟨r4,rfl,m4,b1⟩;have Z4 := hid (m4.zi);have C4 := hid m4.zc;obtain ⟨n4,y4,a4,c4,rfl⟩ := m4.parts;have B1 := hid b1;clear m4 b1;go_wp2_with fail;refine (zFI (n := 6) (by decide) (by decide) _).mono ?_;rintro e w2 ⟨r6,rfl,m6,b2⟩;replace C4 := hid (C4.out.now b2);have C6 := hid m6.zc;obtain ⟨n6,y6,a6,c6,rfl⟩ := m6.parts;obtain ⟨V0,hV0⟩ : ∃ V,w2.alloc (.cells #[.bool n4,.slice a4 y4.length c4,.bool n6,.slice a6 y6.length c6] 40) = V := ⟨_,rfl⟩
 obtain ⟨bv0,szv0⟩ := alo1 w2 (.cells #[.bool n4,.slice a4 y4.length c4,.bool n6,.slice a6 y6.length c6] 40);rw [hV0] at bv0 szv0;have d0 : Cel V0 w2.heap.size 40 [.bool n4,.slice a4 y4.length c4,.bool n6,.slice a6 y6.length c6] := by rw [← hV0];exact Cel.new w2 _ _
 have hm := (zHG d0 (C4.out.now bv0) (C6.out.now bv0)).mx;replace B1 := hid (below_step (below_step B1.out b2) bv0);obtain ⟨T,hTb,hTk⟩ := zjF (m := 2) (n := 1) (zs := [4,6]) (k := 1) (by omega) rfl (by intro z hz;simp at hz;rcases hz with rfl | rfl <;> decide) (by omega);have HFM := hid (zvH (kw := 128 * (129 + 1) + 129) (kt := 129) hm hTb (by omega) (zED hTk 128) (by omega) (by omega) hTk);have E0 := hid hV0;clear hm hTb hTk Z4 C4 C6 m6 b2 bv0 szv0 d0 hV0;go_wp2_with fail;rw [E0.out];refine HFM.out.mono ?_;rintro e w3 ⟨v,r,γ,X,rfl,hq,hb,b3⟩;have ez : zG18 2 1 X = [2,0] := hb.same col_form18 (fun v => Iff.rfl);rw [ez] at hq;obtain ⟨a2,c2,rfl,-,-⟩ := hq.mx.form;dsimp only [matv] at hq ⊢;obtain ⟨V,hV⟩ : ∃ V,w3.alloc (.cells #[.int .i64 (2 : Nat),.int .i64 (1 : Nat),.slice a2 (2 * 1) c2] 24) = V := ⟨_,rfl⟩
 obtain ⟨bv,szv⟩ := alo1 w3 (.cells #[.int .i64 (2 : Nat),.int .i64 (1 : Nat),.slice a2 (2 * 1) c2] 24);rw [hV] at bv szv;have dV : Cel V w3.heap.size 24 [.int .i64 (2 : Nat),.int .i64 (1 : Nat),.slice a2 (2 * 1) c2] := by rw [← hV];exact Cel.new w3 _ _
 have HQ := hid (hq.now bv);have BV := hid (below_step B1.out (below_step b3 bv));have x0 : V.cell? ⟨w3.heap.size,0,none⟩ = some (.int .i64 2) := dV.at (i := 0) rfl;have x1 : V.cell? ⟨w3.heap.size,1,none⟩ = some (.int .i64 1) := dV.at (i := 1) rfl;have x2 : V.cell? ⟨w3.heap.size,2,none⟩ = some (.slice a2 2 c2) := dV.at (i := 2) rfl;have EV := hid hV;obtain ⟨bk,hbk⟩ : ∃ bk,w3.heap.size = bk := ⟨_,rfl⟩
 rw [hbk] at x0 x1 x2;have EBK := hid hbk;clear HFM hq hb b3 bv szv hV dV ez B1 hbk E0;go_wp2_with fail;rw [show w3.alloc (.cells #[.int .i64 2,.int .i64 1,.slice a2 2 c2] 24) = V from EV.out,EBK.out];have KB : Hid (∀ w',Below V.heap.size V w' → w'.cell? ⟨bk,0,none⟩ = some (.int .i64 2) ∧ w'.cell? ⟨bk,1,none⟩ = some (.int .i64 1) ∧ w'.cell? ⟨bk,2,none⟩ = some (.slice a2 2 c2)) := fun w' h => ⟨cnow h x0,cnow h x1,cnow h x2⟩
 refine zFA (fun w' => w'.cell? ⟨bk,0,none⟩ = some (.int .i64 2) ∧ w'.cell? ⟨bk,1,none⟩ = some (.int .i64 1) ∧ w'.cell? ⟨bk,2,none⟩ = some (.slice a2 2 c2)) 10 (by kernel_rfl) ?_;obtain ⟨D1,hD⟩ : ∃ D1,V.drew = D1 := ⟨_,rfl⟩
 have GB : Hid (Below V.heap.size V D1) := by unfold Hid;rw [← hD];exact (Below.refl _ _).drew
 rw [hD];clear hD;refine zHA [(0,(.int .i64 0)),(1,(.bool true)),(2,(.bool true)),(3,(.agg #[.int .i64 2,.int .i64 1,.slice a2 2 c2])),(5,(.agg #[.bool false,.slice none 0 0]))] 5 ?_ (KB.out _ GB.out) ?_
 ·simp only [zSA,gA9,g09,g19,Act.put,sI9,s09,s19]
  (repeat' (first | exact trivial | refine And.intro (Or.inl ⟨by rfl,?_⟩) ?_)) <;> (intro w hSw;(try dsimp only at hSw);go_simp)
 simp only [actV,gA9,g09,g19,Act.put,sI9,s09,s19];refine zAA (i := 4) (o := ⟨some 15,.call { callee := .value (.func 12),args := #[.const (.int .u64 2)],argTypes := #[42] },40, "law.go:147",#[⟨2,.chain⟩,⟨2,.guard⟩],some (2,true)⟩) (by kernel_rfl) rfl (fun K hK => ?_);go_simp;go_at_call 12;refine (zFI (n := 2) (by decide) (by decide) _).mono ?_;rintro e w2 ⟨r9,rfl,m9,b⟩;have lz2 := (show Below _ _ _ from b).size;replace GB := hid (below_step GB.out b);have Z2 := hid m9.zc;obtain ⟨n9,y9,a9,c9,rfl⟩ := m9.parts;clear m9;clear b;refine hK.out _ _ (fun _ => KB.out _ GB.out) ?_;clear hK;refine zAA (i := 6) (o := ⟨some 17,.buildSlice 22 2 #[(0,.tmp 15),(1,.tmp 16)],22, "law.go:147",#[⟨4,.data⟩,⟨5,.data⟩,⟨2,.guard⟩],some (2,true)⟩) (by kernel_rfl) rfl (fun K hK => ?_);go_simp;obtain ⟨V3,hW⟩ : ∃ V,w2.alloc (.cells #[.bool n9,.slice a9 y9.length c9,.bool false,.slice none 0 0] 40) = V := ⟨_,rfl⟩
 obtain ⟨b,sz3⟩ := alo1 w2 (.cells #[.bool n9,.slice a9 y9.length c9,.bool false,.slice none 0 0] 40);rw [hW] at b sz3;replace GB := hid (below_step GB.out b);have dL : Cel V3 w2.heap.size 40 [.bool n9,.slice a9 y9.length c9,.bool false,.slice none 0 0] := by rw [← hW];exact Cel.new w2 _ _
 have ML := hid (zHG dL (Z2.out.now b) (zCF V3 1).zc);rw [hW];clear hW b dL Z2 sz3;refine hK.out _ _ (fun _ => KB.out _ GB.out) ?_;clear hK
 try simp only [Act.put]
 refine zHA [(7,(.agg #[.int .i64 2,.int .i64 1,.slice (some ⟨w2.heap.size,0,none⟩) 2 2]))] 1 ?_ (KB.out _ GB.out) ?_
 ·simp only [zSA,gA9,g09,g19,Act.put,sI9,s09,s19]
  (repeat' (first | exact trivial | refine And.intro (Or.inl ⟨by rfl,?_⟩) ?_)) <;> (intro w hSw;(try dsimp only at hSw);go_simp)
 simp only [actV,gA9,g09,g19,Act.put,sI9,s09,s19];refine zAA (i := 8) (o := ⟨some 19,.call { callee := .value (.func 8),args := #[.tmp 14,.tmp 18],argTypes := #[24,24] },4, "law.go:147",#[⟨3,.data⟩,⟨7,.data⟩,⟨4,.chain⟩,⟨2,.guard⟩],some (2,true)⟩) (by kernel_rfl) rfl (fun K hK => ?_);go_simp;go_at_call 8;refine (zlA (HQ.out.now GB.out) ML.out rfl).mono ?_;rintro e w4 ⟨rfl,b⟩;have lz4 := (show Below _ _ _ from b).size;replace GB := hid (below_step GB.out b);have FF := hid (below_step BV.out GB.out);clear b;refine hK.out _ _ (fun _ => KB.out _ GB.out) ?_;clear hK;refine zHA [(9,(.bool true))] 1 ?_ (KB.out _ GB.out) ?_
 ·simp only [zSA,gA9,g09,g19,Act.put,sI9,s09,s19]
  (repeat' (first | exact trivial | refine And.intro (Or.inl ⟨by rfl,?_⟩) ?_)) <;> (intro w hSw;(try dsimp only at hSw);go_simp)
 simp only [actV,gA9,g09,g19,Act.put,sI9,s09,s19];refine zAA (i := 10) (o := ⟨some 0,.assign (.tmp 20),4, "law.go:147",#[⟨9,.data⟩,⟨8,.chain⟩,⟨0,.phase⟩,⟨1,.phase⟩,⟨2,.phase⟩,⟨3,.phase⟩,⟨4,.phase⟩,⟨5,.phase⟩,⟨6,.phase⟩,⟨7,.phase⟩,⟨8,.phase⟩,⟨9,.phase⟩],none⟩) (by kernel_rfl) rfl (fun K hK => ?_);go_simp;refine hK.out _ _ (fun h => absurd h (by decide)) ?_;clear hK
 try simp only [Act.put]
 refine zDA (by kernel_rfl) ?_ _;clear GB KB HQ ML BV x0 x1 x2;go_wp2;go_ret;exact ⟨rfl,FF.out⟩
theorem zPC {w : World} {va : Value} {A : Int} {ka : Nat} (ha : Zi w va A ka) (hk : ka ≤ 1099511627776) :
  Calls Tryz.prog 23 #[va] w (fun e w' => e = .returned (.int .i64 (cmpI A 0)) ∧ Below w.heap.size w w') := by
 have za0 := ha;obtain ⟨na,xa,aa,ca,rfl,sa,ea,la⟩ := ha;obtain ⟨W0,hW0⟩ : ∃ W0,w.alloc (duo (.bool na) (.slice aa xa.length ca)) = W0 := ⟨_,rfl⟩
 obtain ⟨b0,sz0⟩ := zeE w (duo (.bool na) (.slice aa xa.length ca));rw [hW0] at b0 sz0;have pa : Duo W0 (w.heap.size) (.bool na) (.slice aa xa.length ca) := by rw [← hW0];exact zEA (by simp)
 have Pa := hid pa;have ia0 := pa.c0;have ia1 := pa.c1;have Za := hid (za0.now b0);have Sa := hid (sa.now b0);have EW := hid hW0;have G := hid b0;clear b0 hW0 za0 sa pa ;clear ea;have key : Hid (∀ n (xs : List Int),zLA xs → (xs = [] → n = false) → iv n xs = A → (n = true ∧ cmpI A 0 = -1) ∨ (n = false ∧ (0 : Int) < xs.length ∧ cmpI A 0 = 1) ∨ (n = false ∧ ¬ (0 : Int) < xs.length ∧ cmpI A 0 = 0)) := fun n xs hc hn e => by
  have hv := zIA hc.1;have h0 : xs ≠ [] → val xs ≠ 0 := fun q e => q (zPB hc e)
  cases n
  ·rw [znD] at e
   by_cases q : xs = []
   ·subst q;exact .inr (.inr ⟨rfl,by simp,by rw [← e];simp [val,cmpI]⟩)
   ·have := h0 q
    exact .inr (.inl ⟨rfl,by have := List.length_pos_iff.2 q;omega,ziA (by omega)⟩)
  ·rw [zSE] at e
   by_cases q : xs = []
   ·exact absurd (hn q) (by simp)
   ·have := h0 q
    exact .inl ⟨rfl,zoA (by omega)⟩
 go_enter Tryz.func23,Tryz.ntmps23;go_wp2_with fail;rw [EW.out];clear ia0 ia1;refine (rleast_z Za.out hk).mono ?_;rintro e w1 ⟨r,rfl,m1,b⟩;obtain ⟨n1,x1,a1,q1,rfl,-,t1,t2,t3,-⟩ := m1;have KK := hid (key.out n1 x1 t1 t2 t3);have B1 := hid (below_step (below_step G.out b) (zeE w1 (duo (.bool n1) (.slice a1 x1.length q1))).1);clear b t1 t2 t3 key;rcases KK.out with ⟨rfl,e⟩ | ⟨rfl,hp,e⟩ | ⟨rfl,hp,e⟩
 all_goals
  have HE := hid e;clear e KK;go_wp2;go_ret;exact ⟨by rw [HE.out];rfl,B1.out⟩
theorem rcmpAbs_z {w : World} {va vb : Value} {A B : Int} {ka kb : Nat} (ha : Zi w va A ka) (hb : Zi w vb B kb) (hk : ka ≤ 1099511627776) (hl : kb ≤ 1099511627776) :
  Calls Tryz.prog 48 #[va,vb] w (fun e w' => e = .returned (.int .i64 (cmpI (A.natAbs : Int) (B.natAbs : Int))) ∧ Below w.heap.size w w') := by
 have za0 := ha;obtain ⟨na,xa,aa,ca,rfl,sa,ea,la⟩ := ha;have zb0 := hb;obtain ⟨nb,xb,ab,cb,rfl,sb,eb,lb⟩ := hb;obtain ⟨W0,hW0⟩ : ∃ W0,(w.alloc (duo (.bool na) (.slice aa xa.length ca))).alloc (duo (.bool nb) (.slice ab xb.length cb)) = W0 := ⟨_,rfl⟩
 obtain ⟨b0,sz0⟩ := zYA w (duo (.bool na) (.slice aa xa.length ca)) (duo (.bool nb) (.slice ab xb.length cb));rw [hW0] at b0 sz0;have pa : Duo W0 (w.heap.size) (.bool na) (.slice aa xa.length ca) := by rw [← hW0];exact zBA (zEA (by simp)) _
 have pb : Duo W0 (w.heap.size + 1) (.bool nb) (.slice ab xb.length cb) := by rw [← hW0];exact zEA (by simp)
 have Pa := hid pa;have ia0 := pa.c0;have ia1 := pa.c1;have Za := hid (za0.now b0);have Sa := hid (sa.now b0);have Pb := hid pb;have ib0 := pb.c0;have ib1 := pb.c1;have Zb := hid (zb0.now b0);have Sb := hid (sb.now b0);have EW := hid hW0;have G := hid b0;clear b0 hW0 za0 sa pa zb0 sb pb ;have HC := hid (zEG Sa.out Sb.out (by omega) (by omega));have ga := zkC Sa.out.1 ea;have gb := zkC Sb.out.1 eb;rw [ga,gb] at HC;clear ga gb;clear ea eb;generalize cmpI (A.natAbs : Int) (B.natAbs : Int) = C at *;go_enter Tryz.func48,Tryz.ntmps48;go_wp2_with fail;rw [EW.out];clear ia0 ia1 ib0 ib1;refine HC.out.mono ?_;rintro e w1 ⟨rfl,b⟩;have B1 := hid (below_step G.out b);clear b HC;go_wp2;go_ret;exact ⟨rfl,B1.out⟩
theorem rcmp_z {w : World} {va vb : Value} {A B : Int} {ka kb : Nat} (ha : Zi w va A ka) (hb : Zi w vb B kb) (hk : ka ≤ 1099511627776) (hl : kb ≤ 1099511627776) :
  Calls Tryz.prog 24 #[va,vb] w (fun e w' => e = .returned (.int .i64 (cmpI A B)) ∧ Below w.heap.size w w') := by
 have za0 := ha;obtain ⟨na,xa,aa,ca,rfl,sa,ea,la⟩ := ha;have zb0 := hb;obtain ⟨nb,xb,ab,cb,rfl,sb,eb,lb⟩ := hb;obtain ⟨W0,hW0⟩ : ∃ W0,(w.alloc (duo (.bool na) (.slice aa xa.length ca))).alloc (duo (.bool nb) (.slice ab xb.length cb)) = W0 := ⟨_,rfl⟩
 obtain ⟨b0,sz0⟩ := zYA w (duo (.bool na) (.slice aa xa.length ca)) (duo (.bool nb) (.slice ab xb.length cb));rw [hW0] at b0 sz0;have pa : Duo W0 (w.heap.size) (.bool na) (.slice aa xa.length ca) := by rw [← hW0];exact zBA (zEA (by simp)) _
 have pb : Duo W0 (w.heap.size + 1) (.bool nb) (.slice ab xb.length cb) := by rw [← hW0];exact zEA (by simp)
 have Pa := hid pa;have ia0 := pa.c0;have ia1 := pa.c1;have Za := hid (za0.now b0);have Sa := hid (sa.now b0);have Pb := hid pb;have ib0 := pb.c0;have ib1 := pb.c1;have Zb := hid (zb0.now b0);have Sb := hid (sb.now b0);have EW := hid hW0;have G := hid b0;clear b0 hW0 za0 sa pa zb0 sb pb ;clear ea eb;have H1 : Hid (∀ w',Below W0.heap.size W0 w' → _) := fun w' h => zPC (Za.out.now h) hk
 have H2 : Hid (∀ w',Below W0.heap.size W0 w' → _) := fun w' h => zPC (Zb.out.now h) hl
 have H3 : Hid (∀ w',Below W0.heap.size W0 w' → _) := fun w' h => rcmpAbs_z (Za.out.now h) (Zb.out.now h) hk hl
 have bd := zOA A 0;have bd2 := zOA (A.natAbs : Int) (B.natAbs : Int);have HS : Hid ((cmpI A 0 = cmpI B 0 → cmpI A 0 * cmpI (A.natAbs : Int) (B.natAbs : Int) = cmpI A B) ∧ (cmpI A 0 < cmpI B 0 → cmpI A B = -1) ∧ (cmpI B 0 < cmpI A 0 → cmpI A B = 1)) := by
  unfold Hid cmpI;refine ⟨?_,?_,?_⟩ <;> intro h <;> (repeat' split at h) <;> (repeat' split) <;> omega
 generalize cmpI A 0 = S at *;generalize cmpI B 0 = T at *;generalize cmpI (A.natAbs : Int) (B.natAbs : Int) = U at *;generalize cmpI A B = R at *;go_enter Tryz.func24,Tryz.ntmps24;go_wp2_with fail;rw [EW.out];clear ia0 ia1 ib0 ib1;refine (H1.out W0 (Below.refl _ _)).mono ?_;rintro e w1 ⟨rfl,b⟩;have B1 := hid b;replace Pa := hid (Pa.out.step b);have ia0 := Pa.out.c0;have ia1 := Pa.out.c1;replace Pb := hid (Pb.out.step b);have ib0 := Pb.out.c0;have ib1 := Pb.out.c1;replace G := hid (below_step G.out b);clear b;go_wp2_with fail;clear ia0 ia1 ib0 ib1;refine (H2.out w1 B1.out).mono ?_;rintro e w2 ⟨rfl,b⟩;have B2 := hid (below_step B1.out b);replace Pa := hid (Pa.out.step b);have ia0 := Pa.out.c0;have ia1 := Pa.out.c1;replace Pb := hid (Pb.out.step b);have ib0 := Pb.out.c0;have ib1 := Pb.out.c1;replace G := hid (below_step G.out b);clear b;rcases (show S = T ∨ S < T ∨ T < S by omega) with h | h | h
 ·have hne : (S != T) = false := by simp [h]
  have HR := hid (HS.out.1 h);have hm : IntKind.i64.wrap (S * U) = R := by
   rw [HR.out,zZA] <;> rw [← HR.out]
   all_goals (obtain ⟨q1,q2⟩ := bd;obtain ⟨q3,q4⟩ := bd2;rcases (show S = -1 ∨ S = 0 ∨ S = 1 by omega) with e | e | e <;> rw [e] <;> omega)
  clear h HS;go_wp2_with fail;clear ia0 ia1 ib0 ib1;refine (H3.out w2 B2.out).mono ?_;rintro e w3 ⟨rfl,b⟩;have B3 := hid (below_step G.out b);clear b;go_wp2;go_ret;exact ⟨by first | rfl | rw [hm],B3.out⟩
 ·have hne : (S != T) = true := by simp;omega
  have HR := hid (HS.out.2.1 h);clear HS;go_wp2;go_ret;exact ⟨by rw [HR.out];rfl,G.out⟩
 ·have hne : (S != T) = true := by simp;omega
  have h' : ¬ S < T := by omega
  have HR := hid (HS.out.2.2 h);clear HS;go_wp2;go_ret;exact ⟨by rw [HR.out];rfl,G.out⟩
end Go.Proofs.YtmnecbniappnaaaGreat
