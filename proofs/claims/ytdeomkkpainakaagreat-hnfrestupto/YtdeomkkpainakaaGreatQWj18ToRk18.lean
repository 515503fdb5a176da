/-
 QWj18ToRk18: Wj18, Fp18, Rr18, Lo18, Rk18, joined.
-/
import Derived.Test.YtdeomkkpainakaaGreatQDo11ToVm12
import Derived.Test.YtdeomkkpainakaaGreatQFo18
import Derived.Test.YtdeomkkpainakaaGreatQR5AddToLx18
import Derived.Test.YtdeomkkpainakaaGreatQTailLToTo18
import Derived.Test.YtdeomkkpainakaaGreatQPv18ToDWords
import Derived.Test.YtdeomkkpainakaaGreatQPure9ToLeastA9
import Derived.Test.YtdeomkkpainakaaGreatQTl19ToHs18
import Derived.Test.YtdeomkkpainakaaGreatQEachM11ToPr12

set_option maxRecDepth 100000
set_option maxHeartbeats 6400000
set_option linter.unusedVariables false
set_option linter.unusedSimpArgs false
namespace Go.Proofs.YtdeomkkpainakaaGreat
open Go.RowKit
theorem zFI {n : Int} (h0 : 0 < n) (h1 : n ≤ 18446744073709551615) (w : World) : Calls Tryz.prog 15 #[.int .u64 n] w (zhA w n 1) := by
 obtain ⟨WX,hWX⟩ : ∃ WX,(w.alloc (duo (.bool false) (.slice (some ⟨w.heap.size + 1,0,none⟩) 1 1))).alloc (.cells #[.int .u64 n] 48) = WX := ⟨_,rfl⟩
 obtain ⟨b0,sz0⟩ := zaA w (duo (.bool false) (.slice (some ⟨w.heap.size + 1,0,none⟩) 1 1)) (.cells #[.int .u64 n] 48);rw [hWX] at b0 sz0;have dX : Duo WX w.heap.size (.bool false) (.slice (some ⟨w.heap.size + 1,0,none⟩) 1 1) := by rw [← hWX];exact zBA (zFA rfl) _
 have rX : Row WX (w.heap.size + 1) [.int .u64 n] := by
  have := heap_alloc_new (w.alloc (duo (.bool false) (.slice (some ⟨w.heap.size + 1,0,none⟩) 1 1))) (.cells #[.int .u64 n] 48);rw [hWX] at this
  simpa [Row] using this
 have wX : WF [n] := by
  have := ziE w n ⟨Int.le_of_lt h0,h1⟩;exact this.1
 have eV : iv false [n] = n := by simp [iv,val]
 have FIN : Hid (Zm w.heap.size WX (.agg #[.bool false,.slice (some ⟨w.heap.size + 1,0,none⟩) 1 1]) n 1) :=
  ⟨false,[n],_,_,rfl,⟨wX,.inr ⟨w.heap.size + 1,[],1,by omega,by simp,by simp,.inl rfl,rfl,by simpa [ws] using rX⟩⟩,⟨wX,by simp [wid];omega⟩,fun e => by simp at e,eV,by simp⟩
 have EW := hid hWX;have DX := hid dX;have BX := hid b0;clear rX wX dX eV b0 hWX;go_enter Tryz.func15,Tryz.ntmps15;go_wp2;rw [EW.out];exact bodyPost_ret (zLB Tryz.results15 DX.out _ (by rfl)) rfl ⟨_,rfl,FIN.out,BX.out⟩
theorem col_form18 : Hb18 2 1 2 1 id (fun _ => 0) (en18 1 [2,0]) (en18 1 [4,6]) := by
 have x0 : en18 1 [2,0] 0 0 = 2 := rfl;have x1 : en18 1 [2,0] 1 0 = 0 := rfl;have a0 : en18 1 [4,6] 0 0 = 4 := rfl;have a1 : en18 1 [4,6] 1 0 = 6 := rfl;have c1 : ∀ i : Nat,i < 1 → i = 0 := fun i hi => by omega
 have c2 : ∀ i : Nat,i < 2 → i = 0 ∨ i = 1 := fun i hi => by omega
 refine ⟨⟨fun a b h1 h2 => by omega,fun a ha => by show 0 < 1;decide,fun a ha => by simp only [id];omega,fun a b h1 h2 _ => by omega,fun a j ha hj => absurd hj (Nat.not_lt_zero _),fun a ha => ?_,fun t ht hn j hj => ?_⟩,fun a b h1 h2 h3 => by omega,fun v => ⟨fun k => k.trans fun t ht => ?_,fun k => k.trans fun t ht => ?_⟩,fun t ht => ?_⟩
 ·obtain rfl := c1 a ha
  show 0 < en18 1 [2,0] 0 0;rw [x0];decide
 ·obtain rfl := c1 j hj
  rcases c2 t ht with rfl | rfl
  ·exact absurd rfl (hn 0 (by omega))
  ·exact x1
 ·have r0 := Cm19.row (n := 1) (en18 1 [4,6]) (show 0 < 2 by omega)
  have r1 := Cm19.row (n := 1) (en18 1 [4,6]) (show 1 < 2 by omega);rcases c2 t ht with rfl | rfl
  ·exact ((r0.mul (-1)).add r1).congr fun j hj => by obtain rfl := c1 j hj;simp [x0,a0,a1]
  ·exact (r0.mul 0).congr fun j hj => by obtain rfl := c1 j hj;simp [x1,a0]
 ·have r0 := Cm19.row (n := 1) (en18 1 [2,0]) (show 0 < 2 by omega)
  rcases c2 t ht with rfl | rfl
  ·exact (r0.mul 2).congr fun j hj => by obtain rfl := c1 j hj;simp [x0,a0]
  ·exact (r0.mul 3).congr fun j hj => by obtain rfl := c1 j hj;simp [x0,a1]
 ·funext c
  unfold en18;rw [List.getD_eq_getElem?_getD,List.getD_eq_getElem?_getD,List.getElem?_eq_none (by simp;omega),List.getElem?_eq_none (by simp;omega)]
theorem zKG {V : World} {g : Nat} {n0 n1 : Bool} {a0 a1 : Option Addr} {l0 l1 q0 q1 : Nat} {z0 z1 : Int} {k : Nat} (d : Cel V g 40 [.bool n0,.slice a0 l0 q0,.bool n1,.slice a1 l1 q1])
  (h0 : Zc V (.agg #[.bool n0,.slice a0 l0 q0]) z0 k) (h1 : Zc V (.agg #[.bool n1,.slice a1 l1 q1]) z1 k) : Mc V (.agg #[.int .i64 2,.int .i64 1,.slice (some ⟨g,0,none⟩) 2 2]) 2 1 [z0,z1] k := by
 have AZ : Arr V g [(.bool n0,.slice a0 l0 q0),(.bool n1,.slice a1 l1 q1)] := ⟨d,fun q hq => by simp at hq;rcases hq with rfl | rfl <;> exact ⟨_,_,_,_,rfl⟩⟩
 refine ⟨_,_,rfl,AZ.prs (B := 0) (Nat.zero_le _) (by simp) (cap := 2) (by simp),⟨rfl,fun t q z hq hz => ?_⟩,rfl,by omega,by omega⟩
 match t,hq,hz with
 | 0,hq,hz => simp at hq hz;subst hq;subst hz;exact h0
 | 1,hq,hz => simp at hq hz;subst hq;subst hz;exact h1
theorem zzF (w : World) : Calls Tryz.prog 4 #[] w fun e w' => e = .returned (.bool true) ∧ Below w.heap.size w w' := by
 go_enter Tryz.func4,Tryz.ntmps4;go_wp2_with fail;refine (zFI (n := 4) (by decide) (by decide) _).mono ?_;rintro e w1 ⟨r4,rfl,m4,b1⟩;have Z4 := hid (m4.zi);have C4 := hid m4.zc;obtain ⟨n4,y4,a4,c4,rfl⟩ := m4.parts;have B1 := hid b1;clear m4 b1;go_wp2_with fail;refine (zFI (n := 6) (by decide) (by decide) _).mono ?_;rintro e w2 ⟨r6,rfl,m6,b2⟩;replace C4 := hid (C4.out.now b2);have C6 := hid m6.zc;obtain ⟨n6,y6,a6,c6,rfl⟩ := m6.parts;obtain ⟨V0,hV0⟩ : ∃ V,w2.alloc (.cells #[.bool n4,.slice a4 y4.length c4,.bool n6,.slice a6 y6.length c6] 40) = V := ⟨_,rfl⟩
 obtain ⟨bv0,szv0⟩ := alo1 w2 (.cells #[.bool n4,.slice a4 y4.length c4,.bool n6,.slice a6 y6.length c6] 40);rw [hV0] at bv0 szv0;have d0 : Cel V0 w2.heap.size 40 [.bool n4,.slice a4 y4.length c4,.bool n6,.slice a6 y6.length c6] := by rw [← hV0];exact Cel.new w2 _ _
 have hm := (zKG d0 (C4.out.now bv0) (C6.out.now bv0)).mx;replace B1 := hid (below_step (below_step B1.out b2) bv0);obtain ⟨T,hTb,hTk⟩ := zgG (m := 2) (n := 1) (zs := [4,6]) (k := 1) (by omega) rfl (by intro z hz;simp at hz;rcases hz with rfl | rfl <;> decide) (by omega);have HFM := hid (zuH (kw := 128 * (129 + 1) + 129) (kt := 129) hm hTb (by omega) (zuF hTk 128) (by omega) (by omega) hTk);have E0 := hid hV0;clear hm hTb hTk Z4 C4 C6 m6 b2 bv0 szv0 d0 hV0;go_wp2_with fail;rw [E0.out];refine HFM.out.mono ?_;rintro e w3 ⟨v,r,γ,X,rfl,hq,hb,b3⟩;have ez : zG18 2 1 X = [2,0] := hb.same col_form18 (fun v => Iff.rfl);rw [ez] at hq;obtain ⟨a2,c2,rfl,-,-⟩ := hq.mx.form;dsimp only [matv] at hq ⊢;obtain ⟨V,hV⟩ : ∃ V,w3.alloc (.cells #[.int .i64 (2 : Nat),.int .i64 (1 : Nat),.slice a2 (2 * 1) c2] 24) = V := ⟨_,rfl⟩
 obtain ⟨bv,szv⟩ := alo1 w3 (.cells #[.int .i64 (2 : Nat),.int .i64 (1 : Nat),.slice a2 (2 * 1) c2] 24);rw [hV] at bv szv;have dV : Cel V w3.heap.size 24 [.int .i64 (2 : Nat),.int .i64 (1 : Nat),.slice a2 (2 * 1) c2] := by rw [← hV];exact Cel.new w3 _ _
 have HQ := hid (hq.now bv);have BV := hid (below_step B1.out (below_step b3 bv));have x0 : V.cell? ⟨w3.heap.size,0,none⟩ = some (.int .i64 2) := dV.at (i := 0) rfl;have x1 : V.cell? ⟨w3.heap.size,1,none⟩ = some (.int .i64 1) := dV.at (i := 1) rfl;have x2 : V.cell? ⟨w3.heap.size,2,none⟩ = some (.slice a2 2 c2) := dV.at (i := 2) rfl;have EV := hid hV;obtain ⟨bk,hbk⟩ : ∃ bk,w3.heap.size = bk := ⟨_,rfl⟩
 rw [hbk] at x0 x1 x2;have EBK := hid hbk;clear HFM hq hb b3 bv szv hV dV ez B1 hbk E0;go_wp2_with fail;rw [show w3.alloc (.cells #[.int .i64 2,.int .i64 1,.slice a2 2 c2] 24) = V from EV.out,EBK.out];have KB : Hid (∀ w',Below V.heap.size V w' → w'.cell? ⟨bk,0,none⟩ = some (.int .i64 2) ∧ w'.cell? ⟨bk,1,none⟩ = some (.int .i64 1) ∧ w'.cell? ⟨bk,2,none⟩ = some (.slice a2 2 c2)) := fun w' h => ⟨cnow h x0,cnow h x1,cnow h x2⟩
 refine zEA (fun w' => w'.cell? ⟨bk,0,none⟩ = some (.int .i64 2) ∧ w'.cell? ⟨bk,1,none⟩ = some (.int .i64 1) ∧ w'.cell? ⟨bk,2,none⟩ = some (.slice a2 2 c2)) 10 (by kernel_rfl) ?_;obtain ⟨D1,hD⟩ : ∃ D1,V.drew = D1 := ⟨_,rfl⟩
 have GB : Hid (Below V.heap.size V D1) := by unfold Hid;rw [← hD];exact (Below.refl _ _).drew
 rw [hD];clear hD;refine zGA [(0,(.int .i64 0)),(1,(.bool true)),(2,(.bool true)),(3,(.agg #[.int .i64 2,.int .i64 1,.slice a2 2 c2])),(5,(.agg #[.bool false,.slice none 0 0]))] 5 ?_ (KB.out _ GB.out) ?_
 ·simp only [zQA,gA9,g09,g19,Act.put,sI9,s09,s19]
  (repeat' (first | exact trivial | refine And.intro (Or.inl ⟨by rfl,?_⟩) ?_)) <;> (intro w hSw;(try dsimp only at hSw);go_simp)
 simp only [actV,gA9,g09,g19,Act.put,sI9,s09,s19];refine zAA (i := 4) (o := ⟨some 15,.call { callee := .value (.func 15),args := #[.const (.int .u64 2)],argTypes := #[48] },40, "law.go:147",#[⟨2,.chain⟩,⟨2,.guard⟩],some (2,true)⟩) (by kernel_rfl) rfl (fun K hK => ?_);go_simp;go_at_call 15;refine (zFI (n := 2) (by decide) (by decide) _).mono ?_;rintro e w2 ⟨r9,rfl,m9,b⟩;have lz2 := (show Below _ _ _ from b).size;replace GB := hid (below_step GB.out b);have Z2 := hid m9.zc;obtain ⟨n9,y9,a9,c9,rfl⟩ := m9.parts;clear m9;clear b;refine hK.out _ _ (fun _ => KB.out _ GB.out) ?_;clear hK;refine zAA (i := 6) (o := ⟨some 17,.buildSlice 22 2 #[(0,.tmp 15),(1,.tmp 16)],22, "law.go:147",#[⟨4,.data⟩,⟨5,.data⟩,⟨2,.guard⟩],some (2,true)⟩) (by kernel_rfl) rfl (fun K hK => ?_);go_simp;obtain ⟨V3,hW⟩ : ∃ V,w2.alloc (.cells #[.bool n9,.slice a9 y9.length c9,.bool false,.slice none 0 0] 40) = V := ⟨_,rfl⟩
 obtain ⟨b,sz3⟩ := alo1 w2 (.cells #[.bool n9,.slice a9 y9.length c9,.bool false,.slice none 0 0] 40);rw [hW] at b sz3;replace GB := hid (below_step GB.out b);have dL : Cel V3 w2.heap.size 40 [.bool n9,.slice a9 y9.length c9,.bool false,.slice none 0 0] := by rw [← hW];exact Cel.new w2 _ _
 have ML := hid (zKG dL (Z2.out.now b) (zEF V3 1).zc);rw [hW];clear hW b dL Z2 sz3;refine hK.out _ _ (fun _ => KB.out _ GB.out) ?_;clear hK
 try simp only [Act.put]
 refine zGA [(7,(.agg #[.int .i64 2,.int .i64 1,.slice (some ⟨w2.heap.size,0,none⟩) 2 2]))] 1 ?_ (KB.out _ GB.out) ?_
 ·simp only [zQA,gA9,g09,g19,Act.put,sI9,s09,s19]
  (repeat' (first | exact trivial | refine And.intro (Or.inl ⟨by rfl,?_⟩) ?_)) <;> (intro w hSw;(try dsimp only at hSw);go_simp)
 simp only [actV,gA9,g09,g19,Act.put,sI9,s09,s19];refine zAA (i := 8) (o := ⟨some 19,.call { callee := .value (.func 16),args := #[.tmp 14,.tmp 18],argTypes := #[24,24] },4, "law.go:147",#[⟨3,.data⟩,⟨7,.data⟩,⟨4,.chain⟩,⟨2,.guard⟩],some (2,true)⟩) (by kernel_rfl) rfl (fun K hK => ?_);go_simp;go_at_call 16;refine (alikeMatsX18_yes (HQ.out.now GB.out) ML.out rfl).mono ?_;rintro e w4 ⟨rfl,b⟩;have lz4 := (show Below _ _ _ from b).size;replace GB := hid (below_step GB.out b);have FF := hid (below_step BV.out GB.out);clear b;refine hK.out _ _ (fun _ => KB.out _ GB.out) ?_;clear hK;refine zGA [(9,(.bool true))] 1 ?_ (KB.out _ GB.out) ?_
 ·simp only [zQA,gA9,g09,g19,Act.put,sI9,s09,s19]
  (repeat' (first | exact trivial | refine And.intro (Or.inl ⟨by rfl,?_⟩) ?_)) <;> (intro w hSw;(try dsimp only at hSw);go_simp)
 simp only [actV,gA9,g09,g19,Act.put,sI9,s09,s19];refine zAA (i := 10) (o := ⟨some 0,.assign (.tmp 20),4, "law.go:147",#[⟨9,.data⟩,⟨8,.chain⟩,⟨0,.phase⟩,⟨1,.phase⟩,⟨2,.phase⟩,⟨3,.phase⟩,⟨4,.phase⟩,⟨5,.phase⟩,⟨6,.phase⟩,⟨7,.phase⟩,⟨8,.phase⟩,⟨9,.phase⟩],none⟩) (by kernel_rfl) rfl (fun K hK => ?_);go_simp;refine hK.out _ _ (fun h => absurd h (by decide)) ?_;clear hK
 try simp only [Act.put]
 refine zDA (by kernel_rfl) ?_ _;clear GB KB HQ ML BV x0 x1 x2;go_wp2;go_ret;exact ⟨rfl,FF.out⟩
theorem Ivs.mono18 {B B' : Nat} {w : World} {v : Value} {l : List Nat} (h : Ivs B w v l) (hB : B' ≤ B) : Ivs B' w v l := by
 obtain ⟨q1,⟨q2,q3⟩ | ⟨g,cap,cur,q2,q3,q4⟩⟩ := h
 ·exact ⟨q1,.inl ⟨q2,q3⟩⟩
 ·exact ⟨q1,.inr ⟨g,cap,cur,q2,Nat.le_trans hB q3,q4⟩⟩
theorem Sh17.mono18 {B B' m n k : Nat} {w : World} {lv : Value} {gs : Nat → Nat} {L : Nat → Nat → Int} (h : Sh17 B w lv m n gs L k) (hB : B' ≤ B) : Sh17 B' w lv m n gs L k := by
 obtain ⟨h1,h4,h5⟩ := h;refine ⟨?_,h4,fun i hi => ⟨Nat.le_trans hB (h5 i hi).1,(h5 i hi).2⟩⟩;rcases h1 with h1 | ⟨h0,Lb,cap,r,e,e0,e1,e2⟩
 ·exact .inl h1
 ·exact .inr ⟨h0,Lb,cap,r,e,e0,Nat.le_trans hB e1,e2⟩
def ziI (w : World) (m n r : Nat) (γ : Nat → Nat) (X : Nat → Nat → Int) (k : Nat) (e : Ending) (w' : World) : Prop :=
 ∃ lv gs cv,e = .returned (.tuple #[lv,cv,.int .i64 0]) ∧ Sh17 w.heap.size w' lv m n gs X k ∧ Ivs w.heap.size w' cv (zmA γ r) ∧ Below w.heap.size w w'
theorem zyB {w : World} {v : Value} {m n k r : Nat} {γ : Nat → Nat} {zs : List Int} (h : Mx w v m n zs k) (hE : Ec18 n m r id γ (en18 n zs)) (hR : Rd18 0 r id γ (en18 n zs)) :
  Calls Tryz.prog 21 #[v,.int .i64 (n : Int)] w (ziI w m n r γ (en18 n zs) k) := by
 have M0 := hid h;obtain ⟨aa,ca,rfl,hr,hc⟩ := h.form;have HZL : Hid (zs.length = m * n) := by obtain ⟨_,_,_,_,_,h,_⟩ := h;exact h
 obtain ⟨la,hla⟩ : ∃ la,m * n = la := ⟨_,rfl⟩
 rw [hla] at M0 ⊢;obtain ⟨W0,hW⟩ : ∃ W0,w.alloc (matO m n (.slice aa la ca)) = W0 := ⟨_,rfl⟩
 obtain ⟨b0,sz0⟩ := alo1 w (matO m n (.slice aa la ca));rw [hW] at b0 sz0;have pa : Cel W0 w.heap.size 24 (matc m n (.slice aa la ca)) := by rw [← hW];exact Cel.new w _ _
 have PA := hid pa;have HCK := hid (zqC (M0.out.now b0));replace M0 := hid (M0.out.now b0);have x0 := pa.at (i := 0) rfl;have x1 := pa.at (i := 1) rfl;have x2 := pa.at (i := 2) rfl;rw [← hW] at x0 x1 x2;have G := hid b0;have EW := hid hW;have HE := hid hE;have HR := hid hR;have hnn : ((n : Int) != (n : Int)) = false := by simp
 clear h b0 sz0 hW pa hE hR hla;go_enter Tryz.func21,Tryz.ntmps21;go_wp2_with fail;rw [EW.out];clear EW x0 x1 x2;refine HCK.out.mono ?_;rintro e w1 ⟨rfl,b⟩;replace PA := hid (PA.out.step b);replace M0 := hid (M0.out.now b);replace G := hid (below_step G.out b);have HL := hid (zQF M0.out);have x0 := PA.out.at (i := 0) rfl;have x1 := PA.out.at (i := 1) rfl;have x2 := PA.out.at (i := 2) rfl;clear HCK b;go_wp2_with fail;clear x0 x1 x2;refine HL.out.mono ?_;rintro e w2 ⟨lv,gs,rfl,sh,b⟩;have hlen : (rowsL m n zs).length = m := by simp [rowsL]
 rw [hlen] at sh;have sh2 := sh.congr (L' := en18 n zs) fun i j hi hj => zjF HZL.out hi hj
 have HP := hid (pivotsOf18 sh2 hr hc HE.out HR.out);have HS1 : Hid (w.heap.size ≤ w1.heap.size) := G.out.size;replace G := hid (below_step G.out b);obtain ⟨al,cl,rfl⟩ : ∃ al cl,lv = .slice al m cl := by
  rcases sh2.1 with ⟨e0,e⟩ | ⟨h0,Lb,cap,q,e,e1,_⟩
  ·exact ⟨none,0,by rw [e,e0]⟩
  ·exact ⟨_,cap,e⟩
 have B1 := hid b;have SH2 := hid sh2;clear HL b sh sh2 M0 PA hlen;go_wp2_with fail;refine HP.out.mono ?_;rintro e w3 ⟨cv,rfl,hv,b⟩;obtain ⟨ac,cc,rfl,-,-⟩ := hv.form;have FIN : Hid (ziI w m n r γ (en18 n zs) k (.returned (.tuple #[.slice al m cl,.slice ac (zmA γ r).length cc,.int .i64 0])) w3) := ⟨_,gs,_,rfl,(SH2.out.now b).mono18 HS1.out,hv.mono18 (Nat.le_trans HS1.out B1.out.size),below_step G.out b⟩
 clear HP hv b SH2 G B1 HE HR;generalize (zmA γ r).length = lr at *;go_wp2;go_ret3;exact FIN.out
theorem formNoFit18 {w : World} {v : Value} {m n k : Nat} {c : Int} {zs : List Int} (h : Mx w v m n zs k) (hc : (n : Int) ≠ c) :
  Calls Tryz.prog 21 #[v,.int .i64 c] w fun e w' => e = .returned (.tuple #[.slice none 0 0,.slice none 0 0,.int .i64 2]) ∧ Below w.heap.size w w' := by
 have M0 := hid h;obtain ⟨aa,ca,rfl,hr,hcc⟩ := h.form;obtain ⟨la,hla⟩ : ∃ la,m * n = la := ⟨_,rfl⟩
 rw [hla] at M0 ⊢;obtain ⟨W0,hW⟩ : ∃ W0,w.alloc (matO m n (.slice aa la ca)) = W0 := ⟨_,rfl⟩
 obtain ⟨b0,sz0⟩ := alo1 w (matO m n (.slice aa la ca));rw [hW] at b0 sz0;have pa : Cel W0 w.heap.size 24 (matc m n (.slice aa la ca)) := by rw [← hW];exact Cel.new w _ _
 have PA := hid pa;have HCK := hid (zqC (M0.out.now b0));have x0 := pa.at (i := 0) rfl;have x1 := pa.at (i := 1) rfl;have x2 := pa.at (i := 2) rfl;rw [← hW] at x0 x1 x2;have G := hid b0;have EW := hid hW;have hnn : ((n : Int) != c) = true := by simp only [bne_iff_ne];exact hc
 clear h b0 sz0 hW pa M0 hla;go_enter Tryz.func21,Tryz.ntmps21;go_wp2_with fail;rw [EW.out];clear EW x0 x1 x2;refine HCK.out.mono ?_;rintro e w1 ⟨rfl,b⟩;replace PA := hid (PA.out.step b);replace G := hid (below_step G.out b);have x0 := PA.out.at (i := 0) rfl;have x1 := PA.out.at (i := 1) rfl;have x2 := PA.out.at (i := 2) rfl;clear HCK b;go_wp2;go_ret3;exact ⟨rfl,G.out⟩
end Go.Proofs.YtdeomkkpainakaaGreat
namespace Go.Proofs.YtdeomkkpainakaaGreat
def zRB (γ : Nat → Nat) (X : Nat → Nat → Int) (v : Nat → Int) : Nat → Nat → Int
 | 0 => v
 | i + 1 => fun j => zRB γ X v i j - zRB γ X v i (γ i) / X i (γ i) * X i j
def zhB (γ : Nat → Nat) (X : Nat → Nat → Int) (v : Nat → Int) (i : Nat) : Int := zRB γ X v i (γ i) / X i (γ i)
section
variable {n K r : Nat} {γ : Nat → Nat} {X : Nat → Nat → Int}
theorem zlD (v : Nat → Int) (i j : Nat) : zRB γ X v (i + 1) j = zRB γ X v i j - zhB γ X v i * X i j := rfl
theorem zoE (v : Nat → Int) (j : Nat) : ∀ i,v j = zRB γ X v i j + su i fun a => zhB γ X v a * X a j
 | 0 => by show v j = v j + 0;omega
 | i + 1 => by
  have := zoE v j i;rw [zlD]
  show v j = _ + (su i (fun a => zhB γ X v a * X a j) + zhB γ X v i * X i j)
  omega
theorem zSD (h : Ec18 n K r id γ X) (v : Nat → Int) : ∀ i,i ≤ r → ∀ a,a < i → 0 ≤ zRB γ X v i (γ a) ∧ zRB γ X v i (γ a) < X a (γ a)
 | 0,_,a,ha => by omega
 | i + 1,hi,a,ha => by
  rw [zlD];have hp := h.pos i (by omega);simp only [id] at hp
  by_cases q : a = i
  ·subst q
   unfold zhB;have e := Int.emod_def (zRB γ X v a (γ a)) (X a (γ a));have e1 := Int.emod_nonneg (zRB γ X v a (γ a)) (show X a (γ a) ≠ 0 by omega);have e2 := Int.emod_lt_of_pos (zRB γ X v a (γ a)) hp;rw [Int.mul_comm];omega
  ·have z := h.zero i (γ a) (by omega) (h.up a i (by omega) (by omega))
   simp only [id] at z;rw [z,Int.mul_zero,Int.sub_zero];exact zSD h v i (by omega) a (by omega)
theorem rest_one18 (h : Ec18 n K r id γ X) {R S : Nat → Int} (hR : ∀ a,a < r → 0 ≤ R (γ a) ∧ R (γ a) < X a (γ a)) (hS : ∀ a,a < r → 0 ≤ S (γ a) ∧ S (γ a) < X a (γ a)) (hd : Cm19 K n X fun j => R j - S j) : ∀ j,j < n → R j = S j := by
 obtain ⟨z,hz⟩ := (h.cm _).1 hd;have h0 : ∀ a,a < r → z a = 0 := fun a ha => Classical.byContradiction fun hn => by
  obtain ⟨b,hb,hb1,hb2⟩ := znF a ha hn;have e := (h.begins hz hb hb2).2;simp only [id] at e;have h1 := hR b hb;have h2 := hS b hb;have : (z b).natAbs ≠ 0 := by omega
  rcases Int.lt_trichotomy (z b) 0 with q | q | q
  ·have := Int.mul_le_mul_of_nonneg_right (show z b ≤ -1 by omega) (show 0 ≤ X b (γ b) by omega)
   omega
  ·exact hb1 q
  ·have := Int.mul_le_mul_of_nonneg_right (show 1 ≤ z b by omega) (show 0 ≤ X b (γ b) by omega)
   omega
 intro j hj;have e : R j - S j = su r fun a => z a * X (id a) j := hz j hj
 rw [zuB fun a ha => by rw [h0 a ha,Int.zero_mul]] at e;omega
theorem zpG (h : Ec18 n K r id γ X) (v : Nat → Int) : Cm19 K n X fun j => v j - zRB γ X v r j :=
 (h.cm _).2 ⟨zhB γ X v,fun j hj => by have := zoE (γ := γ) (X := X) v j r;simp only [id];omega⟩
theorem rs_same18 (h : Ec18 n K r id γ X) {v u : Nat → Int} (hd : Cm19 K n X fun j => u j - v j) : ∀ j,j < n → zRB γ X u r j = zRB γ X v r j := by
 refine rest_one18 h (zSD h u r (Nat.le_refl _)) (zSD h v r (Nat.le_refl _)) ?_;have h1 := (zpG h u).mul (-1);have h2 := (h1.add (zpG h v)).add hd;exact h2.congr fun j _ => by omega
theorem zIF (h : Ec18 n K r id γ X) {v : Nat → Int} {T Y : Nat} (hX : ∀ i j,i < r → j < n → (X i j).natAbs ≤ T) (hv : ∀ j,j < n → (v j).natAbs ≤ Y) : ∀ i,i ≤ r → (∀ j,j < n → (zRB γ X v i j).natAbs ≤ Y * (T + 1) ^ i) ∧ ∀ a,a < i → (zhB γ X v a).natAbs ≤ Y * (T + 1) ^ a
 | 0,_ => ⟨fun j hj => by rw [Nat.pow_zero,Nat.mul_one];exact hv j hj,fun a ha => by omega⟩
 | i + 1,hi => by
  obtain ⟨h1,h2⟩ := zIF h hX hv i (by omega);have hp := h.pos i (by omega);simp only [id] at hp;have hc : (zhB γ X v i).natAbs ≤ Y * (T + 1) ^ i := by
   refine Nat.le_trans ?_ (h1 (γ i) (h.cl i (by omega)));unfold zhB;exact Int.natAbs_ediv_le_natAbs _ _
  refine ⟨fun j hj => ?_,fun a ha => ?_⟩
  ·rw [zlD]
   have e1 := h1 j hj;have e2 : (zhB γ X v i * X i j).natAbs ≤ Y * (T + 1) ^ i * T := by
    rw [Int.natAbs_mul];exact Nat.mul_le_mul hc (hX i j (by omega) hj)
   have e3 : Y * (T + 1) ^ (i + 1) = Y * (T + 1) ^ i * T + Y * (T + 1) ^ i := by
    rw [Nat.pow_succ,← Nat.mul_assoc,Nat.mul_add,Nat.mul_one]
   omega
  ·by_cases q : a = i
   ·rw [q];exact hc
   ·exact h2 a (by omega)
end
open Go.RowKit
theorem zSF {w : World} {k : Nat} {v : Value} {zs : List Int} (h : Zl w v zs k) :
  Calls Tryz.prog 23 #[v] w (zEC w zs k) := by
 have V0 := hid h;have HMP : Hid (zs = (List.range zs.length).map fun j => zs.getD j 0) := by
  unfold Hid
  apply List.ext_getElem
  ·simp
  ·intro j h1 h2
   simp [h1]
 obtain ⟨a0,c0,rfl,hc0,hn0,hf0⟩ := V0.out.form9;obtain ⟨n,hn⟩ : ∃ n,zs.length = n := ⟨_,rfl⟩
 rw [hn] at V0 hc0 hn0 HMP ⊢;have HN := hid hn;have F0 := hid hf0;clear h hf0 hn;go_enter Tryz.func23,Tryz.ntmps23;go_wp2_with (at_make;refine zdA _ rfl _ _ rfl _ _ n n rfl rfl rfl rfl (Nat.le_refl _) (by omega) ?_)
 intro w1 hrow hb1 hsz1;have H0 : Hid (zXG w w.heap.size n (fun j => zs.getD j 0) k n (.int .i64 0) w1) := ⟨0,rfl,Nat.zero_le _,by omega,FilM.start hrow _ _,hb1⟩
 clear hrow hb1 hsz1;go_wp2_with fail
 go_loopg [11] n (fun gk s11 wx => zXG w w.heap.size n (fun j => zs.getD j 0) k gk s11 wx)
 case atStart => exact H0.out
 case round =>
  clear H0;obtain ⟨i,rfl,hin,hg,hfil,hG⟩ := hrel;have FI := hid hfil;have G := hid hG;have HG := hid hg;clear hfil hG hg
  by_cases hlt : i < n
  ·have hlt' : (i : Int) < (n : Int) := by omega
   obtain ⟨b1,o1,rfl⟩ := F0.out (fun e => by have := HN.out;rw [e] at this;simp at this;omega);obtain ⟨nf,xf,adf,qf,k0,k1,zf⟩ := (V0.out.now G.out).at9 (i := i) (by rw [HN.out];exact hlt);rw [zxE] at zf;obtain ⟨V1,hV⟩ : ∃ V1,wr.alloc (duo (.bool nf) (.slice adf xf.length qf)) = V1 := ⟨_,rfl⟩
   obtain ⟨b,sz1⟩ := alo1 wr (duo (.bool nf) (.slice adf xf.length qf));rw [hV] at b sz1;have PN : Hid (Duo V1 wr.heap.size (.bool nf) (.slice adf xf.length qf)) := by unfold Hid;rw [← hV];exact Duo.new wr _ _
   have HS := hid (zsE (zf.now b));have FI0 := hid (FI.out.step b);have G0 := hid (below_step G.out b);have n0 := PN.out.c0;have n1 := PN.out.c1;rw [← hV] at n0 n1;have EV := hid hV;have hw := zVA (i := i) (by omega);clear zf b sz1 hV PN FI G;go_wp2_with fail;rw [EV.out];refine HS.out.mono ?_;rintro e w1 ⟨r,rfl,m1,b⟩;have FI1 := hid (FI0.out.step b);have G1 := hid (below_step G0.out b);have M1 := hid (m1.mono (Nat.zero_le _));obtain ⟨nr,xr,ar,cr,rfl⟩ := m1.parts;obtain ⟨m0,am,lm,cm,e0,e1,e2,e3⟩ := FI1.out.cells hlt;have HN1 : Hid (zXG w w.heap.size n (fun j => zs.getD j 0) k (n - (i + 1)) (.int .i64 ((i + 1 : Nat) : Int)) ((w1.setCell ⟨w.heap.size,i * 2,none⟩ (.bool nr)).setCell ⟨w.heap.size,i * 2 + 1,none⟩ (.slice ar xr.length cr))) :=
    ⟨i + 1,rfl,by omega,rfl,FI1.out.put hlt M1.out,bset (bset G1.out (Nat.le_refl _)) (Nat.le_refl _)⟩
   have HMM : Hid (n - (i + 1) < gk) := by unfold Hid;rw [HG.out];omega
   clear HS FI0 G0 HG FI1 G1 M1 m1 b k0 k1 n0 n1 EV;go_wp2_with fail;go_roundg (n - (i + 1))
   case rel => exact HN1.out
   case measure => exact HMM.out
  ·have hlt' : ¬ (i : Int) < (n : Int) := by omega
   obtain rfl : i = n := by omega
   obtain ⟨ps,p1,pl,p2⟩ := FI.out.doneN;rw [← HMP.out] at p2;have FIN : Hid (zEC w zs k (.returned (.slice (some ⟨w.heap.size,0,none⟩) i i)) wr) := ⟨_,_,ps,rfl,Nat.le_refl _,pl,p1,p2,G.out⟩
   clear FI G HG p1 p2 pl;go_wp2;go_ret;exact FIN.out
theorem Ivs.ty18 {T : TypeId} {B : Nat} {w w' : World} {v : Value} {l : List Nat} (h : Ivs B w v l) (ht : Ty T w w') (hT : 3 ≠ T) : Ivs B w' v l := h.keep fun b L _ e => ht.2 b _ _ _ e hT
theorem Sh17.oth18 {B m n k g n' k' : Nat} {w w' : World} {lv : Value} {gs : Nat → Nat} {X : Nat → Nat → Int} {F : Nat → Int} (h : Sh17 B w lv m n gs X k) (hr : Rw17 w g n' F k') (ht : Touch (· = g) w w') (hne : ∀ i,i < m → g ≠ gs i) : Sh17 B w' lv m n gs X k := by
 have ty := zNB hr ht;obtain ⟨ps,hA,_⟩ := hr;obtain ⟨h1,h4,h5⟩ := h;refine ⟨?_,h4,fun i hi => ⟨(h5 i hi).1,(h5 i hi).2.touch ht hA (Ne.symm (hne i hi))⟩⟩;rcases h1 with h1 | ⟨h0,Lb,cap,r,e,e0,e1,e2⟩
 ·exact .inl h1
 ·exact .inr ⟨h0,Lb,cap,r,e,e0,e1,e2.ty13 ty (by decide)⟩
structure zPD (B : Nat) (U : World) (gR gC m n r : Nat) (γ : Nat → Nat) (lv cv : Value) (gs : Nat → Nat) (X : Nat → Nat → Int) (R C : Nat → Int) (k kw i : Nat) (wx : World) : Prop where
 rr : Rw17 wx gR n R kw
 c : Rw17 wx gC m (fun a => if a < i then C a else 0) kw
 sh : Sh17 B wx lv m n gs X k
 iv : Ivs B wx cv (zmA γ r)
 t : Touch (fun g => g = gR ∨ g = gC) U wx
 neR : ∀ i,i < m → gR ≠ gs i
 neC : ∀ i,i < m → gC ≠ gs i
 ne : gR ≠ gC
section
variable {B gR gC m n r k kw i : Nat} {U w : World} {γ gs : Nat → Nat} {lv cv : Value} {X : Nat → Nat → Int} {R C : Nat → Int}
theorem zPD.now {w' : World} (h : zPD B U gR gC m n r γ lv cv gs X R C k kw i w) (hb : Below w.heap.size w w') : zPD B U gR gC m n r γ lv cv gs X R C k kw i w' :=
 ⟨h.rr.now hb,h.c.now hb,h.sh.now hb,h.iv.now hb,h.t.trans (.ofBelow hb),h.neR,h.neC,h.ne⟩
theorem zPD.put {x y : Value} (h : zPD B U gR gC m n r γ lv cv gs X R C k kw i w) (hi : i < m) (hz : Zm 0 w (.agg #[x,y]) (C i) kw) : zPD B U gR gC m n r γ lv cv gs X R C k kw (i + 1) ((w.setCell ⟨gC,i * 2,none⟩ x).setCell ⟨gC,i * 2 + 1,none⟩ y) := by
 have ht : Touch (· = gC) w ((w.setCell ⟨gC,i * 2,none⟩ x).setCell ⟨gC,i * 2 + 1,none⟩ y) := zPB (Touch.refl _ _) x y;have ty := zNB h.c ht;obtain ⟨ps,hA,_⟩ := id h.c;refine ⟨h.rr.touch ht hA h.ne,(h.c.put hi hz).1.congr fun a ha => ?_,h.sh.oth18 h.c ht h.neC,h.iv.ty18 ty (by decide),h.t.trans (ht.mono18 fun b q => .inr q),h.neR,h.neC,h.ne⟩
 by_cases q : a = i
 ·subst q;rw [if_pos rfl,if_pos (by omega)]
 ·rw [if_neg q]
  by_cases q2 : a < i
  ·rw [if_pos q2,if_pos (by omega)]
  ·rw [if_neg q2,if_neg (by omega)]
theorem zPD.off {R' : Nat → Int} {w' : World} (h : zPD B U gR gC m n r γ lv cv gs X R C k kw i w) (hr : Rw17 w' gR n R' kw) (ht : Touch (· = gR) w w') : zPD B U gR gC m n r γ lv cv gs X R' C k kw i w' := by
 have ty := zNB h.rr ht;obtain ⟨ps,hA,_⟩ := id h.rr;exact ⟨hr,h.c.touch ht hA (Ne.symm h.ne),h.sh.oth18 h.rr ht h.neR,h.iv.ty18 ty (by decide),h.t.trans (ht.mono18 fun b q => .inl q),h.neR,h.neC,h.ne⟩
end
def zWG (B : Nat) (U : World) (gR gC m n r : Nat) (γ : Nat → Nat) (lv cv : Value) (gs : Nat → Nat) (X F : Nat → Nat → Int) (C : Nat → Int) (k kw gk : Nat) (s : Value) (wx : World) : Prop :=
 ∃ i : Nat,s = .int .i64 (i : Int) ∧ i ≤ r ∧ gk = r - i ∧ zPD B U gR gC m n r γ lv cv gs X (F i) C k kw i wx
theorem zEC.rw18 {w w' : World} {zs : List Int} {k : Nat} {e : Ending} (h : zEC w zs k e w') : ∃ g,e = .returned (.slice (some ⟨g,0,none⟩) zs.length zs.length) ∧ w.heap.size ≤ g ∧ Rw17 w' g zs.length (fun j => zs.getD j 0) k ∧ Below w.heap.size w w' := by
 obtain ⟨g,n,ps,rfl,h1,h2,h3,h4,h5⟩ := h;have hl : n = zs.length := by rw [← h2];exact h4.1
 subst hl;refine ⟨g,rfl,h1,⟨ps,h3,?_⟩,h5⟩;have e : (List.range zs.length).map (fun j => zs.getD j 0) = zs := by
  apply List.ext_getElem
  ·simp
  ·intro j h1 h2;simp at h1;simp [h1]
 rw [e];exact h4
end Go.Proofs.YtdeomkkpainakaaGreat
