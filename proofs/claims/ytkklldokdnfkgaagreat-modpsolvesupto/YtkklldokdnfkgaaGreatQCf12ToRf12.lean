/-
 QCf12ToRf12: Cf12, Wk12, Lw12, Rf12, joined.
-/
import Derived.Test.YtkklldokdnfkgaaGreatQMt12ToDt12
import Derived.Test.YtkklldokdnfkgaaGreatQBu12ToIx12
import Derived.Lib.AppendZerosOnto
import Derived.Test.YtkklldokdnfkgaaGreatQEach9ToPr12
import Derived.Test.YtkklldokdnfkgaaGreatQFil9ToCat9
import Derived.Test.YtkklldokdnfkgaaGreatQCa12ToWq12
import Derived.Test.YtkklldokdnfkgaaGreatQRs12ToTailA

set_option maxRecDepth 100000
set_option maxHeartbeats 6400000
set_option linter.unusedVariables false
set_option linter.unusedSimpArgs false
namespace Go.Proofs.YtkklldokdnfkgaaGreat
open Go.RowKit
abbrev fnSv : Value := .func (.func 29) #[] #[]
theorem zfI {w : World} {x : Int} : Calls Tryz.prog 29 #[.int .u64 x] w fun e w' => e = .returned (.bool (x != 0)) ∧ w' = w := by
 go_enter Tryz.func29,Tryz.ntmps29;go_wp2;go_ret;exact ⟨rfl,rfl⟩
def NzI (n : Nat) (xs : List Int) (r : Int) : Prop := (r = -1 ∧ ∀ j,j < n → xs.getD j 0 = 0) ∨ ∃ k : Nat,r = (k : Int) ∧ k < n ∧ xs.getD k 0 ≠ 0
theorem indexNz12 {w : World} {g n cap : Nat} {xs : List Int} {r : List Value} (hr : Row w g (ws xs ++ r)) (hn : n ≤ xs.length) (hl : n ≤ 1048576) :
  Calls Tryz.prog 48 #[.slice (some ⟨g,0,none⟩) n cap,fnSv] w fun e w' => (∃ k,e = .returned (.int .i64 k) ∧ NzI n xs k) ∧ w' = w := by
 have HR := hid hr;have HN := hid hn;clear hr hn;go_enter Tryz.func48,Tryz.ntmps48;go_wp2_with fail
 go_loop [8] (fun s => ∃ i : Nat,s = .int .i64 (i : Int) ∧ i ≤ n ∧ ∀ j,j < i → xs.getD j 0 = 0) (fun s => n - (intOf s).toNat)
 case atStart => exact ⟨0,rfl,Nat.zero_le _,fun j hj => by omega⟩
 case round =>
  obtain ⟨i,rfl,hi,hz⟩ := hrel;have HZ := hid hz;clear hz
  by_cases hlt : i < n
  ·have hlt' : (i : Int) < (n : Int) := by omega
   have k1 := HR.out.at12 (i := i) (by have := HN.out;omega);have hxl : i < xs.length := by have := HN.out;omega
   have e1 : xs.getD i 0 = xs[i]'hxl := by simp [hxl]
   obtain ⟨x,hx⟩ : ∃ x,xs[i]'hxl = x := ⟨_,rfl⟩
   rw [hx] at k1 e1;have HE := hid e1;have hw := znD hlt hl;clear hx e1 hxl
   by_cases h0 : x = 0
   ·have HS : Hid (Calls Tryz.prog 29 #[.int .u64 x] w fun e w' => e = .returned (.bool false) ∧ w' = w) := by
     have := zfI (w := w) (x := x);rw [show (x != 0) = false by rw [h0];rfl] at this;exact this
    have HN : Hid (∀ j,j < i + 1 → xs.getD j 0 = 0) := fun j hj => by
     by_cases q : j < i
     ·exact HZ.out j q
     ·obtain rfl : j = i := by omega
      rw [HE.out];exact h0
    clear h0;go_wp2_with fail;refine HS.out.mono ?_;rintro e w1 ⟨rfl,rfl⟩;go_wp2_with fail;go_round
    case rel => exact ⟨i + 1,rfl,by omega,HN.out⟩
    case measure => simp [intOf];omega
   ·have HS : Hid (Calls Tryz.prog 29 #[.int .u64 x] w fun e w' => e = .returned (.bool true) ∧ w' = w) := by
     have := zfI (w := w) (x := x);rw [show (x != 0) = true by simpa using h0] at this;exact this
    have HN2 : Hid (NzI n xs (i : Int)) := .inr ⟨i,rfl,hlt,by rw [HE.out];exact h0⟩;clear h0;go_wp2_with fail;refine HS.out.mono ?_;rintro e w1 ⟨rfl,rfl⟩;go_wp2;go_ret;exact ⟨⟨_,rfl,HN2.out⟩,rfl⟩
  ·have hlt' : ¬ (i : Int) < (n : Int) := by omega
   have HN2 : Hid (NzI n xs (-1)) := .inl ⟨rfl,fun j hj => HZ.out j (by omega)⟩;go_wp2;go_ret;exact ⟨⟨_,rfl,HN2.out⟩,rfl⟩
theorem containsNz12 {w : World} {g n cap : Nat} {xs : List Int} {r : List Value} (hr : Row w g (ws xs ++ r)) (hn : n ≤ xs.length) (hl : n ≤ 1048576) :
  Calls Tryz.prog 28 #[.slice (some ⟨g,0,none⟩) n cap,fnSv] w fun e w' => ∃ b,e = .returned (.bool b) ∧ (b = false → ∀ j,j < n → xs.getD j 0 = 0) ∧ (b = true → ∃ j,j < n ∧ xs.getD j 0 ≠ 0) ∧ w' = w := by
 have HC := hid (indexNz12 (cap := cap) hr hn hl);clear hr hn;go_enter Tryz.func28,Tryz.ntmps28;go_wp2_with fail;refine HC.out.mono ?_;rintro e w1 ⟨⟨k,rfl,hk⟩,rfl⟩;rcases hk with ⟨rfl,h0⟩ | ⟨k,rfl,h1,h2⟩
 ·have H0 := hid h0
  clear h0 HC;go_wp2;go_ret;exact ⟨_,rfl,fun _ => H0.out,fun q => by simp at q,rfl⟩
 ·have H1 := hid h1
  have H2 := hid h2;have hk : (0 : Int) ≤ (k : Int) := by omega
  clear h1 h2 HC;go_wp2;go_ret;exact ⟨_,rfl,fun q => by simp at q,fun _ => ⟨k,H1.out,H2.out⟩,rfl⟩
theorem sliceW_top (L n cap lo : Nat) (h : lo ≤ n) (h1 : n ≤ cap) : ∃ a2 cap2,(∀ w,(Instr.slice 42 (.slice (some ⟨L,0,none⟩) n cap) (some (.int .i64 (lo : Int))) none none).run Tryz.prog w = .ok (.slice a2 (n - lo) cap2) w) ∧ n - lo ≤ cap2 ∧ (0 < n - lo → a2 = some ⟨L,lo,none⟩) := by
 have i1 : (0 : Int) ≤ (lo : Int) := by omega
 have i2 : (lo : Int) ≤ (n : Int) := by omega
 have i3 : (n : Int) ≤ (cap : Int) := by omega
 by_cases q : cap = lo
 ·obtain rfl : n = lo := by omega
  subst q;refine ⟨some ⟨L,0,none⟩,0,fun w => ?_,by omega,fun z => by omega⟩;go_simp
 ·refine ⟨some ⟨L,lo,none⟩,cap - lo,fun w => ?_,by omega,fun _ => rfl⟩
  go_simp
theorem sliceW_low (L n cap hi : Nat) (h : hi ≤ n) (h1 : n ≤ cap) : ∀ w,(Instr.slice 42 (.slice (some ⟨L,0,none⟩) n cap) none (some (.int .i64 (hi : Int))) none).run Tryz.prog w = .ok (.slice (some ⟨L,0,none⟩) hi cap) w := fun w => by
 have i1 : (0 : Int) ≤ (hi : Int) := by omega
 have i2 : (hi : Int) ≤ (n : Int) := by omega
 have i3 : (hi : Int) ≤ (cap : Int) := by omega
 have i4 : (n : Int) ≤ (cap : Int) := by omega
 go_simp
theorem Tryz.infoW12 : (Tryz.prog.info? 25).map (fun i => (i.zero,i.size,i.bytes)) = some (some (.int .u64 0),1,8) := by kernel_rfl
theorem zeros12 {w : World} {B g n r : Nat} {xs : List Int} (hr : Row w g (ws xs)) (hl : xs.length = n) (hn : n ≤ 1048576) (hr2 : r ≤ 1048576) (hg : B ≤ g) (hB : B ≤ w.heap.size) (ty : TypeId) :
  ∃ g' cap' ext w',(Builtin.append_ #[42,3] ty #[.slice (some ⟨g,0,none⟩) n n,.int .i64 (r : Int)]).run Tryz.prog w = .ok (.slice (some ⟨g',0,none⟩) (n + r) cap') w' ∧ n + r ≤ cap' ∧ Row w' g' (ws (xs ++ List.replicate r 0) ++ ext) ∧ B ≤ g' ∧ Below B w w' := by
 obtain ⟨i,hi,hz,hsz,hby⟩ := info_parts Tryz.infoW12;have hi1 : i.size = 1 := hsz;have hzb : i.bytes = 8 := hby
 by_cases h0 : r = 0
 ·subst h0
  refine ⟨g,n,[],w,?_,Nat.le_refl _,by simpa using hr,hg,Below.refl _ _⟩;have hx : IntKind.i64.wrap 0 = 0 := by decide
  simp [Builtin.append_,run_underlying Tryz.underlying42,run_underlying Tryz.underlying3,sizeOf,typeInfo,hi,asInt,asIntOf,hx,storeCells]
 ·have hold : (Builtin.firstCells i.size n (.slice (some ⟨g,0,none⟩) n n)).run Tryz.prog w.drew = .ok (ws xs).toArray w.drew := by
   rw [hi1];refine run_firstCells_some w.drew 1 n ⟨g,0,none⟩ n n (ws xs) (by simp [ws,hl]) fun j v hj => ?_
   have hjl : j < xs.length := by have := (List.getElem?_eq_some_iff.1 hj).1;simpa [ws] using this
   rw [zMB];have := (Row.nil12.2 hr).at12 hjl;rw [show (ws xs)[j]? = some (.int .u64 (xs[j]'hjl)) by simp [ws,hjl]] at hj;cases hj;exact this
  have h := Lib.run_append_grow_zeros w 42 3 ty 25 i _ .i64 .i64 Tryz.underlying42 Tryz.underlying3 hi hz (some ⟨g,0,none⟩) n n (ws xs) hold r (by omega) (by omega) (by omega) (by omega) (by rw [hzb];omega) (by rw [hzb];exact growslice_fits (by omega) (by omega));have hGn : n + r ≤ grownCap w (n + r) n 25 := grownCap_ge w _ _ _;have hzc : ∀ k,Builtin.zeroCells (Value.int .u64 0).cells k = (List.replicate k (Value.int .u64 0)).toArray := fun k => by
   apply Array.ext
   ·simp [Builtin.zeroCells,Value.cells]
   ·intro j h1 h2
    simp [Builtin.zeroCells,Value.cells,Nat.mod_one]
  refine ⟨w.heap.size,_,List.replicate (grownCap w (n + r) n 25 - (n + r)) (Value.int .u64 0),_,h,hGn,?_,hB,((Below.refl _ w).drew).alloc (by simpa using hB) _⟩;unfold Row;rw [hzc,hzc,List.append_toArray,List.append_toArray];have := Cel.new w.drew 25 (ws xs ++ List.replicate r (Value.int .u64 0) ++ List.replicate (grownCap w (n + r) n 25 - (n + r)) (Value.int .u64 0));rw [show ws (xs ++ List.replicate r 0) = ws xs ++ List.replicate r (Value.int .u64 0) by simp [ws]];exact this
theorem of12 {n : Int} (h0 : 0 ≤ n) (h1 : n ≤ 18446744073709551615) (w : World) :
  Calls Tryz.prog 18 #[.int .u64 n] w fun e w' => ∃ r,e = .returned r ∧ Zi w' r n 1 ∧ Below w.heap.size w w' := by
 obtain ⟨WX,hWX⟩ : ∃ WX,(w.alloc (duo (.bool false) (.slice (some ⟨w.heap.size + 1,0,none⟩) 1 1))).alloc (.cells #[.int .u64 n] 25) = WX := ⟨_,rfl⟩
 obtain ⟨b0,sz0⟩ := zxA w (duo (.bool false) (.slice (some ⟨w.heap.size + 1,0,none⟩) 1 1)) (.cells #[.int .u64 n] 25);rw [hWX] at b0 sz0;have dX : Duo WX w.heap.size (.bool false) (.slice (some ⟨w.heap.size + 1,0,none⟩) 1 1) := by rw [← hWX];exact zBA (zEA rfl) _
 have sX : Sl WX.heap.size WX (.slice (some ⟨w.heap.size + 1,0,none⟩) 1 1) [n] := by
  have := zUC (w.alloc (duo (.bool false) (.slice (some ⟨w.heap.size + 1,0,none⟩) 1 1))) n ⟨h0,h1⟩;rw [hWX] at this
  simpa using this
 have eV : iv false [n] = n := by simp [iv,val]
 have FIN : Hid (Zi WX (.agg #[.bool false,.slice (some ⟨w.heap.size + 1,0,none⟩) 1 1]) n 1) := ⟨false,[n],_,_,rfl,sX,eV,by simp⟩
 have EW := hid hWX;have DX := hid dX;have BX := hid b0;clear sX dX eV b0 hWX;go_enter Tryz.func18,Tryz.ntmps18;go_wp2;rw [EW.out];exact bodyPost_ret (zJB Tryz.results18 DX.out _ (by rfl)) rfl ⟨_,rfl,FIN.out,BX.out⟩
theorem det_nine : detN 7 1 [9] = 2 := by decide
theorem blw_ten : blw 10 = 7 := by decide
theorem gd_seven : gdB 7 = true := by decide
theorem zuF (w : World) : Calls Tryz.prog 4 #[] w fun e w' => e = .returned (.bool true) ∧ Below w.heap.size w w' := by
 have HB := hid (below_any (w := w) (n := 10) (by omega));rw [blw_ten] at HB;have HO := hid (of12 (n := 9) (by omega) (by omega) w);go_enter Tryz.func4,Tryz.ntmps4;go_wp2_with fail;refine HB.out.mono ?_;rintro e w1 ⟨rfl,hw1⟩;have hw1' := hw1.symm;subst hw1';clear hw1 HB;go_wp2_with fail;refine HO.out.mono ?_;rintro e w2 ⟨r,rfl,hz,b2⟩;have hz0 := hz;obtain ⟨n2,x2,a2,c2,rfl,-,-,-⟩ := hz;obtain ⟨V,hV⟩ : ∃ V,w2.alloc (.cells #[.bool n2,.slice a2 x2.length c2] 44) = V := ⟨_,rfl⟩
 obtain ⟨bV,szV⟩ := zVA w2 (.cells #[.bool n2,.slice a2 x2.length c2] 44);rw [hV] at bV szV;have DV : Cel V w2.heap.size 44 [.bool n2,.slice a2 x2.length c2] := by rw [← hV];exact Cel.new w2 _ _
 have MX : Mx V (matv 1 1 (.slice (some ⟨w2.heap.size,0,none⟩) 1 1)) 1 1 [9] 1 := by
  refine ⟨_,[(.bool n2,.slice a2 x2.length c2)],rfl,⟨_,1,rfl,by simp,by simp,(fun q => by cases q),.inr ⟨w2.heap.size,0,rfl,Nat.zero_le _,DV.blk,fun j p hj => ?_⟩⟩,⟨rfl,fun j p z hp hz => ?_⟩,rfl,by omega,by omega⟩
  ·match j,hj with
   | 0,hj =>
    simp at hj;subst hj;exact ⟨DV.at (i := 0) rfl,DV.at (i := 1) rfl⟩
  ·match j,hp,hz with
   | 0,hp,hz =>
    simp at hp hz;subst hp hz;exact hz0.now bV
 have HD := hid (det12 gd_seven MX (by omega));rw [det_nine] at HD;have G := hid (below_step b2 bV);have EV := hid hV;clear HO hz0 b2 bV szV hV DV MX;go_wp2_with fail;rw [EV.out];refine HD.out.mono ?_;rintro e w3 ⟨rfl,b3⟩;have G3 := hid (below_step G.out b3);clear HD b3 EV;go_wp2;go_ret;exact ⟨rfl,G3.out⟩
theorem zCC {w : World} {v u : Value} {z y : Int} {k l : Nat} (h : Zc w v z k) (h' : Zc w u y l) (hzy : z = y) :
  Calls Tryz.prog 23 #[v,u] w fun e w' => e = .returned (.bool true) ∧ Below w.heap.size w w' := by
 subst hzy;obtain ⟨n,xs,a,c,rfl,s0,q0,e0,z0,k0⟩ := h;obtain ⟨m,ys,b,d,rfl,s1,q1,e1,z1,k1⟩ := h';obtain ⟨rfl,rfl⟩ := iv_one (z0.trans z1.symm) q0 q1 e0 e1;obtain ⟨W0,hW⟩ : ∃ W0,(w.alloc (duo (.bool n) (.slice a xs.length c))).alloc (duo (.bool n) (.slice b xs.length d)) = W0 := ⟨_,rfl⟩
 have b0 := (zxA w (duo (.bool n) (.slice a xs.length c)) (duo (.bool n) (.slice b xs.length d))).1;rw [hW] at b0;have P2 : Hid (Duo W0 w.heap.size (.bool n) (.slice a xs.length c)) := by unfold Hid;rw [← hW];exact (Duo.new w _ _).later (by simp) _
 have P3 : Hid (Duo W0 (w.heap.size + 1) (.bool n) (.slice b xs.length d)) := by
  unfold Hid;rw [← hW];have := Duo.new (w.alloc (duo (.bool n) (.slice a xs.length c))) (.bool n) (.slice b xs.length d)
  simpa using this
 have HC := hid (same_yes (s0.now b0) (s1.now b0) rfl);have B0 := hid b0;have x1 := P2.out.c1;have y1 := P3.out.c1;rw [← hW] at x1 y1;have EW := hid hW;have hq : (n == n) = true := by simp
 clear s0 s1 z0 z1 b0 q0 q1 e0 e1 hW;go_enter Tryz.func23,Tryz.ntmps23;go_wp2_with fail;rw [EW.out];refine HC.out.mono ?_;rintro e w1 ⟨rfl,b1⟩;have B1 := hid (below_step B0.out b1);have x0 := (P2.out.step b1).c0;have y0 := (P3.out.step b1).c0;clear b1 HC x1 y1 EW;go_wp2;go_ret;exact ⟨rfl,B1.out⟩
theorem sound12 {w : World} {r c : Int} {a : Option Addr} {l cap : Nat} (hl : l ≤ 1048576) : Calls Tryz.prog 5 #[.agg #[.int .i64 r,.int .i64 c,.slice a l cap]] w (znC w r c l) := by
 have b0 := (alo1 w (.cells #[.int .i64 r,.int .i64 c,.slice a l cap] 24)).1;have P1 := Cel.new w 24 [.int .i64 r,.int .i64 c,.slice a l cap];have x0 := P1.at (i := 0) rfl;have x1 := P1.at (i := 1) rfl;have x2 := P1.at (i := 2) rfl;have G0 := hid b0;clear b0 P1
 by_cases h1 : 0 ≤ r
 case neg =>
  have FIN : Hid (znC w r c l (.returned (.bool false)) (w.alloc (.cells #[.int .i64 r,.int .i64 c,.slice a l cap] 24))) := ⟨false,rfl,⟨(fun e => by cases e),(fun e => by unfold Snd at e;omega)⟩,G0.out⟩
  go_enter Tryz.func5,Tryz.ntmps5;go_wp2;go_ret;exact FIN.out
 by_cases h2 : r ≤ 64
 case neg =>
  have FIN : Hid (znC w r c l (.returned (.bool false)) (w.alloc (.cells #[.int .i64 r,.int .i64 c,.slice a l cap] 24))) := ⟨false,rfl,⟨(fun e => by cases e),(fun e => by unfold Snd at e;omega)⟩,G0.out⟩
  go_enter Tryz.func5,Tryz.ntmps5;go_wp2;go_ret;exact FIN.out
 by_cases h3 : 0 ≤ c
 case neg =>
  have FIN : Hid (znC w r c l (.returned (.bool false)) (w.alloc (.cells #[.int .i64 r,.int .i64 c,.slice a l cap] 24))) := ⟨false,rfl,⟨(fun e => by cases e),(fun e => by unfold Snd at e;omega)⟩,G0.out⟩
  go_enter Tryz.func5,Tryz.ntmps5;go_wp2;go_ret;exact FIN.out
 by_cases h4 : c ≤ 64
 case neg =>
  have FIN : Hid (znC w r c l (.returned (.bool false)) (w.alloc (.cells #[.int .i64 r,.int .i64 c,.slice a l cap] 24))) := ⟨false,rfl,⟨(fun e => by cases e),(fun e => by unfold Snd at e;omega)⟩,G0.out⟩
  go_enter Tryz.func5,Tryz.ntmps5;go_wp2;go_ret;exact FIN.out
 have hm : 0 ≤ r * c ∧ r * c ≤ 64 * 64 := ⟨Int.mul_nonneg h1 h3,Int.mul_le_mul h2 h4 h3 (by omega)⟩
 have hw : IntKind.i64.wrap (r * c) = r * c := by rw [zRA] <;> omega
 obtain ⟨q,hq⟩ : ∃ q,r * c = q := ⟨_,rfl⟩
 have HQ := hid hq;replace hw : IntKind.i64.wrap (r * c) = q := hw.trans hq;have hw2 := hw;rw [IntKind.wrap_i64] at hw2;rw [hq] at hm
 by_cases h5 : (l : Int) = q
 case neg =>
  have h6 : ((l : Int) == q) = false := by simpa using h5
  have FIN : Hid (znC w r c l (.returned (.bool false)) (w.alloc (.cells #[.int .i64 r,.int .i64 c,.slice a l cap] 24))) := ⟨false,rfl,⟨(fun e => by cases e),(fun e => by unfold Snd at e;rw [HQ.out] at e;exact absurd e.2.2.2.2 h5)⟩,G0.out⟩
  clear hq;go_enter Tryz.func5,Tryz.ntmps5;go_wp2;go_ret;exact FIN.out
 case pos =>
  have h6 : ((l : Int) == q) = true := by simpa using h5
  have FIN : Hid (znC w r c l (.returned (.bool true)) (w.alloc (.cells #[.int .i64 r,.int .i64 c,.slice a l cap] 24))) := ⟨true,rfl,⟨fun _ => ⟨h1,h2,h3,h4,h5.trans HQ.out.symm⟩,fun _ => rfl⟩,G0.out⟩
  clear hq;go_enter Tryz.func5,Tryz.ntmps5;go_wp2;go_ret;exact FIN.out
def zGI (w : World) (r c : Int) (a : Option Addr) (l cap : Nat) (s : Bool) : Prop := ∀ w',Below w.heap.size w w' → Calls Tryz.prog 39 #[mrV r c a l cap] w' fun e w'' => e = .returned (.int .i64 (if s = true then 0 else 1)) ∧ Below w'.heap.size w' w''
theorem zGI.now {w w' : World} {r c : Int} {a : Option Addr} {l cap : Nat} {s : Bool} (h : zGI w r c a l cap s) (hb : Below w.heap.size w w') : zGI w' r c a l cap s := fun w'' h2 => h w'' (below_step hb h2)
end Go.Proofs.YtkklldokdnfkgaaGreat
