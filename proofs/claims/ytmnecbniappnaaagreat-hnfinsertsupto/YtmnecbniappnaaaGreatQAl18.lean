import Derived.Test.YtmnecbniappnaaaGreatQMi18
import Derived.Test.YtmnecbniappnaaaGreatQHq18
set_option maxRecDepth 100000
set_option maxHeartbeats 6400000
set_option linter.unusedVariables false
set_option linter.unusedSimpArgs false
namespace Go.Proofs.YtmnecbniappnaaaGreat
open Go.RowKit
def swF (f : Nat → Nat) (i j : Nat) : Nat → Nat := fun t => if t = i then f j else if t = j then f i else f t
theorem gv_swap18 {m n i j : Nat} {gs : Nat → Nat} {r : List Value} (hi : i < m) (hj : j < m) : ((gv17 m n gs ++ r).set i (rowv n (gs j))).set j (rowv n (gs i)) = gv17 m n (swF gs i j) ++ r := by
 rw [List.set_append_left _ _ (by simpa [gv17] using hi),List.set_append_left _ _ (by simpa [gv17] using hj)]
 congr 1
 apply List.ext_getElem?
 intro t
 by_cases q : t < m
 ·have e : (gv17 m n (swF gs i j))[t]? = some (rowv n (swF gs i j t)) := by simp [gv17,q]
  have e0 : (gv17 m n gs)[t]? = some (rowv n (gs t)) := by simp [gv17,q]
  rw [e];unfold swF
  by_cases q2 : t = j
  ·subst q2
   rw [List.getElem?_set_self (by simpa [gv17] using q)]
   by_cases q3 : t = i
   ·subst q3;simp
   ·rw [if_neg q3,if_pos rfl]
  ·rw [List.getElem?_set_ne (Ne.symm q2)]
   by_cases q3 : t = i
   ·subst q3;rw [List.getElem?_set_self (by simpa [gv17] using q),if_pos rfl]
   ·rw [List.getElem?_set_ne (Ne.symm q3),if_neg q3,if_neg q2,e0]
 ·rw [List.getElem?_eq_none (by simp [gv17];omega),List.getElem?_eq_none (by simp [gv17];omega)]
theorem Sh17.swap18 {B m n k Lb cap i j : Nat} {w : World} {gs : Nat → Nat} {X : Nat → Nat → Int} (h : Sh17 B w (.slice (some ⟨Lb,0,none⟩) m cap) m n gs X k) (hi : i < m) (hj : j < m) (hij : i ≠ j) :
  Sh17 B ((w.setCell ⟨Lb,i,none⟩ (rowv n (gs j))).setCell ⟨Lb,j,none⟩ (rowv n (gs i))) (.slice (some ⟨Lb,0,none⟩) m cap) m n (swF gs i j) (swpX X i j) k := by
 obtain ⟨h1,h4,h5⟩ := h;rcases h1 with ⟨_,h1⟩ | ⟨h0,Lb',cap',r,e,e0,e1,e2⟩
 ·cases h1
 simp only [Value.slice.injEq,Option.some.injEq,Addr.mk.injEq,and_true,true_and] at e;obtain ⟨rfl,rfl⟩ := e;have c1 := (e2.set i (rowv n (gs j))).set j (rowv n (gs i));have ty : Ty 22 w ((w.setCell ⟨Lb,i,none⟩ (rowv n (gs j))).setCell ⟨Lb,j,none⟩ (rowv n (gs i))) := (Ty.set e2).trans (Ty.set (e2.set i _));rw [gv_swap18 hi hj] at c1;have inj : ∀ a b,a < m → b < m → swF gs i j a = swF gs i j b → a = b := fun a b ha hb q => by
  unfold swF at q;have f := h4
  by_cases a1 : a = i <;> by_cases b1 : b = i
  ·omega
  ·rw [if_pos a1,if_neg b1] at q
   by_cases b2 : b = j
   ·rw [if_pos b2] at q;exact absurd (f j i hj hi q) (Ne.symm hij)
   ·rw [if_neg b2] at q;exact absurd (f j b hj hb q).symm b2
  ·rw [if_neg a1,if_pos b1] at q
   by_cases a2 : a = j
   ·rw [if_pos a2] at q;exact absurd (f i j hi hj q) hij
   ·rw [if_neg a2] at q;exact absurd (f a j ha hj q) a2
  ·rw [if_neg a1,if_neg b1] at q
   by_cases a2 : a = j <;> by_cases b2 : b = j
   ·omega
   ·rw [if_pos a2,if_neg b2] at q;exact absurd (f i b hi hb q).symm b1
   ·rw [if_neg a2,if_pos b2] at q;exact absurd (f a i ha hi q) a1
   ·rw [if_neg a2,if_neg b2] at q;exact f a b ha hb q
 refine ⟨.inr ⟨h0,Lb,cap,r,rfl,e0,e1,c1⟩,inj,fun t ht => ?_⟩;have key : ∃ s,s < m ∧ swF gs i j t = gs s ∧ swpX X i j t = X s := by
  unfold swF
  by_cases q : t = i
  ·exact ⟨j,hj,if_pos q,by funext c;exact if_pos q⟩
  ·by_cases q2 : t = j
   ·exact ⟨i,hi,by rw [if_neg q,if_pos q2],by funext c;unfold swpX;rw [if_neg q,if_pos q2]⟩
   ·exact ⟨t,ht,by rw [if_neg q,if_neg q2],by funext c;unfold swpX;rw [if_neg q,if_neg q2]⟩
 obtain ⟨s,hs,q1,q2⟩ := key;rw [q1,q2];exact ⟨(h5 s hs).1,(h5 s hs).2.ty ty (by decide) (by decide)⟩
def zlI (B : Nat) (w : World) (Lb m cap n : Nat) (gs : Nat → Nat) (X : Nat → Nat → Int) (k : Nat) (e : Ending) (w' : World) : Prop := e = .returned (.tuple #[]) ∧ Sh17 B w' (.slice (some ⟨Lb,0,none⟩) m cap) m n gs X k ∧ Touch (· = Lb) w w'
theorem along1_18 {B m n k Lb cap i j Ba : Nat} {w : World} {gs : Nat → Nat} {X : Nat → Nat → Int} (hB : Cel w Ba 45 [(.slice (some ⟨Lb,0,none⟩) m cap)]) (h : Sh17 B w (.slice (some ⟨Lb,0,none⟩) m cap) m n gs X k) (hi : i < m) (hj : j < m) (hij : i ≠ j) (hm : m ≤ 65) :
  Calls Tryz.prog 34 #[.int .i64 (i : Int),.int .i64 (j : Int),.pointer (some ⟨Ba,0,none⟩)] w (zlI B w Lb m cap n (swF gs i j) (swpX X i j) k) := by
 have li := (h.line.2.2.2 i hi).1;have fi := (h.line.2.2.2 i hi).2;have lj := (h.line.2.2.2 j hj).1;have fj := (h.line.2.2.2 j hj).2;have FF : Hid (zlI B w Lb m cap n (swF gs i j) (swpX X i j) k (.returned (.tuple #[])) ((w.setCell ⟨Lb,i,none⟩ (rowv n (gs j))).setCell ⟨Lb,j,none⟩ (rowv n (gs i))).drew) := ⟨rfl,(h.swap18 hi hj hij).now ((Below.refl _ _).drew),(((Touch.refl (· = Lb) w).setCell (.inr rfl) _ _).setCell (.inr rfl) _ _).drewN 1⟩
 have b0 := hB.at (i := 0) rfl;have him : (i : Int) < (m : Int) := by omega
 have hjm : (j : Int) < (m : Int) := by omega
 have lj2 : (w.setCell ⟨Lb,i,none⟩ (rowv n (gs j))).cell? ⟨Lb,j,none⟩ = some (rowv n (gs j)) := by
  obtain ⟨h1,-,-⟩ := h;rcases h1 with ⟨_,h1⟩ | ⟨h0,Lb',cap',r,e,e0,e1,e2⟩
  ·cases h1
  simp only [Value.slice.injEq,Option.some.injEq,Addr.mk.injEq,and_true,true_and] at e;obtain ⟨rfl,rfl⟩ := e;exact (e2.set i _).at (by rw [List.getElem?_set_ne hij];exact ztE hj)
 have b1 : (w.setCell ⟨Lb,i,none⟩ (rowv n (gs j))).cell? ⟨Ba,0,none⟩ = some (.slice (some ⟨Lb,0,none⟩) m cap) := by
  obtain ⟨h1,-,-⟩ := h;rcases h1 with ⟨_,h1⟩ | ⟨h0,Lb',cap',r,e,e0,e1,e2⟩
  ·cases h1
  simp only [Value.slice.injEq,Option.some.injEq,Addr.mk.injEq,and_true,true_and] at e;obtain ⟨rfl,rfl⟩ := e;exact (hB.ty13 (Ty.set e2) (by decide)).at (i := 0) rfl
 have HIJ := hid hij;clear h hi hj hB hij;dsimp only [rowv] at *;go_enter Tryz.func34,Tryz.ntmps34;go_wp2_with fail;go_region;go_wp2;go_end0;exact FF.out
def zOI (w : World) (g n : Nat) (R F : Nat → Int) (kw gk : Nat) (s : Value) (wx : World) : Prop := ∃ j : Nat,s = .int .i64 (j : Int) ∧ j ≤ n ∧ gk = n - j ∧ Rw17 wx g n (mx18 R F j) kw ∧ Touch (· = g) w wx
theorem along2_18 {B m n kw Lb cap i Ba : Nat} {w : World} {gs : Nat → Nat} {X : Nat → Nat → Int} (hB : Cel w Ba 45 [(.slice (some ⟨Lb,0,none⟩) m cap)]) (h : Sh17 B w (.slice (some ⟨Lb,0,none⟩) m cap) m n gs X kw) (hi : i < m) (hm : m ≤ 65) (hn : n ≤ 64) :
  Calls Tryz.prog 35 #[.int .i64 (i : Int),.pointer (some ⟨Ba,0,none⟩)] w (zVG w (gs i) n (fun c => - X i c) kw) := by
 obtain ⟨F,hFe⟩ : ∃ F : Nat → Int,(fun c => - X i c) = F := ⟨_,rfl⟩
 have HFj : Hid (∀ j,F j = - X i j) := fun j => by rw [← hFe]
 rw [hFe];obtain ⟨R,hRe⟩ : ∃ R,X i = R := ⟨_,rfl⟩
 rw [hRe] at HFj;obtain ⟨g,hge⟩ : ∃ g,gs i = g := ⟨_,rfl⟩
 have hrow := (h.2.2 i hi).2;rw [hRe,hge] at hrow;have li := (h.line.2.2.2 i hi).1;rw [hge] at li ⊢;have b0 := hB.at (i := 0) rfl;have KS : Hid (∀ wx,Touch (· = g) w wx → wx.cell? ⟨Ba,0,none⟩ = some (.slice (some ⟨Lb,0,none⟩) m cap) ∧ wx.cell? ⟨Lb,i,none⟩ = some (.slice (some ⟨g,0,none⟩) n n)) := fun wx htw => by
  have ty := zsC hrow htw;refine ⟨(hB.ty13 ty (by decide)).at (i := 0) rfl,?_⟩;obtain ⟨h1,-,-⟩ := h;rcases h1 with ⟨_,h1⟩ | ⟨h0,Lb',cap',r,e,e0,e1,e2⟩
  ·cases h1
  simp only [Value.slice.injEq,Option.some.injEq,Addr.mk.injEq,and_true,true_and] at e;obtain ⟨rfl,rfl⟩ := e;have := (e2.ty13 ty (by decide)).at (ztE hi);rw [hge] at this;exact this
 have H0 : Hid (zOI w g n R F kw n (.int .i64 ((0 : Nat) : Int)) w) := ⟨0,rfl,Nat.zero_le _,rfl,hrow.congr fun j hj => by unfold mx18;rw [if_neg (by omega)],Touch.refl _ _⟩
 have FIN : Hid (∀ wx,Rw17 wx g n (mx18 R F n) kw → Touch (· = g) w wx → zVG w g n F kw (.returned (.tuple #[])) wx) := fun wx h1 h2 => ⟨rfl,h1.congr fun j hj => if_pos hj,h2⟩
 have him : (i : Int) < (m : Int) := by omega
 clear hB h hi hFe hRe hge hrow;dsimp only [rowv] at *;go_enter Tryz.func35,Tryz.ntmps35;go_wp2_with fail;clear b0 li
 go_loopg [10] n (fun gk s8 wx => zOI w g n R F kw gk s8 wx)
 case atStart => exact H0.out
 case round =>
  clear H0;obtain ⟨j,rfl,hjn,hgk,hrw,htw⟩ := hrel;have RW := hid hrw;have TW := hid htw;have HG := hid hgk;clear hrw htw hgk
  by_cases hlt : j < n
  ·have hlt' : (j : Int) < (n : Int) := by omega
   obtain ⟨nn,an,ln,cn,q0,q1,-,-,zn⟩ := RW.out.at hlt;rw [show mx18 R F j j = R j from if_neg (by omega)] at zn;obtain ⟨V1,hV⟩ : ∃ V1,wr.alloc (duo (.bool nn) (.slice an ln cn)) = V1 := ⟨_,rfl⟩
   obtain ⟨b,sz1⟩ := alo1 wr (duo (.bool nn) (.slice an ln cn));rw [hV] at b sz1;have PN : Hid (Duo V1 wr.heap.size (.bool nn) (.slice an ln cn)) := by unfold Hid;rw [← hV];exact Duo.new wr _ _
   have RW1 := hid (RW.out.now b);have ZN := hid (zn.now b);have TV1 : Hid (Touch (· = g) w V1) := TW.out.trans (.ofBelow b);have HMM : Hid (n - (j + 1) < gk) := by unfold Hid;rw [HG.out];omega
   have hwj := zVA (i := j) (by omega);have EV := hid hV;have n0 := PN.out.c0;have n1 := PN.out.c1;obtain ⟨k0,k1⟩ := KS.out _ TV1.out;obtain ⟨bn,hbn⟩ : ∃ bn,wr.heap.size = bn := ⟨_,rfl⟩
   rw [hbn] at PN n0 n1;have EBN := hid hbn;clear zn b sz1 hV HG hbn TW RW;go_wp2_with fail;rw [EV.out,EBN.out];clear EV EBN q0 q1;have KB : Hid (∀ w',Below V1.heap.size V1 w' → w'.cell? ⟨Ba,0,none⟩ = some (.slice (some ⟨Lb,0,none⟩) m cap) ∧ w'.cell? ⟨Lb,i,none⟩ = some (.slice (some ⟨g,0,none⟩) n n) ∧ w'.cell? ⟨bn,0,none⟩ = some (.bool nn) ∧ w'.cell? ⟨bn,1,none⟩ = some (.slice an ln cn)) := fun w' h => ⟨cnow h k0,cnow h k1,cnow h n0,cnow h n1⟩
   refine zFA (fun w' => w'.cell? ⟨Ba,0,none⟩ = some (.slice (some ⟨Lb,0,none⟩) m cap) ∧ w'.cell? ⟨Lb,i,none⟩ = some (.slice (some ⟨g,0,none⟩) n n) ∧ w'.cell? ⟨bn,0,none⟩ = some (.bool nn) ∧ w'.cell? ⟨bn,1,none⟩ = some (.slice an ln cn)) 8 (by kernel_rfl) ?_;obtain ⟨D1,hD⟩ : ∃ D1,V1.drew = D1 := ⟨_,rfl⟩
   have GB : Hid (Below V1.heap.size V1 D1) := by unfold Hid;rw [← hD];exact (Below.refl _ _).drew
   rw [hD];clear hD;refine zHA [(0,(.slice (some ⟨Lb,0,none⟩) m cap)),(1,(.int .i64 (i : Int))),(2,(.pointer (some ⟨Lb,i,none⟩))),(3,(.slice (some ⟨g,0,none⟩) n n)),(4,(.int .i64 (j : Int))),(5,(.agg #[.bool nn,.slice an ln cn]))] 6 ?_ (KB.out _ GB.out) ?_
   ·simp only [zSA,gA9,g09,g19,Act.put,sI9,s09,s19]
    (repeat' (first | exact trivial | refine And.intro (Or.inl ⟨by rfl,?_⟩) ?_)) <;> (intro w hSw;(try dsimp only at hSw);go_simp)
   simp only [actV,gA9,g09,g19,Act.put,sI9,s09,s19];refine zAA (i := 6) (o := ⟨some 21,.call { callee := .value (.func 36),args := #[.tmp 20],argTypes := #[40] },40, "hand.go:29",#[⟨5,.data⟩],none⟩) (by kernel_rfl) rfl (fun K hK => ?_);go_simp;go_at_call 36;refine (zbI (ZN.out.now GB.out).zi).mono ?_;rintro e w2 ⟨r2,rfl,m1,b⟩;have lz2 := (show Below _ _ _ from b).size;replace GB := hid (below_step GB.out b);have M2 := hid (m1.mono (Nat.zero_le _));obtain ⟨nr,xr,ar,cr,rfl⟩ := m1.parts;have RW2 := hid (RW1.out.now GB.out);have TV2 : Hid (Touch (· = g) w w2) := TV1.out.trans (.ofBelow GB.out);clear m1;clear b;refine hK.out _ _ (fun _ => KB.out _ GB.out) ?_;clear hK;refine zHA [(7,(.pointer (some ⟨g,j * 2,none⟩)))] 1 ?_ (KB.out _ GB.out) ?_
   ·simp only [zSA,gA9,g09,g19,Act.put,sI9,s09,s19]
    (repeat' (first | exact trivial | refine And.intro (Or.inl ⟨by rfl,?_⟩) ?_)) <;> (intro w hSw;(try dsimp only at hSw);go_simp)
   simp only [actV,gA9,g09,g19,Act.put,sI9,s09,s19];refine zAA (i := 8) (o := ⟨none,.store 40 (.tmp 22) (.tmp 21),0, "hand.go:29",#[⟨7,.data⟩,⟨6,.data⟩,⟨6,.chain⟩,⟨0,.phase⟩,⟨1,.phase⟩,⟨2,.phase⟩,⟨3,.phase⟩,⟨4,.phase⟩,⟨5,.phase⟩,⟨6,.phase⟩],none⟩) (by kernel_rfl) rfl (fun K hK => ?_);obtain ⟨_,_,_,_,e0,e1,e2,e3,-⟩ := RW2.out.at hlt;go_simp;clear e0 e1 e2 e3;obtain ⟨V3,hW⟩ : ∃ V3,((w2.setCell ⟨g,j * 2,none⟩ (.bool nr)).setCell ⟨g,j * 2 + 1,none⟩ (.slice ar xr.length cr)) = V3 := ⟨_,rfl⟩
   have HN1 : Hid (zOI w g n R F kw (n - (j + 1)) (.int .i64 ((j + 1 : Nat) : Int)) V3) := by
    unfold Hid;rw [← hW];have hm := M2.out;rw [← HFj.out j] at hm;exact ⟨j + 1,rfl,by omega,rfl,(RW2.out.put hlt hm).1.congr fun t ht => zND ht,zhB TV2.out _ _⟩
   rw [hW];clear hW;refine hK.out _ _ (fun h => absurd h (by decide)) ?_;clear hK
   try simp only [Act.put]
   refine zDA (by kernel_rfl) ?_ _;clear GB KB M2 RW2 TV2 PN RW1 ZN TV1 n0 n1 k0 k1;go_wp2_with fail;go_roundg (n - (j + 1))
   case rel => exact HN1.out
   case measure => exact HMM.out
  ·have hlt' : ¬ (j : Int) < (n : Int) := by omega
   obtain rfl : j = n := by omega
   have FF := hid (FIN.out wr RW.out TW.out);clear RW TW HG FIN;go_wp2;go_end0;exact FF.out
theorem along3_18 {B m n kw l Lb cap i j Ba lt ct : Nat} {w : World} {nt : Bool} {at0 : Option Addr} {s : Int} {gs : Nat → Nat} {X : Nat → Nat → Int} (hB : Cel w Ba 45 [(.slice (some ⟨Lb,0,none⟩) m cap)]) (h : Sh17 B w (.slice (some ⟨Lb,0,none⟩) m cap) m n gs X kw) (hi : i < m) (hj : j < m) (hij : i ≠ j) (ht : Zm 0 w (.agg #[.bool nt,.slice at0 lt ct]) s l)
  (hF : ∀ c,c < n → ((X i c - s * X j c).natAbs : Int) < pw kw) (hm : m ≤ 65) (hn : n ≤ 64) (hK : l + kw < 35184372088000) :
  Calls Tryz.prog 37 #[.int .i64 (i : Int),.int .i64 (j : Int),.agg #[.bool nt,.slice at0 lt ct],.pointer (some ⟨Ba,0,none⟩)] w (zVG w (gs i) n (fun c => X i c - s * X j c) kw) := by
 obtain ⟨V0,hV0⟩ : ∃ V0,w.alloc (duo (.bool nt) (.slice at0 lt ct)) = V0 := ⟨_,rfl⟩
 obtain ⟨b0,sz0⟩ := alo1 w (duo (.bool nt) (.slice at0 lt ct));rw [hV0] at b0 sz0;have dT : Duo V0 w.heap.size (.bool nt) (.slice at0 lt ct) := by rw [← hV0];exact Duo.new w _ _
 have SH := hid (h.now b0);have k0 := (hB.step b0).at (i := 0) rfl;have li := (SH.out.line.2.2.2 i hi).1;have lj := (SH.out.line.2.2.2 j hj).1;have ZT := hid (ht.now b0);have t0 := dT.c0;have t1 := dT.c1;have HF := hid hF;have HK := hid hK;have B0 := hid b0;have EV0 := hid hV0;have HI := hid (show i < m ∧ j < m ∧ i ≠ j from ⟨hi,hj,hij⟩);have him : (i : Int) < (m : Int) := by omega
 have hjm : (j : Int) < (m : Int) := by omega
 obtain ⟨bx,hbx⟩ : ∃ bx,w.heap.size = bx := ⟨_,rfl⟩
 rw [hbx] at t0 t1;have EBX := hid hbx;clear hB h hi hj hij ht hF hK b0 sz0 hV0 dT hbx;dsimp only [rowv] at *;go_enter Tryz.func37,Tryz.ntmps37;go_wp2_with fail;rw [EV0.out,EBX.out];have KB : Hid (∀ w',Below V0.heap.size V0 w' → w'.cell? ⟨Ba,0,none⟩ = some (.slice (some ⟨Lb,0,none⟩) m cap) ∧ w'.cell? ⟨Lb,i,none⟩ = some (.slice (some ⟨gs i,0,none⟩) n n) ∧ w'.cell? ⟨Lb,j,none⟩ = some (.slice (some ⟨gs j,0,none⟩) n n) ∧ w'.cell? ⟨bx,0,none⟩ = some (.bool nt) ∧ w'.cell? ⟨bx,1,none⟩ = some (.slice at0 lt ct)) := fun w' h => ⟨cnow h k0,cnow h li,cnow h lj,cnow h t0,cnow h t1⟩
 refine zFA (fun w' => w'.cell? ⟨Ba,0,none⟩ = some (.slice (some ⟨Lb,0,none⟩) m cap) ∧ w'.cell? ⟨Lb,i,none⟩ = some (.slice (some ⟨gs i,0,none⟩) n n) ∧ w'.cell? ⟨Lb,j,none⟩ = some (.slice (some ⟨gs j,0,none⟩) n n) ∧ w'.cell? ⟨bx,0,none⟩ = some (.bool nt) ∧ w'.cell? ⟨bx,1,none⟩ = some (.slice at0 lt ct)) 9 (by kernel_rfl) ?_;obtain ⟨D1,hD⟩ : ∃ D1,V0.drew = D1 := ⟨_,rfl⟩
 have GB : Hid (Below V0.heap.size V0 D1) := by unfold Hid;rw [← hD];exact (Below.refl _ _).drew
 rw [hD];clear hD;refine zHA [(0,(.slice (some ⟨Lb,0,none⟩) m cap)),(1,(.int .i64 (i : Int))),(2,(.pointer (some ⟨Lb,i,none⟩))),(3,(.slice (some ⟨gs i,0,none⟩) n n)),(4,(.slice (some ⟨Lb,0,none⟩) m cap)),(5,(.int .i64 (j : Int))),(6,(.pointer (some ⟨Lb,j,none⟩))),(7,(.slice (some ⟨gs j,0,none⟩) n n)),(8,(.agg #[.bool nt,.slice at0 lt ct]))] 9 ?_ (KB.out _ GB.out) ?_
 ·simp only [zSA,gA9,g09,g19,Act.put,sI9,s09,s19]
  (repeat' (first | exact trivial | refine And.intro (Or.inl ⟨by rfl,?_⟩) ?_)) <;> (intro w hSw;(try dsimp only at hSw);go_simp)
 simp only [actV,gA9,g09,g19,Act.put,sI9,s09,s19];refine zAA (i := 9) (o := ⟨some 16,.call { callee := .value (.func 38),args := #[.tmp 10,.tmp 14,.tmp 15],argTypes := #[22,22,40] },0, "hand.go:32",#[⟨3,.data⟩,⟨7,.data⟩,⟨8,.data⟩],none⟩) (by kernel_rfl) rfl (fun K hK => ?_);have BD := GB;go_simp;go_at_call 38;refine (takeOff18 ((SH.out.now GB.out).2.2 i HI.out.1).2 ((SH.out.now GB.out).2.2 j HI.out.2.1).2 (fun q => HI.out.2.2 (SH.out.2.1 i j HI.out.1 HI.out.2.1 q)) (ZT.out.now GB.out) HF.out hn HK.out).mono ?_;rintro e w9 ⟨rfl,hr,ht⟩;have FF : Hid (zVG w (gs i) n (fun c => X i c - s * X j c) kw (.returned (.tuple #[])) w9) := ⟨rfl,hr,(Touch.ofBelow (below_step B0.out BD.out)).trans ht⟩
 refine hK.out _ _ (fun h => absurd h (by decide)) ?_;clear hK;refine zDA (by kernel_rfl) ?_ _;clear GB BD KB ZT SH k0 li lj t0 t1 hr ht;go_wp2;go_end0;exact FF.out
theorem along4_18 {B m n kw l Lb cap i j Ba lx cx ly cy lu cu lv cv : Nat} {w : World} {nx ny nu nv : Bool} {ax ay au av : Option Addr} {x y u v : Int} {gs : Nat → Nat} {X : Nat → Nat → Int} (hB : Cel w Ba 45 [(.slice (some ⟨Lb,0,none⟩) m cap)]) (h : Sh17 B w (.slice (some ⟨Lb,0,none⟩) m cap) m n gs X kw) (hi : i < m) (hj : j < m) (hij : i ≠ j)
  (hx : Zm 0 w (.agg #[.bool nx,.slice ax lx cx]) x l) (hy : Zm 0 w (.agg #[.bool ny,.slice ay ly cy]) y l) (hu : Zm 0 w (.agg #[.bool nu,.slice au lu cu]) u l) (hv : Zm 0 w (.agg #[.bool nv,.slice av lv cv]) v l)
  (hF : ∀ c,c < n → ((x * X i c + y * X j c).natAbs : Int) < pw kw) (hG : ∀ c,c < n → ((u * X i c + v * X j c).natAbs : Int) < pw kw) (hm : m ≤ 65) (hn : n ≤ 64) (hK : l + kw < 1099511600000) :
  Calls Tryz.prog 39 #[.int .i64 (i : Int),.int .i64 (j : Int),.agg #[.bool nx,.slice ax lx cx,.bool ny,.slice ay ly cy,.bool nu,.slice au lu cu,.bool nv,.slice av lv cv],.pointer (some ⟨Ba,0,none⟩)] w (zeH w (gs i) (gs j) n (fun c => x * X i c + y * X j c) (fun c => u * X i c + v * X j c) kw) := by
 obtain ⟨V0,hV0⟩ : ∃ V0,w.alloc (.cells #[.bool nx,.slice ax lx cx,.bool ny,.slice ay ly cy,.bool nu,.slice au lu cu,.bool nv,.slice av lv cv] 81) = V0 := ⟨_,rfl⟩
 obtain ⟨b0,sz0⟩ := alo1 w (.cells #[.bool nx,.slice ax lx cx,.bool ny,.slice ay ly cy,.bool nu,.slice au lu cu,.bool nv,.slice av lv cv] 81);rw [hV0] at b0 sz0;have dB : Cel V0 w.heap.size 81 [.bool nx,.slice ax lx cx,.bool ny,.slice ay ly cy,.bool nu,.slice au lu cu,.bool nv,.slice av lv cv] := by rw [← hV0];exact Cel.new w _ _
 have SH := hid (h.now b0);have k0 := (hB.step b0).at (i := 0) rfl;have li := (SH.out.line.2.2.2 i hi).1;have lj := (SH.out.line.2.2.2 j hj).1;have ZX := hid (hx.now b0);have ZY := hid (hy.now b0);have ZU := hid (hu.now b0);have ZV := hid (hv.now b0);have y0 := dB.at (i := 0) rfl;have y1 := dB.at (i := 1) rfl;have y2 := dB.at (i := 2) rfl;have y3 := dB.at (i := 3) rfl;have y4 := dB.at (i := 4) rfl;have y5 := dB.at (i := 5) rfl;have y6 := dB.at (i := 6) rfl;have y7 := dB.at (i := 7) rfl;have HF := hid hF;have HG := hid hG;have HK := hid hK;have B0 := hid b0;have EV0 := hid hV0;have HI := hid (show i < m ∧ j < m ∧ i ≠ j from ⟨hi,hj,hij⟩);have him : (i : Int) < (m : Int) := by omega
 have hjm : (j : Int) < (m : Int) := by omega
 obtain ⟨bx,hbx⟩ : ∃ bx,w.heap.size = bx := ⟨_,rfl⟩
 rw [hbx] at y0 y1 y2 y3 y4 y5 y6 y7;have EBX := hid hbx;clear hB h hi hj hij hx hy hu hv hF hG hK b0 sz0 hV0 dB hbx;dsimp only [rowv] at *;go_enter Tryz.func39,Tryz.ntmps39;go_wp2_with fail;rw [EV0.out,EBX.out];have KB : Hid (∀ w',Below V0.heap.size V0 w' → w'.cell? ⟨Ba,0,none⟩ = some (.slice (some ⟨Lb,0,none⟩) m cap) ∧ w'.cell? ⟨Lb,i,none⟩ = some (.slice (some ⟨gs i,0,none⟩) n n) ∧ w'.cell? ⟨Lb,j,none⟩ = some (.slice (some ⟨gs j,0,none⟩) n n) ∧ w'.cell? ⟨bx,0,none⟩ = some (.bool nx) ∧ w'.cell? ⟨bx,1,none⟩ = some (.slice ax lx cx) ∧ w'.cell? ⟨bx,2,none⟩ = some (.bool ny) ∧ w'.cell? ⟨bx,3,none⟩ = some (.slice ay ly cy) ∧ w'.cell? ⟨bx,4,none⟩ = some (.bool nu) ∧ w'.cell? ⟨bx,5,none⟩ = some (.slice au lu cu) ∧ w'.cell? ⟨bx,6,none⟩ = some (.bool nv) ∧ w'.cell? ⟨bx,7,none⟩ = some (.slice av lv cv)) := fun w' h => ⟨cnow h k0,cnow h li,cnow h lj,cnow h y0,cnow h y1,cnow h y2,cnow h y3,cnow h y4,cnow h y5,cnow h y6,cnow h y7⟩
 refine zFA (fun w' => w'.cell? ⟨Ba,0,none⟩ = some (.slice (some ⟨Lb,0,none⟩) m cap) ∧ w'.cell? ⟨Lb,i,none⟩ = some (.slice (some ⟨gs i,0,none⟩) n n) ∧ w'.cell? ⟨Lb,j,none⟩ = some (.slice (some ⟨gs j,0,none⟩) n n) ∧ w'.cell? ⟨bx,0,none⟩ = some (.bool nx) ∧ w'.cell? ⟨bx,1,none⟩ = some (.slice ax lx cx) ∧ w'.cell? ⟨bx,2,none⟩ = some (.bool ny) ∧ w'.cell? ⟨bx,3,none⟩ = some (.slice ay ly cy) ∧ w'.cell? ⟨bx,4,none⟩ = some (.bool nu) ∧ w'.cell? ⟨bx,5,none⟩ = some (.slice au lu cu) ∧ w'.cell? ⟨bx,6,none⟩ = some (.bool nv) ∧ w'.cell? ⟨bx,7,none⟩ = some (.slice av lv cv)) 9 (by kernel_rfl) ?_;obtain ⟨D21,hD⟩ : ∃ D21,V0.drew = D21 := ⟨_,rfl⟩
 have GB : Hid (Below V0.heap.size V0 D21) := by unfold Hid;rw [← hD];exact (Below.refl _ _).drew
 rw [hD];clear hD;refine zHA [(0,(.slice (some ⟨Lb,0,none⟩) m cap)),(1,(.int .i64 (i : Int))),(2,(.pointer (some ⟨Lb,i,none⟩))),(3,(.slice (some ⟨gs i,0,none⟩) n n)),(4,(.slice (some ⟨Lb,0,none⟩) m cap)),(5,(.int .i64 (j : Int))),(6,(.pointer (some ⟨Lb,j,none⟩))),(7,(.slice (some ⟨gs j,0,none⟩) n n)),(8,(.agg #[.bool nx,.slice ax lx cx,.bool ny,.slice ay ly cy,.bool nu,.slice au lu cu,.bool nv,.slice av lv cv]))] 9 ?_ (KB.out _ GB.out) ?_
 ·simp only [zSA,gA9,g09,g19,Act.put,sI9,s09,s19]
  (repeat' (first | exact trivial | refine And.intro (Or.inl ⟨by rfl,?_⟩) ?_)) <;> (intro w hSw;(try dsimp only at hSw);go_simp)
 simp only [actV,gA9,g09,g19,Act.put,sI9,s09,s19];refine zAA (i := 9) (o := ⟨some 16,.call { callee := .value (.func 40),args := #[.tmp 10,.tmp 14,.tmp 15],argTypes := #[22,22,81] },0, "hand.go:33",#[⟨3,.data⟩,⟨7,.data⟩,⟨8,.data⟩],none⟩) (by kernel_rfl) rfl (fun K hK => ?_);have BD := GB;go_simp;go_at_call 40;refine (mixLines18 ((SH.out.now GB.out).2.2 i HI.out.1).2 ((SH.out.now GB.out).2.2 j HI.out.2.1).2 (fun q => HI.out.2.2 (SH.out.2.1 i j HI.out.1 HI.out.2.1 q)) (ZX.out.now GB.out) (ZY.out.now GB.out) (ZU.out.now GB.out) (ZV.out.now GB.out) HF.out HG.out hn HK.out).mono ?_;rintro e w9 ⟨rfl,hr,hr2,ht⟩;have FF : Hid (zeH w (gs i) (gs j) n (fun c => x * X i c + y * X j c) (fun c => u * X i c + v * X j c) kw (.returned (.tuple #[])) w9) := ⟨rfl,hr,hr2,(Touch.ofBelow (below_step B0.out BD.out)).trans ht⟩
 refine hK.out _ _ (fun h => absurd h (by decide)) ?_;clear hK;refine zDA (by kernel_rfl) ?_ _;clear GB BD KB ZX ZY ZU ZV SH k0 li lj y0 y1 y2 y3 y4 y5 y6 y7 hr hr2 ht;go_wp2;go_end0;exact FF.out
end Go.Proofs.YtmnecbniappnaaaGreat
