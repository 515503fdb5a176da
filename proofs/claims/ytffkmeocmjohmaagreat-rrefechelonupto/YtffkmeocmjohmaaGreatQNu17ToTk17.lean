/-
 QNu17ToTk17: Nu17, Nz17, Tk17, joined.
-/
import Derived.Test.YtffkmeocmjohmaaGreatQFb17ToLk17
import Derived.Test.YtffkmeocmjohmaaGreatQDim17ToCf8
import Derived.Test.YtffkmeocmjohmaaGreatQExt6ToRf11

set_option maxRecDepth 100000
set_option maxHeartbeats 6400000
set_option linter.unusedVariables false
set_option linter.unusedSimpArgs false
namespace Go.Proofs.YtffkmeocmjohmaaGreat
open Go.RowKit
def zXB (w : World) (z : Int) (e : Ending) (w' : World) : Prop := ∃ a l c,e = .returned (.agg #[.bool false,.slice a l c]) ∧ Zm 0 w' (.agg #[.bool false,.slice a l c]) z 1 ∧ Below w.heap.size w w'
theorem zbD {w : World} : Calls Tryz.prog 51 #[.int .i64 1] w (zXB w 1) := by
 obtain ⟨W0,hW⟩ : ∃ W0,w.alloc (duo (.bool false) (.slice (some ⟨w.heap.size + 1,0,none⟩) 1 1)) = W0 := ⟨_,rfl⟩
 obtain ⟨b0,sz0⟩ := alo1 w (duo (.bool false) (.slice (some ⟨w.heap.size + 1,0,none⟩) 1 1));rw [hW] at b0 sz0;obtain ⟨V,hV⟩ : ∃ V,W0.alloc (.cells #[.int .u64 1] 120) = V := ⟨_,rfl⟩
 obtain ⟨bv,szv⟩ := alo1 W0 (.cells #[.int .u64 1] 120);rw [hV] at bv szv;have hsl : Mine 0 V (.slice (some ⟨W0.heap.size,0,none⟩) 1 1) [1] := by
  refine ⟨zME (by omega) WF.nil,.inr ⟨_,[],1,Nat.zero_le _,by decide,by decide,.inl rfl,rfl,?_⟩⟩;rw [← hV];have := Row.new W0 [1]
  simpa [ws] using this
 rw [sz0] at hsl;have PF : Hid (Duo V w.heap.size (.bool false) (.slice (some ⟨w.heap.size + 1,0,none⟩) 1 1)) := by unfold Hid;refine Duo.step ?_ bv;rw [← hW];exact Duo.new w _ _
 have FIN : Hid (zXB w 1 (.returned (.agg #[.bool false,.slice (some ⟨w.heap.size + 1,0,none⟩) 1 1])) V) := ⟨_,_,_,rfl,⟨false,[1],_,_,rfl,hsl,⟨hsl.1,by decide⟩,by simp,by decide,by simp⟩,zAA b0 bv⟩
 rw [← hV,← hW] at FIN PF;clear b0 sz0 hW bv szv hV hsl;go_enter Tryz.func51,Tryz.ntmps51;go_wp2;exact bodyPost_ret (zvA Tryz.results51 PF.out _ (by rfl)) rfl FIN.out
theorem zFH {w : World} : Calls Tryz.prog 51 #[.int .i64 2] w (zXB w 2) := by
 obtain ⟨W0,hW⟩ : ∃ W0,w.alloc (duo (.bool false) (.slice (some ⟨w.heap.size + 1,0,none⟩) 1 1)) = W0 := ⟨_,rfl⟩
 obtain ⟨b0,sz0⟩ := alo1 w (duo (.bool false) (.slice (some ⟨w.heap.size + 1,0,none⟩) 1 1));rw [hW] at b0 sz0;obtain ⟨V,hV⟩ : ∃ V,W0.alloc (.cells #[.int .u64 2] 120) = V := ⟨_,rfl⟩
 obtain ⟨bv,szv⟩ := alo1 W0 (.cells #[.int .u64 2] 120);rw [hV] at bv szv;have hsl : Mine 0 V (.slice (some ⟨W0.heap.size,0,none⟩) 1 1) [2] := by
  refine ⟨zME (by omega) WF.nil,.inr ⟨_,[],1,Nat.zero_le _,by decide,by decide,.inl rfl,rfl,?_⟩⟩;rw [← hV];have := Row.new W0 [2]
  simpa [ws] using this
 rw [sz0] at hsl;have PF : Hid (Duo V w.heap.size (.bool false) (.slice (some ⟨w.heap.size + 1,0,none⟩) 1 1)) := by unfold Hid;refine Duo.step ?_ bv;rw [← hW];exact Duo.new w _ _
 have FIN : Hid (zXB w 2 (.returned (.agg #[.bool false,.slice (some ⟨w.heap.size + 1,0,none⟩) 1 1])) V) := ⟨_,_,_,rfl,⟨false,[2],_,_,rfl,hsl,⟨hsl.1,by decide⟩,by simp,by decide,by simp⟩,zAA b0 bv⟩
 rw [← hV,← hW] at FIN PF;clear b0 sz0 hW bv szv hV hsl;go_enter Tryz.func51,Tryz.ntmps51;go_wp2;exact bodyPost_ret (zvA Tryz.results51 PF.out _ (by rfl)) rfl FIN.out
theorem zEH {w : World} : Calls Tryz.prog 51 #[.int .i64 3] w (zXB w 3) := by
 obtain ⟨W0,hW⟩ : ∃ W0,w.alloc (duo (.bool false) (.slice (some ⟨w.heap.size + 1,0,none⟩) 1 1)) = W0 := ⟨_,rfl⟩
 obtain ⟨b0,sz0⟩ := alo1 w (duo (.bool false) (.slice (some ⟨w.heap.size + 1,0,none⟩) 1 1));rw [hW] at b0 sz0;obtain ⟨V,hV⟩ : ∃ V,W0.alloc (.cells #[.int .u64 3] 120) = V := ⟨_,rfl⟩
 obtain ⟨bv,szv⟩ := alo1 W0 (.cells #[.int .u64 3] 120);rw [hV] at bv szv;have hsl : Mine 0 V (.slice (some ⟨W0.heap.size,0,none⟩) 1 1) [3] := by
  refine ⟨zME (by omega) WF.nil,.inr ⟨_,[],1,Nat.zero_le _,by decide,by decide,.inl rfl,rfl,?_⟩⟩;rw [← hV];have := Row.new W0 [3]
  simpa [ws] using this
 rw [sz0] at hsl;have PF : Hid (Duo V w.heap.size (.bool false) (.slice (some ⟨w.heap.size + 1,0,none⟩) 1 1)) := by unfold Hid;refine Duo.step ?_ bv;rw [← hW];exact Duo.new w _ _
 have FIN : Hid (zXB w 3 (.returned (.agg #[.bool false,.slice (some ⟨w.heap.size + 1,0,none⟩) 1 1])) V) := ⟨_,_,_,rfl,⟨false,[3],_,_,rfl,hsl,⟨hsl.1,by decide⟩,by simp,by decide,by simp⟩,zAA b0 bv⟩
 rw [← hV,← hW] at FIN PF;clear b0 sz0 hW bv szv hV hsl;go_enter Tryz.func51,Tryz.ntmps51;go_wp2;exact bodyPost_ret (zvA Tryz.results51 PF.out _ (by rfl)) rfl FIN.out
theorem zUH {f : Func} {s1 : Nat} (hr : f.results = #[ResultVar.cell s1 47]) {W : World} {b : Nat} {x0 x1 x2 x3 : Value} (h : Cel W b 47 [x0,x1,x2,x3]) (tmps : Array Value) (ht : tmps[s1]? = some (.pointer (some ⟨b,0,none⟩))) :
  (results f tmps).run Tryz.prog W = .ok (.agg #[x0,x1,x2,x3]) W := by
 simp [results,hr,go_sem,ht,h.at (i := 0) rfl,h.at (i := 1) rfl,h.at (i := 2) rfl,h.at (i := 3) rfl]
def ziH (w : World) (p q : Int) (e : Ending) (w' : World) : Prop := ∃ a1 l1 c1 a2 l2 c2,e = .returned (.agg #[.bool false,.slice a1 l1 c1,.bool false,.slice a2 l2 c2]) ∧ Zm 0 w' (.agg #[.bool false,.slice a1 l1 c1]) p 1 ∧ Zm 0 w' (.agg #[.bool false,.slice a2 l2 c2]) q 1 ∧ Below w.heap.size w w'
theorem zCF {w : World} {p q : Int} (hp : ∀ w : World,Calls Tryz.prog 51 #[.int .i64 p] w (zXB w p)) (hq : ∀ w : World,Calls Tryz.prog 51 #[.int .i64 q] w (zXB w q)) : Calls Tryz.prog 20 #[.int .i64 p,.int .i64 q] w (ziH w p q) := by
 obtain ⟨W0,hW⟩ : ∃ W0,w.alloc (.cells #[.bool false,.slice none 0 0,.bool false,.slice none 0 0] 47) = W0 := ⟨_,rfl⟩
 obtain ⟨b0,sz0⟩ := alo1 w (.cells #[.bool false,.slice none 0 0,.bool false,.slice none 0 0] 47);rw [hW] at b0 sz0;have C0 : Hid (Cel W0 w.heap.size 47 [.bool false,.slice none 0 0,.bool false,.slice none 0 0]) := by unfold Hid;rw [← hW];exact Cel.new w _ _
 have HP := hid (hp W0);have HQ : Hid (∀ w : World,Calls Tryz.prog 51 #[.int .i64 q] w (zXB w q)) := hq;have B0 := hid b0;have EW := hid hW;clear b0 sz0 hW hp hq;go_enter Tryz.func20,Tryz.ntmps20;go_wp2_with fail;rw [EW.out];refine HP.out.mono ?_;rintro e w1 ⟨a1,l1,c1,rfl,z1,b1⟩;have Z1 := hid z1;have H2 := hid (HQ.out w1);clear HP HQ z1 EW;go_wp2_with fail;refine H2.out.mono ?_;rintro e w2 ⟨a2,l2,c2,rfl,z2,b2⟩;have Z1' := hid (Z1.out.now b2);have Z2 := hid z2;have C2 := (C0.out.step b1).step b2;have x0 := C2.at (i := 0) rfl;have x1 := C2.at (i := 1) rfl;have x2 := C2.at (i := 2) rfl;have x3 := C2.at (i := 3) rfl;have f0 := C2.fz 0;have f1 := C2.fz 1;have f2 := C2.fz 2;have f3 := C2.fz 3;obtain ⟨V,hV⟩ : ∃ V,(((w2.setCell ⟨w.heap.size,0,none⟩ (.bool false)).setCell ⟨w.heap.size,1,none⟩ (.slice a1 l1 c1)).setCell ⟨w.heap.size,2,none⟩ (.bool false)).setCell ⟨w.heap.size,3,none⟩ (.slice a2 l2 c2) = V := ⟨_,rfl⟩
 have DR : Hid (Cel V w.heap.size 47 [.bool false,.slice a1 l1 c1,.bool false,.slice a2 l2 c2]) := by unfold Hid;rw [← hV];exact (((C2.set 0 _).set 1 _).set 2 _).set 3 _
 have FF : Hid (ziH w p q (.returned (.agg #[.bool false,.slice a1 l1 c1,.bool false,.slice a2 l2 c2])) V) := by
  have t : Ty 47 w2 V := by rw [← hV];exact (((Ty.set C2).trans (Ty.set (C2.set 0 _))).trans (Ty.set ((C2.set 0 _).set 1 _))).trans (Ty.set (((C2.set 0 _).set 1 _).set 2 _))
  refine ⟨_,_,_,_,_,_,rfl,Z1'.out.ty t (by decide),Z2.out.ty t (by decide),?_⟩;rw [← hV];have h : w.heap.size ≤ w.heap.size := Nat.le_refl _;exact bset (bset (bset (bset (zAA (zAA B0.out b1) b2) h) h) h) h
 have EV := hid hV;clear hV C2 Z1 Z1' Z2 z2 b1 b2 B0 C0 H2;go_wp2;rw [EV.out];exact bodyPost_ret (zUH Tryz.results20 DR.out _ (by rfl)) rfl FF.out
abbrev fnNz17 (sb cb : Nat) : Value := .func (.func 106) #[] #[.pointer (some ⟨sb,0,none⟩),.pointer (some ⟨cb,0,none⟩)]
def zoI (w : World) (z : Int) (e : Ending) (w' : World) : Prop := ∃ b : Bool,e = .returned (.bool b) ∧ (b = true ↔ z ≠ 0) ∧ Below w.heap.size w w'
theorem nz17 {w : World} {sb cb Bs g n c k : Nat} {F : Nat → Int} (h1 : w.cell? ⟨sb,0,none⟩ = some (.pointer (some ⟨Bs,0,none⟩))) (h2 : w.cell? ⟨cb,0,none⟩ = some (.int .i64 (c : Int))) (h3 : w.cell? ⟨Bs,2,none⟩ = some zhA) (hr : Rw17 w g n F k) (hc : c < n) (hn : n ≤ 1048576) :
  Calls Tryz.prog 106 #[.slice (some ⟨g,0,none⟩) n n,.pointer (some ⟨sb,0,none⟩),.pointer (some ⟨cb,0,none⟩)] w (zoI w (F c)) := by
 obtain ⟨ps,hA,hz⟩ := hr;obtain ⟨nx,ax,lx,cx,x0,x1,-,-,zx⟩ := hz.at hA (t := c) (by simp;exact hc);rw [zyA hc] at zx;have ZX := hid zx;have hc' : (c : Int) < (n : Int) := by omega
 clear zx hz hA;go_enter Tryz.func106,Tryz.ntmps106;go_wp2_with fail;have KB : Hid (∀ w',Below w.heap.size w w' → w'.cell? ⟨sb,0,none⟩ = some (.pointer (some ⟨Bs,0,none⟩)) ∧ w'.cell? ⟨cb,0,none⟩ = some (.int .i64 (c : Int)) ∧ w'.cell? ⟨Bs,2,none⟩ = some zhA ∧ w'.cell? ⟨g,c * 2,none⟩ = some (.bool nx) ∧ w'.cell? ⟨g,c * 2 + 1,none⟩ = some (.slice ax lx cx)) := fun w' h => ⟨cnow h h1,cnow h h2,cnow h h3,cnow h x0,cnow h x1⟩
 refine zFA (fun w' => w'.cell? ⟨sb,0,none⟩ = some (.pointer (some ⟨Bs,0,none⟩)) ∧ w'.cell? ⟨cb,0,none⟩ = some (.int .i64 (c : Int)) ∧ w'.cell? ⟨Bs,2,none⟩ = some zhA ∧ w'.cell? ⟨g,c * 2,none⟩ = some (.bool nx) ∧ w'.cell? ⟨g,c * 2 + 1,none⟩ = some (.slice ax lx cx)) 11 (by kernel_rfl) ?_;obtain ⟨D1,hD⟩ : ∃ D1,w.drew = D1 := ⟨_,rfl⟩
 have GB : Hid (Below w.heap.size w D1) := by unfold Hid;rw [← hD];exact (Below.refl _ _).drew
 rw [hD];clear hD;refine zDA [(0,(.pointer (some ⟨Bs,0,none⟩))),(1,(.pointer (some ⟨Bs,0,none⟩))),(2,(.pointer (some ⟨Bs,0,none⟩))),(3,(.pointer (some ⟨Bs,2,none⟩))),(4,zhA),(5,(.slice (some ⟨g,0,none⟩) n n)),(6,(.int .i64 (c : Int))),(7,(.pointer (some ⟨g,c * 2,none⟩))),(8,(.agg #[.bool nx,.slice ax lx cx]))] 9 ?_ (KB.out _ GB.out) ?_
 ·simp only [zJA,gA9,g09,g19,Act.put,sI9,s09,s19]
  (repeat' (first | exact trivial | refine And.intro (Or.inl ⟨by rfl,?_⟩) ?_)) <;> (intro w hSw;(try dsimp only at hSw);go_simp)
 simp only [actV,gA9,g09,g19,Act.put,sI9,s09,s19];refine zBA (i := 9) (o := ⟨some 14,.call { callee := .value (.tmp 9),args := #[.tmp 13],argTypes := #[45] },4, "elimination.go:36",#[⟨4,.data⟩,⟨8,.data⟩],none⟩) (by kernel_rfl) rfl (fun K hK => ?_);go_simp;go_at_call 82;refine (zjI (ZX.out.now GB.out).zi).mono ?_;rintro e w2 ⟨bq,rfl,hbq,b⟩;have lz2 := (show Below _ _ _ from b).size;replace GB := hid (zAA GB.out b);have HBQ := hid hbq;clear hbq;clear b;refine hK.out _ _ (fun _ => KB.out _ GB.out) ?_;clear hK;refine zDA [(10,(.bool (!bq)))] 1 ?_ (KB.out _ GB.out) ?_
 ·simp only [zJA,gA9,g09,g19,Act.put,sI9,s09,s19]
  (repeat' (first | exact trivial | refine And.intro (Or.inl ⟨by rfl,?_⟩) ?_)) <;> (intro w hSw;(try dsimp only at hSw);go_simp)
 simp only [actV,gA9,g09,g19,Act.put,sI9,s09,s19];refine zBA (i := 11) (o := ⟨some 4,.assign (.tmp 15),4, "elimination.go:36",#[⟨10,.data⟩,⟨9,.chain⟩,⟨0,.phase⟩,⟨1,.phase⟩,⟨2,.phase⟩,⟨3,.phase⟩,⟨4,.phase⟩,⟨5,.phase⟩,⟨6,.phase⟩,⟨7,.phase⟩,⟨8,.phase⟩,⟨9,.phase⟩,⟨10,.phase⟩],none⟩) (by kernel_rfl) rfl (fun K hK => ?_);go_simp;refine hK.out _ _ (fun h => absurd h (by decide)) ?_;clear hK
 try simp only [Act.put]
 refine zEA (by kernel_rfl) ?_ _;have FF : Hid (zoI w (F c) (.returned (.bool (!bq))) w2) := by
  refine ⟨_,rfl,?_,GB.out⟩;have h := HBQ.out;cases bq
  ·exact ⟨fun _ q => Bool.false_ne_true (h.2 q),fun _ => rfl⟩
  ·exact ⟨fun q => (Bool.false_ne_true q).elim,fun q => absurd (h.1 rfl) q⟩
 clear GB KB HBQ;go_wp2;go_ret;exact FF.out
def zrF (w : World) (c l : Nat) (R : Nat → Nat → Int) (e : Ending) (w' : World) : Prop := ((e = .returned (.int .i64 (-1)) ∧ ∀ j,j < l → R j c = 0) ∨ ∃ k : Nat,e = .returned (.int .i64 (k : Int)) ∧ k < l ∧ R k c ≠ 0) ∧ Below w.heap.size w w'
def zZI (w : World) (c l : Nat) (R : Nat → Nat → Int) (gk : Nat) (s : Value) (wx : World) : Prop := ∃ i : Nat,s = .int .i64 (i : Int) ∧ i ≤ l ∧ gk = l - i ∧ (∀ j,j < i → R j c = 0) ∧ Below w.heap.size w wx
theorem zPH {w : World} {sb cb Bs n c l cap kw : Nat} {a : Option Addr} {R : Nat → Nat → Int} (h1 : w.cell? ⟨sb,0,none⟩ = some (.pointer (some ⟨Bs,0,none⟩))) (h2 : w.cell? ⟨cb,0,none⟩ = some (.int .i64 (c : Int))) (h3 : w.cell? ⟨Bs,2,none⟩ = some zhA) (hc : c < n) (hn : n ≤ 1048576) (hl : l ≤ 1048576) (hlc : l ≤ cap)
  (ha : 0 < l → ∃ Lb off,a = some ⟨Lb,off,none⟩ ∧ ∀ j,j < l → ∃ g,w.cell? ⟨Lb,off + j,none⟩ = some (rowv n g) ∧ Rw17 w g n (R j) kw) :
  Calls Tryz.prog 105 #[.slice a l cap,fnNz17 sb cb] w (zrF w c l R) := by
 have HA := hid ha;have HB1 := hid h1;have HB2 := hid h2;have HB3 := hid h3;have HC := hid hc;have H0 : Hid (zZI w c l R l (.int .i64 0) w) := ⟨0,rfl,Nat.zero_le _,rfl,fun j hj => by omega,Below.refl _ _⟩
 clear ha h1 h2 h3 hc;go_enter Tryz.func105,Tryz.ntmps105;go_wp2_with fail
 go_loopg [8] l (fun gk s8 wx => zZI w c l R gk s8 wx)
 case atStart => exact H0.out
 case round =>
  clear H0;obtain ⟨i,rfl,hi,hg,hz,hb⟩ := hrel;have HZ := hid hz;have HG := hid hg;have G := hid hb;clear hz hg hb
  by_cases hlt : i < l
  ·have hlt' : (i : Int) < (l : Int) := by omega
   obtain ⟨L,off,rfl,hel⟩ := HA.out (by omega);obtain ⟨g,k0,hrow⟩ := hel i hlt;replace k0 := cnow G.out k0;have HS := hid (nz17 (cnow G.out HB1.out) (cnow G.out HB2.out) (cnow G.out HB3.out) (hrow.now G.out) HC.out hn);have hw := zVA (i := i) (by omega);clear hel hrow;go_wp2_with fail;refine HS.out.mono ?_;rintro e w1 ⟨bq,rfl,hbq,b⟩;have HBQ := hid hbq;have G1 := hid (zAA G.out b);clear hbq b HS G k0;cases bq with
   | false =>
    have HN : Hid (zZI w c l R (l - (i + 1)) (.int .i64 ((i + 1 : Nat) : Int)) w1) := ⟨i + 1,rfl,by omega,rfl,fun j hj => by
     by_cases q : j < i
     ·exact HZ.out j q
     ·obtain rfl : j = i := by omega
      exact Classical.byContradiction fun q => Bool.false_ne_true (HBQ.out.2 q),G1.out⟩
    have HMM : Hid (l - (i + 1) < gk) := by unfold Hid;rw [HG.out];omega
    clear HBQ G1 HZ HG;go_wp2_with fail;go_roundg (l - (i + 1))
    case rel => exact HN.out
    case measure => exact HMM.out
   | true =>
    have FF : Hid (zrF w c l R (.returned (.int .i64 (i : Int))) w1) := ⟨.inr ⟨i,rfl,hlt,HBQ.out.1 rfl⟩,G1.out⟩
    clear HBQ G1 HZ HG;go_wp2;go_ret;exact FF.out
  ·have hlt' : ¬ (i : Int) < (l : Int) := by omega
   have FF : Hid (zrF w c l R (.returned (.int .i64 (-1))) wr) := ⟨.inl ⟨rfl,fun j hj => HZ.out j (by omega)⟩,G.out⟩
   clear HZ HG G;go_wp2;go_ret;exact FF.out
theorem slice_top17 (w : World) (L n cap lo : Nat) (h : lo ≤ n) (h1 : n ≤ cap) : ∃ a2 cap2,(Instr.slice 62 (.slice (some ⟨L,0,none⟩) n cap) (some (.int .i64 (lo : Int))) none none).run Tryz.prog w = .ok (.slice a2 (n - lo) cap2) w ∧ n - lo ≤ cap2 ∧ (0 < n - lo → a2 = some ⟨L,lo,none⟩) := by
 have i1 : (0 : Int) ≤ (lo : Int) := by omega
 have i2 : (lo : Int) ≤ (n : Int) := by omega
 have i3 : (n : Int) ≤ (cap : Int) := by omega
 by_cases q : cap = lo
 ·obtain rfl : n = lo := by omega
  subst q;refine ⟨some ⟨L,0,none⟩,0,?_,by omega,fun z => by omega⟩;go_simp
 ·refine ⟨some ⟨L,lo,none⟩,cap - lo,?_,by omega,fun _ => rfl⟩
  go_simp
section
variable {P : Program} {ops : Array Oper} {Q : Exit → Act → World → Prop} {md : Region.Mode} {S : World → Prop} {X : List Nat}
def zmG (md : Region.Mode) (ops : Array Oper) (Y : List Nat) (j : Nat) : Bool := match ops[j]? with
 | some oj => oj.after.toList.any (fun e => Region.binds md e && Y.contains e.on)
 | none => false
theorem wpAnyX_firstK {i : Nat} {oi : Oper} {v : Value} (K : List Nat) (hi : ops[i]? = some oi) (hsel : ∀ (j : Nat) (o : Oper) cs b,ops[j]? = some o → o.op ≠ .select cs b)
  (hQ : ∀ c a w,Q (.panic c) (a.put oi.dst v) w → Q (.panic c) a w) (hK : ∀ j,j ∈ K ∨ j ∈ X → zmG md ops (i :: K) j = true) :
  ∀ (fuel : Nat) (listed : Array Bool) (a : Act) (w : World),(∀ k ∈ K,listed.getD k true = false) →
   (∀ j oj,ops[j]? = some oj → j ≠ i → listed.getD j true = false → (∀ e ∈ oj.after,Region.binds md e = true → e.on ≠ i) → oi.apart ops oj = true) →
   i ∈ Region.ready md ops listed → YieldsIf P ops S oi v a → S w →
   zbB P md ops Q S X fuel (listed.setIfInBounds i true) (a.put oi.dst v) w → zbB P md ops Q S X (fuel + 1) listed a w := by
 intro fuel
 induction fuel with
 | zero =>
  intro listed a w _ _ hr hy hS H;refine ⟨fun h => (by rw [h] at hr;cases hr),fun j hj => ?_⟩
  by_cases hji : j = i
  ·subst hji;exact hy.wpOp hi hS ⟨fun _ h => h,H⟩
  ·have := ready_mono hj hji
   rw [H.1] at this;cases this
 | succ fuel ih =>
  intro listed a w hun0 hfree hr hy hS H;refine ⟨fun h => (by rw [h] at hr;cases hr),fun j hj => ?_⟩
  by_cases hji : j = i
  ·subst hji;exact hy.wpOp hi hS ⟨fun _ h => h,H⟩
  ·have h1 := H.2 j (ready_mono hj hji)
   obtain ⟨hjun,oj,hoj,hall⟩ := mem_ready.1 hj;have h0 := (mem_ready.1 hr).1;have hnotl : ∀ e ∈ oj.after,Region.binds md e = true → listed.getD e.on true = false → False := fun e he hb heq => by
    have h1 := hall e he hb;rcases Nat.lt_or_ge e.on listed.size with h' | h'
    ·simp [h'] at heq h1;rw [heq] at h1;cases h1
    ·simp [Array.getElem?_eq_none h'] at h1
   have hnot : ∀ e ∈ oj.after,Region.binds md e = true → e.on ≠ i := fun e he hb heq => hnotl e he hb (by rw [heq];exact h0)
   have hno : ¬ (j ∈ K ∨ j ∈ X) := fun q => by
    have h2 := hK j q;unfold zmG at h2;rw [hoj] at h2;obtain ⟨e,he,hb⟩ := List.any_eq_true.1 h2;simp only [Bool.and_eq_true,List.contains_iff_mem,List.mem_cons] at hb;rcases hb.2 with q | q
    ·exact hnot e (Array.mem_toList_iff.1 he) hb.1 q
    ·exact hnotl e (Array.mem_toList_iff.1 he) hb.1 (hun0 _ q)
   have hxc : X.contains j = false := by
    cases hc : X.contains j with
    | false => rfl
    | true => exact absurd (.inr (by simpa using hc)) hno
   have h2 := wpOp_putIf hoj (hfree j oj hoj hji hjun hnot) (fun cs b => hsel i oi cs b hi) (fun cs b => hsel j oj cs b hoj) hQ hy h1;have hun' : ∀ k ∈ K,(listed.setIfInBounds j true).getD k true = false := fun k hk => by
    have hjk : j ≠ k := fun e => hno (.inl (by rw [e];exact hk))
    rw [getD_set_ne true hjk];exact hun0 k hk
   have hfree' : ∀ k ok,ops[k]? = some ok → k ≠ i → (listed.setIfInBounds j true).getD k true = false →
     (∀ e ∈ ok.after,Region.binds md e = true → e.on ≠ i) → oi.apart ops ok = true := fun k ok hk hki hun hno => by
    refine hfree k ok hk hki ?_ hno
    by_cases hjk : j = k
    ·subst hjk;exact hjun
    ·rw [getD_set_ne true hjk] at hun;exact hun
   refine wpOp_mono (fun a' w' h3 => ⟨h3.2.1,ih (listed.setIfInBounds j true) a' w' hun' hfree' (ready_mono hr (Ne.symm hji)) h3.1 (h3.2.1 hxc hS) ?_⟩) h2;rw [Array.setIfInBounds_comm _ _ hji];exact h3.2.2
theorem zZA (K : List Nat) {i : Nat} {oi : Oper} {v : Value} {fuel : Nat} {listed : Array Bool} {a : Act} {w : World} (hi : ops[i]? = some oi)
  (hok : (Region.noSelect ops && Region.free md ops listed i && (Region.ready md ops listed).contains i && K.all (fun k => !(listed.getD k true)) && (K ++ X).all (zmG md ops (i :: K))) = true)
  (hQ : ∀ c a w,Q (.panic c) (a.put oi.dst v) w → Q (.panic c) a w) (hy : YieldsIf P ops S oi v a) (hS : S w)
  (h : zbB P md ops Q S X fuel (listed.setIfInBounds i true) (a.put oi.dst v) w) : zbB P md ops Q S X (fuel + 1) listed a w := by
 simp only [Bool.and_eq_true] at hok;obtain ⟨⟨⟨⟨h1,h2⟩,h3⟩,h4⟩,h5⟩ := hok;refine wpAnyX_firstK K hi (Region.noSelect_spec h1) hQ (fun j hj => List.all_eq_true.1 h5 j (List.mem_append.2 hj)) fuel listed a w (fun k hk => ?_) (Region.free_spec hi h2) (by simpa using h3) hy hS h;have := List.all_eq_true.1 h4 k hk
 simpa using this
end
end Go.Proofs.YtffkmeocmjohmaaGreat
