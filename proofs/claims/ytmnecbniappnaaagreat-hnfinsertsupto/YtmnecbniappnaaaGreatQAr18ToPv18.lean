/-
 QAr18ToPv18: Ar18, Ix18, Pv18, joined.
-/
import Derived.Test.YtmnecbniappnaaaGreatQRe18
import Derived.Test.YtmnecbniappnaaaGreatQTailLToTo18
import Derived.Test.YtmnecbniappnaaaGreatQZOnesToZCmp
import Derived.Test.YtmnecbniappnaaaGreatQTl19ToHs18
import Derived.Test.YtmnecbniappnaaaGreatQDz12ToRl17

set_option maxRecDepth 100000
set_option maxHeartbeats 6400000
set_option linter.unusedVariables false
set_option linter.unusedSimpArgs false
namespace Go.Proofs.YtmnecbniappnaaaGreat
open Go.RowKit
abbrev zxG (bc bp : Nat) : Value := .func (.func 82) #[] #[.pointer (some ⟨bc,0,none⟩),.pointer (some ⟨bp,0,none⟩)]
theorem red1_18 {w : World} {g n k c bc bp : Nat} {F : Nat → Int} {np : Bool} {ap : Option Addr} {lp cp : Nat} {y : Int} (h : Rw17 w g n F k) (hc : c < n) (pc : w.cell? ⟨bc,0,none⟩ = some (.int .i64 (c : Int))) (pp : Duo w bp (.bool np) (.slice ap lp cp)) (hy : Zm 0 w (.agg #[.bool np,.slice ap lp cp]) y k) :
  Calls Tryz.prog 82 #[.slice (some ⟨g,0,none⟩) n n,.pointer (some ⟨bc,0,none⟩),.pointer (some ⟨bp,0,none⟩)] w fun e w' => e = .returned (.bool (!decide (0 ≤ F c ∧ F c < y))) ∧ Below w.heap.size w w' := by
 obtain ⟨m,a,l,q,k0,k1,-,-,zf⟩ := h.at hc;obtain ⟨bb,hbb⟩ : ∃ bb,decide (0 ≤ F c ∧ F c < y) = bb := ⟨_,rfl⟩
 have HSF : Hid (∀ w',Below w.heap.size w w' → Calls Tryz.prog 83 #[.agg #[.bool m,.slice a l q],.agg #[.bool np,.slice ap lp cp]] w' fun e w'' => e = .returned (.bool bb) ∧ Below w'.heap.size w' w'') := fun w' b => by
  have := zpD (zf.now b) (hy.now b);rw [hbb] at this;exact this
 rw [hbb];have hc' : (c : Int) < (n : Int) := by omega
 have p0 := pp.c0;have p1 := pp.c1;clear h hy zf pp hbb;go_enter Tryz.func82,Tryz.ntmps82;go_wp2_with fail;have KB : Hid (∀ w',Below w.heap.size w w' → w'.cell? ⟨bc,0,none⟩ = some (.int .i64 (c : Int)) ∧ w'.cell? ⟨g,c * 2,none⟩ = some (.bool m) ∧ w'.cell? ⟨g,c * 2 + 1,none⟩ = some (.slice a l q) ∧ w'.cell? ⟨bp,0,none⟩ = some (.bool np) ∧ w'.cell? ⟨bp,1,none⟩ = some (.slice ap lp cp)) := fun w' h => ⟨cnow h pc,cnow h k0,cnow h k1,cnow h p0,cnow h p1⟩
 refine zFA (fun w' => w'.cell? ⟨bc,0,none⟩ = some (.int .i64 (c : Int)) ∧ w'.cell? ⟨g,c * 2,none⟩ = some (.bool m) ∧ w'.cell? ⟨g,c * 2 + 1,none⟩ = some (.slice a l q) ∧ w'.cell? ⟨bp,0,none⟩ = some (.bool np) ∧ w'.cell? ⟨bp,1,none⟩ = some (.slice ap lp cp)) 7 (by kernel_rfl) ?_;obtain ⟨D1,hD⟩ : ∃ D1,w.drew = D1 := ⟨_,rfl⟩
 have GB : Hid (Below w.heap.size w D1) := by unfold Hid;rw [← hD];exact (Below.refl _ _).drew
 rw [hD];clear hD;refine zHA [(0,(.slice (some ⟨g,0,none⟩) n n)),(1,(.int .i64 (c : Int))),(2,(.pointer (some ⟨g,c * 2,none⟩))),(3,(.agg #[.bool m,.slice a l q])),(4,(.agg #[.bool np,.slice ap lp cp]))] 5 ?_ (KB.out _ GB.out) ?_
 ·simp only [zSA,gA9,g09,g19,Act.put,sI9,s09,s19]
  (repeat' (first | exact trivial | refine And.intro (Or.inl ⟨by rfl,?_⟩) ?_)) <;> (intro w hSw;(try dsimp only at hSw);go_simp)
 simp only [actV,gA9,g09,g19,Act.put,sI9,s09,s19];refine zAA (i := 5) (o := ⟨some 10,.call { callee := .value (.func 83),args := #[.tmp 8,.tmp 9],argTypes := #[40,40] },4, "lines.go:75",#[⟨3,.data⟩,⟨4,.data⟩],none⟩) (by kernel_rfl) rfl (fun K hK => ?_);go_simp;go_at_call 83;refine (HSF.out _ GB.out).mono ?_;rintro e w2 ⟨rfl,b⟩;have lz2 := (show Below _ _ _ from b).size;replace GB := hid (below_step GB.out b);have G := GB;clear b;refine hK.out _ _ (fun _ => KB.out _ GB.out) ?_;clear hK;refine zHA [(6,(.bool (!bb)))] 1 ?_ (KB.out _ GB.out) ?_
 ·simp only [zSA,gA9,g09,g19,Act.put,sI9,s09,s19]
  (repeat' (first | exact trivial | refine And.intro (Or.inl ⟨by rfl,?_⟩) ?_)) <;> (intro w hSw;(try dsimp only at hSw);go_simp)
 simp only [actV,gA9,g09,g19,Act.put,sI9,s09,s19];refine zAA (i := 7) (o := ⟨some 4,.assign (.tmp 11),4, "lines.go:75",#[⟨6,.data⟩,⟨5,.chain⟩,⟨0,.phase⟩,⟨1,.phase⟩,⟨2,.phase⟩,⟨3,.phase⟩,⟨4,.phase⟩,⟨5,.phase⟩,⟨6,.phase⟩],none⟩) (by kernel_rfl) rfl (fun K hK => ?_);go_simp;refine hK.out _ _ (fun h => absurd h (by decide)) ?_;clear hK
 try simp only [Act.put]
 refine zDA (by kernel_rfl) ?_ _;clear GB KB HSF k0 k1 p0 p1 pc;go_wp2;go_ret;exact ⟨rfl,G.out⟩
def zXI (w : World) (X : Nat → Nat → Int) (c : Nat) (y : Int) (n gk : Nat) (s : Value) (wx : World) : Prop := ∃ i : Nat,s = .int .i64 (i : Int) ∧ i ≤ n ∧ gk = n - i ∧ (∀ t,t < i → 0 ≤ X t c ∧ X t c < y) ∧ Below w.heap.size w wx
def zkH (w : World) (X : Nat → Nat → Int) (c : Nat) (y : Int) (n : Nat) (e : Ending) (w' : World) : Prop := ∃ r : Int,e = .returned (.int .i64 r) ∧ (r < 0 ↔ ∀ t,t < n → 0 ≤ X t c ∧ X t c < y) ∧ Below w.heap.size w w'
theorem indexR18 {w : World} {B m n k c bc bp Lb cap i0 : Nat} {gs : Nat → Nat} {X : Nat → Nat → Int} {np : Bool} {ap : Option Addr} {lp cp : Nat} {y : Int} (h : Sh17 B w (.slice (some ⟨Lb,0,none⟩) m cap) m n gs X k) (hi0 : i0 ≤ m) (hm : m ≤ 64) (hc : c < n) (pc : Cel w bc 3 [.int .i64 (c : Int)]) (pp : Duo w bp (.bool np) (.slice ap lp cp)) (hy : Zm 0 w (.agg #[.bool np,.slice ap lp cp]) y k) :
  Calls Tryz.prog 102 #[.slice (some ⟨Lb,0,none⟩) i0 cap,zxG bc bp] w (zkH w X c y i0) := by
 have HSH := hid h;have HPC := hid pc;have HPP := hid pp;have HY := hid hy;have HHC := hid hc;clear h pc pp hy;have H0 : Hid (zXI w X c y i0 i0 (.int .i64 0) w) := ⟨0,rfl,Nat.zero_le _,rfl,fun j hj => by omega,Below.refl _ _⟩
 go_enter Tryz.func102,Tryz.ntmps102;go_wp2_with fail
 go_loopg [8] i0 (fun g s8 wx => zXI w X c y i0 g s8 wx)
 case atStart => exact H0.out
 case round =>
  clear H0;obtain ⟨i,rfl,hin,hg,hz,bl⟩ := hrel;have HG := hid hg;have HZ := hid hz;have BL := hid bl;clear hg hz bl
  by_cases hlt : i < i0
  ·have hlt' : (i : Int) < (i0 : Int) := by omega
   have sh := HSH.out.now BL.out;have k0 := sh.lineS (i := i) (by omega);have HS := hid (red1_18 (sh.2.2 i (by omega)).2 HHC.out ((HPC.out.step BL.out).at (i := 0) rfl) (HPP.out.step BL.out) (HY.out.now BL.out));have hw := zVA (i := i) (by omega);clear sh
   by_cases hko : 0 ≤ X i c ∧ X i c < y
   ·rw [decide_eq_true hko] at HS
    have HKO := hid hko;clear hko;go_wp2_with fail;refine HS.out.mono ?_;rintro e w1 ⟨rfl,b⟩;have HN1 : Hid (zXI w X c y i0 (i0 - (i + 1)) (.int .i64 ((i + 1 : Nat) : Int)) w1) := ⟨i + 1,rfl,by omega,rfl,fun j hj => by
     by_cases q : j < i
     ·exact HZ.out j q
     ·obtain rfl : j = i := by omega
      exact HKO.out,below_step BL.out b⟩
    have HMM : Hid (i0 - (i + 1) < gk) := by unfold Hid;rw [HG.out];omega
    clear HS HG HZ k0 b HKO;go_wp2_with fail;go_roundg (i0 - (i + 1))
    case rel => exact HN1.out
    case measure => exact HMM.out
   ·rw [decide_eq_false hko] at HS
    have HKO := hid hko;clear hko;go_wp2_with fail;refine HS.out.mono ?_;rintro e w1 ⟨rfl,b⟩;have FIN : Hid (zkH w X c y i0 (.returned (.int .i64 (i : Int))) w1) := ⟨(i : Int),rfl,⟨fun h => absurd h (by omega),fun h => absurd (h i hlt) HKO.out⟩,below_step BL.out b⟩
    clear HS HG HZ k0 b HKO;go_wp2;go_ret;exact FIN.out
  ·have hlt' : ¬ (i : Int) < (i0 : Int) := by omega
   have FIN : Hid (zkH w X c y i0 (.returned (.int .i64 (-1))) wr) := ⟨-1,rfl,⟨fun _ t ht => HZ.out t (by omega),fun _ => by omega⟩,BL.out⟩
   clear HG HZ;go_wp2;go_ret;exact FIN.out
def znI (w : World) (X : Nat → Nat → Int) (c : Nat) (y : Int) (n : Nat) (e : Ending) (w' : World) : Prop := ∃ bc : Bool,e = .returned (.bool bc) ∧ (bc = false ↔ ∀ t,t < n → 0 ≤ X t c ∧ X t c < y) ∧ Below w.heap.size w w'
theorem containsR18 {w : World} {c bc bp Lb cap i0 : Nat} {X : Nat → Nat → Int} {y : Int} (h : Calls Tryz.prog 102 #[.slice (some ⟨Lb,0,none⟩) i0 cap,zxG bc bp] w (zkH w X c y i0)) :
  Calls Tryz.prog 81 #[.slice (some ⟨Lb,0,none⟩) i0 cap,zxG bc bp] w (znI w X c y i0) := by
 have HI := hid h;clear h;go_enter Tryz.func81,Tryz.ntmps81;go_wp2_with fail;refine HI.out.mono ?_;rintro e w1 ⟨r,rfl,hr,b⟩;have FIN : Hid (znI w X c y i0 (.returned (.bool (decide (0 ≤ r)))) w1) := ⟨_,rfl,by rw [decide_eq_false_iff_not,Int.not_le];exact hr,b⟩
 clear HI hr b;go_wp2;go_ret;exact FIN.out
def zmI (w : World) (X : Nat → Nat → Int) (c : Nat) (y : Int) (n : Nat) (e : Ending) (w' : World) : Prop := ∃ bc : Bool,e = .returned (.bool bc) ∧ (bc = true ↔ ∀ t,t < n → 0 ≤ X t c ∧ X t c < y) ∧ Below w.heap.size w w'
theorem areReduced18 {w : World} {B m n k c Lb cap i0 : Nat} {gs : Nat → Nat} {X : Nat → Nat → Int} {np : Bool} {ap : Option Addr} {lp cp : Nat} {y : Int} (h : Sh17 B w (.slice (some ⟨Lb,0,none⟩) m cap) m n gs X k) (hi0 : i0 ≤ m) (hm : m ≤ 64) (hc : c < n) (hy : Zm 0 w (.agg #[.bool np,.slice ap lp cp]) y k) :
  Calls Tryz.prog 59 #[.slice (some ⟨Lb,0,none⟩) i0 cap,.int .i64 (c : Int),.agg #[.bool np,.slice ap lp cp]] w (zmI w X c y i0) := by
 obtain ⟨W0,hW⟩ : ∃ W0,(w.alloc (.cells #[.int .i64 (c : Int)] 3)).alloc (duo (.bool np) (.slice ap lp cp)) = W0 := ⟨_,rfl⟩
 obtain ⟨b0,sz0⟩ := zYA w (.cells #[.int .i64 (c : Int)] 3) (duo (.bool np) (.slice ap lp cp));rw [hW] at b0 sz0;have pc : Cel W0 w.heap.size 3 [.int .i64 (c : Int)] := by
  rw [← hW];exact (Cel.new w 3 [.int .i64 (c : Int)]).step ((Below.refl _ _).alloc (Nat.le_refl _) _)
 have pp : Duo W0 (w.heap.size + 1) (.bool np) (.slice ap lp cp) := by rw [← hW];exact zEA (by simp)
 have HC := hid (containsR18 (indexR18 (h.now b0) hi0 hm hc pc pp (hy.now b0)));have G0 := hid b0;have EW := hid hW;clear h hy b0 hW sz0 pc pp;go_enter Tryz.func59,Tryz.ntmps59;go_wp2_with fail;rw [EW.out];refine HC.out.mono ?_;rintro e w1 ⟨bc,rfl,hr,b⟩;have FIN : Hid (zmI w X c y i0 (.returned (.bool (!bc))) w1) := ⟨_,rfl,by rw [← hr];simp,below_step G0.out b⟩
 clear HC hr b G0 EW;go_wp2;go_ret;exact FIN.out
abbrev fnNz18 : Value := .func (.func 57) #[] #[]
theorem cmpI_ne18 {z : Int} (h : z ≠ 0) : (cmpI z 0 != 0) = true := by
 rcases Int.lt_or_gt_of_ne h with q | q
 ·rw [zoA q];rfl
 ·rw [ziA q];rfl
theorem nz18 {w : World} {v : Value} {z : Int} {k : Nat} (h : Zi w v z k) : Calls Tryz.prog 57 #[v] w fun e w' => e = .returned (.bool (z != 0)) ∧ Below w.heap.size w w' := by
 have z0 := h;obtain ⟨n,xs,a,c,rfl,-,-,-⟩ := h;obtain ⟨W0,hW⟩ : ∃ W0,w.alloc (duo (.bool n) (.slice a xs.length c)) = W0 := ⟨_,rfl⟩
 obtain ⟨b0,sz0⟩ := alo1 w (duo (.bool n) (.slice a xs.length c));rw [hW] at b0 sz0;have HS := hid (zqA (z0.now b0));have G := hid b0;have EW := hid hW;have EB : (cmpI z 0 != 0) = (z != 0) := by
  by_cases q : z = 0
  ·subst q;rw [cmpI_self]
  ·rw [cmpI_ne18 q];simp [q]
 have HEB := hid EB;clear z0 b0 hW sz0 EB;go_enter Tryz.func57,Tryz.ntmps57;go_wp2_with fail;rw [EW.out];refine HS.out.mono ?_;rintro e w1 ⟨rfl,b⟩;have G1 := hid (below_step G.out b);clear b HS;generalize cmpI z 0 = cz at *;go_wp2;go_ret;refine ⟨?_,G1.out⟩;rw [← HEB.out]
 rfl
def zDI (n : Nat) (zs : List Int) (r : Int) : Prop := (r = -1 ∧ ∀ j,j < n → zs.getD j 0 = 0) ∨ ∃ c : Nat,r = (c : Int) ∧ c < n ∧ (∀ j,j < c → zs.getD j 0 = 0) ∧ zs.getD c 0 ≠ 0
def zUI (w : World) (n : Nat) (zs : List Int) (e : Ending) (w' : World) : Prop := ∃ r : Int,e = .returned (.int .i64 r) ∧ zDI n zs r ∧ Below w.heap.size w w'
def zRI (w : World) (g n : Nat) (ps : List (Value × Value)) (zs : List Int) (k gk : Nat) (s : Value) (wx : World) : Prop :=
 ∃ i : Nat,s = .int .i64 (i : Int) ∧ i ≤ n ∧ gk = n - i ∧ (∀ j,j < i → zs.getD j 0 = 0) ∧ Arr wx g ps ∧ Zms wx ps zs k ∧ Below w.heap.size w wx
theorem index18 {w : World} {g n k : Nat} {ps : List (Value × Value)} {zs : List Int} (hA : Arr w g ps) (hz : Zms w ps zs k) (hl : zs.length = n) (hn : n ≤ 64) :
  Calls Tryz.prog 56 #[.slice (some ⟨g,0,none⟩) n n,fnNz18] w (zUI w n zs) := by
 have H0 : Hid (zRI w g n ps zs k n (.int .i64 0) w) := ⟨0,rfl,Nat.zero_le _,rfl,fun j hj => by omega,hA,hz,Below.refl _ _⟩
 have HL := hid hl;clear hA hz hl;go_enter Tryz.func56,Tryz.ntmps56;go_wp2_with fail
 go_loopg [8] n (fun gk s8 wx => zRI w g n ps zs k gk s8 wx)
 case atStart => exact H0.out
 case round =>
  clear H0;obtain ⟨i,rfl,hin,hg,hpos,ar,zr,hG⟩ := hrel;have AR := hid ar;have ZR := hid zr;have G := hid hG;have HG := hid hg;have HP := hid hpos;clear ar zr hG hg hpos
  by_cases hlt : i < n
  ·have hlt' : (i : Int) < (n : Int) := by omega
   obtain ⟨nf,af,lf,cf,k0,k1,-,-,zf⟩ := ZR.out.at AR.out (t := i) (by rw [HL.out];exact hlt);have HS := hid (nz18 zf.zi);have hw := zVA (i := i) (by omega);clear zf
   by_cases hp : zs.getD i 0 = 0
   ·have e0 : (zs.getD i 0 != 0) = false := by rw [hp];rfl
    rw [e0] at HS;have HPP := hid hp;clear hp e0;go_wp2_with fail;refine HS.out.mono ?_;rintro e w1 ⟨rfl,b⟩;have HN1 : Hid (zRI w g n ps zs k (n - (i + 1)) (.int .i64 ((i + 1 : Nat) : Int)) w1) := ⟨i + 1,rfl,by omega,rfl,fun j hj => by
     by_cases q : j < i
     ·exact HP.out j q
     ·obtain rfl : j = i := by omega
      exact HPP.out,AR.out.step b,ZR.out.now b,below_step G.out b⟩
    have HMM : Hid (n - (i + 1) < gk) := by unfold Hid;rw [HG.out];omega
    clear HS HPP AR ZR G HG HP k0 k1 b;go_wp2_with fail;go_roundg (n - (i + 1))
    case rel => exact HN1.out
    case measure => exact HMM.out
   ·have e0 : (zs.getD i 0 != 0) = true := by simp only [bne_iff_ne];exact hp
    rw [e0] at HS;have HPP := hid hp;clear hp e0;go_wp2_with fail;refine HS.out.mono ?_;rintro e w1 ⟨rfl,b⟩;have FIN : Hid (zUI w n zs (.returned (.int .i64 (i : Int))) w1) := ⟨(i : Int),rfl,.inr ⟨i,rfl,hlt,HP.out,HPP.out⟩,below_step G.out b⟩
    clear HS HPP AR ZR G HG HP k0 k1 b;go_wp2;go_ret;exact FIN.out
  ·have hlt' : ¬ (i : Int) < (n : Int) := by omega
   have FIN : Hid (zUI w n zs (.returned (.int .i64 (-1))) wr) := ⟨-1,rfl,.inl ⟨rfl,fun j hj => HP.out j (by omega)⟩,G.out⟩
   clear AR ZR G HG HP;go_wp2;go_ret;exact FIN.out
theorem zWC {B : Nat} {w0 w w' : World} {v : Value} {l : List Nat} (h : Below B w0 w) (hB : B ≤ w.heap.size) (ho : Ivs B w v l) (hg : w.grownBy w' v.ownBlock) : Below B w0 w' :=
 h.trans ⟨hg.os,hg.tape,hg.output,hg.size,fun k hk => hg.block k (by omega) (fun e => by have := (ho.blk e.symm).1;omega)⟩
def zwA (γ : Nat → Nat) (i : Nat) : List Nat := (List.range i).map γ
theorem zeA (γ : Nat → Nat) (i : Nat) : (zwA γ i).length = i := by simp [zwA]
theorem zwC (γ : Nat → Nat) (i : Nat) : zwA γ (i + 1) = zwA γ i ++ [γ i] := by simp [zwA,List.range_succ]
def zbH (w : World) (m r : Nat) (γ : Nat → Nat) (gk : Nat) (s2 s4 s10 : Value) (wx : World) : Prop :=
 ∃ i nx : Nat,s10 = .int .i64 (i : Int) ∧ s4 = .int .i64 (nx : Int) ∧ i ≤ m ∧ gk = m - i ∧ nx ≤ 64 ∧ (∀ a,a < r → i ≤ a → nx ≤ γ a) ∧ Ivs w.heap.size wx s2 (zwA γ (min i r)) ∧ Below w.heap.size w wx
def zLH (w : World) (r : Nat) (γ : Nat → Nat) (e : Ending) (w' : World) : Prop := ∃ v,e = .returned (.tuple #[v,.bool true]) ∧ Ivs w.heap.size w' v (zwA γ r) ∧ Below w.heap.size w w'
theorem fst_in18 {n m r i : Nat} {γ : Nat → Nat} {X : Nat → Nat → Int} {q : Int} (hE : Ec18 n m r id γ X) (hi : i < m) (h : zDI n ((List.range n).map (X i)) q) : (i < r ∧ q = (γ i : Int)) ∨ (r ≤ i ∧ q = -1) := by
 have hg : ∀ j,j < n → ((List.range n).map (X i)).getD j 0 = X i j := fun j hj => by simp [hj]
 by_cases hr : i < r
 ·refine .inl ⟨hr,?_⟩
  have hc := hE.cl i hr;have hp := hE.pos i hr;simp only [id] at hp;rcases h with ⟨_,h⟩ | ⟨c,e,hcn,h1,h2⟩
  ·have := h (γ i) hc;rw [hg _ hc] at this;omega
  ·rw [e]
   have : c = γ i := by
    rcases Nat.lt_trichotomy c (γ i) with q1 | q1 | q1
    ·have := hE.zero i c hr q1;simp only [id] at this;rw [hg _ hcn] at h2;omega
    ·exact q1
    ·have := h1 (γ i) q1;rw [hg _ hc] at this;omega
   rw [this]
 ·refine .inr ⟨by omega,?_⟩
  rcases h with ⟨e,_⟩ | ⟨c,e,hcn,h1,h2⟩
  ·exact e
  ·rw [hg _ hcn] at h2
   exact absurd (hE.rest i hi (fun a ha q1 => by simp only [id] at q1;omega) c hcn) h2
theorem pivotsOf18 {w : World} {B m n k r : Nat} {lv : Value} {gs γ : Nat → Nat} {X : Nat → Nat → Int} (h : Sh17 B w lv m n gs X k) (hm : m ≤ 64) (hn : n ≤ 64) (hE : Ec18 n m r id γ X) (hR : Rd18 0 r id γ X) :
  Calls Tryz.prog 32 #[lv] w (zLH w r γ) := by
 have hrm : r ≤ m := by
  rcases Nat.eq_zero_or_pos r with q | q
  ·omega
  ·have := hE.rl (r - 1) (by omega);simp only [id] at this;omega
 obtain ⟨la,cap,rfl,hla⟩ : ∃ la cap,lv = .slice la m cap ∧ (0 < m → ∃ Lb,la = some ⟨Lb,0,none⟩ ∧ m ≤ cap) := by
  rcases h.1 with ⟨e0,e⟩ | ⟨h0,Lb,cap,q,e,e1,_⟩
  ·exact ⟨none,0,by rw [e,e0],fun q => by omega⟩
  ·exact ⟨_,cap,e,fun _ => ⟨Lb,rfl,e1⟩⟩
 have SH := hid h;have HE := hid hE;have HR := hid hR;have HRM := hid hrm;have HLA := hid hla;have H0 : Hid (zbH w m r γ m (.slice none 0 0) (.int .i64 0) (.int .i64 0) w) := ⟨0,0,rfl,rfl,Nat.zero_le _,rfl,by omega,fun _ _ _ => Nat.zero_le _,by rw [Nat.zero_min];exact Ivs.nil _ _,Below.refl _ _⟩
 clear h hE hR hrm hla;go_enter Tryz.func32,Tryz.ntmps32;go_wp2_with fail
 go_loopg [2,4,10] m (fun gk s2 s4 s10 wx => zbH w m r γ gk s2 s4 s10 wx)
 case atStart => exact H0.out
 case round =>
  clear H0;obtain ⟨i,nx,rfl,rfl,him,hgk,hnx,hlo,hiv,hb⟩ := hrel;have IV := hid hiv;have BB := hid hb;have HG := hid hgk;have HLO := hid hlo;clear hiv hb hgk hlo;obtain ⟨aa,cc,rfl,-,-⟩ := IV.out.form;obtain ⟨ll,hll⟩ : ∃ ll,(zwA γ (min i r)).length = ll := ⟨_,rfl⟩
  rw [hll] at IV
  try rw [hll]
  have HLL := hid hll;clear hll
  by_cases hlt : i < m
  ·have hlt' : (i : Int) < (m : Int) := by omega
   obtain ⟨Lb,rfl,hmc⟩ := HLA.out (by omega);have sh := SH.out.now BB.out;have k0 := sh.lineS hlt;obtain ⟨g,hge⟩ : ∃ g,gs i = g := ⟨_,rfl⟩
   obtain ⟨ps,ha,hz⟩ := (sh.2.2 i hlt).2;rw [hge] at k0 ha;have HS := hid (index18 ha hz (by simp) hn);have hw := zVA (i := i) (by omega);have HMM : Hid (m - (i + 1) < gk) := by unfold Hid;rw [HG.out];omega
   have HGE := hid hge;clear sh ha hz hge HG;go_wp2_with fail;refine HS.out.mono ?_;rintro e w1 ⟨q,rfl,hq,b⟩;have B1 := hid (below_step BB.out b);have IV1 := hid (IV.out.now b);rcases fst_in18 HE.out hlt hq with ⟨hir,rfl⟩ | ⟨hir,rfl⟩
   ·obtain ⟨c,hce⟩ : ∃ c,γ i = c := ⟨_,rfl⟩
    rw [hce];have hcn : c < n := by rw [← hce];exact HE.out.cl i hir
    have hcn' : (c : Int) < (n : Int) := by omega
    have hc0 : ¬ ((c : Int) < 0) := by omega
    have hnc : nx ≤ c := by have := HLO.out i hir (Nat.le_refl _);omega
    have hcx : ¬ ((c : Int) < (nx : Int)) := by omega
    have HMI : Hid (min i r = i) := hid (by omega);have sh1 := SH.out.now B1.out;have k1 := sh1.lineS hlt;obtain ⟨nf,af,lf,cf,e0,e1,-,-,zf⟩ := (sh1.2.2 i hlt).2.at hcn;rw [HGE.out] at k1 e0 e1;have SH1 := hid sh1;have ZF := hid zf;have HPO : Hid (0 < X i c) := by unfold Hid;rw [← hce];exact HE.out.pos i hir
    have HCE := hid hce;have hcp : cmpI (X i c) 0 = 1 := ziA HPO.out;have HSG : Hid (∀ w',Below w1.heap.size w1 w' → Calls Tryz.prog 58 #[.agg #[.bool nf,.slice af lf cf]] w' fun e w'' => e = .returned (.int .i64 1) ∧ Below w'.heap.size w' w'') := fun w' b' => by
     have := zqA (ZF.out.now b').zi;rw [hcp] at this;exact this
    have HAR : Hid (∀ w',Below w1.heap.size w1 w' → Calls Tryz.prog 59 #[.slice (some ⟨Lb,0,none⟩) i cap,.int .i64 (c : Int),.agg #[.bool nf,.slice af lf cf]] w' fun e w'' => e = .returned (.bool true) ∧ Below w'.heap.size w' w'') := fun w' b' => by
     refine (areReduced18 (SH1.out.now b') (Nat.le_of_lt hlt) hm hcn (ZF.out.now b')).mono fun e w'' hh => ?_
     obtain ⟨bc,rfl,h1,h2⟩ := hh;refine ⟨?_,h2⟩;rw [h1.2 fun t ht => ?_];have := HR.out t i (Nat.zero_le _) ht hir;simp only [id] at this;rw [HCE.out] at this;exact this
    have hic : (i : Int) ≤ (cap : Int) := by omega
    clear HS hq b IV BB hce sh1 zf hcp k0;go_wp2_with fail;have KB : Hid (∀ w',Below w1.heap.size w1 w' → w'.cell? ⟨g,c * 2,none⟩ = some (.bool nf) ∧ w'.cell? ⟨g,c * 2 + 1,none⟩ = some (.slice af lf cf)) := fun w' h => ⟨cnow h e0,cnow h e1⟩
    refine zFA (fun w' => w'.cell? ⟨g,c * 2,none⟩ = some (.bool nf) ∧ w'.cell? ⟨g,c * 2 + 1,none⟩ = some (.slice af lf cf)) 22 (by kernel_rfl) ?_;obtain ⟨D11,hD⟩ : ∃ D11,w1.drew = D11 := ⟨_,rfl⟩
    have GB : Hid (Below w1.heap.size w1 D11) := by unfold Hid;rw [← hD];exact (Below.refl _ _).drew
    rw [hD];clear hD;refine zHA [(0,(.int .i64 (c : Int))),(1,(.int .i64 (nx : Int))),(2,(.bool false)),(3,(.bool false)),(4,(.slice (some ⟨g,0,none⟩) n n)),(5,(.int .i64 (c : Int))),(6,(.pointer (some ⟨g,c * 2,none⟩))),(7,(.agg #[.bool nf,.slice af lf cf]))] 8 ?_ (KB.out _ GB.out) ?_
    ·simp only [zSA,gA9,g09,g19,Act.put,sI9,s09,s19]
     (repeat' (first | exact trivial | refine And.intro (Or.inl ⟨by rfl,?_⟩) ?_)) <;> (intro w hSw;(try dsimp only at hSw);go_simp)
    simp only [actV,gA9,g09,g19,Act.put,sI9,s09,s19];refine zAA (i := 8) (o := ⟨some 29,.call { callee := .value (.func 58),args := #[.tmp 28],argTypes := #[40] },3, "lines.go:64",#[⟨7,.data⟩,⟨3,.chain⟩,⟨3,.guard⟩],some (3,false)⟩) (by kernel_rfl) rfl (fun K hK => ?_);go_simp;go_at_call 58;refine (HSG.out _ GB.out).mono ?_;rintro e w12 ⟨rfl,b⟩;have lz12 := (show Below _ _ _ from b).size;replace GB := hid (below_step GB.out b);clear b;refine hK.out _ _ (fun _ => KB.out _ GB.out) ?_;clear hK;refine zHA [(9,(.bool false)),(10,(.bool false)),(11,(.bool false)),(12,(.slice (some ⟨Lb,0,none⟩) m cap)),(13,(.int .i64 (i : Int))),(14,(.slice (some ⟨Lb,0,none⟩) i cap)),(15,(.int .i64 (c : Int))),(16,(.slice (some ⟨g,0,none⟩) n n)),(17,(.int .i64 (c : Int))),(18,(.pointer (some ⟨g,c * 2,none⟩))),(19,(.agg #[.bool nf,.slice af lf cf]))] 11 ?_ (KB.out _ GB.out) ?_
    ·simp only [zSA,gA9,g09,g19,Act.put,sI9,s09,s19]
     (repeat' (first | exact trivial | refine And.intro (Or.inl ⟨by rfl,?_⟩) ?_)) <;> (intro w hSw;(try dsimp only at hSw);go_simp)
    simp only [actV,gA9,g09,g19,Act.put,sI9,s09,s19];refine zAA (i := 20) (o := ⟨some 41,.call { callee := .value (.func 59),args := #[.tmp 35,.tmp 36,.tmp 40],argTypes := #[45,3,40] },4, "lines.go:64",#[⟨14,.data⟩,⟨15,.data⟩,⟨19,.data⟩,⟨11,.chain⟩,⟨11,.guard⟩],some (11,false)⟩) (by kernel_rfl) rfl (fun K hK => ?_);go_simp;go_at_call 59;refine (HAR.out _ GB.out).mono ?_;rintro e w13 ⟨rfl,b⟩;have lz13 := (show Below _ _ _ from b).size;replace GB := hid (below_step GB.out b);clear b;refine hK.out _ _ (fun _ => KB.out _ GB.out) ?_;clear hK;refine zHA [(21,(.bool false))] 1 ?_ (KB.out _ GB.out) ?_
    ·simp only [zSA,gA9,g09,g19,Act.put,sI9,s09,s19]
     (repeat' (first | exact trivial | refine And.intro (Or.inl ⟨by rfl,?_⟩) ?_)) <;> (intro w hSw;(try dsimp only at hSw);go_simp)
    simp only [actV,gA9,g09,g19,Act.put,sI9,s09,s19];refine zAA (i := 22) (o := ⟨some 43,.pick (.tmp 32) (.const (.bool true)) (.tmp 42),4, "lines.go:64",#[⟨11,.data⟩,⟨21,.data⟩],none⟩) (by kernel_rfl) rfl (fun K hK => ?_);go_simp;refine hK.out _ _ (fun h => absurd h (by decide)) ?_;clear hK
    try simp only [Act.put]
    refine zDA (by kernel_rfl) ?_ _;have B2 := hid (below_step B1.out GB.out);have IV2 := hid (IV1.out.now GB.out);clear GB KB HSG HAR k1 e0 e1 SH1 ZF B1 IV1;obtain ⟨V,hV⟩ : ∃ V,w13.alloc (.cells #[.int .i64 (c : Int)] 3) = V := ⟨_,rfl⟩
    obtain ⟨bv,szv⟩ := alo1 w13 (.cells #[.int .i64 (c : Int)] 3);rw [hV] at bv szv;have CV : Hid (V.cell? ⟨w13.heap.size,0,none⟩ = some (.int .i64 (c : Int))) := by unfold Hid;rw [← hV];exact (Cel.new w13 3 [.int .i64 (c : Int)]).at (i := 0) rfl
    have BV := hid (below_step B2.out bv);have IV3 := hid (IV2.out.now bv);have HL : Hid ((zwA γ (min i r)).length ≤ 1000000) := by unfold Hid;rw [zeA];omega
    have EV := hid hV;have hwc := zVA (i := c) (by omega);clear bv szv hV B2 IV2;go_wp2_with (at_builtin;rw [EV.out];refine zBB V rfl (.tmp 44) (.tmp 46) rfl w.heap.size _ _ c rfl IV3.out w13.heap.size rfl CV.out HL.out BV.out.size ?_)
    intro g' cap' w3 hI hg hb;rw [HLL.out] at hI ⊢;have HN1 : Hid (zbH w m r γ (m - (i + 1)) (.slice (some ⟨g',0,none⟩) (ll + 1) cap') (.int .i64 ((c + 1 : Nat) : Int)) (.int .i64 ((i + 1 : Nat) : Int)) w3) := by
     refine ⟨i + 1,c + 1,rfl,rfl,by omega,rfl,by omega,fun a ha hia => ?_,?_,zWC BV.out BV.out.size IV3.out hg.out⟩
     ·have := HE.out.up i a (by omega) ha
      rw [HCE.out] at this;omega
     ·have e : zwA γ (min (i + 1) r) = zwA γ (min i r) ++ [c] := by rw [HMI.out,show min (i + 1) r = i + 1 by omega,zwC,HCE.out]
      rw [e];exact hI.out
    clear hI hg hb IV3 BV CV HL EV;go_wp2_with fail;go_roundg (m - (i + 1))
    case rel => exact HN1.out
    case measure => exact HMM.out
   ·have HN1 : Hid (zbH w m r γ (m - (i + 1)) (.slice aa ll cc) (.int .i64 (n : Int)) (.int .i64 ((i + 1 : Nat) : Int)) w1) := by
     refine ⟨i + 1,n,rfl,rfl,by omega,rfl,hn,fun a ha hia => by omega,?_,B1.out⟩;rw [show min (i + 1) r = min i r by omega];exact IV1.out
    clear HS hq b IV BB IV1 B1 k0;go_wp2_with fail;go_roundg (m - (i + 1))
    case rel => exact HN1.out
    case measure => exact HMM.out
  ·have hlt' : ¬ (i : Int) < (m : Int) := by omega
   obtain rfl : i = m := by omega
   have FIN : Hid (zLH w r γ (.returned (.tuple #[.slice aa ll cc,.bool true])) wr) := ⟨_,rfl,by have := IV.out;rw [show min i r = r by have := HRM.out;omega] at this;exact this,BB.out⟩
   clear IV BB HG HLA SH HE HR;go_wp2;go_ret2;exact FIN.out
end Go.Proofs.YtmnecbniappnaaaGreat
