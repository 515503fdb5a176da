/-
 QLo17ToOn17: Lo17, On17, joined.
-/
import Derived.Test.YtffkmeocmjohmaaGreatQCo13ToLi17
import Derived.Test.YtffkmeocmjohmaaGreatQFb17ToLk17
import Derived.Test.YtffkmeocmjohmaaGreatQIz17ToTailL
import Derived.Test.YtffkmeocmjohmaaGreatQGcd6
import Derived.Test.YtffkmeocmjohmaaGreatQTailToMWord
import Derived.Test.YtffkmeocmjohmaaGreatQROrderToZe17

set_option maxRecDepth 100000
set_option maxHeartbeats 6400000
set_option linter.unusedVariables false
set_option linter.unusedSimpArgs false
namespace Go.Proofs.YtffkmeocmjohmaaGreat
open Go.RowKit
theorem lowest17 {w : World} {v : Value} {n k : Nat} {R : Nat → Rat} (hv : Qc w v n R k) (hk : k ≤ 68719476736) : Calls Tryz.prog 28 #[v] w fun e w' => e = .returned (.bool true) ∧ Below w.heap.size w w' := by
 have HV := hid hv;have HK := hid hk;obtain ⟨av,cv,rfl,hn,hfv⟩ := hv.form;have FV := hid hfv;have H0 : Hid (LkH w n n (.int .i64 0) w) := ⟨0,rfl,Nat.zero_le _,rfl,Below.refl _ _⟩
 clear hv hfv hk;go_enter Tryz.func28,Tryz.ntmps28;go_wp2_with fail
 go_loopg [3] n (fun gk s3 wx => LkH w n gk s3 wx)
 case atStart => exact H0.out
 case round =>
  clear H0;obtain ⟨i,rfl,hi,hg,hbw⟩ := hrel;have G := hid hbw;have HG := hid hg;clear hbw hg
  by_cases hlt : i < n
  rotate_left
  ·have hlt' : ¬ (i : Int) < (n : Int) := by omega
   clear HG;go_wp2;go_ret;exact ⟨rfl,G.out⟩
  have hlt' : (i : Int) < (n : Int) := by omega
  have hwi := zVA (i := i) (by omega);obtain ⟨ba,oa,rfl⟩ := FV.out (by omega);obtain ⟨n1,a1,l1,c1,n2,a2,l2,c2,e1,e2,e3,e4,zp,zq⟩ := (HV.out.now G.out).at hlt;have ZP := hid zp;have ZQ := hid zq;have HGC : Hid (((Int.gcd (R i).num ((R i).den : Int) : Nat) : Int) = 1) := by
   unfold Hid;have h := (R i).reduced;have e : Int.gcd (R i).num ((R i).den : Int) = Nat.gcd (R i).num.natAbs (R i).den := rfl;rw [e,h];rfl
  have HDP : Hid (cmpI ((R i).den : Int) 0 = 1) := zMB (by have := (R i).den_pos;omega);have hc1 : cmpI 1 1 = 0 := by decide
  clear zp zq HV;go_wp2_with fail
  go_cut [4] from 5 (fun s4 wx => MetB wr wx s4 1 k)
  case first =>
   have KB : Hid (∀ w',Below wr.heap.size wr w' → w'.cell? ⟨ba,oa + i * 4,none⟩ = some (.bool n1) ∧ w'.cell? ⟨ba,oa + i * 4 + 1,none⟩ = some (.slice a1 l1 c1) ∧ w'.cell? ⟨ba,oa + i * 4 + 2,none⟩ = some (.bool n2) ∧ w'.cell? ⟨ba,oa + i * 4 + 3,none⟩ = some (.slice a2 l2 c2)) := fun w' h => ⟨cnow h e1,cnow h e2,cnow h e3,cnow h e4⟩
   refine zFA (fun w' => w'.cell? ⟨ba,oa + i * 4,none⟩ = some (.bool n1) ∧ w'.cell? ⟨ba,oa + i * 4 + 1,none⟩ = some (.slice a1 l1 c1) ∧ w'.cell? ⟨ba,oa + i * 4 + 2,none⟩ = some (.bool n2) ∧ w'.cell? ⟨ba,oa + i * 4 + 3,none⟩ = some (.slice a2 l2 c2)) 12 (by kernel_rfl) ?_;obtain ⟨D21,hD⟩ : ∃ D21,wr.drew = D21 := ⟨_,rfl⟩
   have GB : Hid (Below wr.heap.size wr D21) := by unfold Hid;rw [← hD];exact (Below.refl _ _).drew
   rw [hD];clear hD;have GZ : Hid (wr.heap.size ≤ D21.heap.size) := GB.out.size;refine zDA [(0,(.slice (some ⟨ba,oa,none⟩) n cv)),(1,(.int .i64 (i : Int))),(2,(.pointer (some ⟨ba,oa + i * 4,none⟩))),(3,(.pointer (some ⟨ba,oa + i * 4,none⟩))),(4,(.agg #[.bool n1,.slice a1 l1 c1])),(5,(.slice (some ⟨ba,oa,none⟩) n cv)),(6,(.int .i64 (i : Int))),(7,(.pointer (some ⟨ba,oa + i * 4,none⟩))),(8,(.pointer (some ⟨ba,oa + i * 4 + 2,none⟩))),(9,(.agg #[.bool n2,.slice a2 l2 c2]))] 10 ?_ (KB.out _ GB.out) ?_
   ·simp only [zJA,gA9,g09,g19,Act.put,sI9,s09,s19]
    (repeat' (first | exact trivial | refine And.intro (Or.inl ⟨by rfl,?_⟩) ?_)) <;> (intro w hSw;(try dsimp only at hSw);go_simp)
   simp only [actV,gA9,g09,g19,Act.put,sI9,s09,s19];refine zRA (i := 10) (j := 11) (oi := ⟨some 21,.call { callee := .value (.func 59),args := #[.tmp 15,.tmp 20],argTypes := #[45,45] },45, "outright.go:33",#[⟨4,.data⟩,⟨9,.data⟩],none⟩) (oj := ⟨some 4,.alloc 45,0, "outright.go:33",#[],none⟩) (by kernel_rfl) rfl rfl (fun K hK => ?_) (fun K hK => ?_)
   ·skip
    go_simp;go_at_call 59;refine (zBF (ZP.out.now GB.out).zi (ZQ.out.now GB.out).zi HK.out).mono ?_;rintro e w22 ⟨rg,rfl,zz,b⟩;have lz22 := (show Below _ _ _ from b).size;replace GB := hid (zAA GB.out b);rw [HGC.out] at zz;obtain ⟨mg,xg,ag,cg,rfl⟩ := zz.parts;have MG := hid (zz.mono GZ.out);clear zz;replace GZ : Hid (wr.heap.size ≤ w22.heap.size) := GB.out.size;clear b;refine hK.out _ _ (fun _ => KB.out _ GB.out) ?_;clear hK;refine zBA (i := 11) (o := ⟨some 4,.alloc 45,0, "outright.go:33",#[],none⟩) (by kernel_rfl) rfl (fun K hK => ?_);go_simp;obtain ⟨V23,hW⟩ : ∃ V23,w22.alloc zbox = V23 := ⟨_,rfl⟩
    obtain ⟨b,sz23⟩ := alo1 w22 zbox;rw [hW] at b sz23;replace GB := hid (zAA GB.out b);have DX : Hid (Duo V23 w22.heap.size (.bool false) (.slice none 0 0)) := by unfold Hid;rw [← hW];exact Duo.new w22 _ _
    have SX := hid (show wr.heap.size ≤ w22.heap.size from GZ.out);clear sz23;replace GZ : Hid (wr.heap.size ≤ V23.heap.size) := GB.out.size;replace MG := hid (MG.out.now b);rw [hW];clear hW b;refine hK.out _ _ (fun _ => KB.out _ GB.out) ?_;clear hK
    try simp only [Act.put]
    refine zBA (i := 12) (o := ⟨none,.store 45 (.tmp 4) (.tmp 21),0, "outright.go:33",#[⟨11,.data⟩,⟨10,.data⟩,⟨10,.chain⟩,⟨0,.phase⟩,⟨1,.phase⟩,⟨2,.phase⟩,⟨3,.phase⟩,⟨4,.phase⟩,⟨5,.phase⟩,⟨6,.phase⟩,⟨7,.phase⟩,⟨8,.phase⟩,⟨9,.phase⟩,⟨10,.phase⟩,⟨11,.phase⟩],none⟩) (by kernel_rfl) rfl (fun K hK => ?_);have h0 := DX.out.c0;have h1 := DX.out.c1;have j0 := DX.out.fz 0;have j1 := DX.out.fz 1;go_simp;clear h0 h1 j0 j1;obtain ⟨V24,hW⟩ : ∃ V24,((V23.setCell ⟨w22.heap.size,0,none⟩ (.bool mg)).setCell ⟨w22.heap.size,1,none⟩ (.slice ag xg.length cg)) = V24 := ⟨_,rfl⟩
    have FN4 : Hid (MetB wr V24 (.pointer (some ⟨w22.heap.size,0,none⟩)) 1 k) := by unfold Hid;rw [← hW];exact zJG DX.out MG.out GB.out SX.out (Nat.le_refl _)
    rw [hW];clear hW;refine hK.out _ _ (fun h => absurd h (by decide)) ?_;clear hK
    try simp only [Act.put]
    refine zEA (by kernel_rfl) ?_ _;clear GB GZ DX SX MG;go_wp2_with fail;go_meet;exact FN4.out
   ·skip
    go_simp;obtain ⟨V25,hW⟩ : ∃ V25,D21.alloc zbox = V25 := ⟨_,rfl⟩
    obtain ⟨b,sz25⟩ := alo1 D21 zbox;rw [hW] at b sz25;replace GB := hid (zAA GB.out b);have DX : Hid (Duo V25 D21.heap.size (.bool false) (.slice none 0 0)) := by unfold Hid;rw [← hW];exact Duo.new D21 _ _
    have SX := hid (show wr.heap.size ≤ D21.heap.size from GZ.out);clear sz25;replace GZ : Hid (wr.heap.size ≤ V25.heap.size) := GB.out.size;rw [hW];clear hW b;refine hK.out _ _ (fun _ => KB.out _ GB.out) ?_;clear hK
    try simp only [Act.put]
    refine zBA (i := 10) (o := ⟨some 21,.call { callee := .value (.func 59),args := #[.tmp 15,.tmp 20],argTypes := #[45,45] },45, "outright.go:33",#[⟨4,.data⟩,⟨9,.data⟩],none⟩) (by kernel_rfl) rfl (fun K hK => ?_);go_simp;go_at_call 59;refine (zBF (ZP.out.now GB.out).zi (ZQ.out.now GB.out).zi HK.out).mono ?_;rintro e w26 ⟨rg,rfl,zz,b⟩;have lz26 := (show Below _ _ _ from b).size;replace GB := hid (zAA GB.out b);replace DX := hid (DX.out.step b);rw [HGC.out] at zz;obtain ⟨mg,xg,ag,cg,rfl⟩ := zz.parts;have MG := hid (zz.mono GZ.out);clear zz;replace GZ : Hid (wr.heap.size ≤ w26.heap.size) := GB.out.size;clear b;refine hK.out _ _ (fun _ => KB.out _ GB.out) ?_;clear hK;refine zBA (i := 12) (o := ⟨none,.store 45 (.tmp 4) (.tmp 21),0, "outright.go:33",#[⟨11,.data⟩,⟨10,.data⟩,⟨10,.chain⟩,⟨0,.phase⟩,⟨1,.phase⟩,⟨2,.phase⟩,⟨3,.phase⟩,⟨4,.phase⟩,⟨5,.phase⟩,⟨6,.phase⟩,⟨7,.phase⟩,⟨8,.phase⟩,⟨9,.phase⟩,⟨10,.phase⟩,⟨11,.phase⟩],none⟩) (by kernel_rfl) rfl (fun K hK => ?_);have h0 := DX.out.c0;have h1 := DX.out.c1;have j0 := DX.out.fz 0;have j1 := DX.out.fz 1;go_simp;clear h0 h1 j0 j1;obtain ⟨V27,hW⟩ : ∃ V27,((w26.setCell ⟨D21.heap.size,0,none⟩ (.bool mg)).setCell ⟨D21.heap.size,1,none⟩ (.slice ag xg.length cg)) = V27 := ⟨_,rfl⟩
    have FN4 : Hid (MetB wr V27 (.pointer (some ⟨D21.heap.size,0,none⟩)) 1 k) := by unfold Hid;rw [← hW];exact zJG DX.out MG.out GB.out SX.out (Nat.le_refl _)
    rw [hW];clear hW;refine hK.out _ _ (fun h => absurd h (by decide)) ?_;clear hK
    try simp only [Act.put]
    refine zEA (by kernel_rfl) ?_ _;clear GB GZ DX SX MG;go_wp2_with fail;go_meet;exact FN4.out
  case rest =>
   rename World => wx
   obtain ⟨bk,ng,xg,ag,cg,rfl,bM,hb1,hb2,dM,zM⟩ := hcut;have DM := hid dM;have ZM := hid zM;have G2 := hid (zAA G.out bM);have y0 := dM.c0;have y1 := dM.c1;replace ZP := hid (ZP.out.now bM);replace ZQ := hid (ZQ.out.now bM);replace e1 := cnow bM e1;replace e2 := cnow bM e2;replace e3 := cnow bM e3;replace e4 := cnow bM e4;clear bM dM zM G hb1 hb2;go_wp2_with fail;have KB : Hid (∀ w',Below wx.heap.size wx w' → w'.cell? ⟨ba,oa + i * 4,none⟩ = some (.bool n1) ∧ w'.cell? ⟨ba,oa + i * 4 + 1,none⟩ = some (.slice a1 l1 c1) ∧ w'.cell? ⟨ba,oa + i * 4 + 2,none⟩ = some (.bool n2) ∧ w'.cell? ⟨ba,oa + i * 4 + 3,none⟩ = some (.slice a2 l2 c2) ∧ w'.cell? ⟨bk,0,none⟩ = some (.bool ng) ∧ w'.cell? ⟨bk,1,none⟩ = some (.slice ag xg.length cg)) := fun w' h => ⟨cnow h e1,cnow h e2,cnow h e3,cnow h e4,cnow h y0,cnow h y1⟩
   refine zFA (fun w' => w'.cell? ⟨ba,oa + i * 4,none⟩ = some (.bool n1) ∧ w'.cell? ⟨ba,oa + i * 4 + 1,none⟩ = some (.slice a1 l1 c1) ∧ w'.cell? ⟨ba,oa + i * 4 + 2,none⟩ = some (.bool n2) ∧ w'.cell? ⟨ba,oa + i * 4 + 3,none⟩ = some (.slice a2 l2 c2) ∧ w'.cell? ⟨bk,0,none⟩ = some (.bool ng) ∧ w'.cell? ⟨bk,1,none⟩ = some (.slice ag xg.length cg)) 30 (by kernel_rfl) ?_;obtain ⟨D61,hD⟩ : ∃ D61,wx.drew = D61 := ⟨_,rfl⟩
   have GB : Hid (Below wx.heap.size wx D61) := by unfold Hid;rw [← hD];exact (Below.refl _ _).drew
   rw [hD];clear hD;refine zDA [(0,(.slice (some ⟨ba,oa,none⟩) n cv)),(1,(.int .i64 (i : Int))),(2,(.pointer (some ⟨ba,oa + i * 4,none⟩))),(3,(.pointer (some ⟨ba,oa + i * 4 + 2,none⟩))),(4,(.agg #[.bool n2,.slice a2 l2 c2]))] 5 ?_ (KB.out _ GB.out) ?_
   ·simp only [zJA,gA9,g09,g19,Act.put,sI9,s09,s19]
    (repeat' (first | exact trivial | refine And.intro (Or.inl ⟨by rfl,?_⟩) ?_)) <;> (intro w hSw;(try dsimp only at hSw);go_simp)
   simp only [actV,gA9,g09,g19,Act.put,sI9,s09,s19];refine zBA (i := 5) (o := ⟨some 27,.call { callee := .value (.func 18),args := #[.tmp 26],argTypes := #[45] },3, "outright.go:34",#[⟨4,.data⟩],none⟩) (by kernel_rfl) rfl (fun K hK => ?_);go_simp;go_at_call 18;refine (zHC (ZQ.out.now GB.out).zi).mono ?_;rintro e w62 ⟨he,b⟩;have lz62 := (show Below _ _ _ from b).size;replace GB := hid (zAA GB.out b);rw [HDP.out] at he;subst he;clear b;refine hK.out _ _ (fun _ => KB.out _ GB.out) ?_;clear hK;refine zDA [(6,(.bool false)),(7,(.bool false)),(8,(.agg #[.bool ng,.slice ag xg.length cg]))] 3 ?_ (KB.out _ GB.out) ?_
   ·simp only [zJA,gA9,g09,g19,Act.put,sI9,s09,s19]
    (repeat' (first | exact trivial | refine And.intro (Or.inl ⟨by rfl,?_⟩) ?_)) <;> (intro w hSw;(try dsimp only at hSw);go_simp)
   simp only [actV,gA9,g09,g19,Act.put,sI9,s09,s19];refine zBA (i := 9) (o := ⟨some 31,.call { callee := .value (.func 61),args := #[.const (.int .i64 1)],argTypes := #[2] },45, "outright.go:34",#[⟨7,.chain⟩,⟨7,.guard⟩],some (7,false)⟩) (by kernel_rfl) rfl (fun K hK => ?_);go_simp;go_at_call 61;refine (of_z (n := 1) (by omega) (by omega) _).mono ?_;rintro e w63 ⟨ro,rfl,zz,b⟩;have lz63 := (show Below _ _ _ from b).size;replace GB := hid (zAA GB.out b);obtain ⟨mo,xo,ao,co,rfl⟩ := zz.parts;have MO := hid zz.zi;clear zz;clear b;refine hK.out _ _ (fun _ => KB.out _ GB.out) ?_;clear hK;refine zBA (i := 10) (o := ⟨some 32,.call { callee := .value (.func 60),args := #[.tmp 30,.tmp 31],argTypes := #[45,45] },3, "outright.go:34",#[⟨8,.data⟩,⟨9,.data⟩,⟨9,.chain⟩,⟨7,.guard⟩],some (7,false)⟩) (by kernel_rfl) rfl (fun K hK => ?_);go_simp;go_at_call 60;refine (zpH (ZM.out.now GB.out).zi MO.out).mono ?_;rintro e w64 ⟨rfl,b⟩;have lz64 := (show Below _ _ _ from b).size;replace GB := hid (zAA GB.out b);clear MO;clear b;refine hK.out _ _ (fun _ => KB.out _ GB.out) ?_;clear hK;refine zDA [(11,(.bool false)),(12,(.bool false)),(13,(.bool false)),(14,(.slice (some ⟨ba,oa,none⟩) n cv)),(15,(.int .i64 (i : Int))),(16,(.pointer (some ⟨ba,oa + i * 4,none⟩))),(17,(.pointer (some ⟨ba,oa + i * 4,none⟩))),(18,(.agg #[.bool n1,.slice a1 l1 c1]))] 8 ?_ (KB.out _ GB.out) ?_
   ·simp only [zJA,gA9,g09,g19,Act.put,sI9,s09,s19]
    (repeat' (first | exact trivial | refine And.intro (Or.inl ⟨by rfl,?_⟩) ?_)) <;> (intro w hSw;(try dsimp only at hSw);go_simp)
   simp only [actV,gA9,g09,g19,Act.put,sI9,s09,s19];refine zBA (i := 19) (o := ⟨some 41,.call { callee := .value (.func 62),args := #[.tmp 40],argTypes := #[45] },4, "outright.go:34",#[⟨18,.data⟩,⟨13,.chain⟩,⟨13,.guard⟩],some (13,false)⟩) (by kernel_rfl) rfl (fun K hK => ?_);go_simp;go_at_call 62;refine (zzD (ZP.out.now GB.out)).mono ?_;rintro e w65 ⟨rfl,b⟩;have lz65 := (show Below _ _ _ from b).size;replace GB := hid (zAA GB.out b);clear b;refine hK.out _ _ (fun _ => KB.out _ GB.out) ?_;clear hK;refine zDA [(20,(.bool false)),(21,(.bool false)),(22,(.bool false)),(23,(.slice (some ⟨ba,oa,none⟩) n cv)),(24,(.int .i64 (i : Int))),(25,(.pointer (some ⟨ba,oa + i * 4,none⟩))),(26,(.pointer (some ⟨ba,oa + i * 4 + 2,none⟩))),(27,(.agg #[.bool n2,.slice a2 l2 c2]))] 8 ?_ (KB.out _ GB.out) ?_
   ·simp only [zJA,gA9,g09,g19,Act.put,sI9,s09,s19]
    (repeat' (first | exact trivial | refine And.intro (Or.inl ⟨by rfl,?_⟩) ?_)) <;> (intro w hSw;(try dsimp only at hSw);go_simp)
   simp only [actV,gA9,g09,g19,Act.put,sI9,s09,s19];refine zBA (i := 28) (o := ⟨some 50,.call { callee := .value (.func 62),args := #[.tmp 49],argTypes := #[45] },4, "outright.go:34",#[⟨27,.data⟩,⟨22,.chain⟩,⟨22,.guard⟩],some (22,false)⟩) (by kernel_rfl) rfl (fun K hK => ?_);go_simp;go_at_call 62;refine (zzD (ZQ.out.now GB.out)).mono ?_;rintro e w66 ⟨rfl,b⟩;have lz66 := (show Below _ _ _ from b).size;replace GB := hid (zAA GB.out b);clear b;refine hK.out _ _ (fun _ => KB.out _ GB.out) ?_;clear hK;refine zDA [(29,(.bool false))] 1 ?_ (KB.out _ GB.out) ?_
   ·simp only [zJA,gA9,g09,g19,Act.put,sI9,s09,s19]
    (repeat' (first | exact trivial | refine And.intro (Or.inl ⟨by rfl,?_⟩) ?_)) <;> (intro w hSw;(try dsimp only at hSw);go_simp)
   simp only [actV,gA9,g09,g19,Act.put,sI9,s09,s19];refine zBA (i := 30) (o := ⟨some 52,.pick (.tmp 44) (.const (.bool true)) (.tmp 51),4, "outright.go:34",#[⟨22,.data⟩,⟨29,.data⟩],none⟩) (by kernel_rfl) rfl (fun K hK => ?_);go_simp;refine hK.out _ _ (fun h => absurd h (by decide)) ?_;clear hK
   try simp only [Act.put]
   refine zEA (by kernel_rfl) ?_ _;have HN : Hid (LkH w n (n - (i + 1)) (.int .i64 ((i + 1 : Nat) : Int)) w66) := ⟨i + 1,rfl,by omega,rfl,zAA G2.out GB.out⟩
   have HMM : Hid (n - (i + 1) < gk) := by unfold Hid;rw [HG.out];omega
   clear GB KB ZP ZQ ZM DM G2 HG y0 y1 e1 e2 e3 e4 HGC HDP;go_wp2_with fail;go_roundg (n - (i + 1))
   case rel => exact HN.out
   case measure => exact HMM.out
theorem zhI {w : World} {n1 n2 : Bool} {a1 a2 : Option Addr} {l1 c1 l2 c2 k : Nat} (h1 : Zi w (.agg #[.bool n1,.slice a1 l1 c1]) 1 k) (h2 : Zi w (.agg #[.bool n2,.slice a2 l2 c2]) 1 k) : Calls Tryz.prog 31 #[.agg #[.bool n1,.slice a1 l1 c1,.bool n2,.slice a2 l2 c2]] w fun e w' => e = .returned (.bool true) ∧ Below w.heap.size w w' := by
 obtain ⟨V1,hV⟩ : ∃ V1,w.alloc (.cells #[.bool n1,.slice a1 l1 c1,.bool n2,.slice a2 l2 c2] 47) = V1 := ⟨_,rfl⟩
 obtain ⟨b,sz1⟩ := alo1 w (.cells #[.bool n1,.slice a1 l1 c1,.bool n2,.slice a2 l2 c2] 47);rw [hV] at b sz1;have C : Cel V1 w.heap.size 47 [.bool n1,.slice a1 l1 c1,.bool n2,.slice a2 l2 c2] := by rw [← hV];exact Cel.new w _ _
 have y0 := C.at (i := 0) rfl;have y1 := C.at (i := 1) rfl;have y2 := C.at (i := 2) rfl;have y3 := C.at (i := 3) rfl;have Z1 := hid (h1.now b);have Z2 := hid (h2.now b);have G := hid b;have EV := hid hV;have hc1 : cmpI 1 1 = 0 := by decide
 clear h1 h2 b sz1 hV C;go_enter Tryz.func31,Tryz.ntmps31;go_wp2_with fail;rw [EV.out];clear EV;have KB : Hid (∀ w',Below V1.heap.size V1 w' → w'.cell? ⟨w.heap.size,0,none⟩ = some (.bool n1) ∧ w'.cell? ⟨w.heap.size,1,none⟩ = some (.slice a1 l1 c1) ∧ w'.cell? ⟨w.heap.size,2,none⟩ = some (.bool n2) ∧ w'.cell? ⟨w.heap.size,3,none⟩ = some (.slice a2 l2 c2)) := fun w' h => ⟨cnow h y0,cnow h y1,cnow h y2,cnow h y3⟩
 refine zFA (fun w' => w'.cell? ⟨w.heap.size,0,none⟩ = some (.bool n1) ∧ w'.cell? ⟨w.heap.size,1,none⟩ = some (.slice a1 l1 c1) ∧ w'.cell? ⟨w.heap.size,2,none⟩ = some (.bool n2) ∧ w'.cell? ⟨w.heap.size,3,none⟩ = some (.slice a2 l2 c2)) 12 (by kernel_rfl) ?_;obtain ⟨D21,hD⟩ : ∃ D21,V1.drew = D21 := ⟨_,rfl⟩
 have GB : Hid (Below V1.heap.size V1 D21) := by unfold Hid;rw [← hD];exact (Below.refl _ _).drew
 rw [hD];clear hD;refine zDA [(0,(.pointer (some ⟨w.heap.size,0,none⟩))),(1,(.agg #[.bool n1,.slice a1 l1 c1]))] 2 ?_ (KB.out _ GB.out) ?_
 ·simp only [zJA,gA9,g09,g19,Act.put,sI9,s09,s19]
  (repeat' (first | exact trivial | refine And.intro (Or.inl ⟨by rfl,?_⟩) ?_)) <;> (intro w hSw;(try dsimp only at hSw);go_simp)
 simp only [actV,gA9,g09,g19,Act.put,sI9,s09,s19];refine zBA (i := 2) (o := ⟨some 5,.call { callee := .value (.func 61),args := #[.const (.int .i64 1)],argTypes := #[2] },45, "outright.go:27",#[],none⟩) (by kernel_rfl) rfl (fun K hK => ?_);go_simp;go_at_call 61;refine (of_z (n := 1) (by omega) (by omega) _).mono ?_;rintro e w22 ⟨rr,rfl,zz,b⟩;have lz22 := (show Below _ _ _ from b).size;replace GB := hid (zAA GB.out b);obtain ⟨mp,xp,bp,dp,rfl⟩ := zz.parts;have Mp := hid zz.zi;clear zz;clear b;refine hK.out _ _ (fun _ => KB.out _ GB.out) ?_;clear hK;refine zBA (i := 3) (o := ⟨some 6,.call { callee := .value (.func 60),args := #[.tmp 4,.tmp 5],argTypes := #[45,45] },3, "outright.go:27",#[⟨1,.data⟩,⟨2,.data⟩,⟨2,.chain⟩],none⟩) (by kernel_rfl) rfl (fun K hK => ?_);go_simp;go_at_call 60;refine (zpH (Z1.out.now GB.out) Mp.out).mono ?_;rintro e w23 ⟨rfl,b⟩;have lz23 := (show Below _ _ _ from b).size;replace GB := hid (zAA GB.out b);clear Mp;clear b;refine hK.out _ _ (fun _ => KB.out _ GB.out) ?_;clear hK;refine zDA [(4,(.bool true)),(5,(.bool true)),(6,(.pointer (some ⟨w.heap.size,2,none⟩))),(7,(.agg #[.bool n2,.slice a2 l2 c2]))] 4 ?_ (KB.out _ GB.out) ?_
 ·simp only [zJA,gA9,g09,g19,Act.put,sI9,s09,s19]
  (repeat' (first | exact trivial | refine And.intro (Or.inl ⟨by rfl,?_⟩) ?_)) <;> (intro w hSw;(try dsimp only at hSw);go_simp)
 simp only [actV,gA9,g09,g19,Act.put,sI9,s09,s19];refine zBA (i := 8) (o := ⟨some 11,.call { callee := .value (.func 61),args := #[.const (.int .i64 1)],argTypes := #[2] },45, "outright.go:27",#[⟨5,.chain⟩,⟨5,.guard⟩],some (5,true)⟩) (by kernel_rfl) rfl (fun K hK => ?_);go_simp;go_at_call 61;refine (of_z (n := 1) (by omega) (by omega) _).mono ?_;rintro e w24 ⟨rr,rfl,zz,b⟩;have lz24 := (show Below _ _ _ from b).size;replace GB := hid (zAA GB.out b);obtain ⟨mq,xq,bq,dq,rfl⟩ := zz.parts;have Mq := hid zz.zi;clear zz;clear b;refine hK.out _ _ (fun _ => KB.out _ GB.out) ?_;clear hK;refine zBA (i := 9) (o := ⟨some 12,.call { callee := .value (.func 60),args := #[.tmp 10,.tmp 11],argTypes := #[45,45] },3, "outright.go:27",#[⟨7,.data⟩,⟨8,.data⟩,⟨8,.chain⟩,⟨5,.guard⟩],some (5,true)⟩) (by kernel_rfl) rfl (fun K hK => ?_);go_simp;go_at_call 60;refine (zpH (Z2.out.now GB.out) Mq.out).mono ?_;rintro e w25 ⟨rfl,b⟩;have lz25 := (show Below _ _ _ from b).size;replace GB := hid (zAA GB.out b);clear Mq;clear b;refine hK.out _ _ (fun _ => KB.out _ GB.out) ?_;clear hK;refine zDA [(10,(.bool true)),(11,(.bool true))] 2 ?_ (KB.out _ GB.out) ?_
 ·simp only [zJA,gA9,g09,g19,Act.put,sI9,s09,s19]
  (repeat' (first | exact trivial | refine And.intro (Or.inl ⟨by rfl,?_⟩) ?_)) <;> (intro w hSw;(try dsimp only at hSw);go_simp)
 simp only [actV,gA9,g09,g19,Act.put,sI9,s09,s19];refine zBA (i := 12) (o := ⟨some 2,.assign (.tmp 14),4, "outright.go:27",#[⟨11,.data⟩,⟨9,.chain⟩,⟨0,.phase⟩,⟨1,.phase⟩,⟨2,.phase⟩,⟨3,.phase⟩,⟨4,.phase⟩,⟨5,.phase⟩,⟨6,.phase⟩,⟨7,.phase⟩,⟨8,.phase⟩,⟨9,.phase⟩,⟨10,.phase⟩,⟨11,.phase⟩],none⟩) (by kernel_rfl) rfl (fun K hK => ?_);go_simp;refine hK.out _ _ (fun h => absurd h (by decide)) ?_;clear hK
 try simp only [Act.put]
 refine zEA (by kernel_rfl) ?_ _;have FIN := hid (zAA G.out GB.out);clear GB KB Z1 Z2 G y0 y1 y2 y3;go_wp2;go_ret;exact ⟨rfl,FIN.out⟩
end Go.Proofs.YtffkmeocmjohmaaGreat
