/-
 QMt12ToDt12: Mt12, Pure9, Wk9, Turn9, ChkN9, Dt12, joined.
-/
import Derived.Test.YtkklldokdnfkgaaGreatQCw12ToTy9
import Derived.Test.YtkklldokdnfkgaaGreatQEach9ToPr12
import Derived.Test.YtkklldokdnfkgaaGreatQRd12

set_option maxRecDepth 100000
set_option maxHeartbeats 6400000
set_option linter.unusedVariables false
set_option linter.unusedSimpArgs false
namespace Go.Proofs.YtkklldokdnfkgaaGreat
open Go.RowKit
def Rw (w : World) (v : Value) (xs : List Int) : Prop := ∃ a cap,v = .slice a xs.length cap ∧ xs.length ≤ cap ∧ (0 < xs.length → ∃ b off,a = some ⟨b,off,none⟩ ∧ b < w.heap.size ∧ ∀ j (h : j < xs.length),w.cell? ⟨b,off + j,none⟩ = some (.int .u64 xs[j]))
theorem Rw.now {w w' : World} {v : Value} {xs : List Int} (h : Rw w v xs) (hb : Below w.heap.size w w') : Rw w' v xs := by
 obtain ⟨a,cap,h1,h2,h3⟩ := h;refine ⟨a,cap,h1,h2,fun hp => ?_⟩;obtain ⟨b,off,q1,q2,q3⟩ := h3 hp;exact ⟨b,off,q1,Nat.lt_of_lt_of_le q2 hb.size,fun j hj => (hb.cell (p := ⟨b,off + j,none⟩) q2).trans (q3 j hj)⟩
theorem OwnW.rw {B : Nat} {w : World} {v : Value} {xs : List Int} (h : OwnW B w v xs) : Rw w v xs := by
 have h' := h;obtain ⟨q1,⟨q2,q3⟩ | ⟨g,cap,cur,q2,q3,q4,q5,q6⟩⟩ := h
 ·exact ⟨none,0,by rw [q2,q3],by omega,fun hp => by omega⟩
 ·refine ⟨_,cap,q2,q5,fun _ => ⟨g,0,rfl,(Array.getElem?_eq_some_iff.1 q4).1,fun j hj => ?_⟩⟩
  rw [q2] at h';have := h'.cellAt j (by omega);rw [Nat.zero_add,this];simp [ws,hj]
def IntH (w : World) (n : Nat) (F : Nat → Int) (gk : Nat) (s : Value) (wx : World) : Prop := ∃ i : Nat,s = .int .i64 (i : Int) ∧ i ≤ n ∧ gk = n - i ∧ FilM wx w.heap.size n i F 1 ∧ Below w.heap.size w wx
theorem ziE {w : World} {p : Nat} {v : Value} {xs : List Int} (hv : Rw w v xs) (hr : Res p xs) (hp2 : p < 2147483648) (hl : xs.length ≤ 1048576) :
  Calls Tryz.prog 31 #[v] w (zzH w xs 1) := by
 have HMP : Hid (xs = (List.range xs.length).map fun j => xs.getD j 0) := by
  unfold Hid
  apply List.ext_getElem
  ·simp
  ·intro j h1 h2
   simp [h1]
 have V0 := hid hv;have HR := hid hr;obtain ⟨a0,c0,rfl,hc0,-⟩ := hv;obtain ⟨n,hn⟩ : ∃ n,xs.length = n := ⟨_,rfl⟩
 rw [hn] at V0 hc0 hl HMP ⊢;have HN := hid hn;clear hr hn;go_enter Tryz.func31,Tryz.ntmps31;go_wp2_with (at_make;refine zvA _ rfl _ _ rfl _ _ n n rfl rfl rfl rfl (Nat.le_refl _) (by omega) ?_)
 intro w1 hrow hb1 hsz1;have H0 : Hid (IntH w n (fun j => xs.getD j 0) n (.int .i64 0) w1) := ⟨0,rfl,Nat.zero_le _,by omega,FilM.start hrow _ _,hb1⟩
 clear hrow hb1 hsz1;go_wp2_with fail
 go_loopg [11] n (fun gk s11 wx => IntH w n (fun j => xs.getD j 0) gk s11 wx)
 case atStart => exact H0.out
 case round =>
  clear H0;obtain ⟨i,rfl,hin,hg,hfil,hG⟩ := hrel;have FI := hid hfil;have G := hid hG;have HG := hid hg;clear hfil hG hg
  by_cases hlt : i < n
  ·have hlt' : (i : Int) < (n : Int) := by omega
   have hix : i < xs.length := by rw [HN.out];exact hlt
   obtain ⟨a1,cap1,e1,e2,e3⟩ := V0.out.now G.out;simp only [Value.slice.injEq] at e1;obtain ⟨rfl,-,-⟩ := e1;obtain ⟨b,off,rfl,hbs,hcs⟩ := e3 (by omega);have k0 := hcs i hix;have hx : xs.getD i 0 = xs[i] := by simp [hix]
   have rx := HR.out.at hix;rw [← hx] at k0 rx;obtain ⟨x,hxx⟩ : ∃ x,xs.getD i 0 = x := ⟨_,rfl⟩
   rw [hxx] at k0 rx;have HXX := hid hxx;have cv : IntKind.i64.wrap x = x := by unfold IsR at rx;rw [zRA] <;> omega
   have HS := hid (of_z (n := x) (by unfold IsR at rx;omega) (by unfold IsR at rx;omega) wr);have hw := zkA (i := i) (by omega);clear e2 e3 hcs hbs hx hxx rx;go_wp2_with fail;refine HS.out.mono ?_;rintro e w1 ⟨r,rfl,m1,b1⟩;have FI1 := hid (FI.out.step b1);have G1 := hid (below_step G.out b1);have M1 : Hid (Zm 0 w1 r (xs.getD i 0) 1) := by unfold Hid;rw [HXX.out];exact m1.mono (Nat.zero_le _)
   obtain ⟨nr,xr,ar,cr,rfl⟩ := m1.parts;obtain ⟨m0,am,lm,cm,e0,e1,e2,e3⟩ := FI1.out.cells hlt;have HN1 : Hid (IntH w n (fun j => xs.getD j 0) (n - (i + 1)) (.int .i64 ((i + 1 : Nat) : Int)) ((w1.setCell ⟨w.heap.size,i * 2,none⟩ (.bool nr)).setCell ⟨w.heap.size,i * 2 + 1,none⟩ (.slice ar xr.length cr))) :=
    ⟨i + 1,rfl,by omega,rfl,FI1.out.put hlt M1.out,bset (bset G1.out (Nat.le_refl _)) (Nat.le_refl _)⟩
   have HMM : Hid (n - (i + 1) < gk) := by unfold Hid;rw [HG.out];omega
   clear HS FI G HG FI1 G1 M1 m1 b1 k0 HXX;go_wp2_with fail;go_roundg (n - (i + 1))
   case rel => exact HN1.out
   case measure => exact HMM.out
  ·have hlt' : ¬ (i : Int) < (n : Int) := by omega
   obtain rfl : i = n := by omega
   obtain ⟨ps,p1,p2⟩ := FI.out.done hl;rw [← HMP.out] at p2;have FIN : Hid (zzH w xs 1 (.returned (.slice (some ⟨w.heap.size,0,none⟩) i i)) wr) := ⟨_,ps,rfl,p1,p2,G.out⟩
   clear FI G HG p1 p2;go_wp2;go_ret;exact FIN.out
theorem flatten_res {p : Nat} {ls : List (List Int)} (h : ResM p ls) : Res p ls.flatten := fun x hx => by
 obtain ⟨l,hl,hx⟩ := List.mem_flatten.1 hx;exact h l hl x hx
theorem flatten_len {m : Nat} {ls : List (List Int)} (h : WidE m ls) : ls.flatten.length = ls.length * m := by
 have := zQF (pss := ls) (fun ps hp => h ps hp) ls.length (Nat.le_refl _);rw [List.take_length] at this;exact this
theorem matrix12 {w : World} {lv : Value} {p r c : Nat} {ls : List (List Int)} (hv : Rdl w lv ls) (hw : WidE c ls) (hr : ResM p ls) (hp2 : p < 2147483648) (hl : ls.length = r) (hr2 : r ≤ 64) (hc : c ≤ 64) :
  Calls Tryz.prog 22 #[shv p c lv] w (zVI w r c ls.flatten 1) := by
 have hrc : r * c ≤ 64 * 64 := Nat.mul_le_mul hr2 hc;have hfl : ls.flatten.length = r * c := by rw [flatten_len hw,hl]
 obtain ⟨a,cap,rfl,hcap,-,-⟩ := hv.form;rw [hl] at hv hcap ⊢;obtain ⟨W0,hW⟩ : ∃ W0,(w.alloc (shO p c (.slice a r cap))).alloc mbox = W0 := ⟨_,rfl⟩
 have b0 : Below w.heap.size w W0 := by rw [← hW];exact ((Below.refl _ _).alloc (Nat.le_refl _) _).alloc (by simp) _
 have sz0 : W0.heap.size = w.heap.size + 2 := by rw [← hW];simp
 have P1 : Hid (Cel W0 w.heap.size 54 (shc p c (.slice a r cap))) := by unfold Hid;rw [← hW];exact (Cel.new w _ _).step (zVA _ _).1
 have PR : Hid (Cel W0 (w.heap.size + 1) 24 [.int .i64 0,.int .i64 0,.slice none 0 0]) := by
  unfold Hid;rw [← hW];have := Cel.new (w.alloc (shO p c (.slice a r cap))) 24 [.int .i64 0,.int .i64 0,.slice none 0 0]
  simpa using this
 have k1 := P1.out.at (i := 1) rfl;have k2 := P1.out.at (i := 2) rfl;have V0 := hid (hv.now b0);have HWD := hid hw;have HRS := hid hr;have HLN := hid hl;obtain ⟨FT,hFT⟩ : ∃ FT,ls.flatten = FT := ⟨_,rfl⟩
 have HC : Hid (∀ w',Below W0.heap.size W0 w' → Calls Tryz.prog 42 #[.slice a r cap] w' (zOG w' FT)) := fun w' h => by
  have := concatW_any (V0.out.now h) HWD.out (by rw [hl];omega) (by omega);rw [hFT] at this;exact this
 have HRF : Hid (Res p FT) := by unfold Hid;rw [← hFT];exact flatten_res hr
 rw [hFT] at hfl ⊢;have HFL := hid hfl;have G0 := hid b0;have EW := hid hW;have SZ := hid sz0;have hrc2 := hrc;clear b0 sz0 hW hv hw hr hl hFT hfl hrc;go_enter Tryz.func22,Tryz.ntmps22;go_wp2_with fail;rw [EW.out];clear EW;have KB : Hid (∀ w',Below W0.heap.size W0 w' → w'.cell? ⟨w.heap.size,1,none⟩ = some (.int .i64 (c : Int)) ∧ w'.cell? ⟨w.heap.size,2,none⟩ = some (.slice a r cap)) := fun w' h => ⟨cnow h k1,cnow h k2⟩
 refine zDA (fun w' => w'.cell? ⟨w.heap.size,1,none⟩ = some (.int .i64 (c : Int)) ∧ w'.cell? ⟨w.heap.size,2,none⟩ = some (.slice a r cap)) 10 (by kernel_rfl) ?_;obtain ⟨D1,hD⟩ : ∃ D1,W0.drew = D1 := ⟨_,rfl⟩
 have GB : Hid (Below W0.heap.size W0 D1) := by unfold Hid;rw [← hD];exact (Below.refl _ _).drew
 rw [hD];clear hD;refine zAA (i := 0) (oi := ⟨some 3,.fieldAddr 54 (.tmp 1) 2,0, "sheet.go:49",#[],none⟩) (v := (.pointer (some ⟨w.heap.size,2,none⟩))) rfl (by kernel_rfl) (fun _ _ _ h => h) (Or.inl ⟨by rfl,?_⟩) (KB.out _ GB.out) ?_
 ·intro w hSw;(try dsimp only at hSw);go_simp
 simp only [Act.put,sIb,sC0,sC1];refine zAA (i := 1) (oi := ⟨some 4,.load 52 (.tmp 3),52, "sheet.go:49",#[⟨0,.data⟩],none⟩) (v := (.slice a r cap)) rfl (by kernel_rfl) (fun _ _ _ h => h) (Or.inl ⟨by rfl,?_⟩) (KB.out _ GB.out) ?_
 ·intro w hSw;(try dsimp only at hSw);go_simp
 simp only [Act.put,sIb,sC0,sC1];refine zAA (i := 2) (oi := ⟨some 5,.call { callee := .builtin .len,args := #[.tmp 4],argTypes := #[52] },3, "sheet.go:49",#[⟨1,.data⟩],none⟩) (v := (.int .i64 (r : Int))) rfl (by kernel_rfl) (fun _ _ _ h => h) (Or.inl ⟨by rfl,?_⟩) (KB.out _ GB.out) ?_
 ·intro w hSw;(try dsimp only at hSw);go_simp
 simp only [Act.put,sIb,sC0,sC1];refine zAA (i := 3) (oi := ⟨some 6,.fieldAddr 54 (.tmp 1) 1,0, "sheet.go:49",#[],none⟩) (v := (.pointer (some ⟨w.heap.size,1,none⟩))) rfl (by kernel_rfl) (fun _ _ _ h => h) (Or.inl ⟨by rfl,?_⟩) (KB.out _ GB.out) ?_
 ·intro w hSw;(try dsimp only at hSw);go_simp
 simp only [Act.put,sIb,sC0,sC1];refine zAA (i := 4) (oi := ⟨some 7,.load 3 (.tmp 6),3, "sheet.go:49",#[⟨3,.data⟩],none⟩) (v := (.int .i64 (c : Int))) rfl (by kernel_rfl) (fun _ _ _ h => h) (Or.inl ⟨by rfl,?_⟩) (KB.out _ GB.out) ?_
 ·intro w hSw;(try dsimp only at hSw);go_simp
 simp only [Act.put,sIb,sC0,sC1];refine zAA (i := 5) (oi := ⟨some 8,.fieldAddr 54 (.tmp 1) 2,0, "sheet.go:49",#[],none⟩) (v := (.pointer (some ⟨w.heap.size,2,none⟩))) rfl (by kernel_rfl) (fun _ _ _ h => h) (Or.inl ⟨by rfl,?_⟩) (KB.out _ GB.out) ?_
 ·intro w hSw;(try dsimp only at hSw);go_simp
 simp only [Act.put,sIb,sC0,sC1];refine zAA (i := 6) (oi := ⟨some 9,.load 52 (.tmp 8),52, "sheet.go:49",#[⟨5,.data⟩],none⟩) (v := (.slice a r cap)) rfl (by kernel_rfl) (fun _ _ _ h => h) (Or.inl ⟨by rfl,?_⟩) (KB.out _ GB.out) ?_
 ·intro w hSw;(try dsimp only at hSw);go_simp
 simp only [Act.put,sIb,sC0,sC1];refine zCA (i := 7) (o := ⟨some 10,.call { callee := .value (.func 42),args := #[.tmp 9],argTypes := #[52] },42, "sheet.go:49",#[⟨6,.data⟩],none⟩) (by kernel_rfl) rfl (fun K hK => ?_);go_simp;go_at_call 42;refine (HC.out _ GB.out).mono ?_;rintro e w2 ⟨u,rfl,ho,b⟩;have lz2 := (show Below _ _ _ from b).size;replace GB := hid (below_step GB.out b);have PC := hid ho.rw;obtain ⟨ac,cc,rfl,-,-⟩ := PC.out;clear ho;clear b;refine hK.out _ _ (fun _ => KB.out _ GB.out) ?_;clear hK;refine zCA (i := 8) (o := ⟨some 11,.call { callee := .value (.func 31),args := #[.tmp 10],argTypes := #[42] },22, "sheet.go:49",#[⟨7,.data⟩,⟨7,.chain⟩],none⟩) (by kernel_rfl) rfl (fun K hK => ?_);go_simp;go_at_call 31;refine (ziE PC.out HRF.out hp2 (by rw [HFL.out];omega)).mono ?_;rintro e w3 ⟨u,ps,rfl,p1,p2,b⟩;have lz3 := (show Below _ _ _ from b).size;replace GB := hid (below_step GB.out b);obtain ⟨au,cu,rfl,-,-,-,-⟩ := p1.1.form;have hql : ps.length = r * c := by rw [p2.1,HFL.out]
 obtain ⟨n,hn⟩ : ∃ n,r * c = n := ⟨_,rfl⟩
 rw [hql,hn] at p1;rw [hql,hn];have HNN := hid hn;have PP := hid p1;have PZ := hid p2;clear p1 p2 hql hn;clear b;refine hK.out _ _ (fun _ => KB.out _ GB.out) ?_;clear hK;refine zAA (i := 9) (oi := ⟨some 12,.build 24 #[(0,.tmp 5),(1,.tmp 7),(2,.tmp 11)],24, "sheet.go:49",#[⟨2,.data⟩,⟨4,.data⟩,⟨8,.data⟩],none⟩) (v := (.agg #[.int .i64 (r : Int),.int .i64 (c : Int),.slice au n cu])) rfl (by kernel_rfl) (fun _ _ _ h => h) (Or.inl ⟨by rfl,?_⟩) (KB.out _ GB.out) ?_
 ·intro w hSw;(try dsimp only at hSw);go_simp
 simp only [Act.put,sIb,sC0,sC1];refine zCA (i := 10) (o := ⟨none,.store 24 (.tmp 2) (.tmp 12),0, "sheet.go:49",#[⟨9,.data⟩,⟨8,.chain⟩,⟨0,.phase⟩,⟨1,.phase⟩,⟨2,.phase⟩,⟨3,.phase⟩,⟨4,.phase⟩,⟨5,.phase⟩,⟨6,.phase⟩,⟨7,.phase⟩,⟨8,.phase⟩,⟨9,.phase⟩],none⟩) (by kernel_rfl) rfl (fun K hK => ?_);have PR2 := hid (PR.out.step GB.out);have y0 := PR2.out.at (i := 0) rfl;have y1 := PR2.out.at (i := 1) rfl;have y2 := PR2.out.at (i := 2) rfl;have g0 := PR2.out.fz 0;have g1 := PR2.out.fz 1;have g2 := PR2.out.fz 2;go_simp;refine hK.out _ _ (fun h => absurd h (by decide)) ?_;clear hK
 try simp only [Act.put]
 refine zFA (by kernel_rfl) ?_ _;have FIN : Hid (zVI w r c FT 1 (.returned (.agg #[.int .i64 (r : Int),.int .i64 (c : Int),.slice au n cu])) (put3 w3 (w.heap.size + 1) (.int .i64 (r : Int)) (.int .i64 (c : Int)) (.slice au n cu))) := by
  refine ⟨_,rfl,⟨_,ps,rfl,?_,PZ.out.zcs.wk (PR2.out.wk3 _ _ _),HFL.out,hr2,hc⟩,zgA (below_step G0.out GB.out) (by omega) _ _ _⟩;have t1 : Ty 24 w3 (put3 w3 (w.heap.size + 1) (.int .i64 (r : Int)) (.int .i64 (c : Int)) (.slice au n cu)) := ((Ty.set PR2.out).trans (Ty.set (PR2.out.set 0 _))).trans (Ty.set ((PR2.out.set 0 _).set 1 _));exact (PP.out.ty t1 (by decide)).1
 have PG := hid (PR2.out.put3 (.int .i64 (r : Int)) (.int .i64 (c : Int)) (.slice au n cu));clear PR PR2 PP PZ GB KB HC G0 k1 k2 y0 y1 y2 g0 g1 g2;go_wp2;exact bodyPost_ret (zhI Tryz.results22 PG.out _ (by rfl)) rfl FIN.out
end Go.Proofs.YtkklldokdnfkgaaGreat
namespace Go.Proofs.YtkklldokdnfkgaaGreat

open Go.RowKit


abbrev mrV (r c : Int) (a : Option Addr) (l cap : Nat) : Value := .agg #[.int .i64 r,.int .i64 c,.slice a l cap]
abbrev mrO (r c : Int) (a : Option Addr) (l cap : Nat) : Obj := .cells #[.int .i64 r,.int .i64 c,.slice a l cap] 24
abbrev mrC (r c : Int) (a : Option Addr) (l cap : Nat) : List Value := [.int .i64 r,.int .i64 c,.slice a l cap]
theorem isSquare12 {w : World} {r c : Int} {a : Option Addr} {l cap : Nat} : Calls Tryz.prog 38 #[mrV r c a l cap] w fun e w' => e = .returned (.bool (r == c)) ∧ Below w.heap.size w w' := by
 obtain ⟨W0,hW⟩ : ∃ W0,w.alloc (mrO r c a l cap) = W0 := ⟨_,rfl⟩
 obtain ⟨b0,sz0⟩ := zVA w (mrO r c a l cap);rw [hW] at b0 sz0;have P1 : Hid (Cel W0 w.heap.size 24 (mrC r c a l cap)) := by unfold Hid;rw [← hW];exact Cel.new w _ _
 have x0 := P1.out.at (i := 0) rfl;have x1 := P1.out.at (i := 1) rfl;rw [← hW] at x0 x1;have G0 := hid b0;have EW := hid hW;clear b0 sz0 hW P1;go_enter Tryz.func38,Tryz.ntmps38;go_wp2;go_ret;exact ⟨rfl,by rw [EW.out];exact G0.out⟩
def gdB (p : Nat) : Bool := decide (p < 2147483648) && prB p
def zDD (s f : Bool) (p : Nat) : Int := if s = false then 1 else if f = false then 2 else if gdB p = false then 9 else 0
theorem zIE {w : World} {r c : Int} {a : Option Addr} {l cap p : Nat} {s f : Bool} (hc : ∀ w',Below w.heap.size w w' → Calls Tryz.prog 39 #[mrV r c a l cap] w' fun e w'' => e = .returned (.int .i64 (if s = true then 0 else 1)) ∧ Below w'.heap.size w' w'') :
  Calls Tryz.prog 19 #[mrV r c a l cap,.bool f,.int .u64 (p : Int)] w fun e w' => e = .returned (.int .i64 (zDD s f p)) ∧ Below w.heap.size w w' := by
 obtain ⟨W0,hW⟩ : ∃ W0,w.alloc (mrO r c a l cap) = W0 := ⟨_,rfl⟩
 obtain ⟨b0,sz0⟩ := zVA w (mrO r c a l cap);rw [hW] at b0 sz0;have P1 : Hid (Cel W0 w.heap.size 24 (mrC r c a l cap)) := by unfold Hid;rw [← hW];exact Cel.new w _ _
 have x0 := P1.out.at (i := 0) rfl;have x1 := P1.out.at (i := 1) rfl;have x2 := P1.out.at (i := 2) rfl;rw [← hW] at x0 x1 x2;have HC := hid (hc W0 b0);have G0 := hid b0;have EW := hid hW;have HF : Hid (∀ s f p,zDD s f p = if s = false then 1 else if f = false then 2 else if gdB p = false then 9 else 0) := fun _ _ _ => rfl
 obtain ⟨E,hE⟩ : ∃ E,zDD s f p = E := ⟨_,rfl⟩
 rw [hE];have HE := hid hE;clear b0 sz0 hW P1 hc hE;rcases Bool.eq_false_or_eq_true s with hs | hs
 ·subst hs
  rcases Bool.eq_false_or_eq_true f with hf | hf
  ·subst hf
   by_cases hp : p < 2147483648
   ·have hp1 : ¬ (2147483648 : Int) ≤ (p : Int) := by omega
    go_enter Tryz.func19,Tryz.ntmps19;go_wp2_with fail;rw [EW.out];refine HC.out.mono ?_;rintro e w1 ⟨rfl,b1⟩;have G1 := hid (below_step G0.out b1);have HP := hid (zEE (w := w1) hp);obtain ⟨q,hq⟩ : ∃ q,prB p = q := ⟨_,rfl⟩
    have HQ := hid hq;rw [hq] at HP;clear HC b1 hq;go_wp2_with fail;refine HP.out.mono ?_;rintro e w2 ⟨rfl,hw2⟩;have hw2' := hw2.symm;subst hw2';clear hw2 HP;have h1 := HE.out;have h2 : gdB p = q := by unfold gdB;rw [HQ.out];simp [hp]
    rw [HF.out,h2] at h1;have HE1 := hid h1;have hd1 : decide ((2147483648 : Int) ≤ (p : Int)) = false := decide_eq_false (by omega);clear h1 h2 hp;rcases Bool.eq_false_or_eq_true q with hq | hq
    ·subst hq
     go_wp2;go_ret;exact ⟨by rw [← HE1.out];rfl,G1.out⟩
    ·subst hq
     go_wp2;go_ret;exact ⟨by rw [← HE1.out];rfl,G1.out⟩
   ·have hp1 : (2147483648 : Int) ≤ (p : Int) := by omega
    go_enter Tryz.func19,Tryz.ntmps19;go_wp2_with fail;rw [EW.out];refine HC.out.mono ?_;rintro e w1 ⟨rfl,b1⟩;have G1 := hid (below_step G0.out b1);have h1 := HE.out;have h2 : gdB p = false := by unfold gdB;simp [hp]
    rw [HF.out,h2] at h1;have HE1 := hid h1;clear HC b1 h1 h2;go_wp2;go_ret;exact ⟨by rw [← HE1.out];rfl,G1.out⟩
  ·subst hf
   go_enter Tryz.func19,Tryz.ntmps19;go_wp2_with fail;rw [EW.out];refine HC.out.mono ?_;rintro e w1 ⟨rfl,b1⟩;have G1 := hid (below_step G0.out b1);have h1 := HE.out;rw [HF.out] at h1;have HE1 := hid h1;clear HC b1 h1;go_wp2;go_ret;exact ⟨by rw [← HE1.out];rfl,G1.out⟩
 ·subst hs
  go_enter Tryz.func19,Tryz.ntmps19;go_wp2_with fail;rw [EW.out];refine HC.out.mono ?_;rintro e w1 ⟨rfl,b1⟩;have G1 := hid (below_step G0.out b1);have h1 := HE.out;rw [HF.out] at h1;have HE1 := hid h1;clear HC b1 h1;go_wp2;go_ret;exact ⟨by rw [← HE1.out];rfl,G1.out⟩
theorem Mx.chk {w : World} {v : Value} {r c : Nat} {zs : List Int} {K : Nat} (h : Mx w v r c zs K) : ∀ w',Below w.heap.size w w' → Calls Tryz.prog 39 #[v] w' fun e w'' => e = .returned (.int .i64 (if true = true then 0 else 1)) ∧ Below w'.heap.size w' w'' := fun w' hb => check_yes (h.now hb)
def detN (p r : Nat) (zs : List Int) : Int := if (zXA p (zLA p r r zs) r).pv.length < r then 0 else (zXA p (zLA p r r zs) r).f
def Det12 (w : World) (d E : Int) (e : Ending) (w' : World) : Prop := e = .returned (.tuple #[.int .u64 d,.int .i64 E]) ∧ Below w.heap.size w w'
theorem det12 {w : World} {v : Value} {p r : Nat} {zs : List Int} {K : Nat} (hp : gdB p = true) (h : Mx w v r r zs K) (hK : K ≤ 1099511627775) : Calls Tryz.prog 17 #[v,.int .u64 (p : Int)] w (Det12 w (detN p r zs) 0) := by
 have hgd := hp;unfold gdB at hgd;rw [Bool.and_eq_true,decide_eq_true_eq,zyE] at hgd;obtain ⟨hp2,hpr⟩ := hgd;have hp1 := hpr.1;have hm0 := h;obtain ⟨a,cap,rfl,hr,-⟩ := h.form;obtain ⟨n,hn⟩ : ∃ n,r * r = n := ⟨_,rfl⟩
 rw [hn] at hm0 ⊢;have hl : zs.length = r * r := by obtain ⟨_,_,_,_,_,q,_⟩ := hm0;exact q
 obtain ⟨W0,hW⟩ : ∃ W0,w.alloc (mrO (r : Int) (r : Int) a n cap) = W0 := ⟨_,rfl⟩
 obtain ⟨b0,sz0⟩ := zVA w (mrO (r : Int) (r : Int) a n cap);rw [hW] at b0 sz0;have P1 : Hid (Cel W0 w.heap.size 24 (mrC (r : Int) (r : Int) a n cap)) := by unfold Hid;rw [← hW];exact Cel.new w _ _
 have x0 := P1.out.at (i := 0) rfl;have x1 := P1.out.at (i := 1) rfl;have x2 := P1.out.at (i := 2) rfl;have MX := hid (hm0.now b0);have G0 := hid b0;have EW := hid hW;have HKK := hid hK;obtain ⟨LL,hLL⟩ : ∃ LL,zLA p r r zs = LL := ⟨_,rfl⟩
 obtain ⟨S,hS⟩ : ∃ S,zXA p LL r = S := ⟨_,rfl⟩
 have HD : Hid (detN p r zs = if S.pv.length < r then 0 else S.f) := by unfold Hid detN;rw [hLL,hS]
 have HLL := hid hLL;have HSS := hid hS;have HRS : Hid (ResM p LL) := by unfold Hid;rw [← hLL];exact zhA (by omega)
 have HLN : Hid (LL.length = r) := by unfold Hid;rw [← hLL];exact zPA _ _ _ _
 obtain ⟨d,hd⟩ : ∃ d,detN p r zs = d := ⟨_,rfl⟩
 rw [hd] at HD ⊢;have HGD := hid hp;have NMZ : Hid (0 = zDD true true p) := by unfold Hid zDD;rw [HGD.out];rfl
 clear b0 sz0 hW h hm0 hK hLL hS hd hl hn hpr hp;go_enter Tryz.func17,Tryz.ntmps17;go_wp2_with fail;rw [EW.out];clear EW;have KB : Hid (∀ w',Below W0.heap.size W0 w' → w'.cell? ⟨w.heap.size,0,none⟩ = some (.int .i64 (r : Int)) ∧ w'.cell? ⟨w.heap.size,1,none⟩ = some (.int .i64 (r : Int)) ∧ w'.cell? ⟨w.heap.size,2,none⟩ = some (.slice a n cap)) := fun w' h => ⟨cnow h x0,cnow h x1,cnow h x2⟩
 refine zDA (fun w' => w'.cell? ⟨w.heap.size,0,none⟩ = some (.int .i64 (r : Int)) ∧ w'.cell? ⟨w.heap.size,1,none⟩ = some (.int .i64 (r : Int)) ∧ w'.cell? ⟨w.heap.size,2,none⟩ = some (.slice a n cap)) 5 (by kernel_rfl) ?_;obtain ⟨D1,hD⟩ : ∃ D1,W0.drew = D1 := ⟨_,rfl⟩
 have GB : Hid (Below W0.heap.size W0 D1) := by unfold Hid;rw [← hD];exact (Below.refl _ _).drew
 rw [hD];clear hD;refine zAA (i := 0) (oi := ⟨some 9,.load 24 (.tmp 2),24, "modp.go:21",#[],none⟩) (v := (.agg #[.int .i64 (r : Int),.int .i64 (r : Int),.slice a n cap])) rfl (by kernel_rfl) (fun _ _ _ h => h) (Or.inl ⟨by rfl,?_⟩) (KB.out _ GB.out) ?_
 ·intro w hSw;(try dsimp only at hSw);go_simp
 simp only [Act.put,sIb,sC0,sC1];refine zAA (i := 1) (oi := ⟨some 10,.load 24 (.tmp 2),24, "modp.go:21",#[],none⟩) (v := (.agg #[.int .i64 (r : Int),.int .i64 (r : Int),.slice a n cap])) rfl (by kernel_rfl) (fun _ _ _ h => h) (Or.inl ⟨by rfl,?_⟩) (KB.out _ GB.out) ?_
 ·intro w hSw;(try dsimp only at hSw);go_simp
 simp only [Act.put,sIb,sC0,sC1];refine zAA (i := 3) (oi := ⟨some 12,.move (.tmp 1),25, "modp.go:21",#[],none⟩) (v := (.int .u64 (p : Int))) rfl (by kernel_rfl) (fun _ _ _ h => h) (Or.inl ⟨by rfl,?_⟩) (KB.out _ GB.out) ?_
 ·intro w hSw;(try dsimp only at hSw);go_simp
 simp only [Act.put,sIb,sC0,sC1];refine zCA (i := 2) (o := ⟨some 11,.call { callee := .value (.func 38),args := #[.tmp 10],argTypes := #[24] },4, "modp.go:21",#[⟨1,.data⟩],none⟩) (by kernel_rfl) rfl (fun K hK => ?_);go_simp;go_at_call 38;refine (isSquare12).mono ?_;rintro e w2 ⟨rfl,b⟩;have lz2 := (show Below _ _ _ from b).size;replace GB := hid (below_step GB.out b);have hbq : ((r : Int) == (r : Int)) = true := by simp
 rw [hbq];clear b;refine hK.out _ _ (fun _ => KB.out _ GB.out) ?_;clear hK;refine zCA (i := 4) (o := ⟨some 13,.call { callee := .value (.func 19),args := #[.tmp 9,.tmp 11,.tmp 12],argTypes := #[24,4,25] },29, "modp.go:21",#[⟨0,.data⟩,⟨2,.data⟩,⟨3,.data⟩,⟨2,.chain⟩],none⟩) (by kernel_rfl) rfl (fun K hK => ?_);go_simp;go_at_call 19;refine (zIE (s := true) (f := true) (p := p) (MX.out.now GB.out).chk).mono ?_;rintro e w3 ⟨rfl,b⟩;have lz3 := (show Below _ _ _ from b).size;replace GB := hid (below_step GB.out b);rw [← NMZ.out];clear b;refine hK.out _ _ (fun _ => KB.out _ GB.out) ?_;clear hK;refine zCA (i := 5) (o := ⟨some 6,.assign (.tmp 13),29, "modp.go:21",#[⟨4,.data⟩,⟨4,.chain⟩,⟨0,.phase⟩,⟨1,.phase⟩,⟨2,.phase⟩,⟨3,.phase⟩,⟨4,.phase⟩],none⟩) (by kernel_rfl) rfl (fun K hK => ?_);go_simp;refine hK.out _ _ (fun h => absurd h (by decide)) ?_;clear hK
 try simp only [Act.put]
 refine zFA (by kernel_rfl) ?_ _;have x0' := cnow GB.out x0;have x1' := cnow GB.out x1;have x2' := cnow GB.out x2;have G1 := hid (below_step G0.out GB.out);have HSH := hid (zxC hp1 hp2 (MX.out.now GB.out) HKK.out);rw [HLL.out] at HSH;replace P1 := hid (P1.out.step GB.out);have HVL := hid P1.out.blk;clear x0 x1 x2 GB KB G0 MX;go_wp2_with fail;refine HSH.out.mono ?_;rintro e w8 ⟨lv,gs,rfl,hln,b8⟩;have HRD := hid (zfD hp1 hp2 hln HRS.out HLN.out hr (by omega) b8.size);replace P1 := hid (P1.out.step b8);have GR := hid (below_step G1.out b8);have LE8 := hid b8.size;obtain ⟨la,lcap,rfl,-,-⟩ := hln.form;clear HSH x0' x1' x2' hln b8 G1;go_wp2_with fail;refine HRD.out.mono ?_;rintro e w9 ⟨pvv,gs9,rfl,hpv,hln9,b9⟩;rw [HSS.out] at hpv ⊢;obtain ⟨pa,pcap,rfl,-⟩ := hpv.form;have G9 : Hid (Below w.heap.size w w9) := by
  unfold Hid;exact GR.out.trans (b9.1.mono (Nat.le_of_lt HVL.out))
 have y0 := (b9.1.cell (p := ⟨w.heap.size,0,none⟩) HVL.out).trans (P1.out.at (i := 0) rfl);clear HRD hpv hln9 b9 GR LE8 P1;generalize S.pv.length = k at *;generalize S.f = f at *
 by_cases hk : k < r
 ·have hk' : (k : Int) < (r : Int) := by omega
  have h1 := HD.out;rw [if_pos hk] at h1;subst h1;clear HD;go_wp2;go_ret2;exact ⟨rfl,G9.out⟩
 ·have hk' : ¬ (k : Int) < (r : Int) := by omega
  have h1 := HD.out;rw [if_neg hk] at h1;subst h1;clear HD;go_wp2;go_ret2;exact ⟨rfl,G9.out⟩
end Go.Proofs.YtkklldokdnfkgaaGreat
