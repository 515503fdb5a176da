/-
 QSm18ToOh18: Sm18, Wa18, Oh18, joined.
-/
import Derived.Test.YtbcgggadelnaaaaGreatQTp18
import Derived.Test.YtbcgggadelnaaaaGreatQProd9ToOpenM9
import Derived.Test.YtbcgggadelnaaaaGreatQFo18ToFar
import Derived.Test.YtbcgggadelnaaaaGreatQLm6ToChkN9

set_option maxRecDepth 100000
set_option maxHeartbeats 6400000
set_option linter.unusedVariables false
set_option linter.unusedSimpArgs false
namespace Go.Proofs.YtbcgggadelnaaaaGreat
open Go.RowKit
def zWH (w : World) (n gk : Nat) (s : Value) (wx : World) : Prop := ∃ i : Nat,s = .int .i64 (i : Int) ∧ i ≤ n ∧ gk = n - i ∧ Below w.heap.size w wx
theorem ziE {w : World} {va vb : Value} {ps qs : List (Value × Value)} {k l : Nat} {zs ys : List Int} (ha : Prs 0 w va ps) (hza : Zcs w ps zs k) (hb : Prs 0 w vb qs) (hzb : Zcs w qs ys l) (he : zs = ys) :
  Calls Tryz.prog 22 #[va,vb] w fun e w' => e = .returned (.bool true) ∧ Below w.heap.size w w' := by
 subst he;obtain ⟨aa,ca,rfl,hca,hna,-,hfa⟩ := ha.form;obtain ⟨ab,cb,rfl,hcb,hnb,-,hfb⟩ := hb.form;obtain ⟨n,hn⟩ : ∃ n,zs.length = n := ⟨_,rfl⟩
 have ea : ps.length = n := hza.1.trans hn;have eb : qs.length = n := hzb.1.trans hn;have A0 := hid ha;have B0 := hid hb;rw [ea] at A0 hna hca ⊢;rw [eb] at B0 hnb hcb ⊢;have q2 : ((n : Int) != (n : Int)) = false := by simp
 have ZA := hid hza;have ZB := hid hzb;have FA : Hid (n ≠ 0 → ∃ b off,aa = some ⟨b,off,none⟩) := fun h => by
  obtain ⟨b,off,e,-⟩ := hfa (fun e => h (by rw [← ea,e];rfl));exact ⟨b,off,e⟩
 have FB : Hid (n ≠ 0 → ∃ b off,ab = some ⟨b,off,none⟩) := fun h => by
  obtain ⟨b,off,e,-⟩ := hfb (fun e => h (by rw [← eb,e];rfl));exact ⟨b,off,e⟩
 have HN := hid hn;have H0 : Hid (zWH w n n (.int .i64 0) w) := ⟨0,rfl,Nat.zero_le _,by omega,Below.refl _ _⟩
 clear ha hza hb hzb hfa hfb hn ea eb;go_enter Tryz.func22,Tryz.ntmps22;go_wp2_with fail
 go_loopg [5] n (fun gk s5 wx => zWH w n gk s5 wx)
 case atStart => exact H0.out
 case round =>
  clear H0;obtain ⟨i,rfl,hin,hg,hG⟩ := hrel;have G := hid hG;have HG := hid hg;clear hG hg
  by_cases hlt : i < n
  ·have hlt' : (i : Int) < (n : Int) := by omega
   obtain ⟨b1,o1,rfl⟩ := FA.out (by omega);obtain ⟨b2,o2,rfl⟩ := FB.out (by omega);obtain ⟨nf,xf,adf,qf,k0,k1,zf⟩ := Zcs.at9 (A0.out.now G.out) (ZA.out.now G.out) (i := i) (by rw [HN.out];exact hlt);obtain ⟨ng,xg,adg,qg,k2,k3,zg⟩ := Zcs.at9 (B0.out.now G.out) (ZB.out.now G.out) (i := i) (by rw [HN.out];exact hlt);have HS : Hid (∀ w',Below wr.heap.size wr w' → Calls Tryz.prog 19 #[.agg #[.bool nf,.slice adf xf.length qf],.agg #[.bool ng,.slice adg xg.length qg]] w' fun e w'' => e = .returned (.bool true) ∧ Below w'.heap.size w' w'') := fun w' h => zRD (zf.now h) (zg.now h) rfl
   clear zf zg;have hw := zVA (i := i) (by omega);go_wp2_with fail;have KB : Hid (∀ w',Below wr.heap.size wr w' → w'.cell? ⟨b1,o1 + i * 2,none⟩ = some (.bool nf) ∧ w'.cell? ⟨b1,o1 + i * 2 + 1,none⟩ = some (.slice adf xf.length qf) ∧ w'.cell? ⟨b2,o2 + i * 2,none⟩ = some (.bool ng) ∧ w'.cell? ⟨b2,o2 + i * 2 + 1,none⟩ = some (.slice adg xg.length qg)) := fun w' h => ⟨cnow h k0,cnow h k1,cnow h k2,cnow h k3⟩
   refine zEA (fun w' => w'.cell? ⟨b1,o1 + i * 2,none⟩ = some (.bool nf) ∧ w'.cell? ⟨b1,o1 + i * 2 + 1,none⟩ = some (.slice adf xf.length qf) ∧ w'.cell? ⟨b2,o2 + i * 2,none⟩ = some (.bool ng) ∧ w'.cell? ⟨b2,o2 + i * 2 + 1,none⟩ = some (.slice adg xg.length qg)) 9 (by kernel_rfl) ?_;obtain ⟨D1,hD⟩ : ∃ D1,wr.drew = D1 := ⟨_,rfl⟩
   have GB : Hid (Below wr.heap.size wr D1) := by unfold Hid;rw [← hD];exact (Below.refl _ _).drew
   rw [hD];clear hD;refine zFA [(0,(.slice (some ⟨b1,o1,none⟩) n ca)),(1,(.int .i64 (i : Int))),(2,(.pointer (some ⟨b1,o1 + i * 2,none⟩))),(3,(.agg #[.bool nf,.slice adf xf.length qf])),(4,(.slice (some ⟨b2,o2,none⟩) n cb)),(5,(.int .i64 (i : Int))),(6,(.pointer (some ⟨b2,o2 + i * 2,none⟩))),(7,(.agg #[.bool ng,.slice adg xg.length qg]))] 8 ?_ (KB.out _ GB.out) ?_
   ·simp only [zMA,gA9,g09,g19,Act.put,sI9,s09,s19]
    (repeat' (first | exact trivial | refine And.intro (Or.inl ⟨by rfl,?_⟩) ?_)) <;> (intro w hSw;(try dsimp only at hSw);go_simp)
   simp only [actV,gA9,g09,g19,Act.put,sI9,s09,s19];refine zAA (i := 8) (o := ⟨some 25,.call { callee := .value (.func 19),args := #[.tmp 20,.tmp 24],argTypes := #[51,51] },4, "top.go:40",#[⟨3,.data⟩,⟨7,.data⟩],none⟩) (by kernel_rfl) rfl (fun K hK => ?_);go_simp;go_at_call 19;refine (HS.out _ GB.out).mono ?_;rintro e w2 ⟨rfl,b⟩;have lz2 := (show Below _ _ _ from b).size;replace GB := hid (below_step GB.out b);have G1 := hid (below_step G.out GB.out);clear b;refine hK.out _ _ (fun _ => KB.out _ GB.out) ?_;clear hK;refine zAA (i := 9) (o := ⟨some 26,.unOp .not 4 (.tmp 25),4, "top.go:40",#[⟨8,.data⟩],none⟩) (by kernel_rfl) rfl (fun K hK => ?_);go_simp;refine hK.out _ _ (fun h => absurd h (by decide)) ?_;clear hK
   try simp only [Act.put]
   refine zDA (by kernel_rfl) ?_ _;have HN1 : Hid (zWH w n (n - (i + 1)) (.int .i64 ((i + 1 : Nat) : Int)) w2) := ⟨i + 1,rfl,by omega,rfl,G1.out⟩
   have HMM : Hid (n - (i + 1) < gk) := by unfold Hid;rw [HG.out];omega
   clear HS G HG G1 GB KB k0 k1 k2 k3;go_wp2_with fail;go_roundg (n - (i + 1))
   case rel => exact HN1.out
   case measure => exact HMM.out
  ·have hlt' : ¬ (i : Int) < (n : Int) := by omega
   have FIN := hid G.out;clear HG G;go_wp2;go_ret;exact ⟨rfl,FIN.out⟩
theorem same18 {w : World} {va vb : Value} {r c k l : Nat} {zs ys : List Int} (ha : Mc w va r c zs k) (hb : Mc w vb r c ys l) (he : zs = ys) :
  Calls Tryz.prog 12 #[va,vb] w fun e w' => e = .returned (.bool true) ∧ Below w.heap.size w w' := by
 obtain ⟨ata,ps,rfl,pa1,pa2,hlz,hr,hc⟩ := ha;obtain ⟨atb,qs,rfl,pb1,pb2,-,-,-⟩ := hb;obtain ⟨W0,hW⟩ : ∃ W0,(w.alloc (matO r c ata)).alloc (matO r c atb) = W0 := ⟨_,rfl⟩
 obtain ⟨b0,sz0⟩ := zXA w (matO r c ata) (matO r c atb);rw [hW] at b0 sz0;have HR := hid (show ∀ w',Below W0.heap.size W0 w' → Calls Tryz.prog 22 #[ata,atb] w' fun e w'' => e = .returned (.bool true) ∧ Below w'.heap.size w' w'' from fun w' h => ziE ((pa1.now b0).now h) ((pa2.now b0).now h) ((pb1.now b0).now h) ((pb2.now b0).now h) he);have hpl : ps.length = r * c := pa2.1.trans hlz;have hrc : r * c ≤ 64 * 64 := Nat.mul_le_mul hr hc;obtain ⟨aa,ca,rfl,-,-,-,-⟩ := pa1.form;obtain ⟨ab,cb,rfl,-,-,-,-⟩ := pb1.form;have HSO := hid (zvD (w := W0) (r := (r : Int)) (c := (c : Int)) (a := aa) (l := ps.length) (cap := ca) (by rw [hpl];omega));have hsn : Snd (r : Int) (c : Int) ps.length := ⟨by omega,by omega,by omega,by omega,by rw [hpl];simp⟩
 rw [decide_eq_true hsn] at HSO;clear hpl hrc hlz hsn;generalize ps.length = na at *;generalize qs.length = nb at *;have pa : Cel W0 w.heap.size 24 (matc r c (.slice aa na ca)) := by
  rw [← hW];exact (Cel.new w 24 (matc r c (.slice aa na ca))).step ((Below.refl _ _).alloc (Nat.le_refl _) _)
 have pb : Cel W0 (w.heap.size + 1) 24 (matc r c (.slice ab nb cb)) := by
  rw [← hW];have := Cel.new (w.alloc (matO r c (.slice aa na ca))) 24 (matc r c (.slice ab nb cb))
  simpa using this
 have x0 := pa.at (i := 0) rfl;have x1 := pa.at (i := 1) rfl;have x2 := pa.at (i := 2) rfl;have y0 := pb.at (i := 0) rfl;have y1 := pb.at (i := 1) rfl;have y2 := pb.at (i := 2) rfl;rw [← hW] at x0 x1 x2;have q0 : ((r : Int) == (r : Int)) = true := by simp
 have q1 : ((c : Int) == (c : Int)) = true := by simp
 have G0 := hid b0;have EW := hid hW;have PA := hid pa;have PB := hid pb;clear pa1 pa2 pb1 pb2 b0 sz0 hW pa pb y0 y1 y2;go_enter Tryz.func12,Tryz.ntmps12;go_wp2_with fail;rw [EW.out];refine HSO.out.mono ?_;rintro e w0 ⟨rfl,b⟩;have HR0 := hid (HR.out w0 b);have G1 := hid (below_step G0.out b);replace PA := PA.out.step b;replace PB := PB.out.step b;clear x0 x1 x2 EW HSO HR G0 b;have x0 := PA.at (i := 0) rfl;have x1 := PA.at (i := 1) rfl;have x2 := PA.at (i := 2) rfl;have y0 := PB.at (i := 0) rfl;have y1 := PB.at (i := 1) rfl;have y2 := PB.at (i := 2) rfl;clear PA PB;go_wp2_with fail;refine HR0.out.mono ?_;rintro e w1 ⟨rfl,b⟩;have FIN := hid (below_step G1.out b);clear x0 x1 x2 y0 y1 y2 b HR0 G1;go_wp2;go_ret;exact ⟨rfl,FIN.out⟩
theorem zVF {w : World} {a : Option Addr} {c : Nat} {n : Int} (h : Zi w (.agg #[.bool false,.slice a 1 c]) n 1) (h0 : 0 < n) (h1 : n ≤ 18446744073709551615) : Zc w (.agg #[.bool false,.slice a 1 c]) n 1 := by
 obtain ⟨nb,xs,a',c',e,s0,z0,k0⟩ := h;simp only [Value.agg.injEq] at e;have e' : nb = false ∧ a' = a ∧ xs.length = 1 ∧ c' = c := by simp at e;obtain ⟨rfl,rfl,q,rfl⟩ := e;exact ⟨rfl,rfl,q.symm,rfl⟩
 obtain ⟨rfl,rfl,hl,rfl⟩ := e'
 match xs,hl with
 | [x],_ =>
  have hx : x = n := by simpa [iv,val] using z0
  subst hx;exact ⟨false,[x],a',c',rfl,s0,can_one h0 h1,fun q => rfl,z0,k0⟩
theorem mc_four18 {V : World} {g : Nat} {n0 n1 n2 n3 : Bool} {a0 a1 a2 a3 : Option Addr} {l0 l1 l2 l3 c0 c1 c2 c3 : Nat} {z0 z1 z2 z3 : Int} {k : Nat} (d : Cel V g 51 [.bool n0,.slice a0 l0 c0,.bool n1,.slice a1 l1 c1,.bool n2,.slice a2 l2 c2,.bool n3,.slice a3 l3 c3])
  (h0 : Zc V (.agg #[.bool n0,.slice a0 l0 c0]) z0 k) (h1 : Zc V (.agg #[.bool n1,.slice a1 l1 c1]) z1 k) (h2 : Zc V (.agg #[.bool n2,.slice a2 l2 c2]) z2 k) (h3 : Zc V (.agg #[.bool n3,.slice a3 l3 c3]) z3 k) :
  Mc V (.agg #[.int .i64 2,.int .i64 2,.slice (some ⟨g,0,none⟩) 4 4]) 2 2 [z0,z1,z2,z3] k := by
 have ar : Arr V g [(.bool n0,.slice a0 l0 c0),(.bool n1,.slice a1 l1 c1),(.bool n2,.slice a2 l2 c2),(.bool n3,.slice a3 l3 c3)] := ⟨d,fun p hp => by
  simp at hp;rcases hp with rfl | rfl | rfl | rfl <;> exact ⟨_,_,_,_,rfl⟩⟩
 refine ⟨_,_,rfl,ar.prs (Nat.zero_le _) (by simp) (Nat.le_refl _),⟨rfl,fun j p z hp hz => ?_⟩,rfl,by decide,by decide⟩
 match j,hp,hz with
 | 0,hp,hz => simp at hp hz;subst hp hz;exact h0
 | 1,hp,hz => simp at hp hz;subst hp hz;exact h1
 | 2,hp,hz => simp at hp hz;subst hp hz;exact h2
 | 3,hp,hz => simp at hp hz;subst hp hz;exact h3
 | j + 4,hp,hz => simp at hp
def zVH (w : World) (e : Ending) (w' : World) : Prop := e = .returned (.bool true) ∧ Below w.heap.size w w'
theorem wakes18 (w : World) : Calls Tryz.prog 6 #[] w (zVH w) := by
 have HTW := hid (ttwo w);go_enter Tryz.func6,Tryz.ntmps6;go_wp2_with fail;refine HTW.out.mono ?_;rintro e w1 ⟨a,c,rfl,hm,b1⟩;obtain ⟨T,hTb,hTk⟩ := zxF (m := 2) (n := 2) (zs := [2,4,6,8]) (k := 1) (by omega) rfl (by intro z hz;simp at hz;rcases hz with rfl | rfl | rfl | rfl <;> decide) (by omega);have HFM := hid (zEH (kw := 128 * (129 + 1) + 129) (kt := 129) hm hTb (by omega) (zQF hTk 128) (by omega) (by omega) hTk);have B1 := hid b1;clear HTW hm b1 hTb hTk;go_wp2_with fail;refine HFM.out.mono ?_;rintro e w2 ⟨v,r,γ,X,rfl,hq,hb,b2⟩;have ez : zG18 2 2 X = [2,0,0,4] := hb.same two_form18 (fun v => Iff.rfl);rw [ez] at hq;obtain ⟨a2,c2,rfl,-,-⟩ := hq.mx.form;dsimp only [matv] at hq ⊢;obtain ⟨V,hV⟩ : ∃ V,w2.alloc (.cells #[.int .i64 (2 : Nat),.int .i64 (2 : Nat),.slice a2 (2 * 2) c2] 24) = V := ⟨_,rfl⟩
 obtain ⟨bv,szv⟩ := alo1 w2 (.cells #[.int .i64 (2 : Nat),.int .i64 (2 : Nat),.slice a2 (2 * 2) c2] 24);rw [hV] at bv szv;have dV : Cel V w2.heap.size 24 [.int .i64 (2 : Nat),.int .i64 (2 : Nat),.slice a2 (2 * 2) c2] := by rw [← hV];exact Cel.new w2 _ _
 have HQ := hid (hq.now bv);have BV := hid (below_step B1.out (below_step b2 bv));have x0 : V.cell? ⟨w2.heap.size,0,none⟩ = some (.int .i64 2) := dV.at (i := 0) rfl;have x1 : V.cell? ⟨w2.heap.size,1,none⟩ = some (.int .i64 2) := dV.at (i := 1) rfl;have x2 : V.cell? ⟨w2.heap.size,2,none⟩ = some (.slice a2 4 c2) := dV.at (i := 2) rfl;have EV := hid hV;obtain ⟨bk,hbk⟩ : ∃ bk,w2.heap.size = bk := ⟨_,rfl⟩
 rw [hbk] at x0 x1 x2;have EBK := hid hbk;clear HFM hq hb b2 bv szv hV dV ez B1 hbk;go_wp2_with fail;rw [show w2.alloc (.cells #[.int .i64 2,.int .i64 2,.slice a2 4 c2] 24) = V from EV.out,EBK.out];have KB : Hid (∀ w',Below V.heap.size V w' → w'.cell? ⟨bk,0,none⟩ = some (.int .i64 2) ∧ w'.cell? ⟨bk,1,none⟩ = some (.int .i64 2) ∧ w'.cell? ⟨bk,2,none⟩ = some (.slice a2 4 c2)) := fun w' h => ⟨cnow h x0,cnow h x1,cnow h x2⟩
 refine zEA (fun w' => w'.cell? ⟨bk,0,none⟩ = some (.int .i64 2) ∧ w'.cell? ⟨bk,1,none⟩ = some (.int .i64 2) ∧ w'.cell? ⟨bk,2,none⟩ = some (.slice a2 4 c2)) 12 (by kernel_rfl) ?_;obtain ⟨D1,hD⟩ : ∃ D1,V.drew = D1 := ⟨_,rfl⟩
 have GB : Hid (Below V.heap.size V D1) := by unfold Hid;rw [← hD];exact (Below.refl _ _).drew
 rw [hD];clear hD;refine zFA [(0,(.int .i64 0)),(1,(.bool true)),(2,(.bool true)),(3,(.agg #[.int .i64 2,.int .i64 2,.slice a2 4 c2])),(5,(.agg #[.bool false,.slice none 0 0])),(6,(.agg #[.bool false,.slice none 0 0]))] 6 ?_ (KB.out _ GB.out) ?_
 ·simp only [zMA,gA9,g09,g19,Act.put,sI9,s09,s19]
  (repeat' (first | exact trivial | refine And.intro (Or.inl ⟨by rfl,?_⟩) ?_)) <;> (intro w hSw;(try dsimp only at hSw);go_simp)
 simp only [actV,gA9,g09,g19,Act.put,sI9,s09,s19];refine zAA (i := 4) (o := ⟨some 12,.call { callee := .value (.func 24),args := #[.const (.int .u64 2)],argTypes := #[58] },51, "top18.go:40",#[⟨2,.chain⟩,⟨2,.guard⟩],some (2,true)⟩) (by kernel_rfl) rfl (fun K hK => ?_);go_simp;go_at_call 24;refine (zoF (n := 2) (by decide) (by decide) _).mono ?_;rintro e w2 ⟨p2,q2,rfl,hz2,b⟩;have lz2 := (show Below _ _ _ from b).size;replace GB := hid (below_step GB.out b);have Z2 := hid (zVF hz2 (by decide) (by decide));clear hz2;clear b;refine hK.out _ _ (fun _ => KB.out _ GB.out) ?_;clear hK;refine zAA (i := 7) (o := ⟨some 15,.call { callee := .value (.func 24),args := #[.const (.int .u64 4)],argTypes := #[58] },51, "top18.go:40",#[⟨4,.chain⟩,⟨2,.guard⟩],some (2,true)⟩) (by kernel_rfl) rfl (fun K hK => ?_);go_simp;go_at_call 24;refine (zoF (n := 4) (by decide) (by decide) _).mono ?_;rintro e w3 ⟨p4,q4,rfl,hz4,b⟩;have lz3 := (show Below _ _ _ from b).size;replace GB := hid (below_step GB.out b);replace Z2 := hid (Z2.out.now b);have Z4 := hid (zVF hz4 (by decide) (by decide));clear hz4;clear b;refine hK.out _ _ (fun _ => KB.out _ GB.out) ?_;clear hK;refine zAA (i := 8) (o := ⟨some 16,.buildSlice 22 4 #[(0,.tmp 12),(1,.tmp 13),(2,.tmp 14),(3,.tmp 15)],22, "top18.go:40",#[⟨4,.data⟩,⟨5,.data⟩,⟨6,.data⟩,⟨7,.data⟩,⟨2,.guard⟩],some (2,true)⟩) (by kernel_rfl) rfl (fun K hK => ?_);go_simp;obtain ⟨V4,hW⟩ : ∃ V,w3.alloc (.cells #[.bool false,.slice p2 1 q2,.bool false,.slice none 0 0,.bool false,.slice none 0 0,.bool false,.slice p4 1 q4] 51) = V := ⟨_,rfl⟩
 obtain ⟨b,sz4⟩ := alo1 w3 (.cells #[.bool false,.slice p2 1 q2,.bool false,.slice none 0 0,.bool false,.slice none 0 0,.bool false,.slice p4 1 q4] 51);rw [hW] at b sz4;replace GB := hid (below_step GB.out b);have dL : Cel V4 w3.heap.size 51 [.bool false,.slice p2 1 q2,.bool false,.slice none 0 0,.bool false,.slice none 0 0,.bool false,.slice p4 1 q4] := by rw [← hW];exact Cel.new w3 _ _
 have ML := hid (mc_four18 dL (Z2.out.now b) (zID V4 1).zc (zID V4 1).zc (Z4.out.now b));rw [hW];clear hW b dL Z2 Z4 sz4;refine hK.out _ _ (fun _ => KB.out _ GB.out) ?_;clear hK
 try simp only [Act.put]
 refine zFA [(9,(.agg #[.int .i64 2,.int .i64 2,.slice (some ⟨w3.heap.size,0,none⟩) 4 4]))] 1 ?_ (KB.out _ GB.out) ?_
 ·simp only [zMA,gA9,g09,g19,Act.put,sI9,s09,s19]
  (repeat' (first | exact trivial | refine And.intro (Or.inl ⟨by rfl,?_⟩) ?_)) <;> (intro w hSw;(try dsimp only at hSw);go_simp)
 simp only [actV,gA9,g09,g19,Act.put,sI9,s09,s19];refine zAA (i := 10) (o := ⟨some 18,.call { callee := .value (.func 12),args := #[.tmp 11,.tmp 17],argTypes := #[24,24] },4, "top18.go:40",#[⟨3,.data⟩,⟨9,.data⟩,⟨7,.chain⟩,⟨2,.guard⟩],some (2,true)⟩) (by kernel_rfl) rfl (fun K hK => ?_);go_simp;go_at_call 12;refine (same18 (HQ.out.now GB.out) ML.out rfl).mono ?_;rintro e w5 ⟨rfl,b⟩;have lz5 := (show Below _ _ _ from b).size;replace GB := hid (below_step GB.out b);have FF := hid (below_step BV.out GB.out);clear b;refine hK.out _ _ (fun _ => KB.out _ GB.out) ?_;clear hK;refine zFA [(11,(.bool true))] 1 ?_ (KB.out _ GB.out) ?_
 ·simp only [zMA,gA9,g09,g19,Act.put,sI9,s09,s19]
  (repeat' (first | exact trivial | refine And.intro (Or.inl ⟨by rfl,?_⟩) ?_)) <;> (intro w hSw;(try dsimp only at hSw);go_simp)
 simp only [actV,gA9,g09,g19,Act.put,sI9,s09,s19];refine zAA (i := 12) (o := ⟨some 0,.assign (.tmp 19),4, "top18.go:40",#[⟨11,.data⟩,⟨10,.chain⟩,⟨0,.phase⟩,⟨1,.phase⟩,⟨2,.phase⟩,⟨3,.phase⟩,⟨4,.phase⟩,⟨5,.phase⟩,⟨6,.phase⟩,⟨7,.phase⟩,⟨8,.phase⟩,⟨9,.phase⟩,⟨10,.phase⟩,⟨11,.phase⟩],none⟩) (by kernel_rfl) rfl (fun K hK => ?_);go_simp;refine hK.out _ _ (fun h => absurd h (by decide)) ?_;clear hK
 try simp only [Act.put]
 refine zDA (by kernel_rfl) ?_ _;clear GB KB HQ ML BV x0 x1 x2;go_wp2;go_ret;exact ⟨rfl,FF.out⟩
theorem formA18 {w : World} {v : Value} {m n k T : Nat} {zs : List Int} (h : Mx w v m n zs k) (hTb : Tb18 m n (en18 n zs) T) {t : Nat} (h1 : 1 ≤ t) (hkt : k ≤ t) (ht : t ≤ 200000000) (hT : Hid (((T : Nat) : Int) < pw t)) : Calls Tryz.prog 15 #[v] w (zfH w m n (en18 n zs) t) :=
 zEH (kw := 128 * (t + 1) + t) h hTb (by omega) (zQF hT.out 128) (by omega) (by omega) hT.out
theorem raw_l18 {w : World} {v : Value} {r c : Int} {l : Nat} {zs : List Int} (h : Raw w v r c l zs) : l ≤ 1048576 ∧ ∃ a cap,v = .agg #[.int .i64 r,.int .i64 c,.slice a l cap] := by
 obtain ⟨a,cap,ps,h1,h2,h3,h4,h5⟩ := h;exact ⟨h5,a,cap,h1⟩
end Go.Proofs.YtbcgggadelnaaaaGreat
