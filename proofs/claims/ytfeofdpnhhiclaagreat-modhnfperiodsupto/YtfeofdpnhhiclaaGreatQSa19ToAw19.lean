/-
 QSa19ToAw19: Sa19, Pd19, Aw19, joined.
-/
import Derived.Test.YtfeofdpnhhiclaaGreatQPn19ToRs19
import Derived.Test.YtfeofdpnhhiclaaGreatQEach9ToMul9
import Derived.Test.YtfeofdpnhhiclaaGreatQLitsToNow
import Derived.Deep.Cut
import Derived.Test.YtfeofdpnhhiclaaGreatQTailLToTl19
import Derived.Test.YtfeofdpnhhiclaaGreatQCo13ToVo19
import Derived.Test.YtfeofdpnhhiclaaGreatQZStoreToLst9

set_option maxRecDepth 100000
set_option maxHeartbeats 6400000
set_option linter.unusedVariables false
set_option linter.unusedSimpArgs false
namespace Go.Proofs.YtfeofdpnhhiclaaGreat
open Go.RowKit
theorem zrE {w : World} {v u : Value} {z y : Int} {k l : Nat} (h : Zc w v z k) (h' : Zc w u y l) (hzy : z = y) : Calls Tryz.prog 26 #[v,u] w fun e w' => e = .returned (.bool true) ∧ Below w.heap.size w w' := by
 subst hzy;obtain ⟨n,xs,a,c,rfl,s0,q0,e0,z0,k0⟩ := h;obtain ⟨m,ys,b,d,rfl,s1,q1,e1,z1,k1⟩ := h';obtain ⟨rfl,rfl⟩ := iv_one (z0.trans z1.symm) q0 q1 e0 e1;have b0 := (ziA w (duo (.bool n) (.slice a xs.length c)) (duo (.bool n) (.slice b xs.length d))).1;have HC := hid (same_yes (s0.now b0) (s1.now b0) rfl);have B0 := hid b0;have hq : (n == n) = true := by simp
 clear s0 s1 z0 z1 b0 q0 q1 e0 e1;go_enter Tryz.func26,Tryz.ntmps26;go_wp2_with fail;refine HC.out.mono ?_;rintro e w1 ⟨rfl,b1⟩;have B1 := hid (below_step B0.out b1);clear b1 HC;go_wp2;go_ret;exact ⟨rfl,B1.out⟩
def Lc19 (w : World) (v : Value) (zs : List Int) (k : Nat) : Prop := ∃ ps,Prs 0 w v ps ∧ Zcs w ps zs k
theorem Lc19.now {w w' : World} {v : Value} {zs : List Int} {k : Nat} (h : Lc19 w v zs k) (hb : Below w.heap.size w w') : Lc19 w' v zs k := by
 obtain ⟨ps,h1,h2⟩ := h;exact ⟨ps,h1.now hb,h2.now hb⟩
theorem Lc19.len19 {w : World} {v : Value} {zs : List Int} {k : Nat} (h : Lc19 w v zs k) : zs.length ≤ 1048576 := by
 obtain ⟨ps,⟨a,c,h1,h2,h3,_⟩,h4⟩ := h;rw [← h4.1];exact h3
theorem Lc19.full19 {w : World} {v : Value} {zs : List Int} {k : Nat} (h : Lc19 w v zs k) : ∃ a c,v = .slice a zs.length c ∧ (zs ≠ [] → ∃ b off,a = some ⟨b,off,none⟩) := by
 obtain ⟨ps,⟨a,c,h1,h2,h3,hx,h4⟩,h5⟩ := h;refine ⟨a,c,by rw [← h5.1];exact h1,fun hne => ?_⟩;rcases h4 with h4 | ⟨b,off,h6,_⟩
 ·exact absurd (List.length_eq_zero_iff.1 (by rw [← h5.1,h4];rfl)) hne
 ·exact ⟨b,off,h6⟩
theorem Lc19.at19 {w : World} {b off l c : Nat} {zs : List Int} {k : Nat} (h : Lc19 w (.slice (some ⟨b,off,none⟩) l c) zs k) {i : Nat} (hi : i < zs.length) : ∃ n,∃ xs : List Int,∃ a c,w.cell? ⟨b,off + i * 2,none⟩ = some (.bool n) ∧ w.cell? ⟨b,off + i * 2 + 1,none⟩ = some (.slice a xs.length c) ∧ Zc w (.agg #[.bool n,.slice a xs.length c]) (zs.getD i 0) k := by
 obtain ⟨ps,h1,h2⟩ := h;have hp := List.getElem?_eq_getElem (l := ps) (i := i) (by rw [h2.1];exact hi);have q := h1.at hp;have zz := h2.2 i _ (zs.getD i 0) hp (by simp [hi]);obtain ⟨n,xs,a,c',e,r⟩ := id zz;simp only [Value.agg.injEq,Array.mk.injEq,List.cons.injEq,and_true] at e;rw [e.1,e.2] at q zz;exact ⟨n,xs,a,c',q.1,q.2,zz⟩
def zTH (w : World) (n gk : Nat) (s : Value) (wx : World) : Prop := ∃ i : Nat,s = .int .i64 (i : Int) ∧ i ≤ n ∧ gk = n - i ∧ Below w.heap.size w wx
theorem sameRow19 {w : World} {v u : Value} {zs ys : List Int} {k l : Nat} (h : Lc19 w v zs k) (h' : Lc19 w u ys l) (he : zs = ys) : Calls Tryz.prog 33 #[v,u] w fun e w' => e = .returned (.bool true) ∧ Below w.heap.size w w' := by
 subst he;have Z0 := hid h;have Z1 := hid h';have hn0 : zs.length ≤ 1048576 := h.len19;obtain ⟨a0,c0,rfl,hf0⟩ := h.full19;obtain ⟨a1,c1,rfl,hf1⟩ := h'.full19;have F0 := hid hf0;have F1 := hid hf1;have H0 : Hid (zTH w zs.length zs.length (.int .i64 0) w) := ⟨0,rfl,Nat.zero_le _,by omega,Below.refl _ _⟩
 obtain ⟨n,hn⟩ : ∃ n,zs.length = n := ⟨_,rfl⟩
 rw [hn] at Z0 Z1 H0 hn0 ⊢;have HN := hid hn;have hnn : ((n : Int) != (n : Int)) = false := by simp
 clear h h' hf0 hf1 hn;go_enter Tryz.func33,Tryz.ntmps33;go_wp2_with fail
 go_loopg [5] n (fun gk s5 wx => zTH w n gk s5 wx)
 case atStart => exact H0.out
 case round =>
  clear H0;obtain ⟨i,rfl,hin,hg,hB⟩ := hrel;have B := hid hB;have HG := hid hg;clear hB hg
  by_cases hlt : i < n
  ·have hlt' : (i : Int) < (n : Int) := by omega
   have hi : i < zs.length := by rw [HN.out];exact hlt
   have hwi := zpA (i := i) (by omega);obtain ⟨b1,o1,rfl⟩ := F0.out (fun e => by rw [e] at hi;simp at hi);obtain ⟨b2,o2,rfl⟩ := F1.out (fun e => by rw [e] at hi;simp at hi);obtain ⟨nf,xf,adf,qf,k0,k1,zf⟩ := (Z0.out.now B.out).at19 hi;obtain ⟨ng,xg,adg,qg,j0,j1,zg⟩ := (Z1.out.now B.out).at19 hi;obtain ⟨lf,hlf⟩ : ∃ lf,xf.length = lf := ⟨_,rfl⟩
   obtain ⟨lg,hlg⟩ : ∃ lg,xg.length = lg := ⟨_,rfl⟩
   rw [hlf] at k1 zf;rw [hlg] at j1 zg;have ZF := hid zf;have ZG := hid zg;have HMM : Hid (n - (i + 1) < gk) := by unfold Hid;rw [HG.out];omega
   clear zf zg hlf hlg HG;go_upto_region 6 with fail
   have KB : Hid (∀ w',Below wr.heap.size wr w' → w'.cell? ⟨b1,o1 + i * 2,none⟩ = some (.bool nf) ∧ w'.cell? ⟨b1,o1 + i * 2 + 1,none⟩ = some (.slice adf lf qf) ∧ w'.cell? ⟨b2,o2 + i * 2,none⟩ = some (.bool ng) ∧ w'.cell? ⟨b2,o2 + i * 2 + 1,none⟩ = some (.slice adg lg qg)) := fun w' h => ⟨cnow h k0,cnow h k1,cnow h j0,cnow h j1⟩
   refine zFA (fun w' => w'.cell? ⟨b1,o1 + i * 2,none⟩ = some (.bool nf) ∧ w'.cell? ⟨b1,o1 + i * 2 + 1,none⟩ = some (.slice adf lf qf) ∧ w'.cell? ⟨b2,o2 + i * 2,none⟩ = some (.bool ng) ∧ w'.cell? ⟨b2,o2 + i * 2 + 1,none⟩ = some (.slice adg lg qg)) 9 (by kernel_rfl) ?_;obtain ⟨D61,hD⟩ : ∃ D61,wr.drew = D61 := ⟨_,rfl⟩
   have GB : Hid (Below wr.heap.size wr D61) := by unfold Hid;rw [← hD];exact (Below.refl _ _).drew
   rw [hD];clear hD;refine zDA [(0,(.slice (some ⟨b1,o1,none⟩) n c0)),(1,(.int .i64 (i : Int))),(2,(.pointer (some ⟨b1,o1 + i * 2,none⟩))),(3,(.agg #[.bool nf,.slice adf lf qf])),(4,(.slice (some ⟨b2,o2,none⟩) n c1)),(5,(.int .i64 (i : Int))),(6,(.pointer (some ⟨b2,o2 + i * 2,none⟩))),(7,(.agg #[.bool ng,.slice adg lg qg]))] 8 ?_ (KB.out _ GB.out) ?_
   ·simp only [zOA,gA9,g09,g19,Act.put,sI9,s09,s19]
    (repeat' (first | exact trivial | refine And.intro (Or.inl ⟨by rfl,?_⟩) ?_)) <;> (intro w hSw;(try dsimp only at hSw);go_simp)
   simp only [actV,gA9,g09,g19,Act.put,sI9,s09,s19];refine zAA (i := 8) (o := ⟨some 25,.call { callee := .value (.func 26),args := #[.tmp 20,.tmp 24],argTypes := #[27,27] },4, "keep.go:115",#[⟨3,.data⟩,⟨7,.data⟩],none⟩) (by kernel_rfl) rfl (fun K hK => ?_);go_simp;go_at_call 26;refine (zrE (ZF.out.now GB.out) (ZG.out.now GB.out) rfl).mono ?_;rintro e w62 ⟨rfl,b⟩;have lz62 := (show Below _ _ _ from b).size;replace GB := hid (below_step GB.out b);clear b;refine hK.out _ _ (fun _ => KB.out _ GB.out) ?_;clear hK;refine zAA (i := 9) (o := ⟨some 26,.unOp .not 4 (.tmp 25),4, "keep.go:115",#[⟨8,.data⟩],none⟩) (by kernel_rfl) rfl (fun K hK => ?_);go_simp;refine hK.out _ _ (fun h => absurd h (by decide)) ?_;clear hK
   try simp only [Act.put]
   refine zCA (by kernel_rfl) ?_ _;have HN1 : Hid (zTH w n (n - (i + 1)) (.int .i64 ((i + 1 : Nat) : Int)) w62) := ⟨i + 1,rfl,by omega,rfl,below_step B.out GB.out⟩
   clear B GB KB ZF ZG;go_wp2_with fail;go_roundg (n - (i + 1))
   case rel => exact HN1.out
   case measure => exact HMM.out
  ·have hlt' : ¬ (i : Int) < (n : Int) := by omega
   have FIN : Hid (Below w.heap.size w wr) := B.out;clear B HG;go_wp2;go_ret;exact ⟨rfl,FIN.out⟩
theorem Mc.lc19 {w : World} {a : Option Addr} {r c l cap k : Nat} {zs : List Int} (h : Mc w (matv r c (.slice a l cap)) r c zs k) : Lc19 w (.slice a l cap) zs k := by
 obtain ⟨at_,ps,h1,h2,h3,_⟩ := h;simp only [Value.agg.injEq,Array.mk.injEq,List.cons.injEq,and_true,true_and] at h1;subst h1;exact ⟨ps,h2,h3⟩
theorem zfC {w : World} {v u : Value} {r c k l : Nat} {zs ys : List Int} (h : Mc w v r c zs k) (h' : Mc w u r c ys l) (he : zs = ys) : Calls Tryz.prog 12 #[v,u] w fun e w' => e = .returned (.bool true) ∧ Below w.heap.size w w' := by
 obtain ⟨aa,ca,rfl,-,-⟩ := h.mx.form;obtain ⟨ab,cb,rfl,-,-⟩ := h'.mx.form;obtain ⟨la,hla⟩ : ∃ la,r * c = la := ⟨_,rfl⟩
 rw [hla] at h h' ⊢;obtain ⟨W0,hW⟩ : ∃ W0,(w.alloc (matO r c (.slice aa la ca))).alloc (matO r c (.slice ab la cb)) = W0 := ⟨_,rfl⟩
 obtain ⟨b0,sz0⟩ := ziA w (matO r c (.slice aa la ca)) (matO r c (.slice ab la cb));rw [hW] at b0 sz0;have HS := hid (sameRow19 ((h.now b0).lc19) ((h'.now b0).lc19) he);have G0 := hid b0;have EW := hid hW;have q0 : ((r : Int) == (r : Int)) = true := by simp
 have q1 : ((c : Int) == (c : Int)) = true := by simp
 clear h h' he hla b0 sz0 hW;go_enter Tryz.func12,Tryz.ntmps12;go_wp2_with fail;rw [EW.out];refine HS.out.mono ?_;rintro e w1 ⟨rfl,b⟩;have G1 := hid (below_step G0.out b);clear HS b EW G0;go_wp2;go_ret;exact ⟨rfl,G1.out⟩
theorem of19 {n : Int} (h0 : 0 < n) (h1 : n ≤ 18446744073709551615) (w : World) :
  Calls Tryz.prog 13 #[.int .u64 n] w fun e w' => ∃ a c,e = .returned (.agg #[.bool false,.slice a 1 c]) ∧ Zc w' (.agg #[.bool false,.slice a 1 c]) n 1 ∧ Below w.heap.size w w' := by
 obtain ⟨WX,hWX⟩ : ∃ WX,(w.alloc (duo (.bool false) (.slice (some ⟨w.heap.size + 1,0,none⟩) 1 1))).alloc (.cells #[.int .u64 n] 38) = WX := ⟨_,rfl⟩
 obtain ⟨b0,sz0⟩ := ziA w (duo (.bool false) (.slice (some ⟨w.heap.size + 1,0,none⟩) 1 1)) (.cells #[.int .u64 n] 38);rw [hWX] at b0 sz0;have dX : Duo WX w.heap.size (.bool false) (.slice (some ⟨w.heap.size + 1,0,none⟩) 1 1) := by rw [← hWX];exact zEA (zGA rfl) _
 have sX : Sl WX.heap.size WX (.slice (some ⟨w.heap.size + 1,0,none⟩) 1 1) [n] := by
  have := zPD (w.alloc (duo (.bool false) (.slice (some ⟨w.heap.size + 1,0,none⟩) 1 1))) n ⟨by omega,h1⟩;rw [hWX] at this
  simpa using this
 have eV : iv false [n] = n := by simp [iv,val]
 have cn : zXA [n] := ⟨sX.1,by simp [wid];omega⟩
 have FIN : Hid (Zc WX (.agg #[.bool false,.slice (some ⟨w.heap.size + 1,0,none⟩) 1 1]) n 1) := ⟨false,[n],_,_,rfl,sX,cn,fun e => by simp at e,eV,by simp⟩
 have EW := hid hWX;have DX := hid dX;have BX := hid b0;clear sX dX eV b0 hWX cn;go_enter Tryz.func13,Tryz.ntmps13;go_wp2;rw [EW.out];exact bodyPost_ret (zZB Tryz.results13 DX.out _ (by rfl)) rfl ⟨_,_,rfl,FIN.out,BX.out⟩
end Go.Proofs.YtfeofdpnhhiclaaGreat
namespace Go.Proofs.YtfeofdpnhhiclaaGreat
theorem Md19.congr {r n : Nat} {A B : Nat → Nat → Int} {D : Int} (e : ∀ i j,i < r → j < n → A i j = B i j) (v : Nat → Int) : Md19 r n A D v ↔ Md19 r n B D v := by
 constructor
 ·rintro ⟨x,y,h⟩
  exact ⟨x,y,fun j hj => by rw [h j hj,zaA fun i hi => by rw [e i j hi hj]]⟩
 ·rintro ⟨x,y,h⟩
  exact ⟨x,y,fun j hj => by rw [h j hj,zaA (g := fun i => x i * A i j) fun i hi => by rw [e i j hi hj]]⟩
theorem per_two {r n : Nat} {A W : Nat → Nat → Int} {D K : Int} (hW : Hb19 n W (Md19 r n A (D * K))) (v : Nat → Int) : Md19 n n W D v ↔ Md19 r n A D v := by
 constructor
 ·rintro ⟨z,y,h⟩
  obtain ⟨x,y',h'⟩ := (hW.lat (fun j => su n fun i => z i * W i j)).2 ⟨z,fun j _ => rfl⟩;refine ⟨x,fun j => K * y' j + y j,fun j hj => ?_⟩;have e : (su n fun i => z i * W i j) = (su r fun i => x i * A i j) + D * K * y' j := h' j hj;rw [h j hj,e]
  show _ = (su r fun i => x i * A i j) + D * (K * y' j + y j)
  grind
 ·rintro ⟨x,y,h⟩
  obtain ⟨z,hz⟩ := (hW.lat (fun j => su r fun i => x i * A i j)).1 ⟨x,fun _ => 0,fun j _ => by show _ = _ + D * K * 0;simp⟩;exact ⟨z,y,fun j hj => by rw [h j hj,show (su r fun i => x i * A i j) = _ from hz j hj]⟩
def un19 (D : Int) (i j : Nat) : Int := if i = j then D else 0
theorem zxG {n : Nat} {D : Int} (v : Nat → Int) : Cm19 n n (un19 D) v ↔ ∃ y : Nat → Int,∀ j,j < n → v j = D * y j := by
 constructor
 ·rintro ⟨z,h⟩
  refine ⟨z,fun j hj => ?_⟩;rw [h j hj,zNB hj fun k _ hk => by unfold un19;rw [if_neg hk,Int.mul_zero]];unfold un19;rw [if_pos rfl,Int.mul_comm]
 ·rintro ⟨y,h⟩
  refine ⟨y,fun j hj => ?_⟩;rw [h j hj,zNB hj fun k _ hk => by unfold un19;rw [if_neg hk,Int.mul_zero]];unfold un19;rw [if_pos rfl,Int.mul_comm]
theorem zwG {n : Nat} {D : Int} (hD : 0 < D) : Rd19 n (un19 D) :=
 ⟨⟨fun i j _ h => if_neg (by omega),fun i _ => by unfold un19;rw [if_pos rfl];exact hD⟩,fun i j h _ => by unfold un19;rw [if_neg (by omega),if_pos rfl];omega⟩
theorem per_one {r n : Nat} (A : Nat → Nat → Int) : Hb19 n (un19 1) (Md19 r n A 1) :=
 ⟨zwG (by omega),fun v => by
  rw [zxG]
  constructor
  ·rintro ⟨x,y,h⟩
   exact ⟨v,fun j _ => (Int.one_mul _).symm⟩
  ·rintro ⟨y,h⟩
   exact ⟨fun _ => 0,y,fun j hj => by rw [h j hj,zSC fun i _ => by simp];omega⟩⟩
theorem zDG {r n : Nat} {A B : Nat → Nat → Int} {d : Int} (hd : d ≠ 0) (hB : ∀ i j,i < r → j < n → B i j = d * A i j) : Hb19 n (un19 (d.natAbs : Int)) (Md19 r n B (d.natAbs : Int)) := by
 have hp : 0 < (d.natAbs : Int) := by omega
 refine ⟨zwG hp,fun v => ?_⟩;rw [zxG]
 constructor
 ·rintro ⟨x,y,h⟩
  have hs : ∃ s : Int,d = (d.natAbs : Int) * s := by
   rcases Int.lt_or_le d 0 with q | q
   ·exact ⟨-1,by omega⟩
   ·exact ⟨1,by omega⟩
  obtain ⟨s,hs⟩ := hs;refine ⟨fun j => s * (su r fun i => x i * A i j) + y j,fun j hj => ?_⟩;rw [h j hj,zaA (g := fun i => d * (x i * A i j)) fun i hi => by rw [hB i j hi hj];grind,zGD]
  show _ = (d.natAbs : Int) * (s * (su r fun i => x i * A i j) + y j)
  rw [Int.mul_add,← Int.mul_assoc,← hs]
 ·rintro ⟨y,h⟩
  exact ⟨fun _ => 0,y,fun j hj => by rw [h j hj,zSC fun i _ => by simp];omega⟩
open Go.RowKit
theorem aw_num19 {rs cs : List Nat} {odd : Bool} {H : Nat → Nat → Int} (h : Stz (en 1 [-6]) 1 1 rs cs odd) (hh : Hb19 (srt cs).length H (Md19 1 (srt cs).length (en (srt cs).length (zTC 1 1 [-6] (List.range 1) (srt cs))) ((detS (en 1 [-6]) rs cs odd).natAbs : Int))) : zCE H (srt cs).length = 6 := by
 have hr : rs = [0] := by
  have hl := h.le
  match rs,h,hl with
  | [],h,_ =>
   obtain ⟨k,hk,-,h2⟩ := h.drop 0 (by omega) (by simp);have hk0 : k = 0 := by simpa using hk
   subst hk0;have := h2 0 (by omega);rw [zFG] at this;exact absurd this (by decide)
  | [x],h,_ =>
   have := h.lt x (by simp);have : x = 0 := by omega
   rw [this]
  | _ :: _ :: _,_,hl => simp at hl
 have hc1 : (srt cs).length = 1 := by rw [h.srt.2.1,h.len,hr];rfl
 have hc : srt cs = [0] := by
  match hs : srt cs,hc1 with
  | [x],_ =>
   have := h.cl x ((h.srt.2.2 x).1 (by rw [hs];simp));have : x = 0 := by omega
   rw [this]
 have hd : detS (en 1 [-6]) rs cs odd = -6 := by
  rw [h.core,hr,hc]
  decide
 rw [hd,hc] at hh;rw [hc];have e := hh.one (zDG (r := 1) (n := 1) (A := fun _ _ => 1) (d := -6) (by decide) (B := en 1 (zTC 1 1 [-6] (List.range 1) [0])) (fun i j hi hj => by
  obtain rfl : i = 0 := by omega
  obtain rfl : j = 0 := by omega
  decide)) (fun v => Iff.rfl) 0 0 (by decide) (by decide)
 show 1 * H 0 0 = 6
 rw [e]
 decide
theorem mx_one19 {V : World} {g : Nat} {n0 : Bool} {a0 : Option Addr} {l0 c0 : Nat} {z0 : Int} {k : Nat} (d : Cel V g 27 [.bool n0,.slice a0 l0 c0]) (h0 : Zi V (.agg #[.bool n0,.slice a0 l0 c0]) z0 k) : Mx V (.agg #[.int .i64 1,.int .i64 1,.slice (some ⟨g,0,none⟩) 1 1]) 1 1 [z0] k := by
 have ar : Arr V g [(.bool n0,.slice a0 l0 c0)] := ⟨d,fun p hp => by
  simp at hp;subst hp;exact ⟨_,_,_,_,rfl⟩⟩
 refine ⟨_,_,rfl,ar.prs (Nat.zero_le _) (by simp) (Nat.le_refl _),⟨rfl,fun j p z hp hz => ?_⟩,rfl,by decide,by decide⟩
 match j,hp,hz with
 | 0,hp,hz => simp at hp hz;subst hp hz;exact h0
 | j + 1,hp,hz => simp at hp
theorem zgE (w : World) : Calls Tryz.prog 6 #[] w fun e w' => e = .returned (.bool true) ∧ Below w.heap.size w w' := by
 obtain ⟨WX,hWX⟩ : ∃ WX,(w.alloc (.cells #[.int .u64 6] 38)).alloc (duo (.bool true) (.slice (some ⟨w.heap.size,0,none⟩) 1 1)) = WX := ⟨_,rfl⟩
 obtain ⟨b0,sz0⟩ := ziA w (.cells #[.int .u64 6] 38) (duo (.bool true) (.slice (some ⟨w.heap.size,0,none⟩) 1 1));rw [hWX] at b0 sz0;have dX : Duo WX (w.heap.size + 1) (.bool true) (.slice (some ⟨w.heap.size,0,none⟩) 1 1) := by rw [← hWX];exact zGA (by simp)
 have sX : Sl WX.heap.size WX (.slice (some ⟨w.heap.size,0,none⟩) 1 1) [6] := by
  have h1 := zPD w 6 ⟨by decide,by decide⟩;rw [← hWX];exact h1.now ((Below.refl _ _).alloc (Nat.le_refl _) _)
 have zX : Zi WX (.agg #[.bool true,.slice (some ⟨w.heap.size,0,none⟩) 1 1]) (-6) 1 := ⟨true,[6],_,_,rfl,sX,by simp [iv,val],by simp⟩
 have HV := hid (volume19 (mx_one19 dX zX) (by decide));have EW := hid hWX;have G0 := hid b0;have SZ := hid sz0;clear sX dX zX b0 sz0 hWX;go_enter Tryz.func6,Tryz.ntmps6;go_wp2_with fail;rw [EW.out];clear EW;refine HV.out.mono ?_;rintro e w1 ⟨rs,cs,odd,nv,av,lv,cv,H,rfl,hst,hh,mv,b⟩;rw [aw_num19 hst hh] at mv;obtain ⟨V2,hV⟩ : ∃ V2,w1.alloc (duo (.bool nv) (.slice av lv cv)) = V2 := ⟨_,rfl⟩
 obtain ⟨b2,sz2⟩ := alo1 w1 (duo (.bool nv) (.slice av lv cv));rw [hV] at b2 sz2;have D2 : Duo V2 w1.heap.size (.bool nv) (.slice av lv cv) := by rw [← hV];exact Duo.new w1 _ _
 have M2 := hid (mv.now b2).zc;have G2 := hid (below_step G0.out (below_step b b2));have d0 := D2.c0;have d1 := D2.c1;obtain ⟨bv,hbv⟩ : ∃ bv,w1.heap.size = bv := ⟨_,rfl⟩
 rw [hbv] at d0 d1;have EV := hid hV;have EBV := hid hbv;clear HV hst hh mv b b2 sz2 hV D2 G0 hbv;go_wp2_with fail;rw [EV.out,EBV.out];clear EV EBV;have KB : Hid (∀ w',Below V2.heap.size V2 w' → w'.cell? ⟨bv,0,none⟩ = some (.bool nv) ∧ w'.cell? ⟨bv,1,none⟩ = some (.slice av lv cv)) := fun w' h => ⟨cnow h d0,cnow h d1⟩
 refine zFA (fun w' => w'.cell? ⟨bv,0,none⟩ = some (.bool nv) ∧ w'.cell? ⟨bv,1,none⟩ = some (.slice av lv cv)) 7 (by kernel_rfl) ?_;obtain ⟨D1,hD⟩ : ∃ D1,V2.drew = D1 := ⟨_,rfl⟩
 have GB : Hid (Below V2.heap.size V2 D1) := by unfold Hid;rw [← hD];exact (Below.refl _ _).drew
 rw [hD];clear hD;refine zDA [(0,(.int .i64 0)),(1,(.bool true)),(2,(.bool true)),(3,(.agg #[.bool nv,.slice av lv cv]))] 4 ?_ (KB.out _ GB.out) ?_
 ·simp only [zOA,gA9,g09,g19,Act.put,sI9,s09,s19]
  (repeat' (first | exact trivial | refine And.intro (Or.inl ⟨by rfl,?_⟩) ?_)) <;> (intro w hSw;(try dsimp only at hSw);go_simp)
 simp only [actV,gA9,g09,g19,Act.put,sI9,s09,s19];refine zAA (i := 4) (o := ⟨some 15,.call { callee := .value (.func 13),args := #[.const (.int .u64 6)],argTypes := #[38] },27, "law.go:38",#[⟨2,.chain⟩,⟨2,.guard⟩],some (2,true)⟩) (by kernel_rfl) rfl (fun K hK => ?_);go_simp;go_at_call 13;refine (of19 (n := 6) (by decide) (by decide) _).mono ?_;rintro e w2 ⟨a6,c6,rfl,z6,b⟩;have lz2 := (show Below _ _ _ from b).size;replace GB := hid (below_step GB.out b);have Z6 := hid z6;clear z6;clear b;refine hK.out _ _ (fun _ => KB.out _ GB.out) ?_;clear hK;refine zAA (i := 5) (o := ⟨some 16,.call { callee := .value (.func 26),args := #[.tmp 14,.tmp 15],argTypes := #[27,27] },4, "law.go:38",#[⟨3,.data⟩,⟨4,.data⟩,⟨4,.chain⟩,⟨2,.guard⟩],some (2,true)⟩) (by kernel_rfl) rfl (fun K hK => ?_);go_simp;go_at_call 26;refine (zrE (M2.out.now GB.out) Z6.out rfl).mono ?_;rintro e w3 ⟨rfl,b⟩;have lz3 := (show Below _ _ _ from b).size;replace GB := hid (below_step GB.out b);clear b;refine hK.out _ _ (fun _ => KB.out _ GB.out) ?_;clear hK;refine zDA [(6,(.bool true))] 1 ?_ (KB.out _ GB.out) ?_
 ·simp only [zOA,gA9,g09,g19,Act.put,sI9,s09,s19]
  (repeat' (first | exact trivial | refine And.intro (Or.inl ⟨by rfl,?_⟩) ?_)) <;> (intro w hSw;(try dsimp only at hSw);go_simp)
 simp only [actV,gA9,g09,g19,Act.put,sI9,s09,s19];refine zAA (i := 7) (o := ⟨some 0,.assign (.tmp 17),4, "law.go:38",#[⟨6,.data⟩,⟨5,.chain⟩,⟨0,.phase⟩,⟨1,.phase⟩,⟨2,.phase⟩,⟨3,.phase⟩,⟨4,.phase⟩,⟨5,.phase⟩,⟨6,.phase⟩],none⟩) (by kernel_rfl) rfl (fun K hK => ?_);go_simp;refine hK.out _ _ (fun h => absurd h (by decide)) ?_;clear hK
 try simp only [Act.put]
 refine zCA (by kernel_rfl) ?_ _;have FF := hid (below_step G2.out GB.out);clear GB KB Z6 M2 G2 d0 d1;go_wp2;go_ret;exact ⟨rfl,FF.out⟩
end Go.Proofs.YtfeofdpnhhiclaaGreat
