/-
 QSt18ToHa18: St18, Ha18, joined.
-/
import Derived.Test.YtmnecbniappnaaaGreatQAl18
import Derived.Deep.CutRange

set_option maxRecDepth 100000
set_option maxHeartbeats 6400000
set_option linter.unusedVariables false
set_option linter.unusedSimpArgs false
namespace Go.Proofs.YtmnecbniappnaaaGreat
open Go.RowKit
abbrev hf1 (Ba : Nat) : Value := .func (.func 34) #[] #[.pointer (some ⟨Ba,0,none⟩)]
abbrev hf2 (Ba : Nat) : Value := .func (.func 35) #[] #[.pointer (some ⟨Ba,0,none⟩)]
abbrev hf3 (Ba : Nat) : Value := .func (.func 37) #[] #[.pointer (some ⟨Ba,0,none⟩)]
abbrev hf4 (Ba : Nat) : Value := .func (.func 39) #[] #[.pointer (some ⟨Ba,0,none⟩)]
theorem zkG (P : Program) (w : World) (p : Addr) (f : Fn) (a b : Array Value) (m : Mode) : (store p (.func f a b) m).run P w = match w.cell? p with
      | some _ => if w.frozen? p then .halt (.unsupported (.unsafePointer "a write to bytes that a string shares")) w else .ok () (w.setCell p (.func f a b))
      | none => match w.farStore P p (.func f a b) (m == .atomic) with
        | .ok (w',_) => .ok () w'
        | .error h => .halt h w := run_store P w p (.func f a b) m rfl
def sc18 (r : Nat) (ρ γ : Nat → Nat) : List Value := ((List.range r).map fun a => [Value.int .i64 (ρ a : Int),Value.int .i64 (γ a : Int)]).flatten
theorem zdA (r : Nat) (ρ γ : Nat → Nat) : (sc18 r ρ γ).length = r * 2 := by
 unfold sc18
 induction r with
 | zero => rfl
 | succ r ih => rw [List.range_succ,List.map_append,List.flatten_append,List.length_append,ih];simp;omega
theorem sc18_succ (r : Nat) (ρ γ : Nat → Nat) : sc18 (r + 1) ρ γ = sc18 r ρ γ ++ [.int .i64 (ρ r : Int),.int .i64 (γ r : Int)] := by
 unfold sc18;rw [List.range_succ,List.map_append,List.flatten_append];rfl
theorem zuB {r a : Nat} {ρ γ : Nat → Nat} (h : a < r) (t : List Value) : (sc18 r ρ γ ++ t)[a * 2]? = some (.int .i64 (ρ a : Int)) ∧ (sc18 r ρ γ ++ t)[a * 2 + 1]? = some (.int .i64 (γ a : Int)) := by
 induction r generalizing t with
 | zero => omega
 | succ r ih =>
  rw [sc18_succ,List.append_assoc]
  by_cases q : a < r
  ·exact ih q _
  ·obtain rfl : a = r := by omega
   constructor
   ·rw [List.getElem?_append_right (by rw [zdA];omega),zdA];simp
   ·rw [List.getElem?_append_right (by rw [zdA];omega),zdA,show a * 2 + 1 - a * 2 = 1 by omega];simp
theorem zuC {r : Nat} {ρ γ ρ' γ' : Nat → Nat} (h : ∀ a,a < r → ρ a = ρ' a ∧ γ a = γ' a) : sc18 r ρ γ = sc18 r ρ' γ' := by
 unfold sc18;rw [List.map_congr_left fun a ha => by rw [(h a (by simpa using ha)).1,(h a (by simpa using ha)).2]]
def Sp18 (B : Nat) (w : World) (sv : Value) (r : Nat) (ρ γ : Nat → Nat) : Prop :=
 (r = 0 ∧ sv = .slice none 0 0) ∨ (0 < r ∧ ∃ Bp cap t,sv = .slice (some ⟨Bp,0,none⟩) r cap ∧ r ≤ cap ∧ B ≤ Bp ∧ cap ≤ 9223372036854775807 ∧ t.length + r * 2 = cap * 2 ∧ Cel w Bp 65 (sc18 r ρ γ ++ t))
theorem Sp18.cel {B r : Nat} {w w' : World} {sv : Value} {ρ γ : Nat → Nat} (h : Sp18 B w sv r ρ γ) (k : ∀ b L,Cel w b 65 L → Cel w' b 65 L) : Sp18 B w' sv r ρ γ := by
 rcases h with h | ⟨h0,Bp,cap,t,e,e0,e1,e2,e3,e4⟩
 ·exact .inl h
 ·exact .inr ⟨h0,Bp,cap,t,e,e0,e1,e2,e3,k _ _ e4⟩
def Wk18 (B : Nat) (w : World) (bs Bl Bh Ba : Nat) (lv sv : Value) (m n r : Nat) (ρ γ gs : Nat → Nat) (X : Nat → Nat → Int) (kw : Nat) : Prop :=
 Cel w bs 63 [.slice (some ⟨Bl,0,none⟩) 1 1,.slice (some ⟨Bh,0,none⟩) 1 1,sv] ∧ Cel w Bl 45 [lv] ∧ Cel w Bh 58 [hf1 Ba,hf2 Ba,hf3 Ba,hf4 Ba] ∧ Cel w Ba 45 [lv] ∧ Sp18 B w sv r ρ γ ∧ Sh17 B w lv m n gs X kw
section
variable {B bs Bl Bh Ba m n r kw : Nat} {w w' : World} {lv sv : Value} {ρ γ gs : Nat → Nat} {X : Nat → Nat → Int}
theorem Wk18.now (h : Wk18 B w bs Bl Bh Ba lv sv m n r ρ γ gs X kw) (b : Below w.heap.size w w') : Wk18 B w' bs Bl Bh Ba lv sv m n r ρ γ gs X kw :=
 ⟨h.1.step b,h.2.1.step b,h.2.2.1.step b,h.2.2.2.1.step b,h.2.2.2.2.1.cel fun _ _ d => d.step b,h.2.2.2.2.2.now b⟩
theorem Wk18.congr {Y : Nat → Nat → Int} (h : Wk18 B w bs Bl Bh Ba lv sv m n r ρ γ gs X kw) (e : ∀ i j,i < m → j < n → X i j = Y i j) : Wk18 B w bs Bl Bh Ba lv sv m n r ρ γ gs Y kw :=
 ⟨h.1,h.2.1,h.2.2.1,h.2.2.2.1,h.2.2.2.2.1,h.2.2.2.2.2.congr e⟩
theorem Wk18.form (h : Wk18 B w bs Bl Bh Ba lv sv m n r ρ γ gs X kw) (hm : 0 < m) : ∃ Lb cap,lv = .slice (some ⟨Lb,0,none⟩) m cap := by
 rcases h.2.2.2.2.2.1 with ⟨e,_⟩ | ⟨_,Lb,cap,_,e,_⟩
 ·omega
 ·exact ⟨Lb,cap,e⟩
theorem Wk18.sform (h : Wk18 B w bs Bl Bh Ba lv sv m n r ρ γ gs X kw) : ∃ sa sc,sv = .slice sa r sc := by
 rcases h.2.2.2.2.1 with ⟨e,h⟩ | ⟨_,Bp,cap,t,e,_⟩
 ·exact ⟨none,0,by rw [e];exact h⟩
 ·exact ⟨_,cap,e⟩
theorem Wk18.ty (h : Wk18 B w bs Bl Bh Ba lv sv m n r ρ γ gs X kw) (ty : Ty 40 w w') {Y : Nat → Nat → Int} (hr : ∀ i,i < m → Rw17 w' (gs i) n (Y i) kw) : Wk18 B w' bs Bl Bh Ba lv sv m n r ρ γ gs Y kw := by
 refine ⟨h.1.ty13 ty (by decide),h.2.1.ty13 ty (by decide),h.2.2.1.ty13 ty (by decide),h.2.2.2.1.ty13 ty (by decide),h.2.2.2.2.1.cel fun _ _ d => d.ty13 ty (by decide),?_⟩;obtain ⟨h1,h4,h5⟩ := h.2.2.2.2.2;refine ⟨?_,h4,fun i hi => ⟨(h5 i hi).1,hr i hi⟩⟩;rcases h1 with h1 | ⟨h0,Lb,cap,t,e,e0,e1,e2⟩
 ·exact .inl h1
 ·exact .inr ⟨h0,Lb,cap,t,e,e0,e1,e2.ty13 ty (by decide)⟩
theorem Wk18.row {i : Nat} {F : Nat → Int} {Y : Nat → Nat → Int} (h : Wk18 B w bs Bl Bh Ba lv sv m n r ρ γ gs X kw) (hi : i < m) (hr : Rw17 w' (gs i) n F kw) (ht : Touch (· = gs i) w w') (e1 : ∀ c,c < n → F c = Y i c) (e2 : ∀ t,t ≠ i → Y t = X t) : Wk18 B w' bs Bl Bh Ba lv sv m n r ρ γ gs Y kw := by
 have ty := zsC (h.2.2.2.2.2.2.2 i hi).2 ht;refine h.ty ty fun t htm => ?_
 by_cases q : t = i
 ·subst q;exact hr.congr e1
 ·rw [e2 t q];exact (h.2.2.2.2.2.2.2 t htm).2.oth18 ht ty fun e => q (h.2.2.2.2.2.2.1 t i htm hi e)
theorem Wk18.two {i j : Nat} {F G : Nat → Int} {Y : Nat → Nat → Int} (h : Wk18 B w bs Bl Bh Ba lv sv m n r ρ γ gs X kw) (hi : i < m) (hj : j < m) (hij : i ≠ j) (hr : Rw17 w' (gs i) n F kw) (hs : Rw17 w' (gs j) n G kw) (ht : Touch (zbC (gs i) (gs j)) w w') (e1 : ∀ c,c < n → F c = Y i c) (e2 : ∀ c,c < n → G c = Y j c) (e3 : ∀ t,t ≠ i → t ≠ j → Y t = X t) : Wk18 B w' bs Bl Bh Ba lv sv m n r ρ γ gs Y kw := by
 have ty := ht.tyS18 (T := 40) (fun b q => by
  rcases q with rfl | rfl
  ·exact (h.2.2.2.2.2.2.2 i hi).2.cel18
  ·exact (h.2.2.2.2.2.2.2 j hj).2.cel18)
 refine h.ty ty fun t htm => ?_
 by_cases q : t = i
 ·subst q;exact hr.congr e1
 ·by_cases q2 : t = j
  ·subst q2;exact hs.congr e2
  ·rw [e3 t q q2]
   exact (h.2.2.2.2.2.2.2 t htm).2.oth18 ht ty fun e => by
    rcases e with e | e
    ·exact q (h.2.2.2.2.2.2.1 t i htm hi e)
    ·exact q2 (h.2.2.2.2.2.2.1 t j htm hj e)
end
abbrev tl18 (gs : Nat → Nat) (m : Nat) : Nat → Prop := fun b => ∃ i,i < m ∧ b = gs i
def zSG (w : World) (z : Int) (k : Nat) (e : Ending) (w' : World) : Prop := ∃ nb a l cc,e = .returned (.agg #[.bool nb,.slice a l cc]) ∧ Zm 0 w' (.agg #[.bool nb,.slice a l cc]) z k ∧ Below w.heap.size w w'
theorem at18 {B bs Bl Bh Ba m n r kw i c : Nat} {w : World} {lv sv : Value} {ρ γ gs : Nat → Nat} {X : Nat → Nat → Int} (h : Wk18 B w bs Bl Bh Ba lv sv m n r ρ γ gs X kw) (hi : i < m) (hc : c < n) (hm : m ≤ 65) (hn : n ≤ 64) :
  Calls Tryz.prog 67 #[.pointer (some ⟨bs,0,none⟩),.int .i64 (i : Int),.int .i64 (c : Int)] w (zSG w (X i c) kw) := by
 obtain ⟨Lb,cap,rfl⟩ := h.form (by omega);obtain ⟨V0,hV0⟩ : ∃ V0,w.alloc zbox = V0 := ⟨_,rfl⟩
 obtain ⟨b0,sz0⟩ := alo1 w zbox;rw [hV0] at b0 sz0;have dR : Duo V0 w.heap.size (.bool false) (.slice none 0 0) := by rw [← hV0];exact Duo.new w _ _
 have h0 := h.now b0;have s0 := h0.1.at (i := 0) rfl;have l0 := h0.2.1.at (i := 0) rfl;have li := h0.2.2.2.2.2.lineS hi;obtain ⟨nb,a,l,cc,q0,q1,-,-,z⟩ := (h0.2.2.2.2.2.2.2 i hi).2.at hc;have r0 := dR.c0;have r1 := dR.c1;have f0 := dR.fz 0;have f1 := dR.fz 1;have FF : Hid (zSG w (X i c) kw (.returned (.agg #[.bool nb,.slice a l cc])) ((V0.setCell ⟨w.heap.size,0,none⟩ (.bool nb)).setCell ⟨w.heap.size,1,none⟩ (.slice a l cc)) ∧ Duo ((V0.setCell ⟨w.heap.size,0,none⟩ (.bool nb)).setCell ⟨w.heap.size,1,none⟩ (.slice a l cc)) w.heap.size (.bool nb) (.slice a l cc)) :=
  ⟨⟨nb,a,l,cc,rfl,z.ty (dR.ty18 _ _) (by decide),bset (bset b0 (Nat.le_refl _)) (Nat.le_refl _)⟩,dR.set _ _⟩
 have EV := hid hV0;have him : (i : Int) < (m : Int) := by omega
 have hcn : (c : Int) < (n : Int) := by omega
 have hr1 : (V0.setCell ⟨w.heap.size,0,none⟩ (.bool nb)).cell? ⟨w.heap.size,1,none⟩ = some (.slice none 0 0) := (dR.set0 _).c1;obtain ⟨bx,hbx⟩ : ∃ bx,w.heap.size = bx := ⟨_,rfl⟩
 rw [hbx] at r0 r1 f0 f1 FF hr1;have EBX := hid hbx;clear h h0 hi hc b0 sz0 hV0 dR z hbx;go_enter Tryz.func67,Tryz.ntmps67;go_upto_region 1 with fail
 rw [EV.out,EBX.out];go_wp2_with fail
 go_loopw [2,14] (fun c' i wr => c' = .int .i64 (c : Int) ∧ i = .int .i64 0 ∧ wr = V0) (fun _ _ _ => 0)
 case atStart => exact ⟨rfl,rfl,rfl⟩
 case round =>
  obtain ⟨rfl,rfl,rfl⟩ := hrel;go_wp2_with fail;refine bodyPost_ret (zNB Tryz.results67 FF.out.2 _ (by rfl)) rfl ?_;exact FF.out.1
theorem width18 {B bs Bl Bh Ba m n r kw i : Nat} {w : World} {lv sv : Value} {ρ γ gs : Nat → Nat} {X : Nat → Nat → Int} (h : Wk18 B w bs Bl Bh Ba lv sv m n r ρ γ gs X kw) (hi : i < m) (hm : m ≤ 65) (hn : n ≤ 64) :
  Calls Tryz.prog 66 #[.pointer (some ⟨bs,0,none⟩),.int .i64 (i : Int)] w fun e w' => e = .returned (.int .i64 (n : Int)) ∧ w' = w := by
 obtain ⟨Lb,cap,rfl⟩ := h.form (by omega);have s0 := h.1.at (i := 0) rfl;have l0 := h.2.1.at (i := 0) rfl;have li := h.2.2.2.2.2.lineS hi;have him : (i : Int) < (m : Int) := by omega
 have hw1 : IntKind.i64.wrap ((n : Int)) = (n : Int) := zZA (by omega) (by omega);have hw0 : IntKind.i64.wrap (0 + (n : Int)) = (n : Int) := by rw [Int.zero_add];exact hw1
 clear h hi;go_enter Tryz.func66,Tryz.ntmps66;go_wp2_with fail
 go_loopg [5,13] 1 (fun gk s5 s13 wx => (gk = 1 ∧ s5 = .int .i64 0 ∧ s13 = .int .i64 0 ∨ gk = 0 ∧ s5 = .int .i64 (n : Int) ∧ s13 = .int .i64 1) ∧ wx = w)
 case atStart => exact ⟨.inl ⟨rfl,rfl,rfl⟩,rfl⟩
 case round =>
  obtain ⟨⟨hg,rfl,rfl⟩ | ⟨hg,rfl,rfl⟩,rfl⟩ := hrel
  ·have HG := hid hg
   clear hg;go_wp2_with fail;go_roundg 0
   case rel => exact ⟨.inr ⟨rfl,rfl,rfl⟩,rfl⟩
   case measure => rw [HG.out];omega
  ·clear hg
   go_wp2;go_ret;exact ⟨rfl,rfl⟩
attribute [local go_sem] zkG
def zEE (S : Nat → Prop) (B : Nat) (w : World) (bs Bl Bh Ba : Nat) (lv sv : Value) (m n r : Nat) (ρ γ gs : Nat → Nat) (X : Nat → Nat → Int) (kw : Nat) (e : Ending) (w' : World) : Prop := e = .returned (.tuple #[]) ∧ Wk18 B w' bs Bl Bh Ba lv sv m n r ρ γ gs X kw ∧ Touch S w w'
theorem exch_same18 {w : World} {bs i : Nat} (hi : i ≤ 64) : Calls Tryz.prog 45 #[.pointer (some ⟨bs,0,none⟩),.int .i64 (i : Int),.int .i64 (i : Int)] w fun e w' => e = .returned (.tuple #[]) ∧ w' = w := by
 go_enter Tryz.func45,Tryz.ntmps45;go_wp2;refine bodyPost_ret (results_none rfl _ _ _) rfl ?_;exact ⟨rfl,rfl⟩
theorem zqH {B bs Bl Bh Ba m n r kw l i j lt ct : Nat} {w : World} {lv sv : Value} {ρ γ gs : Nat → Nat} {X : Nat → Nat → Int} (h : Wk18 B w bs Bl Bh Ba lv sv m n r ρ γ gs X kw) {nt : Bool} {at0 : Option Addr} {s : Int} (hi : i < m) (hj : j < m) (hij : i ≠ j) (ht : Zm 0 w (.agg #[.bool nt,.slice at0 lt ct]) s l)
  (hF : ∀ c,c < n → ((X i c - s * X j c).natAbs : Int) < pw kw) (hm : m ≤ 65) (hn : n ≤ 64) (hK : l + kw < 35184372088000) :
  Calls Tryz.prog 88 #[.pointer (some ⟨bs,0,none⟩),.int .i64 (i : Int),.int .i64 (j : Int),.agg #[.bool nt,.slice at0 lt ct]] w (zEE (· = gs i) B w bs Bl Bh Ba lv sv m n r ρ γ gs (lesX X i j s) kw) := by
 obtain ⟨Lb,cap,rfl⟩ := h.form (by omega);obtain ⟨V0,hV0⟩ : ∃ V0,w.alloc (duo (.bool nt) (.slice at0 lt ct)) = V0 := ⟨_,rfl⟩
 obtain ⟨b0,sz0⟩ := alo1 w (duo (.bool nt) (.slice at0 lt ct));rw [hV0] at b0 sz0;have dT : Duo V0 w.heap.size (.bool nt) (.slice at0 lt ct) := by rw [← hV0];exact Duo.new w _ _
 have t0 := dT.c0;have t1 := dT.c1;have WK := hid (h.now b0);have s1 := WK.out.1.at (i := 1) rfl;have B0 := hid b0;have EV0 := hid hV0;have ZT := hid (ht.now b0);have HF := hid hF;have HK := hid hK;have HI := hid (show i < m ∧ j < m ∧ i ≠ j from ⟨hi,hj,hij⟩);have FIN : Hid (∀ wx,Wk18 B wx bs Bl Bh Ba (.slice (some ⟨Lb,0,none⟩) m cap) sv m n r ρ γ gs (lesX X i j s) kw ∧ Touch (· = gs i) V0 wx → zEE (· = gs i) B w bs Bl Bh Ba (.slice (some ⟨Lb,0,none⟩) m cap) sv m n r ρ γ gs (lesX X i j s) kw (.returned (.tuple #[])) wx) := fun wx h => ⟨rfl,h.1,(Touch.ofBelow B0.out).trans h.2⟩
 obtain ⟨bx,hbx⟩ : ∃ bx,w.heap.size = bx := ⟨_,rfl⟩
 rw [hbx] at t0 t1;have EBX := hid hbx;clear h hi hj hij ht hF hK dT b0 sz0 hV0 hbx;go_enter Tryz.func88,Tryz.ntmps88;go_upto_region 1 with fail
 rw [EV0.out,EBX.out];go_wp2_with fail
 go_loopg [15] 1 (fun gk s15 wx => (gk = 1 ∧ s15 = .int .i64 0 ∧ wx = V0) ∨ (gk = 0 ∧ s15 = .int .i64 1 ∧ Wk18 B wx bs Bl Bh Ba (.slice (some ⟨Lb,0,none⟩) m cap) sv m n r ρ γ gs (lesX X i j s) kw ∧ Touch (· = gs i) V0 wx))
 case atStart => exact .inl ⟨rfl,rfl,rfl⟩
 case round =>
  rcases hrel with ⟨hg,rfl,hwx⟩ | ⟨hg,rfl,hp⟩
  ·replace hwx := hwx.symm
   subst hwx;have HG := hid hg;obtain ⟨V1,hV⟩ : ∃ V1,V0.alloc (.cells #[hf1 Ba,hf2 Ba,hf3 Ba,hf4 Ba] 58) = V1 := ⟨_,rfl⟩
   obtain ⟨b,sz1⟩ := alo1 V0 (.cells #[hf1 Ba,hf2 Ba,hf3 Ba,hf4 Ba] 58);rw [hV] at b sz1;have dH : Cel V1 V0.heap.size 58 [hf1 Ba,hf2 Ba,hf3 Ba,hf4 Ba] := by rw [← hV];exact Cel.new V0 _ _
   have a0 := WK.out.2.2.1.at (i := 0) rfl;have a1 := WK.out.2.2.1.at (i := 1) rfl;have a2 := WK.out.2.2.1.at (i := 2) rfl;have a3 := WK.out.2.2.1.at (i := 3) rfl;have c0 := dH.at (i := 0) rfl;have c1 := dH.at (i := 1) rfl;have c2 := dH.at (i := 2) rfl;have c3 := dH.at (i := 3) rfl;replace t0 := cnow b t0;replace t1 := cnow b t1;rw [← hV] at t0 t1;have WK1 := hid (WK.out.now b);have HC := hid (along3_18 WK1.out.2.2.2.1 WK1.out.2.2.2.2.2 HI.out.1 HI.out.2.1 HI.out.2.2 (ZT.out.now b) HF.out hm hn HK.out);have BV := hid b;have EV := hid hV;rw [← hV] at c0 c1 c2 c3;clear hg b sz1 hV dH s1;go_wp2_with fail;rw [EV.out];refine HC.out.mono ?_;rintro e wy ⟨rfl,hr,ht⟩;have PP : Hid (Wk18 B wy bs Bl Bh Ba (.slice (some ⟨Lb,0,none⟩) m cap) sv m n r ρ γ gs (lesX X i j s) kw ∧ Touch (· = gs i) V0 wy) := ⟨WK1.out.row HI.out.1 hr ht (fun c _ => (zSB X i j s c).symm) (fun t q => zpA q),(Touch.ofBelow BV.out).trans ht⟩
   clear HC EV BV WK1 a0 a1 a2 a3 c0 c1 c2 c3 hr ht t0 t1 WK;go_wp2_with fail;go_roundg 0
   case rel => exact .inr ⟨rfl,rfl,PP.out⟩
   case measure => rw [HG.out];omega
  ·have FF := hid (FIN.out wr hp)
   clear hg hp FIN s1;go_wp2;go_end0;exact FF.out
theorem mix18 {B bs Bl Bh Ba m n r kw l i j lx cx ly cy lu cu lv0 cv : Nat} {w : World} {lv sv : Value} {ρ γ gs : Nat → Nat} {X : Nat → Nat → Int} (h : Wk18 B w bs Bl Bh Ba lv sv m n r ρ γ gs X kw) {nx ny nu nv : Bool} {ax ay au av : Option Addr} {x y u v : Int} (hi : i < m) (hj : j < m) (hij : i ≠ j)
  (hx : Zm 0 w (.agg #[.bool nx,.slice ax lx cx]) x l) (hy : Zm 0 w (.agg #[.bool ny,.slice ay ly cy]) y l) (hu : Zm 0 w (.agg #[.bool nu,.slice au lu cu]) u l) (hv : Zm 0 w (.agg #[.bool nv,.slice av lv0 cv]) v l)
  (hF : ∀ c,c < n → ((x * X i c + y * X j c).natAbs : Int) < pw kw) (hG : ∀ c,c < n → ((u * X i c + v * X j c).natAbs : Int) < pw kw) (hm : m ≤ 65) (hn : n ≤ 64) (hK : l + kw < 1099511600000) :
  Calls Tryz.prog 90 #[.pointer (some ⟨bs,0,none⟩),.int .i64 (i : Int),.int .i64 (j : Int),.agg #[.bool nx,.slice ax lx cx,.bool ny,.slice ay ly cy,.bool nu,.slice au lu cu,.bool nv,.slice av lv0 cv]] w (zEE (zbC (gs i) (gs j)) B w bs Bl Bh Ba lv sv m n r ρ γ gs (mixX X i j x y u v) kw) := by
 obtain ⟨Lb,cap,rfl⟩ := h.form (by omega);obtain ⟨V0,hV0⟩ : ∃ V0,w.alloc (.cells #[.bool nx,.slice ax lx cx,.bool ny,.slice ay ly cy,.bool nu,.slice au lu cu,.bool nv,.slice av lv0 cv] 81) = V0 := ⟨_,rfl⟩
 obtain ⟨b0,sz0⟩ := alo1 w (.cells #[.bool nx,.slice ax lx cx,.bool ny,.slice ay ly cy,.bool nu,.slice au lu cu,.bool nv,.slice av lv0 cv] 81);rw [hV0] at b0 sz0;have dB : Cel V0 w.heap.size 81 [.bool nx,.slice ax lx cx,.bool ny,.slice ay ly cy,.bool nu,.slice au lu cu,.bool nv,.slice av lv0 cv] := by rw [← hV0];exact Cel.new w _ _
 have y0 := dB.at (i := 0) rfl;have y1 := dB.at (i := 1) rfl;have y2 := dB.at (i := 2) rfl;have y3 := dB.at (i := 3) rfl;have y4 := dB.at (i := 4) rfl;have y5 := dB.at (i := 5) rfl;have y6 := dB.at (i := 6) rfl;have y7 := dB.at (i := 7) rfl;have WK := hid (h.now b0);have s1 := WK.out.1.at (i := 1) rfl;have B0 := hid b0;have EV0 := hid hV0;have ZX := hid (hx.now b0);have ZY := hid (hy.now b0);have ZU := hid (hu.now b0);have ZV := hid (hv.now b0);have HF := hid hF;have HGG := hid hG;have HK := hid hK;have HI := hid (show i < m ∧ j < m ∧ i ≠ j from ⟨hi,hj,hij⟩);have FIN : Hid (∀ wx,Wk18 B wx bs Bl Bh Ba (.slice (some ⟨Lb,0,none⟩) m cap) sv m n r ρ γ gs (mixX X i j x y u v) kw ∧ Touch (zbC (gs i) (gs j)) V0 wx → zEE (zbC (gs i) (gs j)) B w bs Bl Bh Ba (.slice (some ⟨Lb,0,none⟩) m cap) sv m n r ρ γ gs (mixX X i j x y u v) kw (.returned (.tuple #[])) wx) := fun wx h => ⟨rfl,h.1,(Touch.ofBelow B0.out).trans h.2⟩
 obtain ⟨bx,hbx⟩ : ∃ bx,w.heap.size = bx := ⟨_,rfl⟩
 rw [hbx] at y0 y1 y2 y3 y4 y5 y6 y7;have EBX := hid hbx;clear h hi hj hij hx hy hu hv hF hG hK dB b0 sz0 hV0 hbx;go_enter Tryz.func90,Tryz.ntmps90;go_upto_region 1 with fail
 rw [EV0.out,EBX.out];go_wp2_with fail
 go_loopg [15] 1 (fun gk s15 wx => (gk = 1 ∧ s15 = .int .i64 0 ∧ wx = V0) ∨ (gk = 0 ∧ s15 = .int .i64 1 ∧ Wk18 B wx bs Bl Bh Ba (.slice (some ⟨Lb,0,none⟩) m cap) sv m n r ρ γ gs (mixX X i j x y u v) kw ∧ Touch (zbC (gs i) (gs j)) V0 wx))
 case atStart => exact .inl ⟨rfl,rfl,rfl⟩
 case round =>
  rcases hrel with ⟨hg,rfl,hwx⟩ | ⟨hg,rfl,hp⟩
  ·replace hwx := hwx.symm
   subst hwx;have HG := hid hg;obtain ⟨V1,hV⟩ : ∃ V1,V0.alloc (.cells #[hf1 Ba,hf2 Ba,hf3 Ba,hf4 Ba] 58) = V1 := ⟨_,rfl⟩
   obtain ⟨b,sz1⟩ := alo1 V0 (.cells #[hf1 Ba,hf2 Ba,hf3 Ba,hf4 Ba] 58);rw [hV] at b sz1;have dH : Cel V1 V0.heap.size 58 [hf1 Ba,hf2 Ba,hf3 Ba,hf4 Ba] := by rw [← hV];exact Cel.new V0 _ _
   have a0 := WK.out.2.2.1.at (i := 0) rfl;have a1 := WK.out.2.2.1.at (i := 1) rfl;have a2 := WK.out.2.2.1.at (i := 2) rfl;have a3 := WK.out.2.2.1.at (i := 3) rfl;have c0 := dH.at (i := 0) rfl;have c1 := dH.at (i := 1) rfl;have c2 := dH.at (i := 2) rfl;have c3 := dH.at (i := 3) rfl;replace y0 := cnow b y0;replace y1 := cnow b y1;replace y2 := cnow b y2;replace y3 := cnow b y3;replace y4 := cnow b y4;replace y5 := cnow b y5;replace y6 := cnow b y6;replace y7 := cnow b y7;rw [← hV] at y0 y1 y2 y3 y4 y5 y6 y7;have WK1 := hid (WK.out.now b);have HC := hid (along4_18 WK1.out.2.2.2.1 WK1.out.2.2.2.2.2 HI.out.1 HI.out.2.1 HI.out.2.2 (ZX.out.now b) (ZY.out.now b) (ZU.out.now b) (ZV.out.now b) HF.out HGG.out hm hn HK.out);have BV := hid b;have EV := hid hV;rw [← hV] at c0 c1 c2 c3;clear hg b sz1 hV dH s1;go_wp2_with fail;rw [EV.out];refine HC.out.mono ?_;rintro e wy ⟨rfl,hr,hr2,ht⟩;have PP : Hid (Wk18 B wy bs Bl Bh Ba (.slice (some ⟨Lb,0,none⟩) m cap) sv m n r ρ γ gs (mixX X i j x y u v) kw ∧ Touch (zbC (gs i) (gs j)) V0 wy) := ⟨WK1.out.two HI.out.1 HI.out.2.1 HI.out.2.2 hr hr2 ht (fun c _ => (zHD X i j x y u v c).symm) (fun c _ => (ziD HI.out.2.2 x y u v c).symm) (fun t q q2 => zBC q q2),(Touch.ofBelow BV.out).trans ht⟩
   clear HC EV BV WK1 a0 a1 a2 a3 c0 c1 c2 c3 hr hr2 ht y0 y1 y2 y3 y4 y5 y6 y7 WK;go_wp2_with fail;go_roundg 0
   case rel => exact .inr ⟨rfl,rfl,PP.out⟩
   case measure => rw [HG.out];omega
  ·have FF := hid (FIN.out wr hp)
   clear hg hp FIN s1;go_wp2;go_end0;exact FF.out
theorem Wk18.exch {B bs Bl Bh Ba m n r kw i Lb cap : Nat} {w w' : World} {sv : Value} {ρ γ gs : Nat → Nat} {X Y : Nat → Nat → Int} {gs' : Nat → Nat} (h : Wk18 B w bs Bl Bh Ba (.slice (some ⟨Lb,0,none⟩) m cap) sv m n r ρ γ gs X kw) (hi : i < m) (hs : Sh17 B w' (.slice (some ⟨Lb,0,none⟩) m cap) m n gs' Y kw) (ht : Touch (· = Lb) w w') : Wk18 B w' bs Bl Bh Ba (.slice (some ⟨Lb,0,none⟩) m cap) sv m n r ρ γ gs' Y kw := by
 have ty : Ty 22 w w' := ht.tyS18 (fun b q => by
  subst q;obtain ⟨h1,-,-⟩ := h.2.2.2.2.2;rcases h1 with ⟨_,h1⟩ | ⟨h0,Lb',cap',r,e,e0,e1,e2⟩
  ·cases h1
  simp only [Value.slice.injEq,Option.some.injEq,Addr.mk.injEq,and_true,true_and] at e;obtain ⟨rfl,rfl⟩ := e;exact ⟨_,e2⟩)
 exact ⟨h.1.ty13 ty (by decide),h.2.1.ty13 ty (by decide),h.2.2.1.ty13 ty (by decide),h.2.2.2.1.ty13 ty (by decide),h.2.2.2.2.1.cel fun _ _ d => d.ty13 ty (by decide),hs⟩
theorem exchange18 {B bs Bl Bh Ba m n r kw i j Lb cap : Nat} {w : World} {sv : Value} {ρ γ gs : Nat → Nat} {X : Nat → Nat → Int} (h : Wk18 B w bs Bl Bh Ba (.slice (some ⟨Lb,0,none⟩) m cap) sv m n r ρ γ gs X kw) (hi : i < m) (hj : j < m) (hij : i ≠ j) (hm : m ≤ 65) :
  Calls Tryz.prog 45 #[.pointer (some ⟨bs,0,none⟩),.int .i64 (i : Int),.int .i64 (j : Int)] w (zEE (· = Lb) B w bs Bl Bh Ba (.slice (some ⟨Lb,0,none⟩) m cap) sv m n r ρ γ (swF gs i j) (swpX X i j) kw) := by
 have WK := hid h;have s1 := WK.out.1.at (i := 1) rfl;have HI := hid (show i < m ∧ j < m ∧ i ≠ j from ⟨hi,hj,hij⟩);have hij1 : ¬ i = j := hij;have hij2 : ¬ (i : Int) = (j : Int) := by omega
 have FIN : Hid (∀ wx,Wk18 B wx bs Bl Bh Ba (.slice (some ⟨Lb,0,none⟩) m cap) sv m n r ρ γ (swF gs i j) (swpX X i j) kw ∧ Touch (· = Lb) w wx → zEE (· = Lb) B w bs Bl Bh Ba (.slice (some ⟨Lb,0,none⟩) m cap) sv m n r ρ γ (swF gs i j) (swpX X i j) kw (.returned (.tuple #[])) wx) := fun wx h => ⟨rfl,h.1,h.2⟩
 clear h hi hj hij;go_enter Tryz.func45,Tryz.ntmps45;go_wp2_with fail
 go_loopg [16] 1 (fun gk s15 wx => (gk = 1 ∧ s15 = .int .i64 0 ∧ wx = w) ∨ (gk = 0 ∧ s15 = .int .i64 1 ∧ Wk18 B wx bs Bl Bh Ba (.slice (some ⟨Lb,0,none⟩) m cap) sv m n r ρ γ (swF gs i j) (swpX X i j) kw ∧ Touch (· = Lb) w wx))
 case atStart => exact .inl ⟨rfl,rfl,rfl⟩
 case round =>
  rcases hrel with ⟨hg,rfl,hwx⟩ | ⟨hg,rfl,hp⟩
  ·replace hwx := hwx.symm
   subst hwx;have HG := hid hg;obtain ⟨V1,hV⟩ : ∃ V1,w.alloc (.cells #[hf1 Ba,hf2 Ba,hf3 Ba,hf4 Ba] 58) = V1 := ⟨_,rfl⟩
   obtain ⟨b,sz1⟩ := alo1 w (.cells #[hf1 Ba,hf2 Ba,hf3 Ba,hf4 Ba] 58);rw [hV] at b sz1;have dH : Cel V1 w.heap.size 58 [hf1 Ba,hf2 Ba,hf3 Ba,hf4 Ba] := by rw [← hV];exact Cel.new w _ _
   have a0 := WK.out.2.2.1.at (i := 0) rfl;have a1 := WK.out.2.2.1.at (i := 1) rfl;have a2 := WK.out.2.2.1.at (i := 2) rfl;have a3 := WK.out.2.2.1.at (i := 3) rfl;have c0 := dH.at (i := 0) rfl;have c1 := dH.at (i := 1) rfl;have c2 := dH.at (i := 2) rfl;have c3 := dH.at (i := 3) rfl;have WK1 := hid (WK.out.now b);have HC := hid (along1_18 WK1.out.2.2.2.1 WK1.out.2.2.2.2.2 HI.out.1 HI.out.2.1 HI.out.2.2 hm);have BV := hid b;have EV := hid hV;rw [← hV] at c0 c1 c2 c3;clear hg b sz1 hV dH s1;go_wp2_with fail;rw [EV.out];refine HC.out.mono ?_;rintro e wy ⟨rfl,hr,ht⟩;have PP : Hid (Wk18 B wy bs Bl Bh Ba (.slice (some ⟨Lb,0,none⟩) m cap) sv m n r ρ γ (swF gs i j) (swpX X i j) kw ∧ Touch (· = Lb) w wy) := ⟨WK1.out.exch HI.out.1 hr ht,(Touch.ofBelow BV.out).trans ht⟩
   clear HC EV BV WK1 a0 a1 a2 a3 c0 c1 c2 c3 hr ht WK;go_wp2_with fail;go_roundg 0
   case rel => exact .inr ⟨rfl,rfl,PP.out⟩
   case measure => rw [HG.out];omega
  ·have FF := hid (FIN.out wr hp)
   clear hg hp FIN s1;go_wp2;go_end0;exact FF.out
theorem positive18 {B bs Bl Bh Ba m n r kw i c : Nat} {w : World} {lv sv : Value} {ρ γ gs : Nat → Nat} {X : Nat → Nat → Int} (h : Wk18 B w bs Bl Bh Ba lv sv m n r ρ γ gs X kw) (hi : i < m) (hc : c < n) (h0 : 0 < X i c) (hm : m ≤ 65) (hn : n ≤ 64) :
  Calls Tryz.prog 42 #[.pointer (some ⟨bs,0,none⟩),.int .i64 (i : Int),.int .i64 (c : Int)] w fun e w' => e = .returned (.tuple #[]) ∧ Below w.heap.size w w' := by
 have HA := hid (at18 h hi hc hm hn);have hs : cmpI (X i c) 0 = 1 := by unfold cmpI;split <;> (try split) <;> omega
 have HS := hid hs;clear h hi hc h0 hs;go_enter Tryz.func42,Tryz.ntmps42;go_wp2_with fail;refine HA.out.mono ?_;rintro e w1 ⟨nb,a,l,cc,rfl,z,b⟩;have HZ := hid (zqA z.zi);have B1 := hid b;clear HA z b;go_wp2_with fail;refine HZ.out.mono ?_;rintro e w2 ⟨rfl,b⟩;rw [HS.out];have FF := hid (below_step B1.out b);clear HZ B1 b;go_wp2;refine bodyPost_ret (results_none rfl _ _ _) rfl ?_;exact ⟨rfl,FF.out⟩
theorem negate18 {B bs Bl Bh Ba m n r kw i c : Nat} {w : World} {lv sv : Value} {ρ γ gs : Nat → Nat} {X : Nat → Nat → Int} (h : Wk18 B w bs Bl Bh Ba lv sv m n r ρ γ gs X kw) (hi : i < m) (hc : c < n) (h0 : ¬ 0 < X i c) (hm : m ≤ 65) (hn : n ≤ 64) :
  Calls Tryz.prog 42 #[.pointer (some ⟨bs,0,none⟩),.int .i64 (i : Int),.int .i64 (c : Int)] w (zEE (· = gs i) B w bs Bl Bh Ba lv sv m n r ρ γ gs (negX X i) kw) := by
 obtain ⟨Lb,cap,rfl⟩ := h.form (by omega);have HA := hid (at18 h hi hc hm hn);have hs : ¬ 0 < cmpI (X i c) 0 := by unfold cmpI;split <;> (try split) <;> omega
 obtain ⟨sg,hsg⟩ : ∃ sg,cmpI (X i c) 0 = sg := ⟨_,rfl⟩
 rw [hsg] at hs;have HS := hid hsg;have WK0 := hid h;have HI := hid hi;clear h hi hc h0 hsg;go_enter Tryz.func42,Tryz.ntmps42;go_wp2_with fail;refine HA.out.mono ?_;rintro e w1 ⟨nb,a,l,cc,rfl,z,b⟩;have HZ := hid (zqA z.zi);have B1 := hid b;clear HA z b;go_wp2_with fail;refine HZ.out.mono ?_;rintro e w2 ⟨rfl,b⟩;rw [HS.out];have B2 := hid (below_step B1.out b);have WK := hid (WK0.out.now B2.out);have s1 := WK.out.1.at (i := 1) rfl;have FIN : Hid (∀ wx,Wk18 B wx bs Bl Bh Ba (.slice (some ⟨Lb,0,none⟩) m cap) sv m n r ρ γ gs (negX X i) kw ∧ Touch (· = gs i) w2 wx → zEE (· = gs i) B w bs Bl Bh Ba (.slice (some ⟨Lb,0,none⟩) m cap) sv m n r ρ γ gs (negX X i) kw (.returned (.tuple #[])) wx) := fun wx h => ⟨rfl,h.1,(Touch.ofBelow B2.out).trans h.2⟩
 clear HZ B1 b WK0 HS;go_wp2_with fail
 go_loopg [19] 1 (fun gk s15 wx => (gk = 1 ∧ s15 = .int .i64 0 ∧ wx = w2) ∨ (gk = 0 ∧ s15 = .int .i64 1 ∧ Wk18 B wx bs Bl Bh Ba (.slice (some ⟨Lb,0,none⟩) m cap) sv m n r ρ γ gs (negX X i) kw ∧ Touch (· = gs i) w2 wx))
 case atStart => exact .inl ⟨rfl,rfl,rfl⟩
 case round =>
  rcases hrel with ⟨hg,rfl,hwx⟩ | ⟨hg,rfl,hp⟩
  ·replace hwx := hwx.symm
   subst hwx;have HG := hid hg;obtain ⟨V1,hV⟩ : ∃ V1,w2.alloc (.cells #[hf1 Ba,hf2 Ba,hf3 Ba,hf4 Ba] 58) = V1 := ⟨_,rfl⟩
   obtain ⟨b,sz1⟩ := alo1 w2 (.cells #[hf1 Ba,hf2 Ba,hf3 Ba,hf4 Ba] 58);rw [hV] at b sz1;have dH : Cel V1 w2.heap.size 58 [hf1 Ba,hf2 Ba,hf3 Ba,hf4 Ba] := by rw [← hV];exact Cel.new w2 _ _
   have a0 := WK.out.2.2.1.at (i := 0) rfl;have a1 := WK.out.2.2.1.at (i := 1) rfl;have a2 := WK.out.2.2.1.at (i := 2) rfl;have a3 := WK.out.2.2.1.at (i := 3) rfl;have c0 := dH.at (i := 0) rfl;have c1 := dH.at (i := 1) rfl;have c2 := dH.at (i := 2) rfl;have c3 := dH.at (i := 3) rfl;have WK1 := hid (WK.out.now b);have HC := hid (along2_18 WK1.out.2.2.2.1 WK1.out.2.2.2.2.2 HI.out hm hn);have BV := hid b;have EV := hid hV;rw [← hV] at c0 c1 c2 c3;clear hg b sz1 hV dH s1;go_wp2_with fail;rw [EV.out];refine HC.out.mono ?_;rintro e wy ⟨rfl,hr,ht⟩;have PP : Hid (Wk18 B wy bs Bl Bh Ba (.slice (some ⟨Lb,0,none⟩) m cap) sv m n r ρ γ gs (negX X i) kw ∧ Touch (· = gs i) w2 wy) := ⟨WK1.out.row HI.out hr ht (fun c _ => (zxC X i c).symm) (fun t q => zjB q),(Touch.ofBelow BV.out).trans ht⟩
   clear HC EV BV WK1 a0 a1 a2 a3 c0 c1 c2 c3 hr ht WK;go_wp2_with fail;go_roundg 0
   case rel => exact .inr ⟨rfl,rfl,PP.out⟩
   case measure => rw [HG.out];omega
  ·have FF := hid (FIN.out wr hp)
   clear hg hp FIN s1;go_wp2;go_end0;exact FF.out
end Go.Proofs.YtmnecbniappnaaaGreat
