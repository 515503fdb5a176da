import Derived.Test.YtbcgggadelnaaaaGreatQAl18
import Derived.Deep.CutRange
set_option maxRecDepth 100000
set_option maxHeartbeats 6400000
set_option linter.unusedVariables false
set_option linter.unusedSimpArgs false
namespace Go.Proofs.YtbcgggadelnaaaaGreat
open Go.RowKit
abbrev hf1 (Ba : Nat) : Value := .func (.func 59) #[] #[.pointer (some ⟨Ba,0,none⟩)]
abbrev hf2 (Ba : Nat) : Value := .func (.func 60) #[] #[.pointer (some ⟨Ba,0,none⟩)]
abbrev hf3 (Ba : Nat) : Value := .func (.func 62) #[] #[.pointer (some ⟨Ba,0,none⟩)]
abbrev hf4 (Ba : Nat) : Value := .func (.func 63) #[] #[.pointer (some ⟨Ba,0,none⟩)]
theorem zBG (P : Program) (w : World) (p : Addr) (f : Fn) (a b : Array Value) (m : Mode) : (store p (.func f a b) m).run P w = match w.cell? p with
      | some _ => if w.frozen? p then .halt (.unsupported (.unsafePointer "a write to bytes that a string shares")) w else .ok () (w.setCell p (.func f a b))
      | none => match w.farStore P p (.func f a b) (m == .atomic) with
        | .ok (w',_) => .ok () w'
        | .error h => .halt h w := run_store P w p (.func f a b) m rfl
def sc18 (r : Nat) (ρ γ : Nat → Nat) : List Value := ((List.range r).map fun a => [Value.int .i64 (ρ a : Int),Value.int .i64 (γ a : Int)]).flatten
theorem zZA (r : Nat) (ρ γ : Nat → Nat) : (sc18 r ρ γ).length = r * 2 := by
 unfold sc18
 induction r with
 | zero => rfl
 | succ r ih => rw [List.range_succ,List.map_append,List.flatten_append,List.length_append,ih];simp;omega
theorem sc18_succ (r : Nat) (ρ γ : Nat → Nat) : sc18 (r + 1) ρ γ = sc18 r ρ γ ++ [.int .i64 (ρ r : Int),.int .i64 (γ r : Int)] := by
 unfold sc18;rw [List.range_succ,List.map_append,List.flatten_append];rfl
theorem zoB {r a : Nat} {ρ γ : Nat → Nat} (h : a < r) (t : List Value) : (sc18 r ρ γ ++ t)[a * 2]? = some (.int .i64 (ρ a : Int)) ∧ (sc18 r ρ γ ++ t)[a * 2 + 1]? = some (.int .i64 (γ a : Int)) := by
 induction r generalizing t with
 | zero => omega
 | succ r ih =>
  rw [sc18_succ,List.append_assoc]
  by_cases q : a < r
  ·exact ih q _
  ·obtain rfl : a = r := by omega
   constructor
   ·rw [List.getElem?_append_right (by rw [zZA];omega),zZA];simp
   ·rw [List.getElem?_append_right (by rw [zZA];omega),zZA,show a * 2 + 1 - a * 2 = 1 by omega];simp
theorem ziC {r : Nat} {ρ γ ρ' γ' : Nat → Nat} (h : ∀ a,a < r → ρ a = ρ' a ∧ γ a = γ' a) : sc18 r ρ γ = sc18 r ρ' γ' := by
 unfold sc18;rw [List.map_congr_left fun a ha => by rw [(h a (by simpa using ha)).1,(h a (by simpa using ha)).2]]
def Sp18 (B : Nat) (w : World) (sv : Value) (r : Nat) (ρ γ : Nat → Nat) : Prop :=
 (r = 0 ∧ sv = .slice none 0 0) ∨ (0 < r ∧ ∃ Bp cap t,sv = .slice (some ⟨Bp,0,none⟩) r cap ∧ r ≤ cap ∧ B ≤ Bp ∧ cap ≤ 9223372036854775807 ∧ t.length + r * 2 = cap * 2 ∧ Cel w Bp 148 (sc18 r ρ γ ++ t))
theorem Sp18.cel {B r : Nat} {w w' : World} {sv : Value} {ρ γ : Nat → Nat} (h : Sp18 B w sv r ρ γ) (k : ∀ b L,Cel w b 148 L → Cel w' b 148 L) : Sp18 B w' sv r ρ γ := by
 rcases h with h | ⟨h0,Bp,cap,t,e,e0,e1,e2,e3,e4⟩
 ·exact .inl h
 ·exact .inr ⟨h0,Bp,cap,t,e,e0,e1,e2,e3,k _ _ e4⟩
def Wk18 (B : Nat) (w : World) (bs Bl Bh Ba : Nat) (lv sv : Value) (m n r : Nat) (ρ γ gs : Nat → Nat) (X : Nat → Nat → Int) (kw : Nat) : Prop :=
 Cel w bs 75 [.slice (some ⟨Bl,0,none⟩) 1 1,.slice (some ⟨Bh,0,none⟩) 1 1,sv] ∧ Cel w Bl 61 [lv] ∧ Cel w Bh 70 [hf1 Ba,hf2 Ba,hf3 Ba,hf4 Ba] ∧ Cel w Ba 61 [lv] ∧ Sp18 B w sv r ρ γ ∧ Sh17 B w lv m n gs X kw
section
variable {B bs Bl Bh Ba m n r kw : Nat} {w w' : World} {lv sv : Value} {ρ γ gs : Nat → Nat} {X : Nat → Nat → Int}
theorem Wk18.now (h : Wk18 B w bs Bl Bh Ba lv sv m n r ρ γ gs X kw) (b : Below w.heap.size w w') : Wk18 B w' bs Bl Bh Ba lv sv m n r ρ γ gs X kw :=
 ⟨h.1.step b,h.2.1.step b,h.2.2.1.step b,h.2.2.2.1.step b,h.2.2.2.2.1.cel fun _ _ d => d.step b,h.2.2.2.2.2.now b⟩
theorem Wk18.congr {Y : Nat → Nat → Int} (h : Wk18 B w bs Bl Bh Ba lv sv m n r ρ γ gs X kw) (e : ∀ i j,i < m → j < n → X i j = Y i j) : Wk18 B w bs Bl Bh Ba lv sv m n r ρ γ gs Y kw :=
 ⟨h.1,h.2.1,h.2.2.1,h.2.2.2.1,h.2.2.2.2.1,h.2.2.2.2.2.congr e⟩
theorem Wk18.form (h : Wk18 B w bs Bl Bh Ba lv sv m n r ρ γ gs X kw) (hm : 0 < m) : ∃ Lb cap,lv = .slice (some ⟨Lb,0,none⟩) m cap := by
 rcases h.2.2.2.2.2.1 with ⟨e,_⟩ | ⟨_,Lb,cap,_,e,_⟩
 ·omega
 ·exact ⟨Lb,cap,e⟩
theorem Wk18.sform (h : Wk18 B w bs Bl Bh Ba lv sv m n r ρ γ gs X kw) : ∃ sa sc,sv = .slice sa r sc := by
 rcases h.2.2.2.2.1 with ⟨e,h⟩ | ⟨_,Bp,cap,t,e,_⟩
 ·exact ⟨none,0,by rw [e];exact h⟩
 ·exact ⟨_,cap,e⟩
theorem Wk18.ty (h : Wk18 B w bs Bl Bh Ba lv sv m n r ρ γ gs X kw) (ty : Ty 51 w w') {Y : Nat → Nat → Int} (hr : ∀ i,i < m → Rw17 w' (gs i) n (Y i) kw) : Wk18 B w' bs Bl Bh Ba lv sv m n r ρ γ gs Y kw := by
 refine ⟨h.1.ty13 ty (by decide),h.2.1.ty13 ty (by decide),h.2.2.1.ty13 ty (by decide),h.2.2.2.1.ty13 ty (by decide),h.2.2.2.2.1.cel fun _ _ d => d.ty13 ty (by decide),?_⟩;obtain ⟨h1,h4,h5⟩ := h.2.2.2.2.2;refine ⟨?_,h4,fun i hi => ⟨(h5 i hi).1,hr i hi⟩⟩;rcases h1 with h1 | ⟨h0,Lb,cap,t,e,e0,e1,e2⟩
 ·exact .inl h1
 ·exact .inr ⟨h0,Lb,cap,t,e,e0,e1,e2.ty13 ty (by decide)⟩
theorem Wk18.row {i : Nat} {F : Nat → Int} {Y : Nat → Nat → Int} (h : Wk18 B w bs Bl Bh Ba lv sv m n r ρ γ gs X kw) (hi : i < m) (hr : Rw17 w' (gs i) n F kw) (ht : Touch (· = gs i) w w') (e1 : ∀ c,c < n → F c = Y i c) (e2 : ∀ t,t ≠ i → Y t = X t) : Wk18 B w' bs Bl Bh Ba lv sv m n r ρ γ gs Y kw := by
 have ty := zDB (h.2.2.2.2.2.2.2 i hi).2 ht;refine h.ty ty fun t htm => ?_
 by_cases q : t = i
 ·subst q;exact hr.congr e1
 ·rw [e2 t q];exact (h.2.2.2.2.2.2.2 t htm).2.oth18 ht ty fun e => q (h.2.2.2.2.2.2.1 t i htm hi e)
theorem Wk18.two {i j : Nat} {F G : Nat → Int} {Y : Nat → Nat → Int} (h : Wk18 B w bs Bl Bh Ba lv sv m n r ρ γ gs X kw) (hi : i < m) (hj : j < m) (hij : i ≠ j) (hr : Rw17 w' (gs i) n F kw) (hs : Rw17 w' (gs j) n G kw) (ht : Touch (zSC (gs i) (gs j)) w w') (e1 : ∀ c,c < n → F c = Y i c) (e2 : ∀ c,c < n → G c = Y j c) (e3 : ∀ t,t ≠ i → t ≠ j → Y t = X t) : Wk18 B w' bs Bl Bh Ba lv sv m n r ρ γ gs Y kw := by
 have ty := ht.tyS18 (T := 51) (fun b q => by
  rcases q with rfl | rfl
  ·exact (h.2.2.2.2.2.2.2 i hi).2.cel18
  ·exact (h.2.2.2.2.2.2.2 j hj).2.cel18)
 refine h.ty ty fun t htm => ?_
 by_cases q : t = i
 ·subst q;exact hr.congr e1
 ·by_cases q2 : t = j
  ·subst q2;exact hs.congr e2
  ·rw [e3 t q q2]
   exact (h.2.2.2.2.2.2.2 t htm).2.oth18 ht ty fun e => by
    rcases e with e | e
    ·exact q (h.2.2.2.2.2.2.1 t i htm hi e)
    ·exact q2 (h.2.2.2.2.2.2.1 t j htm hj e)
end
abbrev tl18 (gs : Nat → Nat) (m : Nat) : Nat → Prop := fun b => ∃ i,i < m ∧ b = gs i
def znF (w : World) (z : Int) (k : Nat) (e : Ending) (w' : World) : Prop := ∃ nb a l cc,e = .returned (.agg #[.bool nb,.slice a l cc]) ∧ Zm 0 w' (.agg #[.bool nb,.slice a l cc]) z k ∧ Below w.heap.size w w'
theorem at18 {B bs Bl Bh Ba m n r kw i c : Nat} {w : World} {lv sv : Value} {ρ γ gs : Nat → Nat} {X : Nat → Nat → Int} (h : Wk18 B w bs Bl Bh Ba lv sv m n r ρ γ gs X kw) (hi : i < m) (hc : c < n) (hm : m ≤ 64) (hn : n ≤ 64) :
  Calls Tryz.prog 119 #[.pointer (some ⟨bs,0,none⟩),.int .i64 (i : Int),.int .i64 (c : Int)] w (znF w (X i c) kw) := by
 obtain ⟨Lb,cap,rfl⟩ := h.form (by omega);obtain ⟨V0,hV0⟩ : ∃ V0,w.alloc zbox = V0 := ⟨_,rfl⟩
 obtain ⟨b0,sz0⟩ := alo1 w zbox;rw [hV0] at b0 sz0;have dR : Duo V0 w.heap.size (.bool false) (.slice none 0 0) := by rw [← hV0];exact Duo.new w _ _
 have h0 := h.now b0;have s0 := h0.1.at (i := 0) rfl;have l0 := h0.2.1.at (i := 0) rfl;have li := h0.2.2.2.2.2.lineS hi;obtain ⟨nb,a,l,cc,q0,q1,-,-,z⟩ := (h0.2.2.2.2.2.2.2 i hi).2.at hc;have r0 := dR.c0;have r1 := dR.c1;have f0 := dR.fz 0;have f1 := dR.fz 1;have FF : Hid (znF w (X i c) kw (.returned (.agg #[.bool nb,.slice a l cc])) ((V0.setCell ⟨w.heap.size,0,none⟩ (.bool nb)).setCell ⟨w.heap.size,1,none⟩ (.slice a l cc)) ∧ Duo ((V0.setCell ⟨w.heap.size,0,none⟩ (.bool nb)).setCell ⟨w.heap.size,1,none⟩ (.slice a l cc)) w.heap.size (.bool nb) (.slice a l cc)) :=
  ⟨⟨nb,a,l,cc,rfl,z.ty (dR.ty18 _ _) (by decide),bset (bset b0 (Nat.le_refl _)) (Nat.le_refl _)⟩,dR.set _ _⟩
 have EV := hid hV0;have him : (i : Int) < (m : Int) := by omega
 have hcn : (c : Int) < (n : Int) := by omega
 have hr1 : (V0.setCell ⟨w.heap.size,0,none⟩ (.bool nb)).cell? ⟨w.heap.size,1,none⟩ = some (.slice none 0 0) := (dR.set0 _).c1;obtain ⟨bx,hbx⟩ : ∃ bx,w.heap.size = bx := ⟨_,rfl⟩
 rw [hbx] at r0 r1 f0 f1 FF hr1;have EBX := hid hbx;clear h h0 hi hc b0 sz0 hV0 dR z hbx;go_enter Tryz.func119,Tryz.ntmps119;go_upto_region 1 with fail
 rw [EV.out,EBX.out];go_wp2_with fail
 go_loopw [2,14] (fun c' i wr => c' = .int .i64 (c : Int) ∧ i = .int .i64 0 ∧ wr = V0) (fun _ _ _ => 0)
 case atStart => exact ⟨rfl,rfl,rfl⟩
 case round =>
  obtain ⟨rfl,rfl,rfl⟩ := hrel;go_wp2_with fail;refine bodyPost_ret (zSB Tryz.results119 FF.out.2 _ (by rfl)) rfl ?_;exact FF.out.1
theorem width18 {B bs Bl Bh Ba m n r kw i : Nat} {w : World} {lv sv : Value} {ρ γ gs : Nat → Nat} {X : Nat → Nat → Int} (h : Wk18 B w bs Bl Bh Ba lv sv m n r ρ γ gs X kw) (hi : i < m) (hm : m ≤ 64) (hn : n ≤ 64) :
  Calls Tryz.prog 118 #[.pointer (some ⟨bs,0,none⟩),.int .i64 (i : Int)] w fun e w' => e = .returned (.int .i64 (n : Int)) ∧ w' = w := by
 obtain ⟨Lb,cap,rfl⟩ := h.form (by omega);have s0 := h.1.at (i := 0) rfl;have l0 := h.2.1.at (i := 0) rfl;have li := h.2.2.2.2.2.lineS hi;have him : (i : Int) < (m : Int) := by omega
 have hw1 : IntKind.i64.wrap ((n : Int)) = (n : Int) := zfA (by omega) (by omega);have hw0 : IntKind.i64.wrap (0 + (n : Int)) = (n : Int) := by rw [Int.zero_add];exact hw1
 clear h hi;go_enter Tryz.func118,Tryz.ntmps118;go_wp2_with fail
 go_loopg [5,13] 1 (fun gk s5 s13 wx => (gk = 1 ∧ s5 = .int .i64 0 ∧ s13 = .int .i64 0 ∨ gk = 0 ∧ s5 = .int .i64 (n : Int) ∧ s13 = .int .i64 1) ∧ wx = w)
 case atStart => exact ⟨.inl ⟨rfl,rfl,rfl⟩,rfl⟩
 case round =>
  obtain ⟨⟨hg,rfl,rfl⟩ | ⟨hg,rfl,rfl⟩,rfl⟩ := hrel
  ·have HG := hid hg
   clear hg;go_wp2_with fail;go_roundg 0
   case rel => exact ⟨.inr ⟨rfl,rfl,rfl⟩,rfl⟩
   case measure => rw [HG.out];omega
  ·clear hg
   go_wp2;go_ret;exact ⟨rfl,rfl⟩
end Go.Proofs.YtbcgggadelnaaaaGreat
