import Derived.Test.YtbcgggadelnaaaaGreatQSt18
set_option maxRecDepth 100000
set_option maxHeartbeats 6400000
set_option linter.unusedVariables false
set_option linter.unusedSimpArgs false
namespace Go.Proofs.YtbcgggadelnaaaaGreat
open Go.RowKit
attribute [local go_sem] zBG
def zpD (S : Nat → Prop) (B : Nat) (w : World) (bs Bl Bh Ba : Nat) (lv sv : Value) (m n r : Nat) (ρ γ gs : Nat → Nat) (X : Nat → Nat → Int) (kw : Nat) (e : Ending) (w' : World) : Prop := e = .returned (.tuple #[]) ∧ Wk18 B w' bs Bl Bh Ba lv sv m n r ρ γ gs X kw ∧ Touch S w w'
theorem exch_same18 {w : World} {bs i : Nat} (hi : i ≤ 64) : Calls Tryz.prog 104 #[.pointer (some ⟨bs,0,none⟩),.int .i64 (i : Int),.int .i64 (i : Int)] w fun e w' => e = .returned (.tuple #[]) ∧ w' = w := by
 go_enter Tryz.func104,Tryz.ntmps104;go_wp2;refine bodyPost_ret (results_none rfl _ _ _) rfl ?_;exact ⟨rfl,rfl⟩
theorem zBH {B bs Bl Bh Ba m n r kw l i j lt ct : Nat} {w : World} {lv sv : Value} {ρ γ gs : Nat → Nat} {X : Nat → Nat → Int} (h : Wk18 B w bs Bl Bh Ba lv sv m n r ρ γ gs X kw) {nt : Bool} {at0 : Option Addr} {s : Int} (hi : i < m) (hj : j < m) (hij : i ≠ j) (ht : Zm 0 w (.agg #[.bool nt,.slice at0 lt ct]) s l)
  (hF : ∀ c,c < n → ((X i c - s * X j c).natAbs : Int) < pw kw) (hm : m ≤ 64) (hn : n ≤ 64) (hK : l + kw < 35184372088000) :
  Calls Tryz.prog 139 #[.pointer (some ⟨bs,0,none⟩),.int .i64 (i : Int),.int .i64 (j : Int),.agg #[.bool nt,.slice at0 lt ct]] w (zpD (· = gs i) B w bs Bl Bh Ba lv sv m n r ρ γ gs (lesX X i j s) kw) := by
 obtain ⟨Lb,cap,rfl⟩ := h.form (by omega);obtain ⟨V0,hV0⟩ : ∃ V0,w.alloc (duo (.bool nt) (.slice at0 lt ct)) = V0 := ⟨_,rfl⟩
 obtain ⟨b0,sz0⟩ := alo1 w (duo (.bool nt) (.slice at0 lt ct));rw [hV0] at b0 sz0;have dT : Duo V0 w.heap.size (.bool nt) (.slice at0 lt ct) := by rw [← hV0];exact Duo.new w _ _
 have t0 := dT.c0;have t1 := dT.c1;have WK := hid (h.now b0);have s1 := WK.out.1.at (i := 1) rfl;have B0 := hid b0;have EV0 := hid hV0;have ZT := hid (ht.now b0);have HF := hid hF;have HK := hid hK;have HI := hid (show i < m ∧ j < m ∧ i ≠ j from ⟨hi,hj,hij⟩);have FIN : Hid (∀ wx,Wk18 B wx bs Bl Bh Ba (.slice (some ⟨Lb,0,none⟩) m cap) sv m n r ρ γ gs (lesX X i j s) kw ∧ Touch (· = gs i) V0 wx → zpD (· = gs i) B w bs Bl Bh Ba (.slice (some ⟨Lb,0,none⟩) m cap) sv m n r ρ γ gs (lesX X i j s) kw (.returned (.tuple #[])) wx) := fun wx h => ⟨rfl,h.1,(Touch.ofBelow B0.out).trans h.2⟩
 obtain ⟨bx,hbx⟩ : ∃ bx,w.heap.size = bx := ⟨_,rfl⟩
 rw [hbx] at t0 t1;have EBX := hid hbx;clear h hi hj hij ht hF hK dT b0 sz0 hV0 hbx;go_enter Tryz.func139,Tryz.ntmps139;go_upto_region 1 with fail
 rw [EV0.out,EBX.out];go_wp2_with fail
 go_loopg [15] 1 (fun gk s15 wx => (gk = 1 ∧ s15 = .int .i64 0 ∧ wx = V0) ∨ (gk = 0 ∧ s15 = .int .i64 1 ∧ Wk18 B wx bs Bl Bh Ba (.slice (some ⟨Lb,0,none⟩) m cap) sv m n r ρ γ gs (lesX X i j s) kw ∧ Touch (· = gs i) V0 wx))
 case atStart => exact .inl ⟨rfl,rfl,rfl⟩
 case round =>
  rcases hrel with ⟨hg,rfl,hwx⟩ | ⟨hg,rfl,hp⟩
  ·replace hwx := hwx.symm
   subst hwx;have HG := hid hg;obtain ⟨V1,hV⟩ : ∃ V1,V0.alloc (.cells #[hf1 Ba,hf2 Ba,hf3 Ba,hf4 Ba] 70) = V1 := ⟨_,rfl⟩
   obtain ⟨b,sz1⟩ := alo1 V0 (.cells #[hf1 Ba,hf2 Ba,hf3 Ba,hf4 Ba] 70);rw [hV] at b sz1;have dH : Cel V1 V0.heap.size 70 [hf1 Ba,hf2 Ba,hf3 Ba,hf4 Ba] := by rw [← hV];exact Cel.new V0 _ _
   have a0 := WK.out.2.2.1.at (i := 0) rfl;have a1 := WK.out.2.2.1.at (i := 1) rfl;have a2 := WK.out.2.2.1.at (i := 2) rfl;have a3 := WK.out.2.2.1.at (i := 3) rfl;have c0 := dH.at (i := 0) rfl;have c1 := dH.at (i := 1) rfl;have c2 := dH.at (i := 2) rfl;have c3 := dH.at (i := 3) rfl;replace t0 := cnow b t0;replace t1 := cnow b t1;rw [← hV] at t0 t1;have WK1 := hid (WK.out.now b);have HC := hid (along3_18 WK1.out.2.2.2.1 WK1.out.2.2.2.2.2 HI.out.1 HI.out.2.1 HI.out.2.2 (ZT.out.now b) HF.out hm hn HK.out);have BV := hid b;have EV := hid hV;rw [← hV] at c0 c1 c2 c3;clear hg b sz1 hV dH s1;go_wp2_with fail;rw [EV.out];refine HC.out.mono ?_;rintro e wy ⟨rfl,hr,ht⟩;have PP : Hid (Wk18 B wy bs Bl Bh Ba (.slice (some ⟨Lb,0,none⟩) m cap) sv m n r ρ γ gs (lesX X i j s) kw ∧ Touch (· = gs i) V0 wy) := ⟨WK1.out.row HI.out.1 hr ht (fun c _ => (zIB X i j s c).symm) (fun t q => zgA q),(Touch.ofBelow BV.out).trans ht⟩
   clear HC EV BV WK1 a0 a1 a2 a3 c0 c1 c2 c3 hr ht t0 t1 WK;go_wp2_with fail;go_roundg 0
   case rel => exact .inr ⟨rfl,rfl,PP.out⟩
   case measure => rw [HG.out];omega
  ·have FF := hid (FIN.out wr hp)
   clear hg hp FIN s1;go_wp2;go_end0;exact FF.out
theorem mix18 {B bs Bl Bh Ba m n r kw l i j lx cx ly cy lu cu lv0 cv : Nat} {w : World} {lv sv : Value} {ρ γ gs : Nat → Nat} {X : Nat → Nat → Int} (h : Wk18 B w bs Bl Bh Ba lv sv m n r ρ γ gs X kw) {nx ny nu nv : Bool} {ax ay au av : Option Addr} {x y u v : Int} (hi : i < m) (hj : j < m) (hij : i ≠ j)
  (hx : Zm 0 w (.agg #[.bool nx,.slice ax lx cx]) x l) (hy : Zm 0 w (.agg #[.bool ny,.slice ay ly cy]) y l) (hu : Zm 0 w (.agg #[.bool nu,.slice au lu cu]) u l) (hv : Zm 0 w (.agg #[.bool nv,.slice av lv0 cv]) v l)
  (hF : ∀ c,c < n → ((x * X i c + y * X j c).natAbs : Int) < pw kw) (hG : ∀ c,c < n → ((u * X i c + v * X j c).natAbs : Int) < pw kw) (hm : m ≤ 64) (hn : n ≤ 64) (hK : l + kw < 1099511600000) :
  Calls Tryz.prog 141 #[.pointer (some ⟨bs,0,none⟩),.int .i64 (i : Int),.int .i64 (j : Int),.agg #[.bool nx,.slice ax lx cx,.bool ny,.slice ay ly cy,.bool nu,.slice au lu cu,.bool nv,.slice av lv0 cv]] w (zpD (zSC (gs i) (gs j)) B w bs Bl Bh Ba lv sv m n r ρ γ gs (mixX X i j x y u v) kw) := by
 obtain ⟨Lb,cap,rfl⟩ := h.form (by omega);obtain ⟨V0,hV0⟩ : ∃ V0,w.alloc (.cells #[.bool nx,.slice ax lx cx,.bool ny,.slice ay ly cy,.bool nu,.slice au lu cu,.bool nv,.slice av lv0 cv] 113) = V0 := ⟨_,rfl⟩
 obtain ⟨b0,sz0⟩ := alo1 w (.cells #[.bool nx,.slice ax lx cx,.bool ny,.slice ay ly cy,.bool nu,.slice au lu cu,.bool nv,.slice av lv0 cv] 113);rw [hV0] at b0 sz0;have dB : Cel V0 w.heap.size 113 [.bool nx,.slice ax lx cx,.bool ny,.slice ay ly cy,.bool nu,.slice au lu cu,.bool nv,.slice av lv0 cv] := by rw [← hV0];exact Cel.new w _ _
 have y0 := dB.at (i := 0) rfl;have y1 := dB.at (i := 1) rfl;have y2 := dB.at (i := 2) rfl;have y3 := dB.at (i := 3) rfl;have y4 := dB.at (i := 4) rfl;have y5 := dB.at (i := 5) rfl;have y6 := dB.at (i := 6) rfl;have y7 := dB.at (i := 7) rfl;have WK := hid (h.now b0);have s1 := WK.out.1.at (i := 1) rfl;have B0 := hid b0;have EV0 := hid hV0;have ZX := hid (hx.now b0);have ZY := hid (hy.now b0);have ZU := hid (hu.now b0);have ZV := hid (hv.now b0);have HF := hid hF;have HGG := hid hG;have HK := hid hK;have HI := hid (show i < m ∧ j < m ∧ i ≠ j from ⟨hi,hj,hij⟩);have FIN : Hid (∀ wx,Wk18 B wx bs Bl Bh Ba (.slice (some ⟨Lb,0,none⟩) m cap) sv m n r ρ γ gs (mixX X i j x y u v) kw ∧ Touch (zSC (gs i) (gs j)) V0 wx → zpD (zSC (gs i) (gs j)) B w bs Bl Bh Ba (.slice (some ⟨Lb,0,none⟩) m cap) sv m n r ρ γ gs (mixX X i j x y u v) kw (.returned (.tuple #[])) wx) := fun wx h => ⟨rfl,h.1,(Touch.ofBelow B0.out).trans h.2⟩
 obtain ⟨bx,hbx⟩ : ∃ bx,w.heap.size = bx := ⟨_,rfl⟩
 rw [hbx] at y0 y1 y2 y3 y4 y5 y6 y7;have EBX := hid hbx;clear h hi hj hij hx hy hu hv hF hG hK dB b0 sz0 hV0 hbx;go_enter Tryz.func141,Tryz.ntmps141;go_upto_region 1 with fail
 rw [EV0.out,EBX.out];go_wp2_with fail
 go_loopg [15] 1 (fun gk s15 wx => (gk = 1 ∧ s15 = .int .i64 0 ∧ wx = V0) ∨ (gk = 0 ∧ s15 = .int .i64 1 ∧ Wk18 B wx bs Bl Bh Ba (.slice (some ⟨Lb,0,none⟩) m cap) sv m n r ρ γ gs (mixX X i j x y u v) kw ∧ Touch (zSC (gs i) (gs j)) V0 wx))
 case atStart => exact .inl ⟨rfl,rfl,rfl⟩
 case round =>
  rcases hrel with ⟨hg,rfl,hwx⟩ | ⟨hg,rfl,hp⟩
  ·replace hwx := hwx.symm
   subst hwx;have HG := hid hg;obtain ⟨V1,hV⟩ : ∃ V1,V0.alloc (.cells #[hf1 Ba,hf2 Ba,hf3 Ba,hf4 Ba] 70) = V1 := ⟨_,rfl⟩
   obtain ⟨b,sz1⟩ := alo1 V0 (.cells #[hf1 Ba,hf2 Ba,hf3 Ba,hf4 Ba] 70);rw [hV] at b sz1;have dH : Cel V1 V0.heap.size 70 [hf1 Ba,hf2 Ba,hf3 Ba,hf4 Ba] := by rw [← hV];exact Cel.new V0 _ _
   have a0 := WK.out.2.2.1.at (i := 0) rfl;have a1 := WK.out.2.2.1.at (i := 1) rfl;have a2 := WK.out.2.2.1.at (i := 2) rfl;have a3 := WK.out.2.2.1.at (i := 3) rfl;have c0 := dH.at (i := 0) rfl;have c1 := dH.at (i := 1) rfl;have c2 := dH.at (i := 2) rfl;have c3 := dH.at (i := 3) rfl;replace y0 := cnow b y0;replace y1 := cnow b y1;replace y2 := cnow b y2;replace y3 := cnow b y3;replace y4 := cnow b y4;replace y5 := cnow b y5;replace y6 := cnow b y6;replace y7 := cnow b y7;rw [← hV] at y0 y1 y2 y3 y4 y5 y6 y7;have WK1 := hid (WK.out.now b);have HC := hid (along4_18 WK1.out.2.2.2.1 WK1.out.2.2.2.2.2 HI.out.1 HI.out.2.1 HI.out.2.2 (ZX.out.now b) (ZY.out.now b) (ZU.out.now b) (ZV.out.now b) HF.out HGG.out hm hn HK.out);have BV := hid b;have EV := hid hV;rw [← hV] at c0 c1 c2 c3;clear hg b sz1 hV dH s1;go_wp2_with fail;rw [EV.out];refine HC.out.mono ?_;rintro e wy ⟨rfl,hr,hr2,ht⟩;have PP : Hid (Wk18 B wy bs Bl Bh Ba (.slice (some ⟨Lb,0,none⟩) m cap) sv m n r ρ γ gs (mixX X i j x y u v) kw ∧ Touch (zSC (gs i) (gs j)) V0 wy) := ⟨WK1.out.two HI.out.1 HI.out.2.1 HI.out.2.2 hr hr2 ht (fun c _ => (ztC X i j x y u v c).symm) (fun c _ => (zVD HI.out.2.2 x y u v c).symm) (fun t q q2 => zxB q q2),(Touch.ofBelow BV.out).trans ht⟩
   clear HC EV BV WK1 a0 a1 a2 a3 c0 c1 c2 c3 hr hr2 ht y0 y1 y2 y3 y4 y5 y6 y7 WK;go_wp2_with fail;go_roundg 0
   case rel => exact .inr ⟨rfl,rfl,PP.out⟩
   case measure => rw [HG.out];omega
  ·have FF := hid (FIN.out wr hp)
   clear hg hp FIN s1;go_wp2;go_end0;exact FF.out
theorem Wk18.exch {B bs Bl Bh Ba m n r kw i Lb cap : Nat} {w w' : World} {sv : Value} {ρ γ gs : Nat → Nat} {X Y : Nat → Nat → Int} {gs' : Nat → Nat} (h : Wk18 B w bs Bl Bh Ba (.slice (some ⟨Lb,0,none⟩) m cap) sv m n r ρ γ gs X kw) (hi : i < m) (hs : Sh17 B w' (.slice (some ⟨Lb,0,none⟩) m cap) m n gs' Y kw) (ht : Touch (· = Lb) w w') : Wk18 B w' bs Bl Bh Ba (.slice (some ⟨Lb,0,none⟩) m cap) sv m n r ρ γ gs' Y kw := by
 have ty : Ty 22 w w' := ht.tyS18 (fun b q => by
  subst q;obtain ⟨h1,-,-⟩ := h.2.2.2.2.2;rcases h1 with ⟨_,h1⟩ | ⟨h0,Lb',cap',r,e,e0,e1,e2⟩
  ·cases h1
  simp only [Value.slice.injEq,Option.some.injEq,Addr.mk.injEq,and_true,true_and] at e;obtain ⟨rfl,rfl⟩ := e;exact ⟨_,e2⟩)
 exact ⟨h.1.ty13 ty (by decide),h.2.1.ty13 ty (by decide),h.2.2.1.ty13 ty (by decide),h.2.2.2.1.ty13 ty (by decide),h.2.2.2.2.1.cel fun _ _ d => d.ty13 ty (by decide),hs⟩
theorem exchange18 {B bs Bl Bh Ba m n r kw i j Lb cap : Nat} {w : World} {sv : Value} {ρ γ gs : Nat → Nat} {X : Nat → Nat → Int} (h : Wk18 B w bs Bl Bh Ba (.slice (some ⟨Lb,0,none⟩) m cap) sv m n r ρ γ gs X kw) (hi : i < m) (hj : j < m) (hij : i ≠ j) (hm : m ≤ 64) :
  Calls Tryz.prog 104 #[.pointer (some ⟨bs,0,none⟩),.int .i64 (i : Int),.int .i64 (j : Int)] w (zpD (· = Lb) B w bs Bl Bh Ba (.slice (some ⟨Lb,0,none⟩) m cap) sv m n r ρ γ (swF gs i j) (swpX X i j) kw) := by
 have WK := hid h;have s1 := WK.out.1.at (i := 1) rfl;have HI := hid (show i < m ∧ j < m ∧ i ≠ j from ⟨hi,hj,hij⟩);have hij1 : ¬ i = j := hij;have hij2 : ¬ (i : Int) = (j : Int) := by omega
 have FIN : Hid (∀ wx,Wk18 B wx bs Bl Bh Ba (.slice (some ⟨Lb,0,none⟩) m cap) sv m n r ρ γ (swF gs i j) (swpX X i j) kw ∧ Touch (· = Lb) w wx → zpD (· = Lb) B w bs Bl Bh Ba (.slice (some ⟨Lb,0,none⟩) m cap) sv m n r ρ γ (swF gs i j) (swpX X i j) kw (.returned (.tuple #[])) wx) := fun wx h => ⟨rfl,h.1,h.2⟩
 clear h hi hj hij;go_enter Tryz.func104,Tryz.ntmps104;go_wp2_with fail
 go_loopg [16] 1 (fun gk s15 wx => (gk = 1 ∧ s15 = .int .i64 0 ∧ wx = w) ∨ (gk = 0 ∧ s15 = .int .i64 1 ∧ Wk18 B wx bs Bl Bh Ba (.slice (some ⟨Lb,0,none⟩) m cap) sv m n r ρ γ (swF gs i j) (swpX X i j) kw ∧ Touch (· = Lb) w wx))
 case atStart => exact .inl ⟨rfl,rfl,rfl⟩
 case round =>
  rcases hrel with ⟨hg,rfl,hwx⟩ | ⟨hg,rfl,hp⟩
  ·replace hwx := hwx.symm
   subst hwx;have HG := hid hg;obtain ⟨V1,hV⟩ : ∃ V1,w.alloc (.cells #[hf1 Ba,hf2 Ba,hf3 Ba,hf4 Ba] 70) = V1 := ⟨_,rfl⟩
   obtain ⟨b,sz1⟩ := alo1 w (.cells #[hf1 Ba,hf2 Ba,hf3 Ba,hf4 Ba] 70);rw [hV] at b sz1;have dH : Cel V1 w.heap.size 70 [hf1 Ba,hf2 Ba,hf3 Ba,hf4 Ba] := by rw [← hV];exact Cel.new w _ _
   have a0 := WK.out.2.2.1.at (i := 0) rfl;have a1 := WK.out.2.2.1.at (i := 1) rfl;have a2 := WK.out.2.2.1.at (i := 2) rfl;have a3 := WK.out.2.2.1.at (i := 3) rfl;have c0 := dH.at (i := 0) rfl;have c1 := dH.at (i := 1) rfl;have c2 := dH.at (i := 2) rfl;have c3 := dH.at (i := 3) rfl;have WK1 := hid (WK.out.now b);have HC := hid (along1_18 WK1.out.2.2.2.1 WK1.out.2.2.2.2.2 HI.out.1 HI.out.2.1 HI.out.2.2 hm);have BV := hid b;have EV := hid hV;rw [← hV] at c0 c1 c2 c3;clear hg b sz1 hV dH s1;go_wp2_with fail;rw [EV.out];refine HC.out.mono ?_;rintro e wy ⟨rfl,hr,ht⟩;have PP : Hid (Wk18 B wy bs Bl Bh Ba (.slice (some ⟨Lb,0,none⟩) m cap) sv m n r ρ γ (swF gs i j) (swpX X i j) kw ∧ Touch (· = Lb) w wy) := ⟨WK1.out.exch HI.out.1 hr ht,(Touch.ofBelow BV.out).trans ht⟩
   clear HC EV BV WK1 a0 a1 a2 a3 c0 c1 c2 c3 hr ht WK;go_wp2_with fail;go_roundg 0
   case rel => exact .inr ⟨rfl,rfl,PP.out⟩
   case measure => rw [HG.out];omega
  ·have FF := hid (FIN.out wr hp)
   clear hg hp FIN s1;go_wp2;go_end0;exact FF.out
theorem positive18 {B bs Bl Bh Ba m n r kw i c : Nat} {w : World} {lv sv : Value} {ρ γ gs : Nat → Nat} {X : Nat → Nat → Int} (h : Wk18 B w bs Bl Bh Ba lv sv m n r ρ γ gs X kw) (hi : i < m) (hc : c < n) (h0 : 0 < X i c) (hm : m ≤ 64) (hn : n ≤ 64) :
  Calls Tryz.prog 101 #[.pointer (some ⟨bs,0,none⟩),.int .i64 (i : Int),.int .i64 (c : Int)] w fun e w' => e = .returned (.tuple #[]) ∧ Below w.heap.size w w' := by
 have HA := hid (at18 h hi hc hm hn);have hs : cmpI (X i c) 0 = 1 := by unfold cmpI;split <;> (try split) <;> omega
 have HS := hid hs;clear h hi hc h0 hs;go_enter Tryz.func101,Tryz.ntmps101;go_wp2_with fail;refine HA.out.mono ?_;rintro e w1 ⟨nb,a,l,cc,rfl,z,b⟩;have HZ := hid (ziA z.zi);have B1 := hid b;clear HA z b;go_wp2_with fail;refine HZ.out.mono ?_;rintro e w2 ⟨rfl,b⟩;rw [HS.out];have FF := hid (below_step B1.out b);clear HZ B1 b;go_wp2;refine bodyPost_ret (results_none rfl _ _ _) rfl ?_;exact ⟨rfl,FF.out⟩
theorem negate18 {B bs Bl Bh Ba m n r kw i c : Nat} {w : World} {lv sv : Value} {ρ γ gs : Nat → Nat} {X : Nat → Nat → Int} (h : Wk18 B w bs Bl Bh Ba lv sv m n r ρ γ gs X kw) (hi : i < m) (hc : c < n) (h0 : ¬ 0 < X i c) (hm : m ≤ 64) (hn : n ≤ 64) :
  Calls Tryz.prog 101 #[.pointer (some ⟨bs,0,none⟩),.int .i64 (i : Int),.int .i64 (c : Int)] w (zpD (· = gs i) B w bs Bl Bh Ba lv sv m n r ρ γ gs (negX X i) kw) := by
 obtain ⟨Lb,cap,rfl⟩ := h.form (by omega);have HA := hid (at18 h hi hc hm hn);have hs : ¬ 0 < cmpI (X i c) 0 := by unfold cmpI;split <;> (try split) <;> omega
 obtain ⟨sg,hsg⟩ : ∃ sg,cmpI (X i c) 0 = sg := ⟨_,rfl⟩
 rw [hsg] at hs;have HS := hid hsg;have WK0 := hid h;have HI := hid hi;clear h hi hc h0 hsg;go_enter Tryz.func101,Tryz.ntmps101;go_wp2_with fail;refine HA.out.mono ?_;rintro e w1 ⟨nb,a,l,cc,rfl,z,b⟩;have HZ := hid (ziA z.zi);have B1 := hid b;clear HA z b;go_wp2_with fail;refine HZ.out.mono ?_;rintro e w2 ⟨rfl,b⟩;rw [HS.out];have B2 := hid (below_step B1.out b);have WK := hid (WK0.out.now B2.out);have s1 := WK.out.1.at (i := 1) rfl;have FIN : Hid (∀ wx,Wk18 B wx bs Bl Bh Ba (.slice (some ⟨Lb,0,none⟩) m cap) sv m n r ρ γ gs (negX X i) kw ∧ Touch (· = gs i) w2 wx → zpD (· = gs i) B w bs Bl Bh Ba (.slice (some ⟨Lb,0,none⟩) m cap) sv m n r ρ γ gs (negX X i) kw (.returned (.tuple #[])) wx) := fun wx h => ⟨rfl,h.1,(Touch.ofBelow B2.out).trans h.2⟩
 clear HZ B1 b WK0 HS;go_wp2_with fail
 go_loopg [19] 1 (fun gk s15 wx => (gk = 1 ∧ s15 = .int .i64 0 ∧ wx = w2) ∨ (gk = 0 ∧ s15 = .int .i64 1 ∧ Wk18 B wx bs Bl Bh Ba (.slice (some ⟨Lb,0,none⟩) m cap) sv m n r ρ γ gs (negX X i) kw ∧ Touch (· = gs i) w2 wx))
 case atStart => exact .inl ⟨rfl,rfl,rfl⟩
 case round =>
  rcases hrel with ⟨hg,rfl,hwx⟩ | ⟨hg,rfl,hp⟩
  ·replace hwx := hwx.symm
   subst hwx;have HG := hid hg;obtain ⟨V1,hV⟩ : ∃ V1,w2.alloc (.cells #[hf1 Ba,hf2 Ba,hf3 Ba,hf4 Ba] 70) = V1 := ⟨_,rfl⟩
   obtain ⟨b,sz1⟩ := alo1 w2 (.cells #[hf1 Ba,hf2 Ba,hf3 Ba,hf4 Ba] 70);rw [hV] at b sz1;have dH : Cel V1 w2.heap.size 70 [hf1 Ba,hf2 Ba,hf3 Ba,hf4 Ba] := by rw [← hV];exact Cel.new w2 _ _
   have a0 := WK.out.2.2.1.at (i := 0) rfl;have a1 := WK.out.2.2.1.at (i := 1) rfl;have a2 := WK.out.2.2.1.at (i := 2) rfl;have a3 := WK.out.2.2.1.at (i := 3) rfl;have c0 := dH.at (i := 0) rfl;have c1 := dH.at (i := 1) rfl;have c2 := dH.at (i := 2) rfl;have c3 := dH.at (i := 3) rfl;have WK1 := hid (WK.out.now b);have HC := hid (along2_18 WK1.out.2.2.2.1 WK1.out.2.2.2.2.2 HI.out hm hn);have BV := hid b;have EV := hid hV;rw [← hV] at c0 c1 c2 c3;clear hg b sz1 hV dH s1;go_wp2_with fail;rw [EV.out];refine HC.out.mono ?_;rintro e wy ⟨rfl,hr,ht⟩;have PP : Hid (Wk18 B wy bs Bl Bh Ba (.slice (some ⟨Lb,0,none⟩) m cap) sv m n r ρ γ gs (negX X i) kw ∧ Touch (· = gs i) w2 wy) := ⟨WK1.out.row HI.out hr ht (fun c _ => (zjC X i c).symm) (fun t q => zbB q),(Touch.ofBelow BV.out).trans ht⟩
   clear HC EV BV WK1 a0 a1 a2 a3 c0 c1 c2 c3 hr ht WK;go_wp2_with fail;go_roundg 0
   case rel => exact .inr ⟨rfl,rfl,PP.out⟩
   case measure => rw [HG.out];omega
  ·have FF := hid (FIN.out wr hp)
   clear hg hp FIN s1;go_wp2;go_end0;exact FF.out
end Go.Proofs.YtbcgggadelnaaaaGreat
