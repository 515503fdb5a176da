/-
 QFb17ToLk17: Fb17, G417, Like11, Lk17, joined.
-/
import Derived.Test.YtffkmeocmjohmaaGreatQQf17ToFa17
import Derived.Test.YtffkmeocmjohmaaGreatQCat9
import Derived.Deep.AppendLies
import Derived.Test.YtffkmeocmjohmaaGreatQEach9ToLeastA9
import Derived.Test.YtffkmeocmjohmaaGreatQTailToMWord
import Derived.Test.YtffkmeocmjohmaaGreatQExt6ToRf11
import Derived.Test.YtffkmeocmjohmaaGreatQIz17ToTailL

set_option maxRecDepth 100000
set_option maxHeartbeats 6400000
set_option linter.unusedVariables false
set_option linter.unusedSimpArgs false
namespace Go.Proofs.YtffkmeocmjohmaaGreat
open Go.RowKit
structure Qr (w : World) where
 r : Int
 c : Int
 a : Option Addr
 l : Nat
 cap : Nat
abbrev Qr.v {w : World} (q : Qr w) : Value := .agg #[.int .i64 q.r,.int .i64 q.c,.slice q.a q.l q.cap]
def Qms (w : World) (g n : Nat) (q : Nat → Qr w) (wx : World) : Prop := ∀ j,j < n → wx.cell? ⟨g,j * 3,none⟩ = some (.int .i64 (q j).r) ∧ wx.cell? ⟨g,j * 3 + 1,none⟩ = some (.int .i64 (q j).c) ∧ wx.cell? ⟨g,j * 3 + 2,none⟩ = some (.slice (q j).a (q j).l (q j).cap)
theorem indexQ17u {w w0 : World} {g n : Nat} {q : Nat → Qr w0} {Bad : Nat → Prop} (hn : n ≤ 64) (hc : Qms w0 g n q w) (hF : ∀ j,j < n → ∀ wx,Below w.heap.size w wx → Calls Tryz.prog 53 #[(q j).v] wx (zqA wx (Bad j))) :
  Calls Tryz.prog 80 #[.slice (some ⟨g,0,none⟩) n n,.func (.func 53) #[] #[]] w (IxD w n Bad) := by
 have HC := hid hc;have HF : Hid (∀ j,j < n → ∀ wx,Below w.heap.size w wx → Calls Tryz.prog 53 #[(q j).v] wx (zqA wx (Bad j))) := hF;have H0 : Hid (IxF w n Bad n (.int .i64 0) w) := ⟨0,rfl,Nat.zero_le _,rfl,fun j hj => by omega,Below.refl _ _⟩
 clear hc hF;go_enter Tryz.func80,Tryz.ntmps80;go_wp2_with fail
 go_loopg [8] n (fun gk s8 wx => IxF w n Bad gk s8 wx)
 case atStart => exact H0.out
 case round =>
  clear H0;obtain ⟨i,rfl,hi,hg,hz,hb⟩ := hrel;have HZ := hid hz;have HG := hid hg;have G := hid hb;clear hz hg hb
  by_cases hlt : i < n
  ·have hlt' : (i : Int) < (n : Int) := by omega
   obtain ⟨e1,e2,e3⟩ := HC.out i hlt;replace e1 := cnow G.out e1;replace e2 := cnow G.out e2;replace e3 := cnow G.out e3;have HS := hid (HF.out i hlt wr G.out);have hw := zVA (i := i) (by omega);go_wp2_with fail;refine HS.out.mono ?_;rintro e w1 ⟨bq,rfl,hbq,b⟩;have HBQ := hid hbq;have G1 := hid (zAA G.out b);clear hbq b HS G e1 e2 e3;cases bq with
   | false =>
    have HN : Hid (IxF w n Bad (n - (i + 1)) (.int .i64 ((i + 1 : Nat) : Int)) w1) := ⟨i + 1,rfl,by omega,rfl,fun j hj => by
     by_cases q : j < i
     ·exact HZ.out j q
     ·obtain rfl : j = i := by omega
      exact fun q => Bool.false_ne_true (HBQ.out.2 q),G1.out⟩
    have HMM : Hid (n - (i + 1) < gk) := by unfold Hid;rw [HG.out];omega
    clear HBQ G1 HZ HG;go_wp2_with fail;go_roundg (n - (i + 1))
    case rel => exact HN.out
    case measure => exact HMM.out
   | true =>
    have FF : Hid (IxD w n Bad (.returned (.int .i64 (i : Int))) w1) := ⟨_,rfl,⟨fun _ => ⟨i,hlt,HBQ.out.1 rfl⟩,fun _ => by omega⟩,G1.out⟩
    clear HBQ G1 HZ HG;go_wp2;go_ret;exact FF.out
  ·have hlt' : ¬ (i : Int) < (n : Int) := by omega
   have FF : Hid (IxD w n Bad (.returned (.int .i64 (-1))) wr) := ⟨_,rfl,⟨fun q => by omega,fun ⟨j,hj,q⟩ => absurd q (HZ.out j (by omega))⟩,G.out⟩
   clear HZ HG G;go_wp2;go_ret;exact FF.out
theorem containsQ17u {w w0 : World} {g n : Nat} {q : Nat → Qr w0} {Bad : Nat → Prop} (hn : n ≤ 64) (hc : Qms w0 g n q w) (hF : ∀ j,j < n → ∀ wx,Below w.heap.size w wx → Calls Tryz.prog 53 #[(q j).v] wx (zqA wx (Bad j))) :
  Calls Tryz.prog 52 #[.slice (some ⟨g,0,none⟩) n n,.func (.func 53) #[] #[]] w (zqA w (∃ j,j < n ∧ Bad j)) := by
 have HI := hid (indexQ17u hn hc hF);clear hc hF;go_enter Tryz.func52,Tryz.ntmps52;go_wp2_with fail;refine HI.out.mono ?_;rintro e w1 ⟨r,rfl,hr,b⟩;have FIN : Hid (zqA w (∃ j,j < n ∧ Bad j) (.returned (.bool (decide (0 ≤ r)))) w1) := ⟨_,rfl,by rw [decide_eq_true_eq];exact hr,b⟩
 clear HI hr b;go_wp2;go_ret;exact FIN.out
theorem indexQ17h {w w0 : World} {g n : Nat} {q : Nat → Qr w0} {Bad : Nat → Prop} (hn : n ≤ 64) (hc : Qms w0 g n q w) (hF : ∀ j,j < n → ∀ wx,Below w.heap.size w wx → Calls Tryz.prog 54 #[(q j).v] wx (zqA wx (Bad j))) :
  Calls Tryz.prog 80 #[.slice (some ⟨g,0,none⟩) n n,.func (.func 54) #[] #[]] w (IxD w n Bad) := by
 have HC := hid hc;have HF : Hid (∀ j,j < n → ∀ wx,Below w.heap.size w wx → Calls Tryz.prog 54 #[(q j).v] wx (zqA wx (Bad j))) := hF;have H0 : Hid (IxF w n Bad n (.int .i64 0) w) := ⟨0,rfl,Nat.zero_le _,rfl,fun j hj => by omega,Below.refl _ _⟩
 clear hc hF;go_enter Tryz.func80,Tryz.ntmps80;go_wp2_with fail
 go_loopg [8] n (fun gk s8 wx => IxF w n Bad gk s8 wx)
 case atStart => exact H0.out
 case round =>
  clear H0;obtain ⟨i,rfl,hi,hg,hz,hb⟩ := hrel;have HZ := hid hz;have HG := hid hg;have G := hid hb;clear hz hg hb
  by_cases hlt : i < n
  ·have hlt' : (i : Int) < (n : Int) := by omega
   obtain ⟨e1,e2,e3⟩ := HC.out i hlt;replace e1 := cnow G.out e1;replace e2 := cnow G.out e2;replace e3 := cnow G.out e3;have HS := hid (HF.out i hlt wr G.out);have hw := zVA (i := i) (by omega);go_wp2_with fail;refine HS.out.mono ?_;rintro e w1 ⟨bq,rfl,hbq,b⟩;have HBQ := hid hbq;have G1 := hid (zAA G.out b);clear hbq b HS G e1 e2 e3;cases bq with
   | false =>
    have HN : Hid (IxF w n Bad (n - (i + 1)) (.int .i64 ((i + 1 : Nat) : Int)) w1) := ⟨i + 1,rfl,by omega,rfl,fun j hj => by
     by_cases q : j < i
     ·exact HZ.out j q
     ·obtain rfl : j = i := by omega
      exact fun q => Bool.false_ne_true (HBQ.out.2 q),G1.out⟩
    have HMM : Hid (n - (i + 1) < gk) := by unfold Hid;rw [HG.out];omega
    clear HBQ G1 HZ HG;go_wp2_with fail;go_roundg (n - (i + 1))
    case rel => exact HN.out
    case measure => exact HMM.out
   | true =>
    have FF : Hid (IxD w n Bad (.returned (.int .i64 (i : Int))) w1) := ⟨_,rfl,⟨fun _ => ⟨i,hlt,HBQ.out.1 rfl⟩,fun _ => by omega⟩,G1.out⟩
    clear HBQ G1 HZ HG;go_wp2;go_ret;exact FF.out
  ·have hlt' : ¬ (i : Int) < (n : Int) := by omega
   have FF : Hid (IxD w n Bad (.returned (.int .i64 (-1))) wr) := ⟨_,rfl,⟨fun q => by omega,fun ⟨j,hj,q⟩ => absurd q (HZ.out j (by omega))⟩,G.out⟩
   clear HZ HG G;go_wp2;go_ret;exact FF.out
theorem containsQ17h {w w0 : World} {g n : Nat} {q : Nat → Qr w0} {Bad : Nat → Prop} (hn : n ≤ 64) (hc : Qms w0 g n q w) (hF : ∀ j,j < n → ∀ wx,Below w.heap.size w wx → Calls Tryz.prog 54 #[(q j).v] wx (zqA wx (Bad j))) :
  Calls Tryz.prog 52 #[.slice (some ⟨g,0,none⟩) n n,.func (.func 54) #[] #[]] w (zqA w (∃ j,j < n ∧ Bad j)) := by
 have HI := hid (indexQ17h hn hc hF);clear hc hF;go_enter Tryz.func52,Tryz.ntmps52;go_wp2_with fail;refine HI.out.mono ?_;rintro e w1 ⟨r,rfl,hr,b⟩;have FIN : Hid (zqA w (∃ j,j < n ∧ Bad j) (.returned (.bool (decide (0 ≤ r)))) w1) := ⟨_,rfl,by rw [decide_eq_true_eq];exact hr,b⟩
 clear HI hr b;go_wp2;go_ret;exact FIN.out
def FltIs (bad nof : Prop) (fits : Bool) (code : Int) : Prop := (code = 1 ∧ bad) ∨ (code = 2 ∧ ¬ bad ∧ fits = false) ∨ (code = 4 ∧ ¬ bad ∧ fits = true ∧ nof) ∨ (code = 0 ∧ ¬ bad ∧ fits = true ∧ ¬ nof)
def Flt (w : World) (bad nof : Prop) (fits : Bool) (e : Ending) (w' : World) : Prop := ∃ code : Int,e = .returned (.int .i64 code) ∧ FltIs bad nof fits code ∧ Below w.heap.size w w'
theorem zhF {w w0 : World} {g n k : Nat} {q : Nat → Qr w0} {P Q : Nat → Nat → Int} {fits : Bool} (hn : n ≤ 64) (hc : Qms w0 g n q w) (hv : ∀ j,j < n → Qs w (.slice (q j).a (q j).l (q j).cap) (q j).l (P j) (Q j) k) :
  Calls Tryz.prog 21 #[.bool fits,.slice (some ⟨g,0,none⟩) n n] w (Flt w (∃ j,j < n ∧ ¬ Snd (q j).r (q j).c (q j).l) (∃ j,j < n ∧ ∃ t,t < (q j).l ∧ Q j t = 0) fits) := by
 have H1 := hid (containsQ17u (Bad := fun j => ¬ Snd (q j).r (q j).c (q j).l) hn hc (fun j hj wx hb => isUnsound17));have H2 : Hid (∀ wx,Below w.heap.size w wx → Calls Tryz.prog 52 #[.slice (some ⟨g,0,none⟩) n n,.func (.func 54) #[] #[]] wx (zqA wx (∃ j,j < n ∧ ∃ t,t < (q j).l ∧ Q j t = 0))) := fun wx hb =>
  containsQ17h (Bad := fun j => ∃ t,t < (q j).l ∧ Q j t = 0) hn (fun j hj => ⟨cnow hb (hc j hj).1,cnow hb (hc j hj).2.1,cnow hb (hc j hj).2.2⟩) (fun j hj wx' hb' => hasNo17 (((hv j hj).now hb).now hb'))
 clear hc hv;obtain ⟨bad,hbad⟩ : ∃ bad : Prop,(∃ j,j < n ∧ ¬ Snd (q j).r (q j).c (q j).l) = bad := ⟨_,rfl⟩
 obtain ⟨nof,hnof⟩ : ∃ nof : Prop,(∃ j,j < n ∧ ∃ t,t < (q j).l ∧ Q j t = 0) = nof := ⟨_,rfl⟩
 rw [hbad] at H1;rw [hnof] at H2;rw [hbad,hnof];clear hbad hnof;go_enter Tryz.func21,Tryz.ntmps21;go_wp2_with fail;refine H1.out.mono ?_;rintro e w1 ⟨b1,rfl,hb1,bb⟩;have B1 := hid hb1;have HS2 := hid (H2.out w1 bb);have BB := hid bb;clear H1 H2 hb1 bb;cases b1 with
 | true =>
  have FF : Hid (Flt w bad nof fits (.returned (.int .i64 1)) w1) := ⟨1,rfl,.inl ⟨rfl,B1.out.1 rfl⟩,BB.out⟩
  clear B1 HS2 BB;go_wp2;go_ret;exact FF.out
 | false =>
  have NB : Hid (¬ bad) := fun h => Bool.false_ne_true (B1.out.2 h)
  clear B1;cases fits with
  | false =>
   have FF : Hid (Flt w bad nof false (.returned (.int .i64 2)) w1) := ⟨2,rfl,.inr (.inl ⟨rfl,NB.out,rfl⟩),BB.out⟩
   clear NB HS2 BB;go_wp2;go_ret;exact FF.out
  | true =>
   go_wp2_with fail;refine HS2.out.mono ?_;rintro e w2 ⟨b2,rfl,hb2,bb⟩;have B2 := hid hb2;have G2 := hid (zAA BB.out bb);clear hb2 bb HS2 BB;cases b2 with
   | true =>
    have FF : Hid (Flt w bad nof true (.returned (.int .i64 4)) w2) := ⟨4,rfl,.inr (.inr (.inl ⟨rfl,NB.out,rfl,B2.out.1 rfl⟩)),G2.out⟩
    clear NB B2 G2;go_wp2;go_ret;exact FF.out
   | false =>
    have FF : Hid (Flt w bad nof true (.returned (.int .i64 0)) w2) := ⟨0,rfl,.inr (.inr (.inr ⟨rfl,NB.out,rfl,fun h => Bool.false_ne_true (B2.out.2 h)⟩)),G2.out⟩
    clear NB B2 G2;go_wp2;go_ret;exact FF.out
theorem zKF {n : Nat} {C D : Nat → Nat → Value} (h : ∀ j,j < n → C j = D j) : cl4 n C = cl4 n D := List.map_congr_left fun t ht => by
 have : t < n * 4 := by simpa using ht
 rw [h (t / 4) (by omega)]
theorem zLG {w : World} {v u : Value} {z y : Int} {k l : Nat} (h : Zc w v z k) (h' : Zc w u y l) (hzy : z = y) :
  Calls Tryz.prog 99 #[v,u] w fun e w' => e = .returned (.bool true) ∧ Below w.heap.size w w' := by
 subst hzy;obtain ⟨n,xs,a,c,rfl,s0,q0,e0,z0,k0⟩ := h;obtain ⟨m,ys,b,d,rfl,s1,q1,e1,z1,k1⟩ := h';obtain ⟨rfl,rfl⟩ := iv_one (z0.trans z1.symm) q0 q1 e0 e1;obtain ⟨W0,hW⟩ : ∃ W0,(w.alloc (duo (.bool n) (.slice a xs.length c))).alloc (duo (.bool n) (.slice b xs.length d)) = W0 := ⟨_,rfl⟩
 have b0 := (zuA w (duo (.bool n) (.slice a xs.length c)) (duo (.bool n) (.slice b xs.length d))).1;rw [hW] at b0;have P2 : Hid (Duo W0 w.heap.size (.bool n) (.slice a xs.length c)) := by unfold Hid;rw [← hW];exact (Duo.new w _ _).later (by simp) _
 have P3 : Hid (Duo W0 (w.heap.size + 1) (.bool n) (.slice b xs.length d)) := by
  unfold Hid;rw [← hW];have := Duo.new (w.alloc (duo (.bool n) (.slice a xs.length c))) (.bool n) (.slice b xs.length d)
  simpa using this
 have HC := hid (same_yes (s0.now b0) (s1.now b0) rfl);have B0 := hid b0;have x0 := P2.out.c0;have y0 := P3.out.c0;have x1 := P2.out.c1;have y1 := P3.out.c1;rw [← hW] at x0 y0 x1 y1;have EW := hid hW;have hq : (n == n) = true := by simp
 clear s0 s1 z0 z1 b0 q0 q1 e0 e1 hW;go_enter Tryz.func99,Tryz.ntmps99;go_wp2_with fail;rw [EW.out];refine HC.out.mono ?_;rintro e w1 ⟨rfl,b1⟩;have B1 := hid (zAA B0.out b1);clear b1 HC x0 y0 x1 y1 EW;go_wp2;go_ret;exact ⟨rfl,B1.out⟩
instance snd11 (r c : Int) (l : Nat) : Decidable (Snd r c l) := by unfold Snd;infer_instance
def Qc (w : World) (v : Value) (n : Nat) (R : Nat → Rat) (k : Nat) : Prop :=
 ∃ a c,v = .slice a n c ∧ n ≤ c ∧ (n ≤ 1048576 ∧ (a = none → c = 0)) ∧ (n = 0 ∨ ∃ b off,a = some ⟨b,off,none⟩ ∧ b < w.heap.size ∧ ∀ j,j < n → ∃ n1 a1 l1 c1 n2 a2 l2 c2,w.cell? ⟨b,off + j * 4,none⟩ = some (.bool n1) ∧ w.cell? ⟨b,off + j * 4 + 1,none⟩ = some (.slice a1 l1 c1) ∧ w.cell? ⟨b,off + j * 4 + 2,none⟩ = some (.bool n2) ∧ w.cell? ⟨b,off + j * 4 + 3,none⟩ = some (.slice a2 l2 c2) ∧ Zc w (.agg #[.bool n1,.slice a1 l1 c1]) (R j).num k ∧ Zc w (.agg #[.bool n2,.slice a2 l2 c2]) ((R j).den : Int) k)
theorem Qc.now {w w' : World} {v : Value} {n k : Nat} {R : Nat → Rat} (h : Qc w v n R k) (hb : Below w.heap.size w w') : Qc w' v n R k := by
 obtain ⟨a,c,h1,h2,h3,h4⟩ := h;refine ⟨a,c,h1,h2,h3,?_⟩;rcases h4 with h4 | ⟨b,off,h5,h6,h7⟩
 ·exact .inl h4
 ·refine .inr ⟨b,off,h5,Nat.lt_of_lt_of_le h6 hb.size,fun j hj => ?_⟩
  obtain ⟨n1,a1,l1,c1,n2,a2,l2,c2,e1,e2,e3,e4,e5,e6⟩ := h7 j hj;exact ⟨n1,a1,l1,c1,n2,a2,l2,c2,cnow hb e1,cnow hb e2,cnow hb e3,cnow hb e4,e5.now hb,e6.now hb⟩
theorem Qc.qs {w : World} {v : Value} {n k : Nat} {R : Nat → Rat} (h : Qc w v n R k) : Qs w v n (fun j => (R j).num) (fun j => ((R j).den : Int)) k := by
 obtain ⟨a,c,h1,h2,h3,h4⟩ := h;refine ⟨a,c,h1,h2,h3,?_⟩;rcases h4 with h4 | ⟨b,off,h5,h6,h7⟩
 ·exact .inl h4
 ·refine .inr ⟨b,off,h5,h6,fun j hj => ?_⟩
  obtain ⟨n1,a1,l1,c1,n2,a2,l2,c2,e1,e2,e3,e4,e5,e6⟩ := h7 j hj;exact ⟨n1,a1,l1,c1,n2,a2,l2,c2,e1,e2,e3,e4,e5.zi,e6.zi⟩
theorem Qc.form {w : World} {v : Value} {n k : Nat} {R : Nat → Rat} (h : Qc w v n R k) : ∃ a c,v = .slice a n c ∧ n ≤ 1048576 ∧ (0 < n → ∃ b off,a = some ⟨b,off,none⟩) := by
 obtain ⟨a,c,h1,h2,h3,h4⟩ := h;refine ⟨a,c,h1,h3.1,fun q => ?_⟩;rcases h4 with h4 | ⟨b,off,h5,h6,h7⟩
 ·omega
 ·exact ⟨b,off,h5⟩
theorem Qc.at {w : World} {b off n l c k j : Nat} {R : Nat → Rat} (h : Qc w (.slice (some ⟨b,off,none⟩) l c) n R k) (hj : j < n) : ∃ n1 a1 l1 c1 n2 a2 l2 c2,w.cell? ⟨b,off + j * 4,none⟩ = some (.bool n1) ∧ w.cell? ⟨b,off + j * 4 + 1,none⟩ = some (.slice a1 l1 c1) ∧ w.cell? ⟨b,off + j * 4 + 2,none⟩ = some (.bool n2) ∧ w.cell? ⟨b,off + j * 4 + 3,none⟩ = some (.slice a2 l2 c2) ∧ Zc w (.agg #[.bool n1,.slice a1 l1 c1]) (R j).num k ∧ Zc w (.agg #[.bool n2,.slice a2 l2 c2]) ((R j).den : Int) k := by
 obtain ⟨a',c',h1,h2,h3,h4⟩ := h;simp only [Value.slice.injEq] at h1;obtain ⟨rfl,-,-⟩ := h1;rcases h4 with h4 | ⟨b',off',h5,h6,h7⟩
 ·omega
 ·simp only [Option.some.injEq,Addr.mk.injEq,and_true] at h5
  obtain ⟨rfl,rfl⟩ := h5;exact h7 j hj
theorem FilQ.qc {w : World} {g n k : Nat} {R : Nat → Rat} (h : FilQ w g n n R k) (hn : n ≤ 1048576) : Qc w (.slice (some ⟨g,0,none⟩) n n) n R k := by
 refine ⟨_,_,rfl,Nat.le_refl _,⟨hn,fun q => by cases q⟩,.inr ⟨g,0,rfl,h.blk,fun j hj => ?_⟩⟩;obtain ⟨n1,a1,l1,c1,n2,a2,l2,c2,e1,e2,e3,e4,-,-,-,-,e5⟩ := h.cells hj;rw [Nat.zero_add];exact ⟨n1,a1,l1,c1,n2,a2,l2,c2,e1,e2,e3,e4,(e5 hj).1.zc,(e5 hj).2.zc⟩
theorem Qc.congr {w : World} {v : Value} {n k : Nat} {R R' : Nat → Rat} (h : Qc w v n R k) (e : ∀ j,j < n → R j = R' j) : Qc w v n R' k := by
 obtain ⟨a,c,h1,h2,h3,h4⟩ := h;refine ⟨a,c,h1,h2,h3,?_⟩;rcases h4 with h4 | ⟨b,off,h5,h6,h7⟩
 ·exact .inl h4
 ·refine .inr ⟨b,off,h5,h6,fun j hj => ?_⟩
  rw [← e j hj];exact h7 j hj
theorem likeF17 {w : World} {n1 n2 m1 m2 : Bool} {a1 a2 d1 d2 : Option Addr} {l1 c1 l2 c2 x1 y1 x2 y2 k l : Nat} {q : Rat} (h1 : Zc w (.agg #[.bool n1,.slice a1 l1 c1]) q.num k) (h2 : Zc w (.agg #[.bool n2,.slice a2 l2 c2]) (q.den : Int) k) (h3 : Zc w (.agg #[.bool m1,.slice d1 x1 y1]) q.num l) (h4 : Zc w (.agg #[.bool m2,.slice d2 x2 y2]) (q.den : Int) l) :
  Calls Tryz.prog 70 #[.agg #[.bool n1,.slice a1 l1 c1,.bool n2,.slice a2 l2 c2],.agg #[.bool m1,.slice d1 x1 y1,.bool m2,.slice d2 x2 y2]] w fun e w' => e = .returned (.bool true) ∧ Below w.heap.size w w' := by
 obtain ⟨W0,hW⟩ : ∃ W0,(w.alloc (.cells #[.bool n1,.slice a1 l1 c1,.bool n2,.slice a2 l2 c2] 47)).alloc (.cells #[.bool m1,.slice d1 x1 y1,.bool m2,.slice d2 x2 y2] 47) = W0 := ⟨_,rfl⟩
 obtain ⟨b0,sz0⟩ := zuA w (.cells #[.bool n1,.slice a1 l1 c1,.bool n2,.slice a2 l2 c2] 47) (.cells #[.bool m1,.slice d1 x1 y1,.bool m2,.slice d2 x2 y2] 47);rw [hW] at b0 sz0;have CA : Hid (Cel W0 w.heap.size 47 [.bool n1,.slice a1 l1 c1,.bool n2,.slice a2 l2 c2]) := by unfold Hid;rw [← hW];exact (Cel.new w _ _).step (alo1 _ _).1
 have CB : Hid (Cel W0 (w.heap.size + 1) 47 [.bool m1,.slice d1 x1 y1,.bool m2,.slice d2 x2 y2]) := by
  unfold Hid;rw [← hW];have := Cel.new (w.alloc (.cells #[.bool n1,.slice a1 l1 c1,.bool n2,.slice a2 l2 c2] 47)) 47 [.bool m1,.slice d1 x1 y1,.bool m2,.slice d2 x2 y2]
  simpa using this
 have H1 := hid (zLG (h1.now b0) (h3.now b0) rfl);have H2 : Hid (∀ {w' : World},Below W0.heap.size W0 w' → Calls Tryz.prog 99 #[.agg #[.bool n2,.slice a2 l2 c2],.agg #[.bool m2,.slice d2 x2 y2]] w' _) := fun hb => zLG ((h2.now b0).now hb) ((h4.now b0).now hb) rfl
 have B0 := hid b0;have EW := hid hW;have u0 := CA.out.at (i := 0) rfl;have u1 := CA.out.at (i := 1) rfl;have v0 := CB.out.at (i := 0) rfl;have v1 := CB.out.at (i := 1) rfl;rw [← hW] at u0 u1 v0 v1;clear b0 sz0 hW h1 h2 h3 h4;go_enter Tryz.func70,Tryz.ntmps70;go_wp2_with fail;rw [EW.out];refine H1.out.mono ?_;rintro e w1 ⟨rfl,b1⟩;have H3 := hid (H2.out b1);have u2 := (CA.out.step b1).at (i := 2) rfl;have u3 := (CA.out.step b1).at (i := 3) rfl;have v2 := (CB.out.step b1).at (i := 2) rfl;have v3 := (CB.out.step b1).at (i := 3) rfl;have B1 := hid (zAA B0.out b1);clear H1 H2 b1 u0 u1 v0 v1 EW CA CB B0;go_wp2_with fail;refine H3.out.mono ?_;rintro e w2 ⟨rfl,b2⟩;have B2 := hid (zAA B1.out b2);clear H3 b2 B1 u2 u3 v2 v3;go_wp2;go_ret;exact ⟨rfl,B2.out⟩
def LkH (w : World) (n gk : Nat) (s : Value) (wx : World) : Prop := ∃ i : Nat,s = .int .i64 (i : Int) ∧ i ≤ n ∧ gk = n - i ∧ Below w.heap.size w wx
theorem likeRow17 {w : World} {va vb : Value} {n k l : Nat} {R R' : Nat → Rat} (ha : Qc w va n R k) (hb : Qc w vb n R' l) (he : ∀ j,j < n → R j = R' j) :
  Calls Tryz.prog 37 #[va,vb] w fun e w' => e = .returned (.bool true) ∧ Below w.heap.size w w' := by
 replace hb := hb.congr (R' := R) fun j hj => (he j hj).symm
 have HA := hid ha;have HB := hid hb;obtain ⟨aa,ca,rfl,hn,hfa⟩ := ha.form;obtain ⟨ab,cb,rfl,-,hfb⟩ := hb.form;have FA := hid hfa;have FB := hid hfb;have H0 : Hid (LkH w n n (.int .i64 0) w) := ⟨0,rfl,Nat.zero_le _,rfl,Below.refl _ _⟩
 have hne : ((n : Int) != (n : Int)) = false := by simp
 clear ha hb hfa hfb he;go_enter Tryz.func37,Tryz.ntmps37;go_wp2_with fail
 go_loopg [5] n (fun gk s5 wx => LkH w n gk s5 wx)
 case atStart => exact H0.out
 case round =>
  clear H0;obtain ⟨i,rfl,hi,hg,hbw⟩ := hrel;have G := hid hbw;have HG := hid hg;clear hbw hg
  by_cases hlt : i < n
  ·have hlt' : (i : Int) < (n : Int) := by omega
   have hwi := zVA (i := i) (by omega);obtain ⟨ba,oa,rfl⟩ := FA.out (by omega);obtain ⟨bb,ob,rfl⟩ := FB.out (by omega);obtain ⟨n1,a1,l1,c1,n2,a2,l2,c2,e1,e2,e3,e4,z1,z2⟩ := (HA.out.now G.out).at hlt;obtain ⟨m1,d1,x1,y1,m2,d2,x2,y2,f1,f2,f3,f4,z3,z4⟩ := (HB.out.now G.out).at hlt;have Z1 := hid z1;have Z2 := hid z2;have Z3 := hid z3;have Z4 := hid z4;have HMM : Hid (n - (i + 1) < gk) := by unfold Hid;rw [HG.out];omega
   clear z1 z2 z3 z4 HG;go_wp2_with fail;have KB : Hid (∀ w',Below wr.heap.size wr w' → w'.cell? ⟨ba,oa + i * 4,none⟩ = some (.bool n1) ∧ w'.cell? ⟨ba,oa + i * 4 + 1,none⟩ = some (.slice a1 l1 c1) ∧ w'.cell? ⟨ba,oa + i * 4 + 2,none⟩ = some (.bool n2) ∧ w'.cell? ⟨ba,oa + i * 4 + 3,none⟩ = some (.slice a2 l2 c2) ∧ w'.cell? ⟨bb,ob + i * 4,none⟩ = some (.bool m1) ∧ w'.cell? ⟨bb,ob + i * 4 + 1,none⟩ = some (.slice d1 x1 y1) ∧ w'.cell? ⟨bb,ob + i * 4 + 2,none⟩ = some (.bool m2) ∧ w'.cell? ⟨bb,ob + i * 4 + 3,none⟩ = some (.slice d2 x2 y2)) := fun w' h => ⟨cnow h e1,cnow h e2,cnow h e3,cnow h e4,cnow h f1,cnow h f2,cnow h f3,cnow h f4⟩
   refine zFA (fun w' => w'.cell? ⟨ba,oa + i * 4,none⟩ = some (.bool n1) ∧ w'.cell? ⟨ba,oa + i * 4 + 1,none⟩ = some (.slice a1 l1 c1) ∧ w'.cell? ⟨ba,oa + i * 4 + 2,none⟩ = some (.bool n2) ∧ w'.cell? ⟨ba,oa + i * 4 + 3,none⟩ = some (.slice a2 l2 c2) ∧ w'.cell? ⟨bb,ob + i * 4,none⟩ = some (.bool m1) ∧ w'.cell? ⟨bb,ob + i * 4 + 1,none⟩ = some (.slice d1 x1 y1) ∧ w'.cell? ⟨bb,ob + i * 4 + 2,none⟩ = some (.bool m2) ∧ w'.cell? ⟨bb,ob + i * 4 + 3,none⟩ = some (.slice d2 x2 y2)) 9 (by kernel_rfl) ?_;obtain ⟨D1,hD⟩ : ∃ D1,wr.drew = D1 := ⟨_,rfl⟩
   have GB : Hid (Below wr.heap.size wr D1) := by unfold Hid;rw [← hD];exact (Below.refl _ _).drew
   rw [hD];clear hD;refine zDA [(0,(.slice (some ⟨ba,oa,none⟩) n ca)),(1,(.int .i64 (i : Int))),(2,(.pointer (some ⟨ba,oa + i * 4,none⟩))),(3,(.agg #[.bool n1,.slice a1 l1 c1,.bool n2,.slice a2 l2 c2])),(4,(.slice (some ⟨bb,ob,none⟩) n cb)),(5,(.int .i64 (i : Int))),(6,(.pointer (some ⟨bb,ob + i * 4,none⟩))),(7,(.agg #[.bool m1,.slice d1 x1 y1,.bool m2,.slice d2 x2 y2]))] 8 ?_ (KB.out _ GB.out) ?_
   ·simp only [zJA,gA9,g09,g19,Act.put,sI9,s09,s19]
    (repeat' (first | exact trivial | refine And.intro (Or.inl ⟨by rfl,?_⟩) ?_)) <;> (intro w hSw;(try dsimp only at hSw);go_simp)
   simp only [actV,gA9,g09,g19,Act.put,sI9,s09,s19];refine zBA (i := 8) (o := ⟨some 25,.call { callee := .value (.func 70),args := #[.tmp 20,.tmp 24],argTypes := #[47,47] },4, "keep.go:22",#[⟨3,.data⟩,⟨7,.data⟩],none⟩) (by kernel_rfl) rfl (fun K hK => ?_);go_simp;go_at_call 70;refine (likeF17 (Z1.out.now GB.out) (Z2.out.now GB.out) (Z3.out.now GB.out) (Z4.out.now GB.out)).mono ?_;rintro e w2 ⟨rfl,b⟩;have lz2 := (show Below _ _ _ from b).size;replace GB := hid (zAA GB.out b);clear b;refine hK.out _ _ (fun _ => KB.out _ GB.out) ?_;clear hK;refine zBA (i := 9) (o := ⟨some 26,.unOp .not 4 (.tmp 25),4, "keep.go:22",#[⟨8,.data⟩],none⟩) (by kernel_rfl) rfl (fun K hK => ?_);go_simp;refine hK.out _ _ (fun h => absurd h (by decide)) ?_;clear hK
   try simp only [Act.put]
   refine zEA (by kernel_rfl) ?_ _;have HN1 : Hid (LkH w n (n - (i + 1)) (.int .i64 ((i + 1 : Nat) : Int)) w2) := ⟨i + 1,rfl,by omega,rfl,zAA G.out GB.out⟩
   clear GB KB G Z1 Z2 Z3 Z4 e1 e2 e3 e4 f1 f2 f3 f4;go_wp2_with fail;go_roundg (n - (i + 1))
   case rel => exact HN1.out
   case measure => exact HMM.out
  ·have hlt' : ¬ (i : Int) < (n : Int) := by omega
   clear HG;go_wp2;go_ret;exact ⟨rfl,G.out⟩
theorem zdD {w : World} {va vb : Value} {r c n k l : Nat} {R R' : Nat → Rat} (ha : Qc w va n R k) (hb : Qc w vb n R' l) (he : ∀ j,j < n → R j = R' j) :
  Calls Tryz.prog 12 #[qmv r c va,qmv r c vb] w fun e w' => e = .returned (.bool true) ∧ Below w.heap.size w w' := by
 obtain ⟨aa,ca,rfl,-,-⟩ := ha.form;obtain ⟨ab,cb,rfl,-,-⟩ := hb.form;obtain ⟨W0,hW⟩ : ∃ W0,(w.alloc (.cells #[.int .i64 (r : Int),.int .i64 (c : Int),.slice aa n ca] 24)).alloc (.cells #[.int .i64 (r : Int),.int .i64 (c : Int),.slice ab n cb] 24) = W0 := ⟨_,rfl⟩
 obtain ⟨b0,sz0⟩ := zuA w (.cells #[.int .i64 (r : Int),.int .i64 (c : Int),.slice aa n ca] 24) (.cells #[.int .i64 (r : Int),.int .i64 (c : Int),.slice ab n cb] 24);rw [hW] at b0 sz0;have CA : Hid (Cel W0 w.heap.size 24 [.int .i64 (r : Int),.int .i64 (c : Int),.slice aa n ca]) := by unfold Hid;rw [← hW];exact (Cel.new w _ _).step (alo1 _ _).1
 have CB : Hid (Cel W0 (w.heap.size + 1) 24 [.int .i64 (r : Int),.int .i64 (c : Int),.slice ab n cb]) := by
  unfold Hid;rw [← hW];have := Cel.new (w.alloc (.cells #[.int .i64 (r : Int),.int .i64 (c : Int),.slice aa n ca] 24)) 24 [.int .i64 (r : Int),.int .i64 (c : Int),.slice ab n cb]
  simpa using this
 have H1 := hid (likeRow17 (ha.now b0) (hb.now b0) he);have B0 := hid b0;have EW := hid hW;have u0 := CA.out.at (i := 0) rfl;have u1 := CA.out.at (i := 1) rfl;have u2 := CA.out.at (i := 2) rfl;have v0 := CB.out.at (i := 0) rfl;have v1 := CB.out.at (i := 1) rfl;have v2 := CB.out.at (i := 2) rfl;rw [← hW] at u0 u1 u2 v0 v1 v2;have hrr : ((r : Int) == (r : Int)) = true := by simp
 have hcc : ((c : Int) == (c : Int)) = true := by simp
 clear b0 sz0 hW ha hb he CA CB
 show Calls Tryz.prog 12 #[.agg #[.int .i64 (r : Int),.int .i64 (c : Int),.slice aa n ca],.agg #[.int .i64 (r : Int),.int .i64 (c : Int),.slice ab n cb]] w _
 go_enter Tryz.func12,Tryz.ntmps12;go_wp2_with fail;rw [EW.out];refine H1.out.mono ?_;rintro e w1 ⟨rfl,b1⟩;have B1 := hid (zAA B0.out b1);clear H1 b1 u0 u1 u2 v0 v1 v2 EW B0;go_wp2;go_ret;exact ⟨rfl,B1.out⟩
end Go.Proofs.YtffkmeocmjohmaaGreat
