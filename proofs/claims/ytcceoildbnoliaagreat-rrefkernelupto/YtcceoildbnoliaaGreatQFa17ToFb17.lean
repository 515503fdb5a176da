/-
  QFa17ToFb17: Fa17, Fb17, joined.
-/
import Derived.Test.YtcceoildbnoliaaGreatQQf17ToRo17
import Derived.Test.YtcceoildbnoliaaGreatQEach9ToPr12

/- Fa17 -/
namespace Go.Proofs.YtcceoildbnoliaaGreat
open Go.RowKit
set_option linter.unusedVariables false

def SaysP (w : World) (p : Prop) (e : Ending) (w' : World) : Prop := ∃ b : Bool, e = .returned (.bool b) ∧ (b = true ↔ p) ∧ Below w.heap.size w w'
set_option maxHeartbeats 1600000 in
theorem isNo17 {w : World} {n1 n2 : Bool} {a1 a2 : Option Addr} {l1 c1 l2 c2 k : Nat} {D : Int} (h : Zi w (.agg #[.bool n2, .slice a2 l2 c2]) D k) : Calls Tryz.prog 55 #[.agg #[.bool n1, .slice a1 l1 c1, .bool n2, .slice a2 l2 c2]] w (SaysP w (D = 0)) := by
  obtain ⟨V1, hV⟩ : ∃ V1, w.alloc (.cells #[.bool n1, .slice a1 l1 c1, .bool n2, .slice a2 l2 c2] 47) = V1 := ⟨_, rfl⟩
  obtain ⟨b, sz1⟩ := alo1 w (.cells #[.bool n1, .slice a1 l1 c1, .bool n2, .slice a2 l2 c2] 47)
  rw [hV] at b sz1
  have C : Cel V1 w.heap.size 47 [.bool n1, .slice a1 l1 c1, .bool n2, .slice a2 l2 c2] := by rw [← hV]; exact Cel.new w _ _
  have HS := hid (sign_z (h.now b))
  have B1 := hid b
  have EV := hid hV
  have n2 := C.at (i := 2) rfl
  have n3 := C.at (i := 3) rfl
  rw [← hV] at n2 n3
  clear h b sz1 hV C
  go_enter Tryz.func55, Tryz.ntmps55
  go_wp2_with fail
  rw [EV.out]
  refine HS.out.mono ?_
  rintro e w1 ⟨rfl, b⟩
  have FF : Hid (SaysP w (D = 0) (.returned (.bool (decide (cmpI D 0 = 0)))) w1) := by
    unfold Hid; rw [cmpI_zero17]; exact ⟨_, rfl, decide_eq_true_iff, below_step B1.out b⟩
  clear HS EV B1 b n2 n3
  go_wp2
  go_ret
  exact FF.out
def IxF (w : World) (n : Nat) (Bad : Nat → Prop) (gk : Nat) (s : Value) (wx : World) : Prop := ∃ i : Nat, s = .int .i64 (i : Int) ∧ i ≤ n ∧ gk = n - i ∧ (∀ j, j < i → ¬ Bad j) ∧ Below w.heap.size w wx
def IxD (w : World) (n : Nat) (Bad : Nat → Prop) (e : Ending) (w' : World) : Prop := ∃ r : Int, e = .returned (.int .i64 r) ∧ ((0 : Int) ≤ r ↔ ∃ j, j < n ∧ Bad j) ∧ Below w.heap.size w w'
set_option maxHeartbeats 1600000 in
set_option maxRecDepth 100000 in
theorem indexF17 {w : World} {v : Value} {n k : Nat} {P Q : Nat → Int} (hv : Qs w v n P Q k) : Calls Tryz.prog 86 #[v, .func (.func 55) #[] #[]] w (IxD w n (fun j => Q j = 0)) := by
  have HV := hid hv
  obtain ⟨a0, c0, rfl, hc0, hn, hf0⟩ := hv.form
  have F0 := hid hf0
  have H0 : Hid (IxF w n (fun j => Q j = 0) n (.int .i64 0) w) := ⟨0, rfl, Nat.zero_le _, rfl, fun j hj => by omega, Below.refl _ _⟩
  clear hv hf0
  go_enter Tryz.func86, Tryz.ntmps86
  go_wp2_with fail
  go_loopg [8] n (fun gk s8 wx => IxF w n (fun j => Q j = 0) gk s8 wx)
  case atStart => exact H0.out
  case round =>
    clear H0
    obtain ⟨i, rfl, hi, hg, hz, hb⟩ := hrel
    have HZ := hid hz
    have HG := hid hg
    have G := hid hb
    clear hz hg hb
    by_cases hlt : i < n
    · have hlt' : (i : Int) < (n : Int) := by omega
      obtain ⟨bv, ov, rfl⟩ := F0.out (by omega)
      obtain ⟨n1, a1, l1, c1, n2, a2, l2, c2, e1, e2, e3, e4, zp, zq⟩ := (HV.out.now G.out).at hlt
      have HS := hid (isNo17 (n1 := n1) (a1 := a1) (l1 := l1) (c1 := c1) zq)
      have hw := wrapI9 (i := i) (by omega)
      clear zp zq
      go_wp2_with fail
      refine HS.out.mono ?_
      rintro e w1 ⟨bq, rfl, hbq, b⟩
      have HBQ := hid hbq
      have G1 := hid (below_step G.out b)
      clear hbq b HS G e1 e2 e3 e4
      cases bq with
      | false =>
        have HN : Hid (IxF w n (fun j => Q j = 0) (n - (i + 1)) (.int .i64 ((i + 1 : Nat) : Int)) w1) := ⟨i + 1, rfl, by omega, rfl, fun j hj => by
          by_cases q : j < i
          · exact HZ.out j q
          · obtain rfl : j = i := by omega
            exact fun q => Bool.false_ne_true (HBQ.out.2 q), G1.out⟩
        have HMM : Hid (n - (i + 1) < gk) := by unfold Hid; rw [HG.out]; omega
        clear HBQ G1 HZ HG
        go_wp2_with fail
        go_roundg (n - (i + 1))
        case rel => exact HN.out
        case measure => exact HMM.out
      | true =>
        have FF : Hid (IxD w n (fun j => Q j = 0) (.returned (.int .i64 (i : Int))) w1) := ⟨_, rfl, ⟨fun _ => ⟨i, hlt, HBQ.out.1 rfl⟩, fun _ => by omega⟩, G1.out⟩
        clear HBQ G1 HZ HG
        go_wp2
        go_ret
        exact FF.out
    · have hlt' : ¬ (i : Int) < (n : Int) := by omega
      have FF : Hid (IxD w n (fun j => Q j = 0) (.returned (.int .i64 (-1))) wr) := ⟨_, rfl, ⟨fun q => by omega, fun ⟨j, hj, q⟩ => absurd q (HZ.out j (by omega))⟩, G.out⟩
      clear HZ HG G
      go_wp2
      go_ret
      exact FF.out
set_option maxHeartbeats 800000 in
set_option maxRecDepth 100000 in
theorem containsF17 {w : World} {v : Value} {n k : Nat} {P Q : Nat → Int} (hv : Qs w v n P Q k) : Calls Tryz.prog 54 #[v, .func (.func 55) #[] #[]] w (SaysP w (∃ j, j < n ∧ Q j = 0)) := by
  have HI := hid (indexF17 hv)
  obtain ⟨a0, c0, rfl, -, -, -⟩ := hv
  go_enter Tryz.func54, Tryz.ntmps54
  go_wp2_with fail
  refine HI.out.mono ?_
  rintro e w1 ⟨r, rfl, hr, b⟩
  have FIN : Hid (SaysP w (∃ j, j < n ∧ Q j = 0) (.returned (.bool (decide (0 ≤ r)))) w1) := ⟨_, rfl, by rw [decide_eq_true_eq]; exact hr, b⟩
  clear HI hr b
  go_wp2
  go_ret
  exact FIN.out
set_option maxHeartbeats 800000 in
set_option maxRecDepth 100000 in
theorem hasNo17 {w : World} {r c : Int} {a : Option Addr} {l cap k : Nat} {P Q : Nat → Int} (hv : Qs w (.slice a l cap) l P Q k) : Calls Tryz.prog 65 #[.agg #[.int .i64 r, .int .i64 c, .slice a l cap]] w (SaysP w (∃ j, j < l ∧ Q j = 0)) := by
  obtain ⟨W0, hW⟩ : ∃ W0, w.alloc (.cells #[.int .i64 r, .int .i64 c, .slice a l cap] 24) = W0 := ⟨_, rfl⟩
  obtain ⟨b0, sz0⟩ := alo1 w (.cells #[.int .i64 r, .int .i64 c, .slice a l cap] 24)
  rw [hW] at b0 sz0
  have P1 : Hid (Cel W0 w.heap.size 24 [.int .i64 r, .int .i64 c, .slice a l cap]) := by unfold Hid; rw [← hW]; exact Cel.new w _ _
  have x2 := P1.out.at (i := 2) rfl
  rw [← hW] at x2
  have HI := hid (containsF17 (hv.now b0))
  have G0 := hid b0
  have EW := hid hW
  clear b0 sz0 hW P1 hv
  go_enter Tryz.func65, Tryz.ntmps65
  go_wp2_with fail
  rw [EW.out]
  refine HI.out.mono ?_
  rintro e w1 ⟨bq, rfl, hbq, b⟩
  have FIN : Hid (SaysP w (∃ j, j < l ∧ Q j = 0) (.returned (.bool bq)) w1) := ⟨_, rfl, hbq, below_step G0.out b⟩
  clear HI hbq b G0 EW x2
  go_wp2
  go_ret
  exact FIN.out
set_option maxHeartbeats 1600000 in
set_option maxRecDepth 100000 in
theorem isUnsound17 {w : World} {r c : Int} {a : Option Addr} {l cap : Nat} : Calls Tryz.prog 64 #[.agg #[.int .i64 r, .int .i64 c, .slice a l cap]] w (SaysP w (¬ Snd r c l)) := by
  obtain ⟨W0, hW⟩ : ∃ W0, w.alloc (.cells #[.int .i64 r, .int .i64 c, .slice a l cap] 24) = W0 := ⟨_, rfl⟩
  obtain ⟨b0, sz0⟩ := alo1 w (.cells #[.int .i64 r, .int .i64 c, .slice a l cap] 24)
  rw [hW] at b0 sz0
  have P1 : Hid (Cel W0 w.heap.size 24 [.int .i64 r, .int .i64 c, .slice a l cap]) := by unfold Hid; rw [← hW]; exact Cel.new w _ _
  have x0 := P1.out.at (i := 0) rfl
  have x1 := P1.out.at (i := 1) rfl
  have x2 := P1.out.at (i := 2) rfl
  rw [← hW] at x0 x1 x2
  have G0 := hid b0
  have EW := hid hW
  clear b0 sz0 hW P1
  by_cases h1 : min r c < 0
  · have FF : Hid (SaysP w (¬ Snd r c l) (.returned (.bool true)) W0) := ⟨true, rfl, ⟨fun _ h => by unfold Snd at h; omega, fun _ => rfl⟩, G0.out⟩
    go_enter Tryz.func64, Tryz.ntmps64
    go_wp2
    rw [EW.out]
    go_ret
    exact FF.out
  by_cases h2 : 64 < max r c
  · have FF : Hid (SaysP w (¬ Snd r c l) (.returned (.bool true)) W0) := ⟨true, rfl, ⟨fun _ h => by unfold Snd at h; omega, fun _ => rfl⟩, G0.out⟩
    have h1' : 0 ≤ min r c := by omega
    go_enter Tryz.func64, Tryz.ntmps64
    go_wp2
    rw [EW.out]
    go_ret
    exact FF.out
  have h1' : 0 ≤ min r c := by omega
  have h2' : max r c ≤ 64 := by omega
  have hb1 : 0 ≤ r * c := Int.mul_nonneg (by omega) (by omega)
  have hb2 : r * c ≤ 64 * 64 := Int.mul_le_mul (by omega) (by omega) (by omega) (by omega)
  have hm : IntKind.i64.wrap (r * c) = r * c := by rw [wrap_is] <;> omega
  obtain ⟨p, hp⟩ : ∃ p, r * c = p := ⟨_, rfl⟩
  have HP := hid hp
  rw [hp] at hm
  have hm2 := hm
  rw [← hp, IntKind.wrap_i64, hp] at hm2
  by_cases h3 : (l : Int) = p
  · have FF : Hid (SaysP w (¬ Snd r c l) (.returned (.bool false)) W0) := ⟨false, rfl, ⟨fun q => (Bool.false_ne_true q).elim, fun q => absurd ⟨by omega, by omega, by omega, by omega, by rw [HP.out]; exact h3⟩ q⟩, G0.out⟩
    have h3' : ((l : Int) != p) = false := by simp [h3]
    clear h3
    rw [← hp] at hm hm2 h3'
    clear hp HP
    go_enter Tryz.func64, Tryz.ntmps64
    go_wp2
    rw [EW.out]
    go_ret
    exact FF.out
  · have FF : Hid (SaysP w (¬ Snd r c l) (.returned (.bool true)) W0) := ⟨true, rfl, ⟨fun _ h => h3 (by rw [h.2.2.2.2, HP.out]), fun _ => rfl⟩, G0.out⟩
    have h3' : ((l : Int) != p) = true := by simp [h3]
    rw [← hp] at hm hm2 h3' h3
    clear hp HP
    go_enter Tryz.func64, Tryz.ntmps64
    go_wp2
    rw [EW.out]
    go_ret
    exact FF.out
end Go.Proofs.YtcceoildbnoliaaGreat

/- Fb17 -/
namespace Go.Proofs.YtcceoildbnoliaaGreat
open Go.RowKit
set_option linter.unusedVariables false

/-- A matrix of fractions as it was handed in. -/
structure Qr (w : World) where
  r : Int
  c : Int
  a : Option Addr
  l : Nat
  cap : Nat
abbrev Qr.v {w : World} (q : Qr w) : Value := .agg #[.int .i64 q.r, .int .i64 q.c, .slice q.a q.l q.cap]
/-- Matrices side by side in an array. -/
def Qms (w : World) (g n : Nat) (q : Nat → Qr w) (wx : World) : Prop := ∀ j, j < n → wx.cell? ⟨g, j * 3, none⟩ = some (.int .i64 (q j).r) ∧ wx.cell? ⟨g, j * 3 + 1, none⟩ = some (.int .i64 (q j).c) ∧ wx.cell? ⟨g, j * 3 + 2, none⟩ = some (.slice (q j).a (q j).l (q j).cap)
set_option maxHeartbeats 1600000 in
set_option maxRecDepth 100000 in
theorem indexQ17u {w w0 : World} {g n : Nat} {q : Nat → Qr w0} {Bad : Nat → Prop} (hn : n ≤ 64) (hc : Qms w0 g n q w) (hF : ∀ j, j < n → ∀ wx, Below w.heap.size w wx → Calls Tryz.prog 64 #[(q j).v] wx (SaysP wx (Bad j))) :
    Calls Tryz.prog 91 #[.slice (some ⟨g, 0, none⟩) n n, .func (.func 64) #[] #[]] w (IxD w n Bad) := by
  have HC := hid hc
  have HF : Hid (∀ j, j < n → ∀ wx, Below w.heap.size w wx → Calls Tryz.prog 64 #[(q j).v] wx (SaysP wx (Bad j))) := hF
  have H0 : Hid (IxF w n Bad n (.int .i64 0) w) := ⟨0, rfl, Nat.zero_le _, rfl, fun j hj => by omega, Below.refl _ _⟩
  clear hc hF
  go_enter Tryz.func91, Tryz.ntmps91
  go_wp2_with fail
  go_loopg [8] n (fun gk s8 wx => IxF w n Bad gk s8 wx)
  case atStart => exact H0.out
  case round =>
    clear H0
    obtain ⟨i, rfl, hi, hg, hz, hb⟩ := hrel
    have HZ := hid hz
    have HG := hid hg
    have G := hid hb
    clear hz hg hb
    by_cases hlt : i < n
    · have hlt' : (i : Int) < (n : Int) := by omega
      obtain ⟨e1, e2, e3⟩ := HC.out i hlt
      replace e1 := cnow G.out e1
      replace e2 := cnow G.out e2
      replace e3 := cnow G.out e3
      have HS := hid (HF.out i hlt wr G.out)
      have hw := wrapI9 (i := i) (by omega)
      go_wp2_with fail
      refine HS.out.mono ?_
      rintro e w1 ⟨bq, rfl, hbq, b⟩
      have HBQ := hid hbq
      have G1 := hid (below_step G.out b)
      clear hbq b HS G e1 e2 e3
      cases bq with
      | false =>
        have HN : Hid (IxF w n Bad (n - (i + 1)) (.int .i64 ((i + 1 : Nat) : Int)) w1) := ⟨i + 1, rfl, by omega, rfl, fun j hj => by
          by_cases q : j < i
          · exact HZ.out j q
          · obtain rfl : j = i := by omega
            exact fun q => Bool.false_ne_true (HBQ.out.2 q), G1.out⟩
        have HMM : Hid (n - (i + 1) < gk) := by unfold Hid; rw [HG.out]; omega
        clear HBQ G1 HZ HG
        go_wp2_with fail
        go_roundg (n - (i + 1))
        case rel => exact HN.out
        case measure => exact HMM.out
      | true =>
        have FF : Hid (IxD w n Bad (.returned (.int .i64 (i : Int))) w1) := ⟨_, rfl, ⟨fun _ => ⟨i, hlt, HBQ.out.1 rfl⟩, fun _ => by omega⟩, G1.out⟩
        clear HBQ G1 HZ HG
        go_wp2
        go_ret
        exact FF.out
    · have hlt' : ¬ (i : Int) < (n : Int) := by omega
      have FF : Hid (IxD w n Bad (.returned (.int .i64 (-1))) wr) := ⟨_, rfl, ⟨fun q => by omega, fun ⟨j, hj, q⟩ => absurd q (HZ.out j (by omega))⟩, G.out⟩
      clear HZ HG G
      go_wp2
      go_ret
      exact FF.out
set_option maxHeartbeats 800000 in
set_option maxRecDepth 100000 in
theorem containsQ17u {w w0 : World} {g n : Nat} {q : Nat → Qr w0} {Bad : Nat → Prop} (hn : n ≤ 64) (hc : Qms w0 g n q w) (hF : ∀ j, j < n → ∀ wx, Below w.heap.size w wx → Calls Tryz.prog 64 #[(q j).v] wx (SaysP wx (Bad j))) :
    Calls Tryz.prog 63 #[.slice (some ⟨g, 0, none⟩) n n, .func (.func 64) #[] #[]] w (SaysP w (∃ j, j < n ∧ Bad j)) := by
  have HI := hid (indexQ17u hn hc hF)
  clear hc hF
  go_enter Tryz.func63, Tryz.ntmps63
  go_wp2_with fail
  refine HI.out.mono ?_
  rintro e w1 ⟨r, rfl, hr, b⟩
  have FIN : Hid (SaysP w (∃ j, j < n ∧ Bad j) (.returned (.bool (decide (0 ≤ r)))) w1) := ⟨_, rfl, by rw [decide_eq_true_eq]; exact hr, b⟩
  clear HI hr b
  go_wp2
  go_ret
  exact FIN.out
set_option maxHeartbeats 1600000 in
set_option maxRecDepth 100000 in
theorem indexQ17h {w w0 : World} {g n : Nat} {q : Nat → Qr w0} {Bad : Nat → Prop} (hn : n ≤ 64) (hc : Qms w0 g n q w) (hF : ∀ j, j < n → ∀ wx, Below w.heap.size w wx → Calls Tryz.prog 65 #[(q j).v] wx (SaysP wx (Bad j))) :
    Calls Tryz.prog 91 #[.slice (some ⟨g, 0, none⟩) n n, .func (.func 65) #[] #[]] w (IxD w n Bad) := by
  have HC := hid hc
  have HF : Hid (∀ j, j < n → ∀ wx, Below w.heap.size w wx → Calls Tryz.prog 65 #[(q j).v] wx (SaysP wx (Bad j))) := hF
  have H0 : Hid (IxF w n Bad n (.int .i64 0) w) := ⟨0, rfl, Nat.zero_le _, rfl, fun j hj => by omega, Below.refl _ _⟩
  clear hc hF
  go_enter Tryz.func91, Tryz.ntmps91
  go_wp2_with fail
  go_loopg [8] n (fun gk s8 wx => IxF w n Bad gk s8 wx)
  case atStart => exact H0.out
  case round =>
    clear H0
    obtain ⟨i, rfl, hi, hg, hz, hb⟩ := hrel
    have HZ := hid hz
    have HG := hid hg
    have G := hid hb
    clear hz hg hb
    by_cases hlt : i < n
    · have hlt' : (i : Int) < (n : Int) := by omega
      obtain ⟨e1, e2, e3⟩ := HC.out i hlt
      replace e1 := cnow G.out e1
      replace e2 := cnow G.out e2
      replace e3 := cnow G.out e3
      have HS := hid (HF.out i hlt wr G.out)
      have hw := wrapI9 (i := i) (by omega)
      go_wp2_with fail
      refine HS.out.mono ?_
      rintro e w1 ⟨bq, rfl, hbq, b⟩
      have HBQ := hid hbq
      have G1 := hid (below_step G.out b)
      clear hbq b HS G e1 e2 e3
      cases bq with
      | false =>
        have HN : Hid (IxF w n Bad (n - (i + 1)) (.int .i64 ((i + 1 : Nat) : Int)) w1) := ⟨i + 1, rfl, by omega, rfl, fun j hj => by
          by_cases q : j < i
          · exact HZ.out j q
          · obtain rfl : j = i := by omega
            exact fun q => Bool.false_ne_true (HBQ.out.2 q), G1.out⟩
        have HMM : Hid (n - (i + 1) < gk) := by unfold Hid; rw [HG.out]; omega
        clear HBQ G1 HZ HG
        go_wp2_with fail
        go_roundg (n - (i + 1))
        case rel => exact HN.out
        case measure => exact HMM.out
      | true =>
        have FF : Hid (IxD w n Bad (.returned (.int .i64 (i : Int))) w1) := ⟨_, rfl, ⟨fun _ => ⟨i, hlt, HBQ.out.1 rfl⟩, fun _ => by omega⟩, G1.out⟩
        clear HBQ G1 HZ HG
        go_wp2
        go_ret
        exact FF.out
    · have hlt' : ¬ (i : Int) < (n : Int) := by omega
      have FF : Hid (IxD w n Bad (.returned (.int .i64 (-1))) wr) := ⟨_, rfl, ⟨fun q => by omega, fun ⟨j, hj, q⟩ => absurd q (HZ.out j (by omega))⟩, G.out⟩
      clear HZ HG G
      go_wp2
      go_ret
      exact FF.out
set_option maxHeartbeats 800000 in
set_option maxRecDepth 100000 in
theorem containsQ17h {w w0 : World} {g n : Nat} {q : Nat → Qr w0} {Bad : Nat → Prop} (hn : n ≤ 64) (hc : Qms w0 g n q w) (hF : ∀ j, j < n → ∀ wx, Below w.heap.size w wx → Calls Tryz.prog 65 #[(q j).v] wx (SaysP wx (Bad j))) :
    Calls Tryz.prog 63 #[.slice (some ⟨g, 0, none⟩) n n, .func (.func 65) #[] #[]] w (SaysP w (∃ j, j < n ∧ Bad j)) := by
  have HI := hid (indexQ17h hn hc hF)
  clear hc hF
  go_enter Tryz.func63, Tryz.ntmps63
  go_wp2_with fail
  refine HI.out.mono ?_
  rintro e w1 ⟨r, rfl, hr, b⟩
  have FIN : Hid (SaysP w (∃ j, j < n ∧ Bad j) (.returned (.bool (decide (0 ≤ r)))) w1) := ⟨_, rfl, by rw [decide_eq_true_eq]; exact hr, b⟩
  clear HI hr b
  go_wp2
  go_ret
  exact FIN.out
/-- Which error comes first. -/
def FltIs (bad nof : Prop) (fits : Bool) (code : Int) : Prop := (code = 1 ∧ bad) ∨ (code = 2 ∧ ¬ bad ∧ fits = false) ∨ (code = 4 ∧ ¬ bad ∧ fits = true ∧ nof) ∨ (code = 0 ∧ ¬ bad ∧ fits = true ∧ ¬ nof)
def Flt (w : World) (bad nof : Prop) (fits : Bool) (e : Ending) (w' : World) : Prop := ∃ code : Int, e = .returned (.int .i64 code) ∧ FltIs bad nof fits code ∧ Below w.heap.size w w'
set_option maxHeartbeats 1600000 in
set_option maxRecDepth 100000 in
theorem fault17 {w w0 : World} {g n k : Nat} {q : Nat → Qr w0} {P Q : Nat → Nat → Int} {fits : Bool} (hn : n ≤ 64) (hc : Qms w0 g n q w) (hv : ∀ j, j < n → Qs w (.slice (q j).a (q j).l (q j).cap) (q j).l (P j) (Q j) k) :
    Calls Tryz.prog 28 #[.bool fits, .slice (some ⟨g, 0, none⟩) n n] w (Flt w (∃ j, j < n ∧ ¬ Snd (q j).r (q j).c (q j).l) (∃ j, j < n ∧ ∃ t, t < (q j).l ∧ Q j t = 0) fits) := by
  have H1 := hid (containsQ17u (Bad := fun j => ¬ Snd (q j).r (q j).c (q j).l) hn hc (fun j hj wx hb => isUnsound17))
  have H2 : Hid (∀ wx, Below w.heap.size w wx → Calls Tryz.prog 63 #[.slice (some ⟨g, 0, none⟩) n n, .func (.func 65) #[] #[]] wx (SaysP wx (∃ j, j < n ∧ ∃ t, t < (q j).l ∧ Q j t = 0))) := fun wx hb =>
    containsQ17h (Bad := fun j => ∃ t, t < (q j).l ∧ Q j t = 0) hn (fun j hj => ⟨cnow hb (hc j hj).1, cnow hb (hc j hj).2.1, cnow hb (hc j hj).2.2⟩) (fun j hj wx' hb' => hasNo17 (((hv j hj).now hb).now hb'))
  clear hc hv
  obtain ⟨bad, hbad⟩ : ∃ bad : Prop, (∃ j, j < n ∧ ¬ Snd (q j).r (q j).c (q j).l) = bad := ⟨_, rfl⟩
  obtain ⟨nof, hnof⟩ : ∃ nof : Prop, (∃ j, j < n ∧ ∃ t, t < (q j).l ∧ Q j t = 0) = nof := ⟨_, rfl⟩
  rw [hbad] at H1
  rw [hnof] at H2
  rw [hbad, hnof]
  clear hbad hnof
  go_enter Tryz.func28, Tryz.ntmps28
  go_wp2_with fail
  refine H1.out.mono ?_
  rintro e w1 ⟨b1, rfl, hb1, bb⟩
  have B1 := hid hb1
  have HS2 := hid (H2.out w1 bb)
  have BB := hid bb
  clear H1 H2 hb1 bb
  cases b1 with
  | true =>
    have FF : Hid (Flt w bad nof fits (.returned (.int .i64 1)) w1) := ⟨1, rfl, .inl ⟨rfl, B1.out.1 rfl⟩, BB.out⟩
    clear B1 HS2 BB
    go_wp2
    go_ret
    exact FF.out
  | false =>
    have NB : Hid (¬ bad) := fun h => Bool.false_ne_true (B1.out.2 h)
    clear B1
    cases fits with
    | false =>
      have FF : Hid (Flt w bad nof false (.returned (.int .i64 2)) w1) := ⟨2, rfl, .inr (.inl ⟨rfl, NB.out, rfl⟩), BB.out⟩
      clear NB HS2 BB
      go_wp2
      go_ret
      exact FF.out
    | true =>
      go_wp2_with fail
      refine HS2.out.mono ?_
      rintro e w2 ⟨b2, rfl, hb2, bb⟩
      have B2 := hid hb2
      have G2 := hid (below_step BB.out bb)
      clear hb2 bb HS2 BB
      cases b2 with
      | true =>
        have FF : Hid (Flt w bad nof true (.returned (.int .i64 4)) w2) := ⟨4, rfl, .inr (.inr (.inl ⟨rfl, NB.out, rfl, B2.out.1 rfl⟩)), G2.out⟩
        clear NB B2 G2
        go_wp2
        go_ret
        exact FF.out
      | false =>
        have FF : Hid (Flt w bad nof true (.returned (.int .i64 0)) w2) := ⟨0, rfl, .inr (.inr (.inr ⟨rfl, NB.out, rfl, fun h => Bool.false_ne_true (B2.out.2 h)⟩)), G2.out⟩
        clear NB B2 G2
        go_wp2
        go_ret
        exact FF.out
end Go.Proofs.YtcceoildbnoliaaGreat
