/-
  QSign4ToUpTo4: Sign4, Texts4, UpTo4, joined.
-/
import Derived.Test.YtaflidiokhaljaaDoorQReadToTxtBack
import Derived.Test.YtaflidiokhaljaaDoorQRDec4

/- Sign4 -/
namespace Go.Proofs.YtaflidiokhaljaaDoor
open Go.RowKit
set_option linter.unusedVariables false

/-- The value that the law's sign answers. -/
def sgv (c : Nat) : Int := if 48 ≤ c ∧ c ≤ 57 then (c : Int) - 48 else if 97 ≤ c ∧ c ≤ 122 then (c : Int) - 87 else if 65 ≤ c ∧ c ≤ 90 then (c : Int) - 55 else -1
theorem sgv_ok {c B : Nat} (hB : B ≤ 36) : (0 ≤ sgv c ∧ sgv c < (B : Int)) ↔ dv c < B := by
  unfold sgv dv
  (repeat' split) <;> omega
theorem sgv_dv {c : Nat} (h : dv c < 36) : sgv c = (dv c : Int) := by
  unfold dv at h ⊢
  unfold sgv
  (repeat' split at h) <;> (repeat' split) <;> omega
theorem txt_ff : txt 16 255 = ⟨#[102, 102]⟩ := by
  have e : lead (digF 16 255 255) = [15, 15] := by
    rw [leadD_any (k := 2) (lt_pow_self (by omega) 255) (by decide)]
    decide
  unfold txt txtL
  rw [if_neg (by decide), e]
  rfl
set_option maxRecDepth 100000 in
theorem awake4_any {w : World} (hT : Sg w) : Calls Tryd.prog 7 #[] w fun e w' => e = .returned (.bool true) ∧ Below w.heap.size w w' := by
  have k := (Below.refl w.heap.size w).alloc (Nat.le_refl _) (.cells #[.int .u64 255] 33)
  have hs := lit_one w 255 (by unfold IsW wB; omega)
  have HT := hid (text_any (B := 16) hs (by simp) (by omega) (by omega) (hT.now k))
  have e1 : vn [255] = 255 := by simp [vn]
  rw [e1, txt_ff] at HT
  have K := hid k
  clear k hs hT e1
  go_enter Tryd.func7, Tryd.ntmps7
  go_wp2_with fail
  refine HT.out.mono ?_
  rintro e w1 ⟨rfl, k1⟩
  have K1 := hid (below_step K.out k1)
  clear k1 HT K
  go_wp2
  go_ret
  exact ⟨rfl, K1.out⟩
theorem digits_any {w : World} {va : Value} {xs : List Int} (ha : Sl w.heap.size w va xs) (lx : xs.length ≤ 1048576) (hT : Sg w) :
    Calls Tryd.prog 15 #[va] w fun e w' => e = .returned (.int .i64 ((txtL 10 (vn xs)).length : Int)) ∧ Below w.heap.size w w' := by
  have HT := hid (dec_any ha lx hT)
  obtain ⟨a, c, rfl⟩ : ∃ a c, va = .slice a xs.length c := by obtain ⟨_, a, c, e, _⟩ := ha; exact ⟨a, c, e⟩
  have hsz : (txt 10 (vn xs)).size = (txtL 10 (vn xs)).length := mk_size _
  clear ha hT
  generalize txt 10 (vn xs) = t at *
  generalize (txtL 10 (vn xs)).length = n at *
  go_enter Tryd.func15, Tryd.ntmps15
  go_wp2_with fail
  refine HT.out.mono ?_
  rintro e w1 ⟨rfl, k1⟩
  have K1 := hid k1
  clear k1 HT
  go_wp2
  go_ret
  exact ⟨rfl, K1.out⟩
end Go.Proofs.YtaflidiokhaljaaDoor

/- Texts4 -/
namespace Go.Proofs.YtaflidiokhaljaaDoor
open Go.RowKit
set_option linter.unusedVariables false

set_option maxRecDepth 100000 in
set_option maxHeartbeats 1600000 in
theorem texts_any {w : World} {va : Value} {xs : List Int} (ha : Sl w.heap.size w va xs) (lx : xs.length ≤ 1048576) (hT : Sg w) (kind : Int) (s : ByteArray) {b : Int} (h0 : -9223372036854775808 ≤ b) (h1 : b ≤ 9223372036854775807) :
    Calls Tryd.prog 8 #[.agg #[.int .i64 kind, va, .string s, .int .i64 b]] w fun e w' => e = .returned (.bool true) ∧ Below w.heap.size w w' := by
  have HA := hid ha
  have HT := hid hT
  have HL := hid lx
  obtain ⟨a, c, rfl⟩ : ∃ a c, va = .slice a xs.length c := by obtain ⟨_, a, c, e, _⟩ := ha; exact ⟨a, c, e⟩
  have HGT : Hid (∀ c ∈ txtL 10 (vn xs), c.toNat < 128) := fun c hc => (good_ten (txt_back (B := 10) (n := vn xs) (by omega) (by omega)).1.2 hc).1
  clear ha hT lx
  obtain ⟨n, hn⟩ : ∃ n, xs.length = n := ⟨_, rfl⟩
  rw [hn] at HA ⊢
  clear hn
  obtain ⟨W0, hW⟩ : ∃ W0, w.alloc (.cells #[.int .i64 kind, .slice a n c, .string s, .int .i64 b] 28) = W0 := ⟨_, rfl⟩
  obtain ⟨b0, sz0⟩ := alo4 w (.cells #[.int .i64 kind, .slice a n c, .string s, .int .i64 b] 28)
  rw [hW] at b0 sz0
  have hcel : W0.heap[w.heap.size]? = some (.cells #[.int .i64 kind, .slice a n c, .string s, .int .i64 b] 28 (0, 0)) := by rw [← hW]; exact heap_alloc_new w _
  have hblk : w.heap.size < W0.heap.size := by omega
  have HCE : Hid (∀ w', Below W0.heap.size W0 w' → w'.cell? ⟨w.heap.size, 1, none⟩ = some (.slice a n c) ∧ w'.cell? ⟨w.heap.size, 3, none⟩ = some (.int .i64 b)) := fun w' h => by
    have q := (h.block _ hblk).trans hcel
    exact ⟨by simp [World.cell?, q], by simp [World.cell?, q]⟩
  have G := hid b0
  have EW := hid hW
  clear b0 sz0 hW hcel hblk
  obtain ⟨c1, c3⟩ := HCE.out W0 (Below.refl _ _)
  rw [← EW.out] at c1 c3
  by_cases k1 : kind = 1
  · subst k1
    by_cases hb : 2 ≤ b ∧ b ≤ 36
    · obtain ⟨B, rfl⟩ : ∃ B : Nat, b = (B : Int) := ⟨b.toNat, by omega⟩
      have hB : 2 ≤ B := by omega
      have hB2 : B ≤ 36 := by omega
      clear hb h0 h1
      go_enter Tryd.func8, Tryd.ntmps8
      go_wp2_with fail
      rw [EW.out]
      refine (rtext_any (HA.out.now G.out) HL.out hB hB2).mono ?_
      rintro e w1 ⟨rfl, q1⟩
      replace G := hid (below_step G.out q1)
      obtain ⟨c1', c3'⟩ := HCE.out w1 q1
      clear q1 c1 c3 EW HCE
      generalize HTX : txt B (vn xs) = tx at *
      have HTX' := hid HTX
      clear HTX
      go_wp2_with fail
      refine (text_any (HA.out.now G.out) HL.out hB hB2 (HT.out.now G.out)).mono ?_
      rintro e w2 ⟨rfl, q2⟩
      rw [HTX'.out]
      replace G := hid (below_step G.out q2)
      clear q2 HTX'
      go_wp2
      go_ret
      exact ⟨rfl, G.out⟩
    · go_enter Tryd.func8, Tryd.ntmps8
      have HB := hid hb
      clear hb
      go_wp2_with fail
      rw [EW.out]
      refine (rtext_bad h0 h1 HB.out _).mono ?_
      rintro e w1 ⟨rfl, q1⟩
      rw [q1]
      obtain ⟨c1', c3'⟩ := HCE.out W0 (Below.refl _ _)
      clear c1 c3 EW HCE q1
      go_wp2_with fail
      refine (text_bad h0 h1 HB.out _).mono ?_
      rintro e w2 ⟨rfl, q2⟩
      rw [q2]
      clear q2
      go_wp2
      go_ret
      exact ⟨rfl, G.out⟩
  · have e1 : (kind == 1) = false := by simp [k1]
    by_cases k2 : kind = 2
    · subst k2
      clear k1
      go_enter Tryd.func8, Tryd.ntmps8
      go_wp2_with fail
      rw [EW.out]
      refine (rdec_any (HA.out.now G.out) HL.out).mono ?_
      rintro e w1 ⟨rfl, q1⟩
      replace G := hid (below_step G.out q1)
      obtain ⟨c1', c3'⟩ := HCE.out w1 q1
      clear q1 c1 c3 EW HCE
      generalize HTX : txt 10 (vn xs) = tx at *
      have HTX' := hid HTX
      clear HTX
      go_wp2_with fail
      refine (dec_any (HA.out.now G.out) HL.out (HT.out.now G.out)).mono ?_
      rintro e w2 ⟨rfl, q2⟩
      rw [HTX'.out]
      replace G := hid (below_step G.out q2)
      clear q2 HTX'
      go_wp2
      go_ret
      exact ⟨rfl, G.out⟩
    · have e2 : (kind == 2) = false := by simp [k2]
      by_cases k3 : kind = 3
      · subst k3
        clear k1 k2
        go_enter Tryd.func8, Tryd.ntmps8
        go_wp2_with fail
        rw [EW.out]
        refine (rdigits_any (HA.out.now G.out) HL.out).mono ?_
        rintro e w1 ⟨rfl, q1⟩
        replace G := hid (below_step G.out q1)
        obtain ⟨c1', c3'⟩ := HCE.out w1 q1
        clear q1 c1 c3 EW HCE
        generalize HTX : (txtL 10 (vn xs)).length = tx at *
        have HTX' := hid HTX
        clear HTX
        go_wp2_with fail
        refine (digits_any (HA.out.now G.out) HL.out (HT.out.now G.out)).mono ?_
        rintro e w2 ⟨rfl, q2⟩
        rw [HTX'.out]
        replace G := hid (below_step G.out q2)
        clear q2 HTX'
        go_wp2
        go_ret
        exact ⟨rfl, G.out⟩
      · have e3 : (kind == 3) = false := by simp [k3]
        clear k1 k2 k3
        go_enter Tryd.func8, Tryd.ntmps8
        go_wp2_with fail
        rw [EW.out]
        refine (rgrouped_any (HA.out.now G.out) HL.out).mono ?_
        rintro e w1 ⟨rfl, q1⟩
        replace G := hid (below_step G.out q1)
        obtain ⟨c1', c3'⟩ := HCE.out w1 q1
        have HGR := hid (grouped_any (HA.out.now G.out) HL.out (HT.out.now G.out) HGT.out)
        clear q1 c1 c3 EW HCE HGT
        generalize (grpF true (txtL 10 (vn xs))).toArray = tx at *
        go_wp2_with fail
        refine HGR.out.mono ?_
        rintro e w2 ⟨rfl, q2⟩
        replace G := hid (below_step G.out q2)
        clear q2 HGR
        go_wp2
        go_ret
        exact ⟨rfl, G.out⟩
end Go.Proofs.YtaflidiokhaljaaDoor

/- UpTo4 -/
namespace Go.Proofs.YtaflidiokhaljaaDoor
open Go.RowKit
set_option linter.unusedVariables false

/-- A script: its steps by their places. -/
structure Steps4 where
  kind : Nat → Int
  av : Nat → Value
  xs : Nat → List Int
  s : Nat → ByteArray
  n : Nat → Int
def Script4 (w : World) (a : Option Addr) (len cap : Nat) (s : Steps4) : Prop :=
  len ≤ cap ∧ cap ≤ 35184372088832 ∧
  (∀ k, k < len → Sl w.heap.size w (s.av k) (s.xs k) ∧ (s.xs k).length ≤ 1048576 ∧ (s.s k).size ≤ 1048576 ∧ -9223372036854775808 ≤ s.n k ∧ s.n k ≤ 9223372036854775807) ∧
  (len = 0 ∨ ∃ b off, a = some ⟨b, off, none⟩ ∧ b < w.heap.size ∧ ∀ k, k < len → w.cell? ⟨b, off + k * 4, none⟩ = some (.int .i64 (s.kind k)) ∧ w.cell? ⟨b, off + k * 4 + 1, none⟩ = some (s.av k) ∧ w.cell? ⟨b, off + k * 4 + 2, none⟩ = some (.string (s.s k)) ∧ w.cell? ⟨b, off + k * 4 + 3, none⟩ = some (.int .i64 (s.n k)))
/-- What the law's reads answers. -/
def ReadsOk (w0 : World) : Prop := ∀ (w : World) (a : Option Addr) (l c : Nat) (kind : Int) (s : ByteArray) (b : Int), Below w0.heap.size w0 w → Sg w → s.size ≤ 1048576 → -9223372036854775808 ≤ b → b ≤ 9223372036854775807 →
  Calls Tryd.prog 9 #[.agg #[.int .i64 kind, .slice a l c, .string s, .int .i64 b]] w fun e w' => e = .returned (.bool true) ∧ Below w.heap.size w w'

def UTH (w : World) (len gk : Nat) (s7 : Value) (wx : World) : Prop := ∃ k : Nat, gk = len - k ∧ s7 = .int .i64 (k : Int) ∧ k ≤ len ∧ Below w.heap.size w wx
set_option maxRecDepth 100000 in
set_option maxHeartbeats 3200000 in
theorem upTo4_any {w : World} {a : Option Addr} {len cap : Nat} {s : Steps4} (h : Script4 w a len cap s) (hT : Sg w) (lo hi : Int) (hR : hi < 5 ∨ ReadsOk w) :
    Calls Tryd.prog 6 #[.slice a len cap, .int .i64 lo, .int .i64 hi] w fun e w' => e = .returned (.bool true) ∧ Below w.heap.size w w' := by
  obtain ⟨hlc, hcm, hst, hm⟩ := h
  have HST := hid hst
  have HM := hid hm
  have HT := hid hT
  have HR := hid hR
  clear hst hm hT hR
  go_enter Tryd.func6, Tryd.ntmps6
  go_wp2_with fail
  refine (awake4_any HT.out).mono ?_
  rintro e w1 ⟨rfl, k1⟩
  have H0 : Hid (UTH w len len (.int .i64 0) w1) := ⟨0, rfl, rfl, Nat.zero_le _, k1⟩
  clear k1
  go_wp2_with fail
  go_loopg [7] len (fun gk s7 wx => UTH w len gk s7 wx)
  case atStart => exact H0.out
  case round =>
    clear H0
    obtain ⟨k, hgk, rfl, hk, hb⟩ := hrel
    have HG := hid hgk
    have HB := hid hb
    clear hgk hb
    by_cases hlt : k < len
    · have hlt' : (k : Int) < (len : Int) := by omega
      rcases HM.out with e | ⟨b, off, rfl, hbg, hc⟩
      · omega
      obtain ⟨hc0, hc1, hc2, hc3⟩ := hc k hlt
      have c0 := (HB.out.cell (p := ⟨b, off + k * 4, none⟩) hbg).trans hc0
      have c1 := (HB.out.cell (p := ⟨b, off + k * 4 + 1, none⟩) hbg).trans hc1
      have c2 := (HB.out.cell (p := ⟨b, off + k * 4 + 2, none⟩) hbg).trans hc2
      have c3 := (HB.out.cell (p := ⟨b, off + k * 4 + 3, none⟩) hbg).trans hc3
      obtain ⟨sa, la, ls, n0, n1⟩ := HST.out k hlt
      generalize s.kind k = kind at *
      generalize s.n k = n at *
      generalize s.av k = va at *
      generalize s.s k = st at *
      generalize s.xs k = xs at *
      obtain ⟨aa, ca, rfl⟩ : ∃ aa ca, va = .slice aa xs.length ca := by obtain ⟨_, aa, ca, e, _⟩ := sa; exact ⟨aa, ca, e⟩
      have SA := hid sa
      have LA := hid la
      have LS := hid ls
      have N0 := hid n0
      have N1 := hid n1
      have HMM : Hid (len - (k + 1) < gk) := by unfold Hid; rw [HG.out]; omega
      have hw3 : IntKind.i64.wrap ((k : Int) + 1) = ((k + 1 : Nat) : Int) := by rw [wrap_is] <;> omega
      clear hc hc0 hc1 hc2 hc3 sa la ls n0 n1 HG
      obtain ⟨nx, hnx⟩ : ∃ nx, xs.length = nx := ⟨_, rfl⟩
      rw [hnx] at c1 SA
      clear hnx
      obtain ⟨V, hV⟩ : ∃ V, wr.alloc (.cells #[.int .i64 kind, .slice aa nx ca, .string st, .int .i64 n] 28) = V := ⟨_, rfl⟩
      obtain ⟨bb, szb⟩ := alo4 wr (.cells #[.int .i64 kind, .slice aa nx ca, .string st, .int .i64 n] 28)
      rw [hV] at bb szb
      have GV := hid (below_step HB.out bb)
      have hcel : V.heap[wr.heap.size]? = some (.cells #[.int .i64 kind, .slice aa nx ca, .string st, .int .i64 n] 28 (0, 0)) := by rw [← hV]; exact heap_alloc_new wr _
      have hblk : wr.heap.size < V.heap.size := by omega
      have HCE : Hid (∀ w', Below V.heap.size V w' → w'.cell? ⟨wr.heap.size, 0, none⟩ = some (.int .i64 kind) ∧ w'.cell? ⟨wr.heap.size, 1, none⟩ = some (.slice aa nx ca) ∧ w'.cell? ⟨wr.heap.size, 2, none⟩ = some (.string st) ∧ w'.cell? ⟨wr.heap.size, 3, none⟩ = some (.int .i64 n)) := fun w' h => by
        have q := (h.block _ hblk).trans hcel
        exact ⟨by simp [World.cell?, q], by simp [World.cell?, q], by simp [World.cell?, q], by simp [World.cell?, q]⟩
      have EV := hid hV
      obtain ⟨d0, d1, d2, d3⟩ := HCE.out V (Below.refl _ _)
      rw [← hV] at d0 d1 d2 d3
      clear bb szb hV hcel hblk
      have HNX : Hid (∀ wx, Below w.heap.size w wx → UTH w len (len - (k + 1)) (.int .i64 ((k + 1 : Nat) : Int)) wx) := fun wx h => ⟨k + 1, rfl, rfl, by omega, h⟩
      by_cases ha : kind < lo
      · replace HNX := hid (HNX.out _ GV.out)
        rw [← EV.out] at HNX
        clear GV HCE
        go_wp2_with fail
        go_roundg (len - (k + 1))
        case rel => exact HNX.out
        case measure => exact HMM.out
      · by_cases hb : hi < kind
        · replace HNX := hid (HNX.out _ GV.out)
          rw [← EV.out] at HNX
          clear GV HCE
          go_wp2_with fail
          go_roundg (len - (k + 1))
          case rel => exact HNX.out
          case measure => exact HMM.out
        · by_cases k1 : 1 ≤ kind
          · by_cases k4 : kind ≤ 4
            · have k5 : ¬ 5 ≤ kind := by omega
              go_wp2_with fail
              rw [EV.out]
              refine (texts_any (SA.out.now GV.out) LA.out (HT.out.now GV.out) kind st N0.out N1.out).mono ?_
              rintro e w3 ⟨rfl, q⟩
              replace HNX := hid (HNX.out _ (below_step GV.out q))
              obtain ⟨f0, f1, f2, f3⟩ := HCE.out w3 q
              clear q GV HCE EV d0 d1 d2 d3 c0 c1 c2 c3
              go_wp2_with fail
              go_roundg (len - (k + 1))
              case rel => exact HNX.out
              case measure => exact HMM.out
            · by_cases k7 : kind ≤ 7
              · have k5 : 5 ≤ kind := by omega
                have hrd : ReadsOk w := HR.out.resolve_left (by omega)
                have HRD := hid hrd
                clear hrd
                go_wp2_with fail
                rw [EV.out]
                refine (HRD.out V aa nx ca kind st n GV.out (HT.out.now GV.out) LS.out N0.out N1.out).mono ?_
                rintro e w3 ⟨rfl, q⟩
                replace HNX := hid (HNX.out _ (below_step GV.out q))
                clear q GV HCE EV d0 d1 d2 d3 c0 c1 c2 c3
                go_wp2_with fail
                go_roundg (len - (k + 1))
                case rel => exact HNX.out
                case measure => exact HMM.out
              · have k5 : 5 ≤ kind := by omega
                replace HNX := hid (HNX.out _ GV.out)
                rw [← EV.out] at HNX
                clear GV HCE
                go_wp2_with fail
                go_roundg (len - (k + 1))
                case rel => exact HNX.out
                case measure => exact HMM.out
          · have k5 : ¬ 5 ≤ kind := by omega
            replace HNX := hid (HNX.out _ GV.out)
            rw [← EV.out] at HNX
            clear GV HCE
            go_wp2_with fail
            go_roundg (len - (k + 1))
            case rel => exact HNX.out
            case measure => exact HMM.out
    · have hlt' : ¬ (k : Int) < (len : Int) := by omega
      clear HG
      go_wp2
      go_ret
      exact ⟨rfl, HB.out⟩

theorem radixTexts_any {w : World} {a : Option Addr} {len cap : Nat} {s : Steps4} (h : Script4 w a len cap s) (hT : Sg w) :
    Calls Tryd.prog 3 #[.slice a len cap] w fun e w' => e = .returned (.bool true) ∧ Below w.heap.size w w' := by
  have HC := hid (upTo4_any h hT 1 4 (.inl (by decide)))
  clear h hT
  go_enter Tryd.func3, Tryd.ntmps3
  go_wp2_with fail
  refine HC.out.mono ?_
  rintro e w1 ⟨rfl, hb⟩
  go_wp2
  go_ret
  exact ⟨rfl, hb⟩
end Go.Proofs.YtaflidiokhaljaaDoor
