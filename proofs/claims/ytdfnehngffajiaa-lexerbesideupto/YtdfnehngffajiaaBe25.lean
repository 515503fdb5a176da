/-
  Be25: the law LexerBeside.
-/
import Derived.Test.YtdfnehngffajiaaBp25
import Derived.Test.YtdfnehngffajiaaSh25
import Derived.Test.YtdfnehngffajiaaAu25
import Derived.Test.YtdfnehngffajiaaHs25
import Derived.Test.YtdfnehngffajiaaTx25
import Derived.Test.YtdfnehngffajiaaLp25
import Derived.Laws.Concat
namespace Go.Proofs.Ytdfnehngffajiaa
open Go.RowKit
set_option linter.unusedVariables false

/-- What the law's calls answer, told by the two lines. -/
theorem beside_pure {a b : ByteArray} {tab : Bool} {g : ByteArray → Int} {La Lb Lz Lw : List Tok} {ca ea cb eb cz ez cw ew n f : Int} (ta : Tkn a g 0 1 La ca ea) (tb : Tkn b g 0 1 Lb cb eb) (tz : Tkn (a ++ (gapB tab ++ b)) g 0 1 Lz cz ez) (tw : Tkn (hash25 ++ b) g 0 1 Lw cw ew) (cl : ColD b n f) :
    (Lw = [] ∧ ((f = 0 ∧ ew = 0 ∧ cw = 0) ∨ (f = 12 ∧ ew = 12 ∧ 2 ≤ cw ∧ n = 0))) ∧
    ((∀ j, j < a.size → byS a j ≠ 35) → (ea ≠ 0 → ez = ea ∧ cz = ca ∧ Lz = []) ∧ (ea = 0 → ∃ k : Nat, ColE a 0 k 0 ∧ k ≤ a.size ∧ (eb ≠ 0 → ez = eb ∧ cz = cb + ((k + 1 : Nat) : Int) ∧ Lz = []) ∧ (eb = 0 → ez = 0 ∧ cz = 0 ∧ Lz = La ++ Lb.map (shT (k + 1))))) := by
  obtain ⟨k, hk, hn⟩ := cl
  have h1 := tkn_hash (g := g) hk
  obtain ⟨e1, e2, e3⟩ := tkn_one tw h1
  subst e1 e2 e3
  refine ⟨⟨rfl, ?_⟩, fun hno => ?_⟩
  · rcases colE_err hk with rfl | rfl
    · exact .inl ⟨rfl, rfl, if_pos rfl⟩
    · refine .inr ⟨rfl, rfl, ?_, ?_⟩
      · rw [if_neg (by decide)]; omega
      · rw [hn]; exact if_neg (by decide)
  · obtain ⟨b1, b2⟩ := tkn_both (tab := tab) hno ta tb
    refine ⟨fun h => ?_, fun h => ?_⟩
    · obtain ⟨x, y, z⟩ := tkn_one tz (b1 h)
      exact ⟨z, y, x⟩
    · obtain ⟨m, hm⟩ := tkn_cols hno (h ▸ ta)
      refine ⟨m, hm, colE_le hm, fun q => ?_, fun q => ?_⟩
      · obtain ⟨x, y, z⟩ := tkn_one tz (b2 h m hm)
        rw [if_neg q] at x y
        exact ⟨z, y, x⟩
      · obtain ⟨x, y, z⟩ := tkn_one tz (b2 h m hm)
        rw [if_pos q] at x y
        refine ⟨z.trans q, y.trans ?_, x⟩
        exact (tkn_bound tb (Nat.zero_le _)).1.1 q
set_option maxHeartbeats 6400000 in
set_option maxRecDepth 100000 in
theorem lexerBeside_any {w : World} {a b : ByteArray} {tab : Bool} (hm : MaxL w) (ha : a.size ≤ 1048576) (hb : b.size ≤ 1048576) : Calls Try.prog 4 #[.string a, .string b, .bool tab] w (Well25 w) := by
  have A0 := hid (awake_now hm)
  have MX : Hid (∀ wx : World, Below w.heap.size w wx → MaxL wx) := hid fun wx hb => hm.on hb
  have TA : Hid (∀ w, MaxL w → Calls Try.prog 8 #[.string a] w (TokD a gP w)) := hid fun w h => tokens25p w h (by omega) (grP_own _)
  have TB : Hid (∀ w, MaxL w → Calls Try.prog 8 #[.string b] w (TokD b gP w)) := hid fun w h => tokens25p w h (by omega) (grP_own _)
  have TW : Hid (∀ w, MaxL w → Calls Try.prog 8 #[.string (hash25 ++ b)] w (TokD (hash25 ++ b) gP w)) := hid fun w h => tokens25p w h (by rw [app_size]; show 1 + b.size ≤ _; omega) (grP_own _)
  have CA : Hid (∀ w : World, Calls Try.prog 9 #[.string a] w (ColP a w)) := hid fun w => columns25 w (by omega)
  have CB : Hid (∀ w : World, Calls Try.prog 9 #[.string b] w (ColP b w)) := hid fun w => columns25 w (by omega)
  have HH : Hid (∀ w, Calls Try.prog 10 #[.string a, .int .u8 35] w (HasD a 35 w)) := hid fun w => has25 w a 35 (by omega)
  have HSA := hid ha
  have HSB := hid hb
  clear hm ha hb
  unfold Well25 at A0 ⊢
  cases tab
  · have hg1 : (⟨#[32]⟩ : ByteArray).size = 1 := rfl
    have TZ : Hid (∀ w, MaxL w → Calls Try.prog 8 #[.string (a ++ ⟨#[32]⟩ ++ b)] w (TokD (a ++ ⟨#[32]⟩ ++ b) gP w)) := hid fun w h => tokens25p w h (by have := HSA.out; have := HSB.out; rw [app_size, app_size, hg1]; omega) (grP_own _)
    have ES : Hid (a ++ ⟨#[32]⟩ ++ b = a ++ (gapB false ++ b)) := hid (by rw [ByteArray.append_assoc]; rfl)
    have hc1 : ¬ (9223372036854775807 < a.size + (⟨#[32]⟩ : ByteArray).size) := by have := HSA.out; rw [hg1]; omega
    have hc2 : ¬ (9223372036854775807 < (a ++ ⟨#[32]⟩).size + b.size) := by have := HSA.out; have := HSB.out; rw [app_size, hg1]; omega
    have hc3 : ¬ (9223372036854775807 < (⟨#[35]⟩ : ByteArray).size + b.size) := by have := HSB.out; show ¬ _ < 1 + b.size; omega
    clear hg1
    go_enter Try.func4, Try.ntmps4
    go_wp2_with fail
    refine A0.out.mono ?_
    rintro x w1 ⟨rfl, b1⟩
    have B1 := hid b1
    clear A0 b1
    go_wp2_with fail
    refine (TA.out _ (MX.out _ B1.out)).mono ?_
    rintro x w2 ⟨va, La, ca, ea, rfl, ta, sa, b2⟩
    have HTA := hid ta
    have SA2 := hid (sa.mono B1.out.size)
    have B2 := hid (below_on25 B1.out b2)
    obtain ⟨aa, pa, rfl⟩ := sa.form
    clear ta sa b2 B1 TA
    go_wp2_with fail
    refine (TB.out _ (MX.out _ B2.out)).mono ?_
    rintro x w3 ⟨vb, Lb, cb, eb, rfl, tb, sb, b3⟩
    have HTB := hid tb
    have SB3 := hid (sb.mono B2.out.size)
    have SA3 := hid (SA2.out.now b3)
    have B3 := hid (below_on25 B2.out b3)
    obtain ⟨ab, pb, rfl⟩ := sb.form
    clear tb sb b3 B2 SA2 TB
    go_wp2_with fail
    refine (TZ.out _ (MX.out _ B3.out)).mono ?_
    rintro x w4 ⟨vz, Lz, cz, ez, rfl, tz, sz, b4⟩
    have HTZ := hid (ES.out ▸ tz)
    have SZ4 := hid sz
    have HO : Hid (∀ g, (Value.slice aa La.length pa).ownBlock = some g → g < w3.heap.size) := hid fun g e => (SA3.out.own e).2
    have SA4 := hid (SA3.out.now b4)
    have SB4 := hid (SB3.out.now b4)
    have B4 := hid (below_on25 B3.out b4)
    obtain ⟨az, pz, rfl⟩ := sz.form
    clear tz sz b4 B3 SA3 SB3 TZ ES hc1 hc2
    go_wp2_with fail
    refine (TW.out _ (MX.out _ B4.out)).mono ?_
    rintro x w5 ⟨vw, Lw, cw, ew, rfl, tw, sw, b5⟩
    have HTW := hid tw
    have SZ5 := hid (SZ4.out.now b5)
    have SA5 := hid (SA4.out.now b5)
    have SB5 := hid (SB4.out.now b5)
    have B5 := hid (below_on25 B4.out b5)
    obtain ⟨aw, pw, rfl⟩ := sw.form
    clear tw sw b5 B4 SZ4 SA4 SB4 TW hc3
    go_wp2_with fail
    refine (CB.out _).mono ?_
    rintro x w6 ⟨n, f, rfl, cl, b6⟩
    obtain ⟨⟨hLw, hf⟩, hrest⟩ := beside_pure HTA.out HTB.out HTZ.out HTW.out cl
    subst hLw
    have SZ6 := hid (SZ5.out.now b6)
    have SA6 := hid (SA5.out.now b6)
    have SB6 := hid (SB5.out.now b6)
    have B6 := hid (below_on25 B5.out b6)
    have HR := hid hrest
    clear cl b6 B5 SZ5 SA5 SB5 CB HTW hrest MX
    have HBA := hid (tkn_all HTA.out (by have := HSA.out; omega))
    have HBB := hid (tkn_all HTB.out (by have := HSB.out; omega))
    clear HTA HTB HTZ
    change Hid (∀ w, Calls _ _ _ w fun e w' => ∃ b, e = .returned (.bool b) ∧ (b = false → ∀ j, j < a.size → byS a j ≠ 35) ∧ w' = w) at HH
    rcases hf with ⟨rfl, rfl, rfl⟩ | ⟨rfl, rfl, hcw, rfl⟩
    · clear HSB
      skip
      go_wp2_with fail
      refine (HH.out _).mono ?_
      rintro x w7 ⟨hs, rfl, hno, hw7⟩
      obtain rfl := hw7.symm
      clear HH
      cases hs
      case true =>
        clear hno HR CA SZ6 SA6 SB6 HSA HBA HBB HO
        go_wp2
        go_ret
        exact ⟨rfl, B6.out⟩
      case false =>
        obtain ⟨hr1, hr2⟩ := HR.out (hno rfl)
        have R2 := hid hr2
        clear hno HR hr2
        by_cases hea : ea = 0
        · obtain ⟨k, hk, hks, hr3, hr4⟩ := R2.out hea
          have HK := hid hk
          have hkl : (k : Int) ≤ 1048576 := by have := HSA.out; omega
          have R3 := hid hr3
          have R4 := hid hr4
          subst hea
          clear hr1 R2 hr3 hr4 hk hks HSA
          go_wp2_with fail
          refine (CA.out _).mono ?_
          rintro x w8 ⟨n', f', rfl, cl, b8⟩
          obtain ⟨e1, e2⟩ := colD_one cl ⟨k, HK.out, rfl⟩
          rw [if_pos rfl] at e1
          subst e1 e2
          have SZ8 := hid (SZ6.out.now b8)
          have SA8 := hid (SA6.out.now b8)
          have SB8 := hid (SB6.out.now b8)
          have B8 := hid (below_on25 B6.out b8)
          clear cl b8 B6 SZ6 SA6 SB6 CA HK
          by_cases heb : eb = 0
          · obtain ⟨e1, e2, e3⟩ := R4.out heb
            obtain ⟨M, hM⟩ : ∃ M, Lb.map (shT (k + 1)) = M := ⟨_, rfl⟩
            rw [hM] at e3
            have HM := hid hM
            have HLZ := hid e3
            have hml : M.length = Lb.length := by rw [← hM, List.length_map]
            clear hM e3
            subst e1 e2 heb
            have gk1 : IntKind.i64.wrap ((k : Int) + 1) = ((k + 1 : Nat) : Int) := by rw [wrap_is] <;> omega
            have LB := hid HBB.out.1
            have LC := hid HBB.out.2.2.2.2
            have L0 : Hid (La.length ≤ 1000000000000) := hid (by have := HBA.out.1; omega)
            have LS : Hid (M.length ≤ 1000000000000) := hid (by have := HBB.out.1; omega)
            have LT : Hid (Lz.length ≤ 1000000000000) := hid (by rw [HLZ.out, List.length_append]; have := HBA.out.1; have := HBB.out.1; omega)
            clear R3 R4 HBA HBB hml
            go_wp2_with fail
            refine (shifted25 (d := k + 1) SB8.out LB.out (by omega) LC.out).mono ?_
            rintro x w9 ⟨vs, rfl, ss, b9⟩
            rw [HM.out] at ss
            have SS9 := hid ss
            have SZ9 := hid (SZ8.out.now b9)
            have SA9 := hid (SA8.out.now b9)
            have B9 := hid (below_on25 B8.out b9)
            obtain ⟨sa, ps, rfl⟩ := ss.form
            clear ss b9 B8 SZ8 SA8 SB8 LB LC HM
            go_wp2_with (at_builtin; refine wpList_append_toks25G w9 (by rfl) (.tmp 146) (.tmp 150) rfl w.heap.size w8.heap.size _ _ La M rfl rfl SA9.out SS9.out L0.out LS.out B9.out.size ?_)
            intro v0 w10 hv0 hs0 hb0 hk0
            have SZ10 := hid (SZ9.out.keep fun g h1 h2 => hk0.out g h2 (fun e => absurd (HO.out g e) (Nat.not_lt.2 h1)))
            have SM10 := hid hs0.out
            rw [← HLZ.out] at SM10
            have B10 := hid (B9.out.trans hb0.out)
            clear hv0 hs0 hb0 hk0 SZ9 SA9 SS9 B9 HLZ L0 LS HO
            go_wp2_with fail
            refine (tokens25 SZ10.out SM10.out LT.out).mono ?_
            rintro x w11 ⟨rfl, n11, rfl⟩
            clear SZ10 SM10 LT
            go_wp2
            go_ret
            exact ⟨rfl, below_dr25 n11 B10.out⟩
          · obtain ⟨e1, e2, e3⟩ := R3.out heb
            subst e1 e2 e3
            have hcb := HBB.out.2.2
            have g1 : IntKind.i64.wrap (cb + (k : Int)) = cb + (k : Int) := by rw [wrap_is] <;> omega
            have g2 : IntKind.i64.wrap (cb + (k : Int) + 1) = cb + ((k + 1 : Nat) : Int) := by rw [wrap_is] <;> omega
            have heb' : (ez == 0) = false := by rw [beq_eq_false_iff_ne]; exact heb
            have q1 : (ez == ez) = true := by rw [beq_iff_eq]
            clear R3 R4 SZ8 SA8 SB8 HBA HBB heb HO
            go_wp2
            go_ret
            exact ⟨rfl, B8.out⟩
        · obtain ⟨e1, e2, e3⟩ := hr1 hea
          subst e1 e2 e3
          have hea' : (ez == 0) = false := by rw [beq_eq_false_iff_ne]; exact hea
          have q1 : (ez == ez) = true := by rw [beq_iff_eq]
          have q2 : (cz == cz) = true := by rw [beq_iff_eq]
          clear R2 hr1 CA SZ6 SA6 SB6 HSA HBA HBB hea HO
          go_wp2
          go_ret
          exact ⟨rfl, B6.out⟩
    · clear HSB
      have hcw2 : ¬ cw < 2 := by omega
      clear hcw
      go_wp2_with fail
      refine (HH.out _).mono ?_
      rintro x w7 ⟨hs, rfl, hno, hw7⟩
      obtain rfl := hw7.symm
      clear HH
      cases hs
      case true =>
        clear hno HR CA SZ6 SA6 SB6 HSA HBA HBB HO
        go_wp2
        go_ret
        exact ⟨rfl, B6.out⟩
      case false =>
        obtain ⟨hr1, hr2⟩ := HR.out (hno rfl)
        have R2 := hid hr2
        clear hno HR hr2
        by_cases hea : ea = 0
        · obtain ⟨k, hk, hks, hr3, hr4⟩ := R2.out hea
          have HK := hid hk
          have hkl : (k : Int) ≤ 1048576 := by have := HSA.out; omega
          have R3 := hid hr3
          have R4 := hid hr4
          subst hea
          clear hr1 R2 hr3 hr4 hk hks HSA
          go_wp2_with fail
          refine (CA.out _).mono ?_
          rintro x w8 ⟨n', f', rfl, cl, b8⟩
          obtain ⟨e1, e2⟩ := colD_one cl ⟨k, HK.out, rfl⟩
          rw [if_pos rfl] at e1
          subst e1 e2
          have SZ8 := hid (SZ6.out.now b8)
          have SA8 := hid (SA6.out.now b8)
          have SB8 := hid (SB6.out.now b8)
          have B8 := hid (below_on25 B6.out b8)
          clear cl b8 B6 SZ6 SA6 SB6 CA HK
          by_cases heb : eb = 0
          · obtain ⟨e1, e2, e3⟩ := R4.out heb
            obtain ⟨M, hM⟩ : ∃ M, Lb.map (shT (k + 1)) = M := ⟨_, rfl⟩
            rw [hM] at e3
            have HM := hid hM
            have HLZ := hid e3
            have hml : M.length = Lb.length := by rw [← hM, List.length_map]
            clear hM e3
            subst e1 e2 heb
            have gk1 : IntKind.i64.wrap ((k : Int) + 1) = ((k + 1 : Nat) : Int) := by rw [wrap_is] <;> omega
            have LB := hid HBB.out.1
            have LC := hid HBB.out.2.2.2.2
            have L0 : Hid (La.length ≤ 1000000000000) := hid (by have := HBA.out.1; omega)
            have LS : Hid (M.length ≤ 1000000000000) := hid (by have := HBB.out.1; omega)
            have LT : Hid (Lz.length ≤ 1000000000000) := hid (by rw [HLZ.out, List.length_append]; have := HBA.out.1; have := HBB.out.1; omega)
            clear R3 R4 HBA HBB hml
            go_wp2_with fail
            refine (shifted25 (d := k + 1) SB8.out LB.out (by omega) LC.out).mono ?_
            rintro x w9 ⟨vs, rfl, ss, b9⟩
            rw [HM.out] at ss
            have SS9 := hid ss
            have SZ9 := hid (SZ8.out.now b9)
            have SA9 := hid (SA8.out.now b9)
            have B9 := hid (below_on25 B8.out b9)
            obtain ⟨sa, ps, rfl⟩ := ss.form
            clear ss b9 B8 SZ8 SA8 SB8 LB LC HM
            go_wp2_with (at_builtin; refine wpList_append_toks25G w9 (by rfl) (.tmp 146) (.tmp 150) rfl w.heap.size w8.heap.size _ _ La M rfl rfl SA9.out SS9.out L0.out LS.out B9.out.size ?_)
            intro v0 w10 hv0 hs0 hb0 hk0
            have SZ10 := hid (SZ9.out.keep fun g h1 h2 => hk0.out g h2 (fun e => absurd (HO.out g e) (Nat.not_lt.2 h1)))
            have SM10 := hid hs0.out
            rw [← HLZ.out] at SM10
            have B10 := hid (B9.out.trans hb0.out)
            clear hv0 hs0 hb0 hk0 SZ9 SA9 SS9 B9 HLZ L0 LS HO
            go_wp2_with fail
            refine (tokens25 SZ10.out SM10.out LT.out).mono ?_
            rintro x w11 ⟨rfl, n11, rfl⟩
            clear SZ10 SM10 LT
            go_wp2
            go_ret
            exact ⟨rfl, below_dr25 n11 B10.out⟩
          · obtain ⟨e1, e2, e3⟩ := R3.out heb
            subst e1 e2 e3
            have hcb := HBB.out.2.2
            have g1 : IntKind.i64.wrap (cb + (k : Int)) = cb + (k : Int) := by rw [wrap_is] <;> omega
            have g2 : IntKind.i64.wrap (cb + (k : Int) + 1) = cb + ((k + 1 : Nat) : Int) := by rw [wrap_is] <;> omega
            have heb' : (ez == 0) = false := by rw [beq_eq_false_iff_ne]; exact heb
            have q1 : (ez == ez) = true := by rw [beq_iff_eq]
            clear R3 R4 SZ8 SA8 SB8 HBA HBB heb HO
            go_wp2
            go_ret
            exact ⟨rfl, B8.out⟩
        · obtain ⟨e1, e2, e3⟩ := hr1 hea
          subst e1 e2 e3
          have hea' : (ez == 0) = false := by rw [beq_eq_false_iff_ne]; exact hea
          have q1 : (ez == ez) = true := by rw [beq_iff_eq]
          have q2 : (cz == cz) = true := by rw [beq_iff_eq]
          clear R2 hr1 CA SZ6 SA6 SB6 HSA HBA HBB hea HO
          go_wp2
          go_ret
          exact ⟨rfl, B6.out⟩
  · have hg1 : (⟨#[9]⟩ : ByteArray).size = 1 := rfl
    have TZ : Hid (∀ w, MaxL w → Calls Try.prog 8 #[.string (a ++ ⟨#[9]⟩ ++ b)] w (TokD (a ++ ⟨#[9]⟩ ++ b) gP w)) := hid fun w h => tokens25p w h (by have := HSA.out; have := HSB.out; rw [app_size, app_size, hg1]; omega) (grP_own _)
    have ES : Hid (a ++ ⟨#[9]⟩ ++ b = a ++ (gapB true ++ b)) := hid (by rw [ByteArray.append_assoc]; rfl)
    have hc1 : ¬ (9223372036854775807 < a.size + (⟨#[9]⟩ : ByteArray).size) := by have := HSA.out; rw [hg1]; omega
    have hc2 : ¬ (9223372036854775807 < (a ++ ⟨#[9]⟩).size + b.size) := by have := HSA.out; have := HSB.out; rw [app_size, hg1]; omega
    have hc3 : ¬ (9223372036854775807 < (⟨#[35]⟩ : ByteArray).size + b.size) := by have := HSB.out; show ¬ _ < 1 + b.size; omega
    clear hg1
    go_enter Try.func4, Try.ntmps4
    go_wp2_with fail
    refine A0.out.mono ?_
    rintro x w1 ⟨rfl, b1⟩
    have B1 := hid b1
    clear A0 b1
    go_wp2_with fail
    refine (TA.out _ (MX.out _ B1.out)).mono ?_
    rintro x w2 ⟨va, La, ca, ea, rfl, ta, sa, b2⟩
    have HTA := hid ta
    have SA2 := hid (sa.mono B1.out.size)
    have B2 := hid (below_on25 B1.out b2)
    obtain ⟨aa, pa, rfl⟩ := sa.form
    clear ta sa b2 B1 TA
    go_wp2_with fail
    refine (TB.out _ (MX.out _ B2.out)).mono ?_
    rintro x w3 ⟨vb, Lb, cb, eb, rfl, tb, sb, b3⟩
    have HTB := hid tb
    have SB3 := hid (sb.mono B2.out.size)
    have SA3 := hid (SA2.out.now b3)
    have B3 := hid (below_on25 B2.out b3)
    obtain ⟨ab, pb, rfl⟩ := sb.form
    clear tb sb b3 B2 SA2 TB
    go_wp2_with fail
    refine (TZ.out _ (MX.out _ B3.out)).mono ?_
    rintro x w4 ⟨vz, Lz, cz, ez, rfl, tz, sz, b4⟩
    have HTZ := hid (ES.out ▸ tz)
    have SZ4 := hid sz
    have HO : Hid (∀ g, (Value.slice aa La.length pa).ownBlock = some g → g < w3.heap.size) := hid fun g e => (SA3.out.own e).2
    have SA4 := hid (SA3.out.now b4)
    have SB4 := hid (SB3.out.now b4)
    have B4 := hid (below_on25 B3.out b4)
    obtain ⟨az, pz, rfl⟩ := sz.form
    clear tz sz b4 B3 SA3 SB3 TZ ES hc1 hc2
    go_wp2_with fail
    refine (TW.out _ (MX.out _ B4.out)).mono ?_
    rintro x w5 ⟨vw, Lw, cw, ew, rfl, tw, sw, b5⟩
    have HTW := hid tw
    have SZ5 := hid (SZ4.out.now b5)
    have SA5 := hid (SA4.out.now b5)
    have SB5 := hid (SB4.out.now b5)
    have B5 := hid (below_on25 B4.out b5)
    obtain ⟨aw, pw, rfl⟩ := sw.form
    clear tw sw b5 B4 SZ4 SA4 SB4 TW hc3
    go_wp2_with fail
    refine (CB.out _).mono ?_
    rintro x w6 ⟨n, f, rfl, cl, b6⟩
    obtain ⟨⟨hLw, hf⟩, hrest⟩ := beside_pure HTA.out HTB.out HTZ.out HTW.out cl
    subst hLw
    have SZ6 := hid (SZ5.out.now b6)
    have SA6 := hid (SA5.out.now b6)
    have SB6 := hid (SB5.out.now b6)
    have B6 := hid (below_on25 B5.out b6)
    have HR := hid hrest
    clear cl b6 B5 SZ5 SA5 SB5 CB HTW hrest MX
    have HBA := hid (tkn_all HTA.out (by have := HSA.out; omega))
    have HBB := hid (tkn_all HTB.out (by have := HSB.out; omega))
    clear HTA HTB HTZ
    change Hid (∀ w, Calls _ _ _ w fun e w' => ∃ b, e = .returned (.bool b) ∧ (b = false → ∀ j, j < a.size → byS a j ≠ 35) ∧ w' = w) at HH
    rcases hf with ⟨rfl, rfl, rfl⟩ | ⟨rfl, rfl, hcw, rfl⟩
    · clear HSB
      skip
      go_wp2_with fail
      refine (HH.out _).mono ?_
      rintro x w7 ⟨hs, rfl, hno, hw7⟩
      obtain rfl := hw7.symm
      clear HH
      cases hs
      case true =>
        clear hno HR CA SZ6 SA6 SB6 HSA HBA HBB HO
        go_wp2
        go_ret
        exact ⟨rfl, B6.out⟩
      case false =>
        obtain ⟨hr1, hr2⟩ := HR.out (hno rfl)
        have R2 := hid hr2
        clear hno HR hr2
        by_cases hea : ea = 0
        · obtain ⟨k, hk, hks, hr3, hr4⟩ := R2.out hea
          have HK := hid hk
          have hkl : (k : Int) ≤ 1048576 := by have := HSA.out; omega
          have R3 := hid hr3
          have R4 := hid hr4
          subst hea
          clear hr1 R2 hr3 hr4 hk hks HSA
          go_wp2_with fail
          refine (CA.out _).mono ?_
          rintro x w8 ⟨n', f', rfl, cl, b8⟩
          obtain ⟨e1, e2⟩ := colD_one cl ⟨k, HK.out, rfl⟩
          rw [if_pos rfl] at e1
          subst e1 e2
          have SZ8 := hid (SZ6.out.now b8)
          have SA8 := hid (SA6.out.now b8)
          have SB8 := hid (SB6.out.now b8)
          have B8 := hid (below_on25 B6.out b8)
          clear cl b8 B6 SZ6 SA6 SB6 CA HK
          by_cases heb : eb = 0
          · obtain ⟨e1, e2, e3⟩ := R4.out heb
            obtain ⟨M, hM⟩ : ∃ M, Lb.map (shT (k + 1)) = M := ⟨_, rfl⟩
            rw [hM] at e3
            have HM := hid hM
            have HLZ := hid e3
            have hml : M.length = Lb.length := by rw [← hM, List.length_map]
            clear hM e3
            subst e1 e2 heb
            have gk1 : IntKind.i64.wrap ((k : Int) + 1) = ((k + 1 : Nat) : Int) := by rw [wrap_is] <;> omega
            have LB := hid HBB.out.1
            have LC := hid HBB.out.2.2.2.2
            have L0 : Hid (La.length ≤ 1000000000000) := hid (by have := HBA.out.1; omega)
            have LS : Hid (M.length ≤ 1000000000000) := hid (by have := HBB.out.1; omega)
            have LT : Hid (Lz.length ≤ 1000000000000) := hid (by rw [HLZ.out, List.length_append]; have := HBA.out.1; have := HBB.out.1; omega)
            clear R3 R4 HBA HBB hml
            go_wp2_with fail
            refine (shifted25 (d := k + 1) SB8.out LB.out (by omega) LC.out).mono ?_
            rintro x w9 ⟨vs, rfl, ss, b9⟩
            rw [HM.out] at ss
            have SS9 := hid ss
            have SZ9 := hid (SZ8.out.now b9)
            have SA9 := hid (SA8.out.now b9)
            have B9 := hid (below_on25 B8.out b9)
            obtain ⟨sa, ps, rfl⟩ := ss.form
            clear ss b9 B8 SZ8 SA8 SB8 LB LC HM
            go_wp2_with (at_builtin; refine wpList_append_toks25G w9 (by rfl) (.tmp 146) (.tmp 150) rfl w.heap.size w8.heap.size _ _ La M rfl rfl SA9.out SS9.out L0.out LS.out B9.out.size ?_)
            intro v0 w10 hv0 hs0 hb0 hk0
            have SZ10 := hid (SZ9.out.keep fun g h1 h2 => hk0.out g h2 (fun e => absurd (HO.out g e) (Nat.not_lt.2 h1)))
            have SM10 := hid hs0.out
            rw [← HLZ.out] at SM10
            have B10 := hid (B9.out.trans hb0.out)
            clear hv0 hs0 hb0 hk0 SZ9 SA9 SS9 B9 HLZ L0 LS HO
            go_wp2_with fail
            refine (tokens25 SZ10.out SM10.out LT.out).mono ?_
            rintro x w11 ⟨rfl, n11, rfl⟩
            clear SZ10 SM10 LT
            go_wp2
            go_ret
            exact ⟨rfl, below_dr25 n11 B10.out⟩
          · obtain ⟨e1, e2, e3⟩ := R3.out heb
            subst e1 e2 e3
            have hcb := HBB.out.2.2
            have g1 : IntKind.i64.wrap (cb + (k : Int)) = cb + (k : Int) := by rw [wrap_is] <;> omega
            have g2 : IntKind.i64.wrap (cb + (k : Int) + 1) = cb + ((k + 1 : Nat) : Int) := by rw [wrap_is] <;> omega
            have heb' : (ez == 0) = false := by rw [beq_eq_false_iff_ne]; exact heb
            have q1 : (ez == ez) = true := by rw [beq_iff_eq]
            clear R3 R4 SZ8 SA8 SB8 HBA HBB heb HO
            go_wp2
            go_ret
            exact ⟨rfl, B8.out⟩
        · obtain ⟨e1, e2, e3⟩ := hr1 hea
          subst e1 e2 e3
          have hea' : (ez == 0) = false := by rw [beq_eq_false_iff_ne]; exact hea
          have q1 : (ez == ez) = true := by rw [beq_iff_eq]
          have q2 : (cz == cz) = true := by rw [beq_iff_eq]
          clear R2 hr1 CA SZ6 SA6 SB6 HSA HBA HBB hea HO
          go_wp2
          go_ret
          exact ⟨rfl, B6.out⟩
    · clear HSB
      have hcw2 : ¬ cw < 2 := by omega
      clear hcw
      go_wp2_with fail
      refine (HH.out _).mono ?_
      rintro x w7 ⟨hs, rfl, hno, hw7⟩
      obtain rfl := hw7.symm
      clear HH
      cases hs
      case true =>
        clear hno HR CA SZ6 SA6 SB6 HSA HBA HBB HO
        go_wp2
        go_ret
        exact ⟨rfl, B6.out⟩
      case false =>
        obtain ⟨hr1, hr2⟩ := HR.out (hno rfl)
        have R2 := hid hr2
        clear hno HR hr2
        by_cases hea : ea = 0
        · obtain ⟨k, hk, hks, hr3, hr4⟩ := R2.out hea
          have HK := hid hk
          have hkl : (k : Int) ≤ 1048576 := by have := HSA.out; omega
          have R3 := hid hr3
          have R4 := hid hr4
          subst hea
          clear hr1 R2 hr3 hr4 hk hks HSA
          go_wp2_with fail
          refine (CA.out _).mono ?_
          rintro x w8 ⟨n', f', rfl, cl, b8⟩
          obtain ⟨e1, e2⟩ := colD_one cl ⟨k, HK.out, rfl⟩
          rw [if_pos rfl] at e1
          subst e1 e2
          have SZ8 := hid (SZ6.out.now b8)
          have SA8 := hid (SA6.out.now b8)
          have SB8 := hid (SB6.out.now b8)
          have B8 := hid (below_on25 B6.out b8)
          clear cl b8 B6 SZ6 SA6 SB6 CA HK
          by_cases heb : eb = 0
          · obtain ⟨e1, e2, e3⟩ := R4.out heb
            obtain ⟨M, hM⟩ : ∃ M, Lb.map (shT (k + 1)) = M := ⟨_, rfl⟩
            rw [hM] at e3
            have HM := hid hM
            have HLZ := hid e3
            have hml : M.length = Lb.length := by rw [← hM, List.length_map]
            clear hM e3
            subst e1 e2 heb
            have gk1 : IntKind.i64.wrap ((k : Int) + 1) = ((k + 1 : Nat) : Int) := by rw [wrap_is] <;> omega
            have LB := hid HBB.out.1
            have LC := hid HBB.out.2.2.2.2
            have L0 : Hid (La.length ≤ 1000000000000) := hid (by have := HBA.out.1; omega)
            have LS : Hid (M.length ≤ 1000000000000) := hid (by have := HBB.out.1; omega)
            have LT : Hid (Lz.length ≤ 1000000000000) := hid (by rw [HLZ.out, List.length_append]; have := HBA.out.1; have := HBB.out.1; omega)
            clear R3 R4 HBA HBB hml
            go_wp2_with fail
            refine (shifted25 (d := k + 1) SB8.out LB.out (by omega) LC.out).mono ?_
            rintro x w9 ⟨vs, rfl, ss, b9⟩
            rw [HM.out] at ss
            have SS9 := hid ss
            have SZ9 := hid (SZ8.out.now b9)
            have SA9 := hid (SA8.out.now b9)
            have B9 := hid (below_on25 B8.out b9)
            obtain ⟨sa, ps, rfl⟩ := ss.form
            clear ss b9 B8 SZ8 SA8 SB8 LB LC HM
            go_wp2_with (at_builtin; refine wpList_append_toks25G w9 (by rfl) (.tmp 146) (.tmp 150) rfl w.heap.size w8.heap.size _ _ La M rfl rfl SA9.out SS9.out L0.out LS.out B9.out.size ?_)
            intro v0 w10 hv0 hs0 hb0 hk0
            have SZ10 := hid (SZ9.out.keep fun g h1 h2 => hk0.out g h2 (fun e => absurd (HO.out g e) (Nat.not_lt.2 h1)))
            have SM10 := hid hs0.out
            rw [← HLZ.out] at SM10
            have B10 := hid (B9.out.trans hb0.out)
            clear hv0 hs0 hb0 hk0 SZ9 SA9 SS9 B9 HLZ L0 LS HO
            go_wp2_with fail
            refine (tokens25 SZ10.out SM10.out LT.out).mono ?_
            rintro x w11 ⟨rfl, n11, rfl⟩
            clear SZ10 SM10 LT
            go_wp2
            go_ret
            exact ⟨rfl, below_dr25 n11 B10.out⟩
          · obtain ⟨e1, e2, e3⟩ := R3.out heb
            subst e1 e2 e3
            have hcb := HBB.out.2.2
            have g1 : IntKind.i64.wrap (cb + (k : Int)) = cb + (k : Int) := by rw [wrap_is] <;> omega
            have g2 : IntKind.i64.wrap (cb + (k : Int) + 1) = cb + ((k + 1 : Nat) : Int) := by rw [wrap_is] <;> omega
            have heb' : (ez == 0) = false := by rw [beq_eq_false_iff_ne]; exact heb
            have q1 : (ez == ez) = true := by rw [beq_iff_eq]
            clear R3 R4 SZ8 SA8 SB8 HBA HBB heb HO
            go_wp2
            go_ret
            exact ⟨rfl, B8.out⟩
        · obtain ⟨e1, e2, e3⟩ := hr1 hea
          subst e1 e2 e3
          have hea' : (ez == 0) = false := by rw [beq_eq_false_iff_ne]; exact hea
          have q1 : (ez == ez) = true := by rw [beq_iff_eq]
          have q2 : (cz == cz) = true := by rw [beq_iff_eq]
          clear R2 hr1 CA SZ6 SA6 SB6 HSA HBA HBB hea HO
          go_wp2
          go_ret
          exact ⟨rfl, B6.out⟩
end Go.Proofs.Ytdfnehngffajiaa
