/-
  Ln25: the lines of a text, in numbers; the reference's Lines.
-/
import Derived.Test.YtdfnehngffajiaaDoorSt25
import Derived.Test.YtdfnehngffajiaaDoorLx25
import Derived.Deep.LoopGhost
namespace Go.Proofs.YtdfnehngffajiaaDoor
open Go.RowKit
set_option linter.unusedVariables false

/-- Where the line that begins at f and whose end is found at i ends. -/
def lnT (s : ByteArray) (f i : Nat) : Nat := if f < i ∧ byS s (i - 1) = 13 then i - 1 else i
def lnC (s : ByteArray) (f i : Nat) : ByteArray := s.extract f (lnT s f i)
/-- The lines that end before i, and where the next begins. -/
def lnS (s : ByteArray) : Nat → List ByteArray × Nat
  | 0 => ([], 0)
  | i + 1 => if byS s i = 10 then ((lnS s i).1 ++ [lnC s (lnS s i).2 i], i + 1) else lnS s i
def linesS (s : ByteArray) : List ByteArray := if (lnS s s.size).2 = s.size then (lnS s s.size).1 else (lnS s s.size).1 ++ [lnC s (lnS s s.size).2 s.size]
theorem lnS_le (s : ByteArray) : ∀ i, (lnS s i).2 ≤ i ∧ (lnS s i).1.length ≤ i
  | 0 => ⟨Nat.le_refl _, Nat.le_refl _⟩
  | i + 1 => by
    have := lnS_le s i
    unfold lnS
    split
    · simp only [List.length_append, List.length_singleton]; omega
    · omega
theorem lnT_le (s : ByteArray) {f i : Nat} (h : f ≤ i) : f ≤ lnT s f i ∧ lnT s f i ≤ i := by unfold lnT; split <;> omega
theorem alo25 (w : World) (o1 : Obj) : Below w.heap.size w (w.alloc o1) ∧ (w.alloc o1).heap.size = w.heap.size + 1 := ⟨(Below.refl _ _).alloc (Nat.le_refl _) _, by simp⟩
set_option maxHeartbeats 3200000 in
set_option maxRecDepth 100000 in
theorem rlines25 (w : World) {s : ByteArray} (hs : s.size ≤ 1000000000) : Calls Tryd.prog 8 #[.string s] w fun e w' => ∃ v, e = .returned v ∧ Strs w.heap.size w' v (linesS s) ∧ Below w.heap.size w w' := by
  have HAT : Hid (∀ (k : Nat) (h : k < s.size), ((s[k]'h).toNat : Int) = (byS s k : Int)) := fun k h => byS_at h
  have HS := hid hs
  clear hs
  go_enter Tryd.func8, Tryd.ntmps8
  go_wp2_with fail
  go_loopg [3, 4, 5] (s.size + 1) (fun gk s3 s4 s5 wr => ∃ (i f : Nat) (v : Value) (L : List ByteArray), s3 = v ∧ s4 = .int .i64 (f : Int) ∧ s5 = .int .i64 (i : Int) ∧ i ≤ s.size + 1 ∧ gk = s.size + 1 - i ∧ Hid ((i ≤ s.size ∧ lnS s i = (L, f)) ∨ (i = s.size + 1 ∧ L = linesS s)) ∧ Hid (Strs w.heap.size wr v L) ∧ Hid (Below w.heap.size w wr))
  case atStart => exact ⟨0, 0, _, [], rfl, rfl, rfl, Nat.zero_le _, rfl, hid (.inl ⟨Nat.zero_le _, rfl⟩), hid (Strs.nil _ _), hid (Below.refl _ _)⟩
  case round =>
    rename World => wr
    obtain ⟨i, f, v, L, rfl, rfl, rfl, hi, hgk, hst, HL, HB⟩ := hrel
    have HGK := hid hgk
    clear hgk
    have hsz := HS.out
    by_cases hend : s.size < i
    · obtain ⟨q, hL⟩ : i = s.size + 1 ∧ L = linesS s := by
        rcases hst.out with ⟨a, _⟩ | a
        · omega
        · exact a
      subst hL
      have h1 : ¬ (i : Int) ≤ (s.size : Int) := by omega
      clear hst HAT HGK HS
      go_wp2
      go_ret
      exact ⟨_, rfl, HL.out, HB.out⟩
    obtain ⟨hi2, hln⟩ : i ≤ s.size ∧ lnS s i = (L, f) := by
      rcases hst.out with a | ⟨a, _⟩
      · exact a
      · omega
    clear hst hi
    have HLN := hid hln
    have HF : Hid (f ≤ i ∧ L.length ≤ i) := hid (by have := lnS_le s i; rw [hln] at this; exact this)
    have NX : Hid (lnS s (i + 1) = if byS s i = 10 then (L ++ [lnC s f i], i + 1) else (L, f)) := hid (by show (if _ then _ else _) = _; rw [hln])
    clear hln
    have h1 : (i : Int) ≤ (s.size : Int) := by omega
    have gi : IntKind.i64.wrap ((i : Int) + 1) = ((i + 1 : Nat) : Int) := by rw [wrap_is] <;> omega
    have hf := HF.out
    by_cases hlt : i < s.size
    · have h2 : (i : Int) < (s.size : Int) := by omega
      have h3 : ((i : Int) == (s.size : Int)) = false := by rw [beq_eq_false_iff_ne]; omega
      have hat := HAT.out i hlt
      obtain ⟨c, hc⟩ : ∃ c, byS s i = c := ⟨_, rfl⟩
      rw [hc] at hat NX
      clear hc
      by_cases h10 : c = 10
      · rw [if_pos h10] at NX
        subst h10
        have STATE : Hid (Hid ((i + 1 ≤ s.size ∧ lnS s (i + 1) = (L ++ [lnC s f i], i + 1)) ∨ (i + 1 = s.size + 1 ∧ L ++ [lnC s f i] = linesS s))) := hid (hid (.inl ⟨hlt, NX.out⟩))
        have KB : Hid (∀ x : Value, Below w.heap.size w (wr.alloc (.cells #[x] 9))) := hid fun x => HB.out.trans ((alo25 wr _).1.mono HB.out.size)
        have KL : Hid (∀ x : Value, Strs w.heap.size (wr.alloc (.cells #[x] 9)) u3 L) := hid fun x => HL.out.now (alo25 wr _).1
        have KC : Hid (∀ x : Value, (wr.alloc (.cells #[x] 9)).cell? ⟨wr.heap.size, 0, none⟩ = some x) := hid fun x => by simp
        have KN : Hid (L.length ≤ 1000000000000) := hid (by omega)
        clear HL HB
        by_cases hfi : f < i
        · have h5 : (f : Int) < (i : Int) := by omega
          have h6 : i - 1 < s.size := by omega
          have h7 : IntKind.i64.wrap ((i : Int) - 1) = ((i - 1 : Nat) : Int) := by rw [wrap_is] <;> omega
          have h8 : ((i - 1 : Nat) : Int) < (s.size : Int) := by omega
          have hat2 := HAT.out (i - 1) h6
          obtain ⟨d, hd⟩ : ∃ d, byS s (i - 1) = d := ⟨_, rfl⟩
          have HT1 : Hid (d = 13 → lnC s f i = s.extract f (i - 1)) := hid fun q => by unfold lnC lnT; rw [if_pos ⟨hfi, hd.trans q⟩]
          have HT2 : Hid (¬ d = 13 → lnC s f i = s.extract f i) := hid fun q => by unfold lnC lnT; rw [if_neg (fun z => q (hd ▸ z.2))]
          rw [hd] at hat2
          clear hd HAT HS
          by_cases h13 : d = 13
          · have HT := hid (HT1.out h13)
            subst h13
            clear HT1 HT2
            have h10 : (f : Int) ≤ (((i - 1) : Nat) : Int) := by omega
            have h11 : (((i - 1) : Nat) : Int) ≤ (s.size : Int) := by omega
            go_wp2_with (at_builtin; refine wpList_append_str25 _ rfl (.tmp 47) (.tmp 52) rfl w.heap.size _ L _ rfl (KL.out _) wr.heap.size rfl (KC.out _) KN.out (KB.out _).size ?_)
            intro m5 a5 cap5 w5 hm5 hs5 hb5
            have HB5 := hid ((KB.out _).trans hb5.out)
            have HS5 := hs5
            rw [← HT.out] at HS5
            clear hb5 hs5 KB KL KC KN HT hm5
            go_wp2_with fail
            go_roundg (s.size + 1 - (i + 1))
            case rel => exact ⟨i + 1, i + 1, _, _, rfl, by first | rfl | go_num, by first | rfl | go_num, by omega, rfl, STATE.out, HS5, HB5⟩
            case measure => have := HGK.out; omega
          · have HT := hid (HT2.out h13)
            have h9 : ((d : Int) == 13) = false := by rw [beq_eq_false_iff_ne]; omega
            clear HT1 HT2
            have h10 : (f : Int) ≤ ((i : Nat) : Int) := by omega
            have h11 : ((i : Nat) : Int) ≤ (s.size : Int) := by omega
            go_wp2_with (at_builtin; refine wpList_append_str25 _ rfl (.tmp 47) (.tmp 52) rfl w.heap.size _ L _ rfl (KL.out _) wr.heap.size rfl (KC.out _) KN.out (KB.out _).size ?_)
            intro m5 a5 cap5 w5 hm5 hs5 hb5
            have HB5 := hid ((KB.out _).trans hb5.out)
            have HS5 := hs5
            rw [← HT.out] at HS5
            clear hb5 hs5 KB KL KC KN HT hm5
            go_wp2_with fail
            go_roundg (s.size + 1 - (i + 1))
            case rel => exact ⟨i + 1, i + 1, _, _, rfl, by first | rfl | go_num, by first | rfl | go_num, by omega, rfl, STATE.out, HS5, HB5⟩
            case measure => have := HGK.out; omega
        · have HT : Hid (lnC s f i = s.extract f i) := hid (by unfold lnC lnT; rw [if_neg (fun z => hfi z.1)])
          have h5 : ¬ (f : Int) < (i : Int) := by omega
          clear HAT HS
          have h10 : (f : Int) ≤ ((i : Nat) : Int) := by omega
          have h11 : ((i : Nat) : Int) ≤ (s.size : Int) := by omega
          go_wp2_with (at_builtin; refine wpList_append_str25 _ rfl (.tmp 47) (.tmp 52) rfl w.heap.size _ L _ rfl (KL.out _) wr.heap.size rfl (KC.out _) KN.out (KB.out _).size ?_)
          intro m5 a5 cap5 w5 hm5 hs5 hb5
          have HB5 := hid ((KB.out _).trans hb5.out)
          have HS5 := hs5
          rw [← HT.out] at HS5
          clear hb5 hs5 KB KL KC KN HT hm5
          go_wp2_with fail
          go_roundg (s.size + 1 - (i + 1))
          case rel => exact ⟨i + 1, i + 1, _, _, rfl, by first | rfl | go_num, by first | rfl | go_num, by omega, rfl, STATE.out, HS5, HB5⟩
          case measure => have := HGK.out; omega
      · rw [if_neg h10] at NX
        have h4 : ((c : Int) != 10) = true := by rw [bne_iff_ne]; omega
        clear HAT HS
        go_wp2_with fail
        go_roundg (s.size + 1 - (i + 1))
        case rel => exact ⟨i + 1, f, _, L, rfl, rfl, by first | rfl | go_num, by omega, rfl, hid (.inl ⟨hlt, NX.out⟩), HL, HB⟩
        case measure => have := HGK.out; omega
    · have hie : i = s.size := by omega
      have h2 : ¬ (i : Int) < (s.size : Int) := by omega
      have h3 : ((i : Int) == (s.size : Int)) = true := by rw [beq_iff_eq]; omega
      by_cases hfe : f = s.size
      · have h4 : ((f : Int) == (s.size : Int)) = true := by rw [beq_iff_eq]; omega
        have FIN : Hid (linesS s = L) := hid (by unfold linesS; rw [← hie, HLN.out]; exact if_pos (by omega))
        rw [← FIN.out] at HL
        clear HAT HS HLN HF NX hf hfe FIN
        go_wp2
        go_ret
        exact ⟨_, rfl, HL.out, HB.out⟩
      · have h4 : ((f : Int) == (s.size : Int)) = false := by rw [beq_eq_false_iff_ne]; omega
        have FIN : Hid (L ++ [lnC s f i] = linesS s) := hid (by unfold linesS; rw [← hie, HLN.out]; exact (if_neg (by simp only; omega)).symm)
        have STATE : Hid (Hid ((i + 1 ≤ s.size ∧ lnS s (i + 1) = (L ++ [lnC s f i], i + 1)) ∨ (i + 1 = s.size + 1 ∧ L ++ [lnC s f i] = linesS s))) := hid (hid (.inr ⟨by omega, FIN.out⟩))
        have hfl : f < i := by omega
        clear hie
        have KB : Hid (∀ x : Value, Below w.heap.size w (wr.alloc (.cells #[x] 9))) := hid fun x => HB.out.trans ((alo25 wr _).1.mono HB.out.size)
        have KL : Hid (∀ x : Value, Strs w.heap.size (wr.alloc (.cells #[x] 9)) u3 L) := hid fun x => HL.out.now (alo25 wr _).1
        have KC : Hid (∀ x : Value, (wr.alloc (.cells #[x] 9)).cell? ⟨wr.heap.size, 0, none⟩ = some x) := hid fun x => by simp
        have KN : Hid (L.length ≤ 1000000000000) := hid (by omega)
        clear HL HB
        by_cases hfi : f < i
        · have h5 : (f : Int) < (i : Int) := by omega
          have h6 : i - 1 < s.size := by omega
          have h7 : IntKind.i64.wrap ((i : Int) - 1) = ((i - 1 : Nat) : Int) := by rw [wrap_is] <;> omega
          have h8 : ((i - 1 : Nat) : Int) < (s.size : Int) := by omega
          have hat2 := HAT.out (i - 1) h6
          obtain ⟨d, hd⟩ : ∃ d, byS s (i - 1) = d := ⟨_, rfl⟩
          have HT1 : Hid (d = 13 → lnC s f i = s.extract f (i - 1)) := hid fun q => by unfold lnC lnT; rw [if_pos ⟨hfi, hd.trans q⟩]
          have HT2 : Hid (¬ d = 13 → lnC s f i = s.extract f i) := hid fun q => by unfold lnC lnT; rw [if_neg (fun z => q (hd ▸ z.2))]
          rw [hd] at hat2
          clear hd HAT HS
          by_cases h13 : d = 13
          · have HT := hid (HT1.out h13)
            subst h13
            clear HT1 HT2
            have h10 : (f : Int) ≤ (((i - 1) : Nat) : Int) := by omega
            have h11 : (((i - 1) : Nat) : Int) ≤ (s.size : Int) := by omega
            go_wp2_with (at_builtin; refine wpList_append_str25 _ rfl (.tmp 47) (.tmp 52) rfl w.heap.size _ L _ rfl (KL.out _) wr.heap.size rfl (KC.out _) KN.out (KB.out _).size ?_)
            intro m5 a5 cap5 w5 hm5 hs5 hb5
            have HB5 := hid ((KB.out _).trans hb5.out)
            have HS5 := hs5
            rw [← HT.out] at HS5
            clear hb5 hs5 KB KL KC KN HT hm5
            go_wp2_with fail
            go_roundg (s.size + 1 - (i + 1))
            case rel => exact ⟨i + 1, i + 1, _, _, rfl, by first | rfl | go_num, by first | rfl | go_num, by omega, rfl, STATE.out, HS5, HB5⟩
            case measure => have := HGK.out; omega
          · have HT := hid (HT2.out h13)
            have h9 : ((d : Int) == 13) = false := by rw [beq_eq_false_iff_ne]; omega
            clear HT1 HT2
            have h10 : (f : Int) ≤ ((i : Nat) : Int) := by omega
            have h11 : ((i : Nat) : Int) ≤ (s.size : Int) := by omega
            go_wp2_with (at_builtin; refine wpList_append_str25 _ rfl (.tmp 47) (.tmp 52) rfl w.heap.size _ L _ rfl (KL.out _) wr.heap.size rfl (KC.out _) KN.out (KB.out _).size ?_)
            intro m5 a5 cap5 w5 hm5 hs5 hb5
            have HB5 := hid ((KB.out _).trans hb5.out)
            have HS5 := hs5
            rw [← HT.out] at HS5
            clear hb5 hs5 KB KL KC KN HT hm5
            go_wp2_with fail
            go_roundg (s.size + 1 - (i + 1))
            case rel => exact ⟨i + 1, i + 1, _, _, rfl, by first | rfl | go_num, by first | rfl | go_num, by omega, rfl, STATE.out, HS5, HB5⟩
            case measure => have := HGK.out; omega
        · exact absurd hfl hfi
end Go.Proofs.YtdfnehngffajiaaDoor
