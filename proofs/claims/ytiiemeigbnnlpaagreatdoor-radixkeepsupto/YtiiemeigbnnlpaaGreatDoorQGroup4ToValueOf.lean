/-
  QGroup4ToValueOf: Group4, ValueOf, joined.
-/
import Derived.Test.YtiiemeigbnnlpaaGreatDoorQTextToBuild4

/- Group4 -/
namespace Go.Proofs.YtiiemeigbnnlpaaGreatDoor
open Go.RowKit
set_option linter.unusedVariables false

/-- What Grouped lays: a mark ahead of each three digits, but not ahead of the first. -/
def grpF : Bool → List UInt8 → List UInt8
  | _, [] => []
  | f, c :: r => (if f = false ∧ (r.length + 1) % 3 = 0 then [95, c] else [c]) ++ grpF false r
theorem grp_nil (f : Bool) : grpF f [] = [] := by unfold grpF; rfl
theorem grp_step {l : List UInt8} {k : Nat} (h : k < l.length) (f : Bool) : grpF f (l.drop k) = (if f = false ∧ (l.length - k) % 3 = 0 then [95, l[k]] else [l[k]]) ++ grpF false (l.drop (k + 1)) := by
  rw [List.drop_eq_getElem_cons h, grpF, List.length_drop, show l.length - (k + 1) + 1 = l.length - k by omega]
theorem mk_get (l : List UInt8) (k : Nat) (h : k < (⟨l.toArray⟩ : ByteArray).size) (h' : k < l.length) : (⟨l.toArray⟩ : ByteArray)[k]'h = l[k] := rfl
theorem rune_one {c : UInt8} (h : c.toNat < 128) : Lib.runeCells ((c.toNat : Nat) : Int) = Lib.byteCells [c] := by
  rw [Lib.runeCells, Lib.encodeRuneZ_one (by omega) (by omega)]
  rfl

set_option maxHeartbeats 3200000 in
set_option maxRecDepth 100000 in
theorem grouped_any {w : World} {va : Value} {xs : List Int} (ha : Sl w.heap.size w va xs) (lx : xs.length ≤ 1048576) (hT : Sg w) (hA : ∀ c ∈ txtL 10 (vn xs), c.toNat < 128) :
    Calls Tryz.prog 28 #[va] w fun e w' => e = .returned (.string ⟨(grpF true (txtL 10 (vn xs))).toArray⟩) ∧ Below w.heap.size w w' := by
  have HD := hid (dec_any ha lx hT)
  have hz := txt_size (B := 10) (by omega) ha.1 lx
  have hz2 : (txt 10 (vn xs)).size = (txtL 10 (vn xs)).length := mk_size _
  have HN : Hid (∀ k (h : k < (txtL 10 (vn xs)).length), Utf8.decode (txt 10 (vn xs)) k = ((txtL 10 (vn xs))[k].toNat, 1)) := fun k h => decode_ascii (txt 10 (vn xs)) k (by rw [hz2]; exact h) (hA _ (List.getElem_mem h))
  obtain ⟨a, c, rfl⟩ : ∃ a c, va = .slice a xs.length c := by obtain ⟨_, a, c, e, _⟩ := ha; exact ⟨a, c, e⟩
  clear ha hT
  generalize txt 10 (vn xs) = s at *
  generalize txtL 10 (vn xs) = l at *
  go_enter Tryz.func28, Tryz.ntmps28
  go_wp2_with fail
  refine HD.out.mono ?_
  rintro e w1 ⟨rfl, b1⟩
  clear HD
  go_wp2
  go_loopw [] (fun wr => ∃ (k : Nat) (acc : List UInt8), k ≤ l.length ∧ Lib.IsBuilderF 60 5 w1.heap.size w1.heap.size (Lib.byteCells acc) wr ∧ wr.heap[w1.heap.size + 1]? = some (.stringIter s k) ∧ Below w1.heap.size w1 wr ∧ acc ++ grpF (k == 0) (l.drop k) = grpF true l ∧ acc.length ≤ 2 * k) (fun wr => s.size - wr.iterPos (w1.heap.size + 1))
  case atStart =>
    refine ⟨0, [], by omega, (Lib.IsBuilderF.of (Lib.fresh_isBuilder 60 5 w1)).alloc _, ?_, ((Below.refl _ w1).alloc (Nat.le_refl _) _).alloc (by simp) _, rfl, by simp⟩
    have := World.iter_heap (w1.alloc (.cells #[.pointer none, .slice none 0 0] 60)) s 0
    simpa using this
  case round =>
    obtain ⟨k, acc, hk, hI, hit, hbw, hacc, hal⟩ := hrel
    have hsz : w1.heap.size + 1 < wr.heap.size := (Array.getElem?_eq_some_iff.1 hit).1
    by_cases hp : k < l.length
    · have hp' : k < s.size := by omega
      have hnx : ∀ ty, (Instr.next (.pointer (some ⟨w1.heap.size + 1, 0, none⟩)) true ty).run Tryz.prog wr = _ := fun ty => Lib.run_next_any_at wr (w1.heap.size + 1) s k ty hit hp'
      rw [HN.out k hp] at hnx
      dsimp only at hnx
      have hI2 := hI.iterAt hit (k + 1)
      have hit2 := Lib.iterAt_heap wr (w1.heap.size + 1) s k (k + 1) hit
      have hbw2 := Lib.below_iterAt hbw (k := w1.heap.size + 1) (by omega) s (k + 1)
      have hsz2 : w1.heap.size ≤ (wr.iterAt (w1.heap.size + 1) s (k + 1)).heap.size := by rw [Lib.iterAt_size]; omega
      have hc : l[k].toNat < 128 := hA _ (List.getElem_mem hp)
      have hrc := rune_one hc
      rw [grp_step hp] at hacc
      generalize l[k] = d at *
      by_cases hm : (k == 0) = false ∧ (l.length - k) % 3 = 0
      · rw [if_pos hm] at hacc
        have q1 : (0 : Int) < (k : Int) := by have := hm.1; simp at this; omega
        have q2 : ((((l.length : Nat) : Int) - (k : Int)) % 3 == 0) = true := by
          have h3 := hm.2
          rw [beq_iff_eq]; omega
        go_wp2_with (go_at_call 45; refine (writeByte_any w1.heap.size w1.heap.size _ 95 _ hI2 (by rw [Lib.byteCells_length]; omega) hsz2).mono ?_)
        rintro e W1 ⟨rfl, h1, b2, k1⟩
        have hb2 := b2.size
        go_wp2_with (go_at_call 37; refine (writeRune_any w1.heap.size w1.heap.size _ (d.toNat : Int) (by omega) (by omega) _ (Or.inr h1) (by simp [Lib.byteCells_length]; omega) (by omega)).mono ?_)
        rintro e W2 ⟨rfl, h2, b3, k2⟩
        go_wp2
        go_roundw
        case rel =>
          refine ⟨k + 1, acc ++ [95, d], by omega, ?_, k2.iter (k1.iter hit2 (by omega)) (by omega), (hbw2.trans b2).trans b3, ?_, by simp; omega⟩
          · rw [Lib.byteCells_append]
            rw [hrc] at h2
            exact Or.inr (by simpa [Lib.byteCells] using h2)
          · rw [← hacc, show (k + 1 == 0) = false from rfl]; simp
        case measure =>
          simp only [World.iterPos, k2.iter (k1.iter hit2 (by omega)) (by omega), hit]
          omega
      · rw [if_neg hm] at hacc
        by_cases q0 : k = 0
        · subst q0
          go_wp2_with (go_at_call 37; refine (writeRune_any w1.heap.size w1.heap.size _ (d.toNat : Int) (by omega) (by omega) _ hI2 (by rw [Lib.byteCells_length]; omega) hsz2).mono ?_)
          rintro e W2 ⟨rfl, h2, b3, k2⟩
          go_wp2
          go_roundw
          case rel =>
            refine ⟨0 + 1, acc ++ [d], by omega, ?_, k2.iter hit2 (by omega), hbw2.trans b3, ?_, by simp; omega⟩
            · rw [Lib.byteCells_append]
              rw [hrc] at h2
              exact Or.inr h2
            · rw [← hacc, show (0 + 1 == 0) = false from rfl]; simp
          case measure =>
            simp only [World.iterPos, k2.iter hit2 (by omega), hit]
            omega
        have q1 : (0 : Int) < (k : Int) := by omega
        have q2 : ((((l.length : Nat) : Int) - (k : Int)) % 3 == 0) = false := by
          have h3 : ¬ (l.length - k) % 3 = 0 := fun h => hm ⟨by simp; omega, h⟩
          rw [beq_eq_false_iff_ne]; omega
        go_wp2_with (go_at_call 37; refine (writeRune_any w1.heap.size w1.heap.size _ (d.toNat : Int) (by omega) (by omega) _ hI2 (by rw [Lib.byteCells_length]; omega) hsz2).mono ?_)
        rintro e W2 ⟨rfl, h2, b3, k2⟩
        go_wp2
        go_roundw
        case rel =>
          refine ⟨k + 1, acc ++ [d], by omega, ?_, k2.iter hit2 (by omega), hbw2.trans b3, ?_, by simp; omega⟩
          · rw [Lib.byteCells_append]
            rw [hrc] at h2
            exact Or.inr h2
          · rw [← hacc, show (k + 1 == 0) = false from rfl]; simp
        case measure =>
          simp only [World.iterPos, k2.iter hit2 (by omega), hit]
          omega
    · have hnx : ∀ ty, (Instr.next (.pointer (some ⟨w1.heap.size + 1, 0, none⟩)) true ty).run Tryz.prog wr = _ := fun ty => Lib.run_next_end_at wr (w1.heap.size + 1) s k ty hit (by omega)
      go_wp2_with (go_at_call 38; refine (string_any w1.heap.size w1.heap.size acc _ hI (by omega)).mono ?_)
      rintro e W1 ⟨rfl, _, b2, _⟩
      go_wp2
      go_ret
      rw [show k = l.length by omega, List.drop_length, grp_nil, List.append_nil] at hacc
      subst hacc
      exact ⟨rfl, below_step b1 (hbw.trans b2)⟩
end Go.Proofs.YtiiemeigbnnlpaaGreatDoor

/- ValueOf -/
namespace Go.Proofs.YtiiemeigbnnlpaaGreatDoor
open Go.RowKit
set_option linter.unusedVariables false

/-- The value of a sign, 99 of what is none. -/
def dv (c : Nat) : Nat := if 48 ≤ c ∧ c ≤ 57 then c - 48 else if 97 ≤ c ∧ c ≤ 122 then c - 87 else if 65 ≤ c ∧ c ≤ 90 then c - 55 else 99
def lw (c : Nat) : Nat := if 65 ≤ c ∧ c ≤ 90 then c + 32 else c
/-- What valueOf answers. -/
def vo (B c : Nat) : Nat := if dv c < B then dv c else B
theorem dv_of {d c : Nat} (hd : d < 36) (h : sgn d = (lw c : Int)) : dv c = d := by
  unfold sgn lw at h
  unfold dv
  split at h <;> split at h <;> (repeat' split) <;> omega
theorem sgn_dv {c : Nat} (h : dv c < 36) : sgn (dv c) = (lw c : Int) := by
  unfold dv at h ⊢
  unfold sgn lw
  (repeat' split at h) <;> (repeat' split) <;> omega
theorem vo_hit {B d c : Nat} (hB : B ≤ 36) (hd : d < B) (h : sgn d = (lw c : Int)) : vo B c = d := by
  unfold vo
  rw [dv_of (by omega) h, if_pos hd]
theorem vo_miss {B c : Nat} (hB : B ≤ 36) (h : ∀ e, e < B → sgn e ≠ (lw c : Int)) : vo B c = B := by
  unfold vo
  split
  · rename_i q
    exact absurd (sgn_dv (by omega)) (h _ q)
  · rfl
theorem sgn_range {d : Nat} (h : d < 36) : 48 ≤ sgn d ∧ sgn d ≤ 122 := by unfold sgn; split <;> omega
set_option maxRecDepth 100000 in
set_option maxHeartbeats 1600000 in
theorem valueOf_any {w : World} (hT : Sg w) {B : Nat} (hB : 2 ≤ B) (hB2 : B ≤ 36) {r : Nat} (hr : r ≤ 2147483647) :
    Calls Tryz.prog 57 #[.int .i32 (r : Int), .int .i64 (B : Int)] w fun e w' => e = .returned (.int .i64 (vo B r : Int)) ∧ w' = w := by
  have HT := hid hT
  have hl : lw r ≤ 2147483647 := by unfold lw; split <;> omega
  by_cases hu : 65 ≤ r ∧ r ≤ 90
  · have u1 : (65 : Int) ≤ (r : Int) := by omega
    have u2 : (r : Int) ≤ 90 := by omega
    have el : (r : Int) + 32 = (lw r : Int) := by unfold lw; rw [if_pos hu]; simp
    obtain ⟨V, hV⟩ : ∃ V, vo B r = V := ⟨_, rfl⟩
    have HV : Hid ((∀ d, d < B → sgn d = (lw r : Int) → V = d) ∧ ((∀ e, e < B → sgn e ≠ (lw r : Int)) → V = B)) := ⟨fun d h1 h2 => by rw [← hV]; exact vo_hit hB2 h1 h2, fun h => by rw [← hV]; exact vo_miss hB2 h⟩
    rw [hV]
    generalize lw r = q at *
    clear hT hV hu

    go_enter Tryz.func57, Tryz.ntmps57
    go_wp2_with fail
    go_loop [15] (fun i => ∃ d : Nat, d ≤ B ∧ i = .int .i64 (d : Int) ∧ Hid (∀ e, e < d → sgn e ≠ (q : Int))) (fun i => B - (intOf i).toNat)
    case atStart => exact ⟨0, Nat.zero_le _, rfl, fun e h => absurd h (Nat.not_lt_zero _)⟩
    case round =>
      obtain ⟨d, hd, rfl, HN⟩ := hrel
      by_cases hlt : d < B
      · have hd36 : d < 36 := by omega
        have c1 := HT.out d hd36
        have hr2 := sgn_range hd36
        by_cases hq : sgn d = (q : Int)
        · have hv := HV.out.1 d hlt hq
          subst hv
          generalize sgn V = x at *
          go_wp2
          go_ret
          exact ⟨rfl, rfl⟩
        · have hq2 : (sgn d == (q : Int)) = false := by simpa using hq
          have HN2 : Hid (∀ e, e < d + 1 → sgn e ≠ (q : Int)) := fun e he => by
            rcases Nat.lt_or_ge e d with h | h
            · exact HN.out e h
            · obtain rfl : e = d := by omega
              exact hq
          generalize sgn d = x at *
          clear HN
          go_wp2
          go_round
          case rel => exact ⟨d + 1, by omega, by go_num, HN2⟩
          case measure => first | (simp [intOf]; done) | (simp [intOf]; omega)
      · obtain rfl : d = B := by omega
        have hv := HV.out.2 HN.out
        subst hv
        go_wp2
        go_ret
        exact ⟨rfl, rfl⟩
  · have el : lw r = r := by unfold lw; rw [if_neg hu]
    obtain ⟨V, hV⟩ : ∃ V, vo B r = V := ⟨_, rfl⟩
    have HV : Hid ((∀ d, d < B → sgn d = (lw r : Int) → V = d) ∧ ((∀ e, e < B → sgn e ≠ (lw r : Int)) → V = B)) := ⟨fun d h1 h2 => by rw [← hV]; exact vo_hit hB2 h1 h2, fun h => by rw [← hV]; exact vo_miss hB2 h⟩
    rw [hV]
    rw [el] at HV hl
    obtain ⟨q, hq0⟩ : ∃ q, q = r := ⟨_, rfl⟩
    rw [← hq0] at HV hl hu hr ⊢
    clear hT hV el hq0
    by_cases u1 : (65 : Int) ≤ (q : Int)
    · have u2 : ¬ (q : Int) ≤ 90 := by omega

      go_enter Tryz.func57, Tryz.ntmps57
      go_wp2_with fail
      go_loop [15] (fun i => ∃ d : Nat, d ≤ B ∧ i = .int .i64 (d : Int) ∧ Hid (∀ e, e < d → sgn e ≠ (q : Int))) (fun i => B - (intOf i).toNat)
      case atStart => exact ⟨0, Nat.zero_le _, rfl, fun e h => absurd h (Nat.not_lt_zero _)⟩
      case round =>
        obtain ⟨d, hd, rfl, HN⟩ := hrel
        by_cases hlt : d < B
        · have hd36 : d < 36 := by omega
          have c1 := HT.out d hd36
          have hr2 := sgn_range hd36
          by_cases hq : sgn d = (q : Int)
          · have hv := HV.out.1 d hlt hq
            subst hv
            generalize sgn V = x at *
            go_wp2
            go_ret
            exact ⟨rfl, rfl⟩
          · have hq2 : (sgn d == (q : Int)) = false := by simpa using hq
            have HN2 : Hid (∀ e, e < d + 1 → sgn e ≠ (q : Int)) := fun e he => by
              rcases Nat.lt_or_ge e d with h | h
              · exact HN.out e h
              · obtain rfl : e = d := by omega
                exact hq
            generalize sgn d = x at *
            clear HN
            go_wp2
            go_round
            case rel => exact ⟨d + 1, by omega, by go_num, HN2⟩
            case measure => first | (simp [intOf]; done) | (simp [intOf]; omega)
        · obtain rfl : d = B := by omega
          have hv := HV.out.2 HN.out
          subst hv
          go_wp2
          go_ret
          exact ⟨rfl, rfl⟩
    · skip

      go_enter Tryz.func57, Tryz.ntmps57
      go_wp2_with fail
      go_loop [15] (fun i => ∃ d : Nat, d ≤ B ∧ i = .int .i64 (d : Int) ∧ Hid (∀ e, e < d → sgn e ≠ (q : Int))) (fun i => B - (intOf i).toNat)
      case atStart => exact ⟨0, Nat.zero_le _, rfl, fun e h => absurd h (Nat.not_lt_zero _)⟩
      case round =>
        obtain ⟨d, hd, rfl, HN⟩ := hrel
        by_cases hlt : d < B
        · have hd36 : d < 36 := by omega
          have c1 := HT.out d hd36
          have hr2 := sgn_range hd36
          by_cases hq : sgn d = (q : Int)
          · have hv := HV.out.1 d hlt hq
            subst hv
            generalize sgn V = x at *
            go_wp2
            go_ret
            exact ⟨rfl, rfl⟩
          · have hq2 : (sgn d == (q : Int)) = false := by simpa using hq
            have HN2 : Hid (∀ e, e < d + 1 → sgn e ≠ (q : Int)) := fun e he => by
              rcases Nat.lt_or_ge e d with h | h
              · exact HN.out e h
              · obtain rfl : e = d := by omega
                exact hq
            generalize sgn d = x at *
            clear HN
            go_wp2
            go_round
            case rel => exact ⟨d + 1, by omega, by go_num, HN2⟩
            case measure => first | (simp [intOf]; done) | (simp [intOf]; omega)
        · obtain rfl : d = B := by omega
          have hv := HV.out.2 HN.out
          subst hv
          go_wp2
          go_ret
          exact ⟨rfl, rfl⟩
end Go.Proofs.YtiiemeigbnnlpaaGreatDoor
