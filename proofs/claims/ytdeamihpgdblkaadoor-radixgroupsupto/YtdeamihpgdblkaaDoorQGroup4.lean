/-
  Group4: the contract of Grouped.
-/
import Derived.Test.YtdeamihpgdblkaaDoorQDec4ToBuild4
namespace Go.Proofs.YtdeamihpgdblkaaDoor
open Go.RowKit
set_option linter.unusedVariables false

/-- What Grouped lays: a mark ahead of each three digits, but not ahead of the first. -/
def grpF : Bool → List UInt8 → List UInt8
  | _, [] => []
  | f, c :: r => (if f = false ∧ (r.length + 1) % 3 = 0 then [95, c] else [c]) ++ grpF false r
theorem grp_nil (f : Bool) : grpF f [] = [] := by unfold grpF; rfl
theorem grp_step {l : List UInt8} {k : Nat} (h : k < l.length) (f : Bool) : grpF f (l.drop k) = (if f = false ∧ (l.length - k) % 3 = 0 then [95, l[k]] else [l[k]]) ++ grpF false (l.drop (k + 1)) := by
  rw [List.drop_eq_getElem_cons h, grpF, List.length_drop, show l.length - (k + 1) + 1 = l.length - k by omega]
theorem mk_get (l : List UInt8) (k : Nat) (h : k < (⟨l.toArray⟩ : ByteArray).size) (h' : k < l.length) : (⟨l.toArray⟩ : ByteArray)[k]'h = l[k] := rfl
theorem rune_one {c : UInt8} (h : c.toNat < 128) : Lib.runeCells ((c.toNat : Nat) : Int) = Lib.byteCells [c] := by
  rw [Lib.runeCells, Lib.encodeRuneZ_one (by omega) (by omega)]
  rfl

set_option maxHeartbeats 3200000 in
set_option maxRecDepth 100000 in
theorem grouped_any {w : World} {va : Value} {xs : List Int} (ha : Sl w.heap.size w va xs) (lx : xs.length ≤ 1048576) (hT : Sg w) (hA : ∀ c ∈ txtL 10 (vn xs), c.toNat < 128) :
    Calls Tryd.prog 5 #[va] w fun e w' => e = .returned (.string ⟨(grpF true (txtL 10 (vn xs))).toArray⟩) ∧ Below w.heap.size w w' := by
  have HD := hid (dec_any ha lx hT)
  have hz := txt_size (B := 10) (by omega) ha.1 lx
  have hz2 : (txt 10 (vn xs)).size = (txtL 10 (vn xs)).length := mk_size _
  have HN : Hid (∀ k (h : k < (txtL 10 (vn xs)).length), Utf8.decode (txt 10 (vn xs)) k = ((txtL 10 (vn xs))[k].toNat, 1)) := fun k h => decode_ascii (txt 10 (vn xs)) k (by rw [hz2]; exact h) (hA _ (List.getElem_mem h))
  obtain ⟨a, c, rfl⟩ : ∃ a c, va = .slice a xs.length c := by obtain ⟨_, a, c, e, _⟩ := ha; exact ⟨a, c, e⟩
  clear ha hT
  generalize txt 10 (vn xs) = s at *
  generalize txtL 10 (vn xs) = l at *
  go_enter Tryd.func5, Tryd.ntmps5
  go_wp2_with fail
  refine HD.out.mono ?_
  rintro e w1 ⟨rfl, b1⟩
  clear HD
  go_wp2
  go_loopw [] (fun wr => ∃ (k : Nat) (acc : List UInt8), k ≤ l.length ∧ Lib.IsBuilderF 38 5 w1.heap.size w1.heap.size (Lib.byteCells acc) wr ∧ wr.heap[w1.heap.size + 1]? = some (.stringIter s k) ∧ Below w1.heap.size w1 wr ∧ acc ++ grpF (k == 0) (l.drop k) = grpF true l ∧ acc.length ≤ 2 * k) (fun wr => s.size - wr.iterPos (w1.heap.size + 1))
  case atStart =>
    refine ⟨0, [], by omega, (Lib.IsBuilderF.of (Lib.fresh_isBuilder 38 5 w1)).alloc _, ?_, ((Below.refl _ w1).alloc (Nat.le_refl _) _).alloc (by simp) _, rfl, by simp⟩
    have := World.iter_heap (w1.alloc (.cells #[.pointer none, .slice none 0 0] 38)) s 0
    simpa using this
  case round =>
    obtain ⟨k, acc, hk, hI, hit, hbw, hacc, hal⟩ := hrel
    have hsz : w1.heap.size + 1 < wr.heap.size := (Array.getElem?_eq_some_iff.1 hit).1
    by_cases hp : k < l.length
    · have hp' : k < s.size := by omega
      have hnx : ∀ ty, (Instr.next (.pointer (some ⟨w1.heap.size + 1, 0, none⟩)) true ty).run Tryd.prog wr = _ := fun ty => Lib.run_next_any_at wr (w1.heap.size + 1) s k ty hit hp'
      rw [HN.out k hp] at hnx
      dsimp only at hnx
      have hI2 := hI.iterAt hit (k + 1)
      have hit2 := Lib.iterAt_heap wr (w1.heap.size + 1) s k (k + 1) hit
      have hbw2 := Lib.below_iterAt hbw (k := w1.heap.size + 1) (by omega) s (k + 1)
      have hsz2 : w1.heap.size ≤ (wr.iterAt (w1.heap.size + 1) s (k + 1)).heap.size := by rw [Lib.iterAt_size]; omega
      have hc : l[k].toNat < 128 := hA _ (List.getElem_mem hp)
      have hrc := rune_one hc
      rw [grp_step hp] at hacc
      generalize l[k] = d at *
      by_cases hm : (k == 0) = false ∧ (l.length - k) % 3 = 0
      · rw [if_pos hm] at hacc
        have q1 : (0 : Int) < (k : Int) := by have := hm.1; simp at this; omega
        have q2 : ((((l.length : Nat) : Int) - (k : Int)) % 3 == 0) = true := by
          have h3 := hm.2
          rw [beq_iff_eq]; omega
        go_wp2_with (go_at_call 11; refine (writeByte_any w1.heap.size w1.heap.size _ 95 _ hI2 (by rw [Lib.byteCells_length]; omega) hsz2).mono ?_)
        rintro e W1 ⟨rfl, h1, b2, k1⟩
        have hb2 := b2.size
        go_wp2_with (go_at_call 12; refine (writeRune_any w1.heap.size w1.heap.size _ (d.toNat : Int) (by omega) (by omega) _ (Or.inr h1) (by simp [Lib.byteCells_length]; omega) (by omega)).mono ?_)
        rintro e W2 ⟨rfl, h2, b3, k2⟩
        go_wp2
        go_roundw
        case rel =>
          refine ⟨k + 1, acc ++ [95, d], by omega, ?_, k2.iter (k1.iter hit2 (by omega)) (by omega), (hbw2.trans b2).trans b3, ?_, by simp; omega⟩
          · rw [Lib.byteCells_append]
            rw [hrc] at h2
            exact Or.inr (by simpa [Lib.byteCells] using h2)
          · rw [← hacc, show (k + 1 == 0) = false from rfl]; simp
        case measure =>
          simp only [World.iterPos, k2.iter (k1.iter hit2 (by omega)) (by omega), hit]
          omega
      · rw [if_neg hm] at hacc
        by_cases q0 : k = 0
        · subst q0
          go_wp2_with (go_at_call 12; refine (writeRune_any w1.heap.size w1.heap.size _ (d.toNat : Int) (by omega) (by omega) _ hI2 (by rw [Lib.byteCells_length]; omega) hsz2).mono ?_)
          rintro e W2 ⟨rfl, h2, b3, k2⟩
          go_wp2
          go_roundw
          case rel =>
            refine ⟨0 + 1, acc ++ [d], by omega, ?_, k2.iter hit2 (by omega), hbw2.trans b3, ?_, by simp; omega⟩
            · rw [Lib.byteCells_append]
              rw [hrc] at h2
              exact Or.inr h2
            · rw [← hacc, show (0 + 1 == 0) = false from rfl]; simp
          case measure =>
            simp only [World.iterPos, k2.iter hit2 (by omega), hit]
            omega
        have q1 : (0 : Int) < (k : Int) := by omega
        have q2 : ((((l.length : Nat) : Int) - (k : Int)) % 3 == 0) = false := by
          have h3 : ¬ (l.length - k) % 3 = 0 := fun h => hm ⟨by simp; omega, h⟩
          rw [beq_eq_false_iff_ne]; omega
        go_wp2_with (go_at_call 12; refine (writeRune_any w1.heap.size w1.heap.size _ (d.toNat : Int) (by omega) (by omega) _ hI2 (by rw [Lib.byteCells_length]; omega) hsz2).mono ?_)
        rintro e W2 ⟨rfl, h2, b3, k2⟩
        go_wp2
        go_roundw
        case rel =>
          refine ⟨k + 1, acc ++ [d], by omega, ?_, k2.iter hit2 (by omega), hbw2.trans b3, ?_, by simp; omega⟩
          · rw [Lib.byteCells_append]
            rw [hrc] at h2
            exact Or.inr h2
          · rw [← hacc, show (k + 1 == 0) = false from rfl]; simp
        case measure =>
          simp only [World.iterPos, k2.iter hit2 (by omega), hit]
          omega
    · have hnx : ∀ ty, (Instr.next (.pointer (some ⟨w1.heap.size + 1, 0, none⟩)) true ty).run Tryd.prog wr = _ := fun ty => Lib.run_next_end_at wr (w1.heap.size + 1) s k ty hit (by omega)
      go_wp2_with (go_at_call 13; refine (string_any w1.heap.size w1.heap.size acc _ hI (by omega)).mono ?_)
      rintro e W1 ⟨rfl, _, b2, _⟩
      go_wp2
      go_ret
      rw [show k = l.length by omega, List.drop_length, grp_nil, List.append_nil] at hacc
      subst hacc
      exact ⟨rfl, below_step b1 (hbw.trans b2)⟩
end Go.Proofs.YtdeamihpgdblkaaDoor
