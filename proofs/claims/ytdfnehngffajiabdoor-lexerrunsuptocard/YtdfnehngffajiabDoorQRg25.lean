/-
  Rg25: the contracts of ReadDec and ReadGrouped.
-/
import Derived.Test.YtdfnehngffajiabDoorQReadToBr25
namespace Go.Proofs.YtdfnehngffajiabDoor
open Go.RowKit
set_option linter.unusedVariables false

/-- The text without its marks, from place pos on, by at most 'fuel' runes; m: the rune before was a mark. -/
def ug (s : ByteArray) : Nat → Nat → Bool → Option (List UInt8)
  | 0, _, m => if m then none else some []
  | f + 1, pos, m => if pos < s.size then (if (Utf8.decode s pos).1 = 95 then (if m then none else ug s f (pos + (Utf8.decode s pos).2) true) else (ug s f (pos + (Utf8.decode s pos).2) false).map (Lib.encodeRune (Utf8.decode s pos).1 ++ ·)) else (if m then none else some [])
theorem ug_end {s : ByteArray} {f pos : Nat} {m : Bool} (h : ¬ pos < s.size) : ug s f pos m = if m then none else some [] := by
  cases f with
  | zero => rfl
  | succ f => rw [ug, if_neg h]
def RGPost (w : World) (s : ByteArray) (e : Ending) (w' : World) : Prop :=
  (∃ l, ug s s.size 0 true = some l ∧ ReadPost w 10 l e w') ∨ (ug s s.size 0 true = none ∧ e = .returned (.tuple #[.slice none 0 0, .int .i64 7]) ∧ Below w.heap.size w w')
theorem width_pos (s : ByteArray) (pos : Nat) (h : pos < s.size) : 1 ≤ (Utf8.decode s pos).2 := by
  by_cases ha : (s[pos]'h).toNat < 128
  · rw [decode_ascii s pos h ha]
    exact Nat.le_refl _
  · exact (decode_high s pos h (by omega)).2

set_option maxHeartbeats 3200000 in
set_option maxRecDepth 100000 in
theorem readGrouped_any {w : World} {s : ByteArray} (hs : s.size ≤ 200000000) (hT : Sg w) :
    Calls Tryd.prog 10 #[.string s] w (RGPost w s) := by
  have HT := hid hT
  clear hT
  obtain ⟨R, hR⟩ : ∃ R, ug s s.size 0 true = R := ⟨_, rfl⟩
  have HR := hid hR
  clear hR
  go_enter Tryd.func10, Tryd.ntmps10
  go_wp2
  go_loopw [5] (fun v wr => ∃ (pos fuel : Nat) (acc : List UInt8) (x : Int), v = .int .i32 x ∧ Lib.IsBuilderF 51 5 w.heap.size w.heap.size (Lib.byteCells acc) wr ∧ wr.heap[w.heap.size + 1]? = some (.stringIter s pos) ∧ Below w.heap.size w wr ∧ Hid ((ug s fuel pos (x == 95)).map (acc ++ ·) = R) ∧ s.size ≤ pos + fuel ∧ acc.length + 4 * fuel ≤ 4 * s.size) (fun _ wr => s.size - wr.iterPos (w.heap.size + 1))
  case atStart =>
    refine ⟨0, s.size, [], 95, rfl, (Lib.IsBuilderF.of (Lib.fresh_isBuilder 51 5 w)).alloc _, ?_, ((Below.refl _ w).alloc (Nat.le_refl _) _).alloc (by simp) _, ?_, by omega, by simp⟩
    · have := World.iter_heap (w.alloc (.cells #[.pointer none, .slice none 0 0] 51)) s 0
      simpa using this
    · unfold Hid
      rw [show ((95 : Int) == 95) = true from rfl, HR.out]
      cases R <;> simp
  case round =>
    obtain ⟨pos, fuel, acc, x, rfl, hI, hit, hbw, HA, hfu, hal⟩ := hrel
    have hsz : w.heap.size + 1 < wr.heap.size := (Array.getElem?_eq_some_iff.1 hit).1
    by_cases hp : pos < s.size
    · have hnx : ∀ ty, (Instr.next (.pointer (some ⟨w.heap.size + 1, 0, none⟩)) true ty).run Tryd.prog wr = _ := fun ty => Lib.run_next_any_at wr (w.heap.size + 1) s pos ty hit hp
      have hwd := width_pos s pos hp
      have hd1 := decode_le s pos
      obtain ⟨f, rfl⟩ : ∃ f, fuel = f + 1 := ⟨fuel - 1, by omega⟩
      have HU : Hid (ug s (f + 1) pos (x == 95) = (if (Utf8.decode s pos).1 = 95 then (if (x == 95) = true then none else ug s f (pos + (Utf8.decode s pos).2) true) else (ug s f (pos + (Utf8.decode s pos).2) false).map (Lib.encodeRune (Utf8.decode s pos).1 ++ ·))) := by unfold Hid; rw [ug, if_pos hp]
      generalize Utf8.decode s pos = rd at *
      obtain ⟨r, d⟩ := rd
      dsimp only at hnx hwd hd1 HU
      have hI2 := hI.iterAt hit (pos + d)
      have hit2 := Lib.iterAt_heap wr (w.heap.size + 1) s pos (pos + d) hit
      have hbw2 := Lib.below_iterAt hbw (k := w.heap.size + 1) (by omega) s (pos + d)
      have hsz2 : w.heap.size ≤ (wr.iterAt (w.heap.size + 1) s (pos + d)).heap.size := by rw [Lib.iterAt_size]; omega
      by_cases hr : r = 95
      · subst hr
        rw [show ((95 : Nat) : Int) = 95 from rfl] at hnx
        have HU' := HU.out
        rw [if_pos rfl] at HU'
        by_cases hx : x = 95
        · subst hx
          have e : R = none := by rw [← HA.out, HU']; rfl
          have HE := hid (HR.out.trans e)
          clear HU HU' HA e
          go_wp2
          go_ret2
          exact .inr ⟨HE.out, rfl, hbw2⟩
        · have qx : (x == 95) = false := beq_eq_false_iff_ne.2 hx
          rw [qx, if_neg (by simp)] at HU'
          have HA2 : Hid ((ug s f (pos + d) true).map (acc ++ ·) = R) := by unfold Hid; rw [← HA.out, qx, HU']
          clear HU HU' HA
          go_wp2
          go_roundw
          case rel =>
            exact ⟨pos + d, f, acc, 95, rfl, hI2, hit2, hbw2, HA2, by omega, by omega⟩
          case measure =>
            simp only [World.iterPos, hit2, hit]
            omega
      · have HU' := HU.out
        rw [if_neg hr] at HU'
        have qr : ((r : Int) == 95) = false := beq_eq_false_iff_ne.2 (by omega)
        have qr2 : ((r : Int) != 95) = true := by rw [bne, qr]; rfl
        have qr3 : ¬ (r : Int) = 95 := by omega
        have hl4 := Lib.runeCells_le (r : Int)
        have HA2 : Hid ((ug s f (pos + d) ((r : Int) == 95)).map ((acc ++ Lib.encodeRune (r : Int)) ++ ·) = R) := by
          unfold Hid
          rw [← HA.out, HU', qr, Option.map_map]
          congr 1
          funext l
          simp [Function.comp]
        clear HU HU' HA
        go_wp2_with (go_at_call 15; refine (writeRune_any w.heap.size w.heap.size _ (r : Int) (by omega) (by omega) _ hI2 (by rw [Lib.byteCells_length]; omega) hsz2).mono ?_)
        rintro e W1 ⟨rfl, h1, b1, k1⟩
        go_wp2
        go_roundw
        case rel =>
          rw [Lib.runeCells_length] at hl4
          refine ⟨pos + d, f, acc ++ Lib.encodeRune (r : Int), (r : Int), rfl, ?_, k1.iter hit2 (by omega), hbw2.trans b1, HA2, by omega, by simp; omega⟩
          rw [Lib.byteCells_append, Lib.byteCells_encodeRune]; exact Or.inr h1
        case measure =>
          simp only [World.iterPos, k1.iter hit2 (by omega), hit]
          omega
    · have hnx : ∀ ty, (Instr.next (.pointer (some ⟨w.heap.size + 1, 0, none⟩)) true ty).run Tryd.prog wr = _ := fun ty => Lib.run_next_end_at wr (w.heap.size + 1) s pos ty hit hp
      have HA' := HA.out
      rw [ug_end hp] at HA'
      by_cases hx : x = 95
      · subst hx
        have e : R = none := by rw [← HA']; rfl
        go_wp2
        go_ret2
        exact .inr ⟨HR.out.trans e, rfl, hbw⟩
      · have qx : (x == 95) = false := beq_eq_false_iff_ne.2 hx
        have e : R = some acc := by rw [← HA', qx]; simp
        go_wp2_with (go_at_call 17; refine (string_any w.heap.size w.heap.size acc _ hI (by omega)).mono ?_)
        rintro e1 W1 ⟨rfl, _, b2, _⟩
        have HD := hid (readDec_any (l := acc) (HT.out.now (hbw.trans b2)) (by omega))
        go_wp2_with fail
        refine HD.out.mono ?_
        rintro e2 W2 h
        replace h := readPost_step (hbw.trans b2) h
        have HE := hid (HR.out.trans e)
        clear e HA' HD
        rcases h with ⟨g, zs, a, c, rfl, h2⟩ | ⟨g, rfl, h2⟩
        · replace g := hid g
          replace h2 := hid h2
          go_wp2
          go_ret2
          exact .inl ⟨_, HE.out, .inl ⟨g.out, zs, a, c, rfl, h2.out⟩⟩
        · replace g := hid g
          replace h2 := hid h2
          go_wp2
          go_ret2
          exact .inl ⟨_, HE.out, .inr ⟨g.out, rfl, h2.out⟩⟩
def ugL : List UInt8 → Bool → Option (List UInt8)
  | [], m => if m then none else some []
  | c :: r, m => if c = 95 then (if m then none else ugL r true) else (ugL r false).map (c :: ·)
theorem enc_one {c : UInt8} (h : c.toNat < 128) : Lib.encodeRune ((c.toNat : Nat) : Int) = [c] := by
  rw [Lib.encodeRune, Lib.encodeRuneZ_one (by omega) (by omega)]
  simp
theorem ug_ascii {L : List UInt8} (hA : ∀ c ∈ L, c.toNat < 128) : ∀ (f pos : Nat) (m : Bool), L.length ≤ pos + f → ug ⟨L.toArray⟩ f pos m = ugL (L.drop pos) m
  | 0, pos, m, h => by
    rw [List.drop_eq_nil_of_le (by omega)]
    rfl
  | f + 1, pos, m, h => by
    by_cases hp : pos < L.length
    · have hp' : pos < (⟨L.toArray⟩ : ByteArray).size := by rw [mk_size]; exact hp
      have hc := hA _ (List.getElem_mem hp)
      have hd : Utf8.decode (⟨L.toArray⟩ : ByteArray) pos = (L[pos].toNat, 1) := decode_ascii _ pos hp' hc
      rw [ug, if_pos hp', hd, List.drop_eq_getElem_cons hp, ugL, ug_ascii hA f (pos + 1) true (by omega), ug_ascii hA f (pos + 1) false (by omega)]
      dsimp only
      rw [enc_one hc]
      have e : (L[pos].toNat = 95) ↔ (L[pos] = 95) := ⟨fun h => UInt8.toNat_inj.1 h, fun h => by rw [h]; rfl⟩
      simp only [e]
      rfl
    · rw [ug_end (by rw [mk_size]; exact hp), List.drop_eq_nil_of_le (by omega)]
      rfl
end Go.Proofs.YtdfnehngffajiabDoor
