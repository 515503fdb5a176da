/-
  QBuild4ToGroup4: Build4, Group4, joined.
-/
import Derived.Test.YtaflidiokhaljaaDoorQReadToTxtBack
import Derived.Shelf.Strings.BuilderK
import Derived.Shelf.Strings.BuilderRune
import Derived.WalkKit
import Derived.BigCall

/- Build4 -/
namespace Go.Proofs.YtaflidiokhaljaaDoor
open Go.RowKit

def ren4 : Go.Shelf.Ren := ⟨fun | 167 => 32 | 168 => 33 | 169 => 34 | 240 => 49 | 242 => 50 | 276 => 66 | 278 => 67 | n => n, fun | 0 => 0 | 3 => 3 | 4 => 4 | 5 => 5 | 9 => 9 | 20 => 20 | 21 => 21 | 37 => 45 | 46 => 105 | 51 => 97 | 70 => 51 | 72 => 53 | 75 => 55 | 76 => 57 | 78 => 56 | 79 => 58 | 80 => 59 | 127 => 80 | 164 => 95 | n => n, fun | n => n⟩
theorem lays167 : Go.Proofs.Lays.n167 Tryd.prog ren4 := {
  mixed := by kernel_rfl
  f167 := Tryd.func32.trans (congrArg some (by kernel_rfl))
  f240 := Tryd.func49.trans (congrArg some (by kernel_rfl))
  f276 := Tryd.func66.trans (congrArg some (by kernel_rfl))
  t0 := Tryd.underlying0
  a0 := Tryd.isAgg0
  z0 := Tryd.sizeOf0
  v0 := Tryd.zeroValue0
  t4 := Tryd.underlying4
  a4 := Tryd.isAgg4
  z4 := Tryd.sizeOf4
  v4 := Tryd.zeroValue4
  t5 := Tryd.underlying5
  a5 := Tryd.isAgg5
  z5 := Tryd.sizeOf5
  v5 := Tryd.zeroValue5
  t9 := Tryd.underlying9
  a9 := Tryd.isAgg9
  z9 := Tryd.sizeOf9
  v9 := Tryd.zeroValue9
  t20 := Tryd.underlying20
  a20 := Tryd.isAgg20
  z20 := Tryd.sizeOf20
  v20 := Tryd.zeroValue20
  t37 := Tryd.underlying45
  a37 := Tryd.isAgg45
  z37 := Tryd.sizeOf45
  v37 := Tryd.zeroValue45
  t70 := Tryd.underlying51
  a70 := Tryd.isAgg51
  z70 := Tryd.sizeOf51
  v70 := Tryd.zeroValue51
  t72 := Tryd.underlying53
  a72 := Tryd.isAgg53
  z72 := Tryd.sizeOf53
  v72 := Tryd.zeroValue53
  t75 := Tryd.underlying55
  a75 := Tryd.isAgg55
  z75 := Tryd.sizeOf55
  v75 := Tryd.zeroValue55
  t164 := Tryd.underlying95
  a164 := Tryd.isAgg95
  z164 := Tryd.sizeOf95
  v164 := Tryd.zeroValue95 }
theorem lays168 : Go.Proofs.Lays.n168 Tryd.prog ren4 := {
  mixed := by kernel_rfl
  f168 := Tryd.func33.trans (congrArg some (by kernel_rfl))
  f240 := Tryd.func49.trans (congrArg some (by kernel_rfl))
  f242 := Tryd.func50.trans (congrArg some (by kernel_rfl))
  f276 := Tryd.func66.trans (congrArg some (by kernel_rfl))
  f278 := Tryd.func67.trans (congrArg some (by kernel_rfl))
  t0 := Tryd.underlying0
  a0 := Tryd.isAgg0
  z0 := Tryd.sizeOf0
  v0 := Tryd.zeroValue0
  t3 := Tryd.underlying3
  a3 := Tryd.isAgg3
  z3 := Tryd.sizeOf3
  v3 := Tryd.zeroValue3
  t4 := Tryd.underlying4
  a4 := Tryd.isAgg4
  z4 := Tryd.sizeOf4
  v4 := Tryd.zeroValue4
  t5 := Tryd.underlying5
  a5 := Tryd.isAgg5
  z5 := Tryd.sizeOf5
  v5 := Tryd.zeroValue5
  t9 := Tryd.underlying9
  a9 := Tryd.isAgg9
  z9 := Tryd.sizeOf9
  v9 := Tryd.zeroValue9
  t20 := Tryd.underlying20
  a20 := Tryd.isAgg20
  z20 := Tryd.sizeOf20
  v20 := Tryd.zeroValue20
  t21 := Tryd.underlying21
  a21 := Tryd.isAgg21
  z21 := Tryd.sizeOf21
  v21 := Tryd.zeroValue21
  t37 := Tryd.underlying45
  a37 := Tryd.isAgg45
  z37 := Tryd.sizeOf45
  v37 := Tryd.zeroValue45
  t46 := Tryd.underlying105
  a46 := Tryd.isAgg105
  z46 := Tryd.sizeOf105
  v46 := Tryd.zeroValue105
  t51 := Tryd.underlying97
  a51 := Tryd.isAgg97
  z51 := Tryd.sizeOf97
  v51 := Tryd.zeroValue97
  t70 := Tryd.underlying51
  a70 := Tryd.isAgg51
  z70 := Tryd.sizeOf51
  v70 := Tryd.zeroValue51
  t72 := Tryd.underlying53
  a72 := Tryd.isAgg53
  z72 := Tryd.sizeOf53
  v72 := Tryd.zeroValue53
  t75 := Tryd.underlying55
  a75 := Tryd.isAgg55
  z75 := Tryd.sizeOf55
  v75 := Tryd.zeroValue55
  t164 := Tryd.underlying95
  a164 := Tryd.isAgg95
  z164 := Tryd.sizeOf95
  v164 := Tryd.zeroValue95 }
theorem lays169 : Go.Proofs.Lays.n169 Tryd.prog ren4 := {
  mixed := by kernel_rfl
  f169 := Tryd.func34.trans (congrArg some (by kernel_rfl))
  t0 := Tryd.underlying0
  a0 := Tryd.isAgg0
  z0 := Tryd.sizeOf0
  v0 := Tryd.zeroValue0
  t3 := Tryd.underlying3
  a3 := Tryd.isAgg3
  z3 := Tryd.sizeOf3
  v3 := Tryd.zeroValue3
  t9 := Tryd.underlying9
  a9 := Tryd.isAgg9
  z9 := Tryd.sizeOf9
  v9 := Tryd.zeroValue9
  t37 := Tryd.underlying45
  a37 := Tryd.isAgg45
  z37 := Tryd.sizeOf45
  v37 := Tryd.zeroValue45
  t70 := Tryd.underlying51
  a70 := Tryd.isAgg51
  z70 := Tryd.sizeOf51
  v70 := Tryd.zeroValue51
  t72 := Tryd.underlying53
  a72 := Tryd.isAgg53
  z72 := Tryd.sizeOf53
  v72 := Tryd.zeroValue53
  t127 := Tryd.underlying80
  a127 := Tryd.isAgg80
  z127 := Tryd.sizeOf80
  v127 := Tryd.zeroValue80 }
theorem extra4 : Builder.Extra Tryd.prog ren4 where
  sizeBuilder := by kernel_rfl
  liesBuilder := by kernel_rfl
  t5 := Tryd.underlying5
  a5 := Tryd.isAgg5
  z5 := Tryd.sizeOf5
  v5 := Tryd.zeroValue5
  infoByte := by kernel_rfl
  cellsByte := by kernel_rfl
  sizeByte := by kernel_rfl
  neB5 := by decide
theorem writeByte_any (B b : Nat) (bs : List Value) (c : Int) (w : World) (h : Lib.IsBuilderF 53 5 B b bs w) (hlen : bs.length + 1 ≤ 140737488355328) (hBw : B ≤ w.heap.size) :
    Calls Tryd.prog 32 #[.pointer (some ⟨b, 0, none⟩), .int .u8 c] w fun e w' => e = .returned .nilIface ∧ (Lib.BuilderAtF 53 5 B b (.pointer (some ⟨b, 0, none⟩)) (bs ++ [.int .u8 c]) w' ∧ Below B w w' ∧ Lib.OthersKept 5 (some b) w w') := Any.Builder_WriteByte_k lays167 extra4 B b bs c w h hlen hBw
theorem writeRune_any (B b : Nat) (bs : List Value) (r : Int) (hr0 : -2147483648 ≤ r) (hr1 : r ≤ 2147483647) (w : World) (h : Lib.IsBuilderF 53 5 B b bs w) (hlen : bs.length + 4 ≤ 140737488355328) (hBw : B ≤ w.heap.size) :
    Calls Tryd.prog 33 #[.pointer (some ⟨b, 0, none⟩), .int .i32 r] w fun e w' => e = .returned (.tuple #[.int .i64 (Lib.runeCells r).length, .nilIface]) ∧ (Lib.BuilderAtF 53 5 B b (.pointer (some ⟨b, 0, none⟩)) (bs ++ Lib.runeCells r) w' ∧ Below B w w' ∧ Lib.OthersKept 5 (some b) w w') := Any.Builder_WriteRune_k lays168 extra4 B b bs r hr0 hr1 w h hlen hBw
theorem string_any (B b : Nat) (l : List UInt8) (w : World) (h : Lib.IsBuilderF 53 5 B b (Lib.byteCells l) w) (hBw : B ≤ w.heap.size) :
    Calls Tryd.prog 34 #[.pointer (some ⟨b, 0, none⟩)] w fun e w' => e = .returned (.string ⟨l.toArray⟩) ∧ (Lib.IsBuilderF 53 5 B b (Lib.byteCells l) w' ∧ Below B w w' ∧ Lib.OthersKept 5 (some b) w w') := Any.Builder_String_any_k lays169 extra4 B b l w h hBw
end Go.Proofs.YtaflidiokhaljaaDoor

/- Group4 -/
namespace Go.Proofs.YtaflidiokhaljaaDoor
open Go.RowKit
set_option linter.unusedVariables false

/-- What Grouped lays: a mark ahead of each three digits, but not ahead of the first. -/
def grpF : Bool → List UInt8 → List UInt8
  | _, [] => []
  | f, c :: r => (if f = false ∧ (r.length + 1) % 3 = 0 then [95, c] else [c]) ++ grpF false r
theorem grp_nil (f : Bool) : grpF f [] = [] := by unfold grpF; rfl
theorem grp_step {l : List UInt8} {k : Nat} (h : k < l.length) (f : Bool) : grpF f (l.drop k) = (if f = false ∧ (l.length - k) % 3 = 0 then [95, l[k]] else [l[k]]) ++ grpF false (l.drop (k + 1)) := by
  rw [List.drop_eq_getElem_cons h, grpF, List.length_drop, show l.length - (k + 1) + 1 = l.length - k by omega]
theorem mk_get (l : List UInt8) (k : Nat) (h : k < (⟨l.toArray⟩ : ByteArray).size) (h' : k < l.length) : (⟨l.toArray⟩ : ByteArray)[k]'h = l[k] := rfl
theorem rune_one {c : UInt8} (h : c.toNat < 128) : Lib.runeCells ((c.toNat : Nat) : Int) = Lib.byteCells [c] := by
  rw [Lib.runeCells, Lib.encodeRuneZ_one (by omega) (by omega)]
  rfl

set_option maxHeartbeats 3200000 in
set_option maxRecDepth 100000 in
theorem grouped_any {w : World} {va : Value} {xs : List Int} (ha : Sl w.heap.size w va xs) (lx : xs.length ≤ 1048576) (hT : Sg w) (hA : ∀ c ∈ txtL 10 (vn xs), c.toNat < 128) :
    Calls Tryd.prog 17 #[va] w fun e w' => e = .returned (.string ⟨(grpF true (txtL 10 (vn xs))).toArray⟩) ∧ Below w.heap.size w w' := by
  have HD := hid (dec_any ha lx hT)
  have hz := txt_size (B := 10) (by omega) ha.1 lx
  have hz2 : (txt 10 (vn xs)).size = (txtL 10 (vn xs)).length := mk_size _
  have HN : Hid (∀ k (h : k < (txtL 10 (vn xs)).length), Utf8.decode (txt 10 (vn xs)) k = ((txtL 10 (vn xs))[k].toNat, 1)) := fun k h => decode_ascii (txt 10 (vn xs)) k (by rw [hz2]; exact h) (hA _ (List.getElem_mem h))
  obtain ⟨a, c, rfl⟩ : ∃ a c, va = .slice a xs.length c := by obtain ⟨_, a, c, e, _⟩ := ha; exact ⟨a, c, e⟩
  clear ha hT
  generalize txt 10 (vn xs) = s at *
  generalize txtL 10 (vn xs) = l at *
  go_enter Tryd.func17, Tryd.ntmps17
  go_wp2_with fail
  refine HD.out.mono ?_
  rintro e w1 ⟨rfl, b1⟩
  clear HD
  go_wp2
  go_loopw [] (fun wr => ∃ (k : Nat) (acc : List UInt8), k ≤ l.length ∧ Lib.IsBuilderF 53 5 w1.heap.size w1.heap.size (Lib.byteCells acc) wr ∧ wr.heap[w1.heap.size + 1]? = some (.stringIter s k) ∧ Below w1.heap.size w1 wr ∧ acc ++ grpF (k == 0) (l.drop k) = grpF true l ∧ acc.length ≤ 2 * k) (fun wr => s.size - wr.iterPos (w1.heap.size + 1))
  case atStart =>
    refine ⟨0, [], by omega, (Lib.IsBuilderF.of (Lib.fresh_isBuilder 53 5 w1)).alloc _, ?_, ((Below.refl _ w1).alloc (Nat.le_refl _) _).alloc (by simp) _, rfl, by simp⟩
    have := World.iter_heap (w1.alloc (.cells #[.pointer none, .slice none 0 0] 53)) s 0
    simpa using this
  case round =>
    obtain ⟨k, acc, hk, hI, hit, hbw, hacc, hal⟩ := hrel
    have hsz : w1.heap.size + 1 < wr.heap.size := (Array.getElem?_eq_some_iff.1 hit).1
    by_cases hp : k < l.length
    · have hp' : k < s.size := by omega
      have hnx : ∀ ty, (Instr.next (.pointer (some ⟨w1.heap.size + 1, 0, none⟩)) true ty).run Tryd.prog wr = _ := fun ty => Lib.run_next_any_at wr (w1.heap.size + 1) s k ty hit hp'
      rw [HN.out k hp] at hnx
      dsimp only at hnx
      have hI2 := hI.iterAt hit (k + 1)
      have hit2 := Lib.iterAt_heap wr (w1.heap.size + 1) s k (k + 1) hit
      have hbw2 := Lib.below_iterAt hbw (k := w1.heap.size + 1) (by omega) s (k + 1)
      have hsz2 : w1.heap.size ≤ (wr.iterAt (w1.heap.size + 1) s (k + 1)).heap.size := by rw [Lib.iterAt_size]; omega
      have hc : l[k].toNat < 128 := hA _ (List.getElem_mem hp)
      have hrc := rune_one hc
      rw [grp_step hp] at hacc
      generalize l[k] = d at *
      by_cases hm : (k == 0) = false ∧ (l.length - k) % 3 = 0
      · rw [if_pos hm] at hacc
        have q1 : (0 : Int) < (k : Int) := by have := hm.1; simp at this; omega
        have q2 : ((((l.length : Nat) : Int) - (k : Int)) % 3 == 0) = true := by
          have h3 := hm.2
          rw [beq_iff_eq]; omega
        go_wp2_with (go_at_call 32; refine (writeByte_any w1.heap.size w1.heap.size _ 95 _ hI2 (by rw [Lib.byteCells_length]; omega) hsz2).mono ?_)
        rintro e W1 ⟨rfl, h1, b2, k1⟩
        have hb2 := b2.size
        go_wp2_with (go_at_call 33; refine (writeRune_any w1.heap.size w1.heap.size _ (d.toNat : Int) (by omega) (by omega) _ (Or.inr h1) (by simp [Lib.byteCells_length]; omega) (by omega)).mono ?_)
        rintro e W2 ⟨rfl, h2, b3, k2⟩
        go_wp2
        go_roundw
        case rel =>
          refine ⟨k + 1, acc ++ [95, d], by omega, ?_, k2.iter (k1.iter hit2 (by omega)) (by omega), (hbw2.trans b2).trans b3, ?_, by simp; omega⟩
          · rw [Lib.byteCells_append]
            rw [hrc] at h2
            exact Or.inr (by simpa [Lib.byteCells] using h2)
          · rw [← hacc, show (k + 1 == 0) = false from rfl]; simp
        case measure =>
          simp only [World.iterPos, k2.iter (k1.iter hit2 (by omega)) (by omega), hit]
          omega
      · rw [if_neg hm] at hacc
        by_cases q0 : k = 0
        · subst q0
          go_wp2_with (go_at_call 33; refine (writeRune_any w1.heap.size w1.heap.size _ (d.toNat : Int) (by omega) (by omega) _ hI2 (by rw [Lib.byteCells_length]; omega) hsz2).mono ?_)
          rintro e W2 ⟨rfl, h2, b3, k2⟩
          go_wp2
          go_roundw
          case rel =>
            refine ⟨0 + 1, acc ++ [d], by omega, ?_, k2.iter hit2 (by omega), hbw2.trans b3, ?_, by simp; omega⟩
            · rw [Lib.byteCells_append]
              rw [hrc] at h2
              exact Or.inr h2
            · rw [← hacc, show (0 + 1 == 0) = false from rfl]; simp
          case measure =>
            simp only [World.iterPos, k2.iter hit2 (by omega), hit]
            omega
        have q1 : (0 : Int) < (k : Int) := by omega
        have q2 : ((((l.length : Nat) : Int) - (k : Int)) % 3 == 0) = false := by
          have h3 : ¬ (l.length - k) % 3 = 0 := fun h => hm ⟨by simp; omega, h⟩
          rw [beq_eq_false_iff_ne]; omega
        go_wp2_with (go_at_call 33; refine (writeRune_any w1.heap.size w1.heap.size _ (d.toNat : Int) (by omega) (by omega) _ hI2 (by rw [Lib.byteCells_length]; omega) hsz2).mono ?_)
        rintro e W2 ⟨rfl, h2, b3, k2⟩
        go_wp2
        go_roundw
        case rel =>
          refine ⟨k + 1, acc ++ [d], by omega, ?_, k2.iter hit2 (by omega), hbw2.trans b3, ?_, by simp; omega⟩
          · rw [Lib.byteCells_append]
            rw [hrc] at h2
            exact Or.inr h2
          · rw [← hacc, show (k + 1 == 0) = false from rfl]; simp
        case measure =>
          simp only [World.iterPos, k2.iter hit2 (by omega), hit]
          omega
    · have hnx : ∀ ty, (Instr.next (.pointer (some ⟨w1.heap.size + 1, 0, none⟩)) true ty).run Tryd.prog wr = _ := fun ty => Lib.run_next_end_at wr (w1.heap.size + 1) s k ty hit (by omega)
      go_wp2_with (go_at_call 34; refine (string_any w1.heap.size w1.heap.size acc _ hI (by omega)).mono ?_)
      rintro e W1 ⟨rfl, _, b2, _⟩
      go_wp2
      go_ret
      rw [show k = l.length by omega, List.drop_length, grp_nil, List.append_nil] at hacc
      subst hacc
      exact ⟨rfl, below_step b1 (hbw.trans b2)⟩
end Go.Proofs.YtaflidiokhaljaaDoor
