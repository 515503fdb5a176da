/-
  QOpenS4ToRGroup4: OpenS4, ReadDec4, RGroup4, joined.
-/
import Derived.Test.YtaflidiokhaljaaDoorRows
import Derived.Test.YtaflidiokhaljaaDoorQBaseToInts
import Derived.Test.YtaflidiokhaljaaDoorQByteRowToOpenT
import Derived.Test.YtaflidiokhaljaaDoorQSign4ToUpTo4
import Derived.Deep.Slices
import Derived.Lib.SmallJoins
import Derived.Test.YtaflidiokhaljaaDoorQReadToTxtBack
import Derived.Test.YtaflidiokhaljaaDoorQBuild4ToGroup4

/- OpenS4 -/
namespace Go.Proofs.YtaflidiokhaljaaDoor
set_option linter.unusedVariables false
open Go.ChangeShapes Go.WideShapes Go.ChangeAt Go.RowKit

theorem Tryd.cellsOp : Tryd.prog.cellsOf 28 = 4 := by kernel_rfl
theorem Tryd.cellsS : Tryd.prog.cellsOf 26 = 1 := by kernel_rfl

theorem Tryd.cellsStr : Tryd.prog.cellsOf 9 = 1 := by kernel_rfl
set_option maxRecDepth 100000 in
/-- One step of a script, read. -/
theorem open_step4 {H : Type} {enc : TypeId × Value → H} {W : World} {fuel : Nat} {cs : List Value} {x : DataW H × List MemPlace}
    (hf : DataW.trod enc Tryd.prog W 0 (fun _ => true) true fuel 28 cs = some x) (hb : Rows.uptoBulk x.1 ≤ 1048576) :
    ∃ q : Int × Value × List Int × ByteArray × Int, cs = [.int .i64 q.1, q.2.1, .string q.2.2.2.1, .int .i64 q.2.2.2.2] ∧
      Sl W.heap.size W q.2.1 q.2.2.1 ∧ q.2.2.1.length ≤ 1048576 ∧ q.2.2.2.1.size ≤ 1048576 ∧
      -9223372036854775808 ≤ q.2.2.2.2 ∧ q.2.2.2.2 ≤ 9223372036854775807 := by
  obtain ⟨y0, y1, y2, y3, n, rfl, hl, t0, t1, t2, t3⟩ := Joins.trod_struct4 Tryd.underlying28 hf
  rw [Tryd.cellsOp] at hl
  simp only [Rows.uptoBulk, Rows.uptoBulkAll] at hb
  match cs, hl with
  | [c0, c1, c2, c3], _ =>
    simp only [Tryd.cellsI, Tryd.cellsS, Tryd.cellsStr, List.drop_zero, List.drop_succ_cons, List.take_succ_cons, List.take_zero] at t0 t1 t2 t3
    obtain ⟨k, e0, _, _⟩ := DataW.trod_int Tryd.underlying3 t0
    obtain ⟨m, e3, _, w3⟩ := DataW.trod_int Tryd.underlying3 t3
    obtain ⟨xs, sx, lx⟩ := open_words1 t1 (by omega)
    obtain ⟨st, e2, e2', _⟩ := DataW.trod_string Tryd.underlying9 t2
    simp only [List.cons.injEq, and_true] at e0 e2 e3
    subst e0 e2 e3
    have hst : st.size ≤ 1048576 := by
      have hb2 : Rows.uptoBulk y2.1 ≤ 1048576 := by omega
      rw [e2'] at hb2
      exact text_bulk hb2
    exact ⟨(k, c1, xs, st, m), rfl, sx, lx, hst, (int_bounds w3).1, (int_bounds w3).2⟩

theorem open_script4 {H : Type} {enc : TypeId × Value → H} {W : World} {a : Option Addr} {len cap : Nat} {d : DataW H} {p : List MemPlace}
    (h0 : DataW.Trod enc Tryd.prog W 0 (fun _ => true) true 22 (.slice a len cap) d p) (hb : Rows.uptoBulk d ≤ 1048576) :
    ∃ s, Script4 W a len cap s := by
  obtain ⟨fuel, hf⟩ := h0
  rcases Deep.open_slice Tryd.underlying22 hf with ⟨hcs, _⟩ | ⟨x, l, c, m, n, D, Pl, hcs, _, hl, hm, hmm, hx, hel⟩
  · simp [Value.cells] at hcs
    obtain ⟨rfl, rfl, rfl⟩ := hcs
    exact ⟨⟨fun _ => 0, fun _ => .slice none 0 0, fun _ => [], fun _ => ⟨#[]⟩, fun _ => 0⟩, Nat.le_refl _, Nat.zero_le _, fun k hk => absurd hk (Nat.not_lt_zero _), .inl rfl⟩
  · simp [Value.cells] at hcs
    obtain ⟨rfl, rfl, rfl⟩ := hcs
    simp only [if_true] at hmm
    subst hmm
    have hd : d = .slice ((List.range len).map D) ((List.range (m - len)).map fun j => D (len + j)) := congrArg Prod.fst hx
    rw [hd] at hb
    simp only [Rows.uptoBulk] at hb
    have e1 := bulk_len ((List.range len).map D)
    have e2 := bulk_len ((List.range (m - len)).map fun j => D (len + j))
    simp only [List.length_map, List.length_range] at e1 e2
    rw [Tryd.cellsOp] at hel
    obtain ⟨q, hq⟩ := Deep.choose_lt (α := Int × Value × List Int × ByteArray × Int) (n := len) (p := fun i q => W.cells? 0 (x.add (i * 4)) 4 = some [.int .i64 q.1, q.2.1, .string q.2.2.2.1, .int .i64 q.2.2.2.2] ∧
      Sl W.heap.size W q.2.1 q.2.2.1 ∧ q.2.2.1.length ≤ 1048576 ∧ q.2.2.2.1.size ≤ 1048576 ∧
      -9223372036854775808 ≤ q.2.2.2.2 ∧ q.2.2.2.2 ≤ 9223372036854775807) (fun i hi => by
        obtain ⟨cs', h1, h2⟩ := hel i (by omega)
        have hbi : Rows.uptoBulk (D i) ≤ 1048576 := by
          have := bulk_in (List.mem_map_of_mem (f := D) (List.mem_range.2 hi))
          omega
        obtain ⟨q, rfl, hq⟩ := open_step4 h2 hbi
        exact ⟨q, h1, hq⟩)
    refine ⟨⟨fun i => (q i).1, fun i => (q i).2.1, fun i => (q i).2.2.1, fun i => (q i).2.2.2.1, fun i => (q i).2.2.2.2⟩, hl, by omega, fun k hk => (hq k hk).2, ?_⟩
    by_cases he : len = 0
    · exact .inl he
    · obtain ⟨b, off, spot⟩ := x
      have hc := (World.cells?_some (hq 0 (by omega)).1).2.2 0 (by omega)
      rw [Deep.add_add] at hc
      simp only [Nat.zero_mul, Nat.add_zero, List.getElem?_cons_zero] at hc
      have hspot : spot = none := by simpa [Addr.add] using World.cell?_spot hc
      subst hspot
      refine .inr ⟨b, off, rfl, ?_, fun k hk => ?_⟩
      · have := World.block_lt_of_cell? W _ hc
        simpa [Addr.add] using this
      · have hk' := (World.cells?_some (hq k hk).1).2.2
        have e : ∀ j, (⟨b, off, none⟩ : Addr).add j = ⟨b, off + j, none⟩ := fun j => by unfold Addr.add; split <;> simp_all
        have c0 := hk' 0 (by omega)
        have c1 := hk' 1 (by omega)
        have c2 := hk' 2 (by omega)
        have c3 := hk' 3 (by omega)
        simp only [e] at c0 c1 c2 c3
        exact ⟨c0, c1, c2, c3⟩
end Go.Proofs.YtaflidiokhaljaaDoor

/- ReadDec4 -/
namespace Go.Proofs.YtaflidiokhaljaaDoor
open Go.RowKit
set_option linter.unusedVariables false

theorem readPost_step {w w1 : World} {B : Nat} {l : List UInt8} {e : Ending} {w' : World} (b : Below w.heap.size w w1) (h : ReadPost w1 B l e w') : ReadPost w B l e w' := by
  rcases h with ⟨g, zs, a, c, h1, h2, h3, h4, h5⟩ | ⟨g, h1, h2⟩
  · exact .inl ⟨g, zs, a, c, h1, h2, h3, h4, below_step b h5⟩
  · exact .inr ⟨g, h1, below_step b h2⟩
set_option maxRecDepth 100000 in
set_option maxHeartbeats 3200000 in
theorem readDec_any {w : World} {l : List UInt8} (hT : Sg w) (hl : l.length ≤ 1000000000) :
    Calls Tryd.prog 22 #[.string ⟨l.toArray⟩] w (ReadPost w 10 l) := by
  have HR := hid (read_any (B := 10) (by omega) (by omega) hT hl)
  clear hT hl
  obtain ⟨s, hs⟩ : ∃ s, s = (⟨l.toArray⟩ : ByteArray) := ⟨_, rfl⟩
  rw [← hs] at HR ⊢
  clear hs
  go_enter Tryd.func22, Tryd.ntmps22
  go_wp2_with fail
  refine HR.out.mono ?_
  rintro e w1 h
  clear HR
  rcases h with ⟨g, zs, a, c, rfl, h2⟩ | ⟨g, rfl, h2⟩
  · replace g := hid g
    replace h2 := hid h2
    go_wp2
    go_ret2
    exact .inl ⟨g.out, zs, a, c, rfl, h2.out⟩
  · replace g := hid g
    replace h2 := hid h2
    go_wp2
    go_ret2
    exact .inr ⟨g.out, rfl, h2.out⟩
end Go.Proofs.YtaflidiokhaljaaDoor

/- RGroup4 -/
namespace Go.Proofs.YtaflidiokhaljaaDoor
open Go.RowKit
set_option linter.unusedVariables false

/-- The text without its marks, from place pos on, by at most 'fuel' runes; m: the rune before was a mark. -/
def ug (s : ByteArray) : Nat → Nat → Bool → Option (List UInt8)
  | 0, _, m => if m then none else some []
  | f + 1, pos, m => if pos < s.size then (if (Utf8.decode s pos).1 = 95 then (if m then none else ug s f (pos + (Utf8.decode s pos).2) true) else (ug s f (pos + (Utf8.decode s pos).2) false).map (Lib.encodeRune (Utf8.decode s pos).1 ++ ·)) else (if m then none else some [])
theorem ug_end {s : ByteArray} {f pos : Nat} {m : Bool} (h : ¬ pos < s.size) : ug s f pos m = if m then none else some [] := by
  cases f with
  | zero => rfl
  | succ f => rw [ug, if_neg h]
def RGPost (w : World) (s : ByteArray) (e : Ending) (w' : World) : Prop :=
  (∃ l, ug s s.size 0 true = some l ∧ ReadPost w 10 l e w') ∨ (ug s s.size 0 true = none ∧ e = .returned (.tuple #[.slice none 0 0, .int .i64 7]) ∧ Below w.heap.size w w')
theorem width_pos (s : ByteArray) (pos : Nat) (h : pos < s.size) : 1 ≤ (Utf8.decode s pos).2 := by
  by_cases ha : (s[pos]'h).toNat < 128
  · rw [decode_ascii s pos h ha]
    exact Nat.le_refl _
  · exact (decode_high s pos h (by omega)).2

set_option maxHeartbeats 3200000 in
set_option maxRecDepth 100000 in
theorem readGrouped_any {w : World} {s : ByteArray} (hs : s.size ≤ 200000000) (hT : Sg w) :
    Calls Tryd.prog 24 #[.string s] w (RGPost w s) := by
  have HT := hid hT
  clear hT
  obtain ⟨R, hR⟩ : ∃ R, ug s s.size 0 true = R := ⟨_, rfl⟩
  have HR := hid hR
  clear hR
  go_enter Tryd.func24, Tryd.ntmps24
  go_wp2
  go_loopw [5] (fun v wr => ∃ (pos fuel : Nat) (acc : List UInt8) (x : Int), v = .int .i32 x ∧ Lib.IsBuilderF 53 5 w.heap.size w.heap.size (Lib.byteCells acc) wr ∧ wr.heap[w.heap.size + 1]? = some (.stringIter s pos) ∧ Below w.heap.size w wr ∧ Hid ((ug s fuel pos (x == 95)).map (acc ++ ·) = R) ∧ s.size ≤ pos + fuel ∧ acc.length + 4 * fuel ≤ 4 * s.size) (fun _ wr => s.size - wr.iterPos (w.heap.size + 1))
  case atStart =>
    refine ⟨0, s.size, [], 95, rfl, (Lib.IsBuilderF.of (Lib.fresh_isBuilder 53 5 w)).alloc _, ?_, ((Below.refl _ w).alloc (Nat.le_refl _) _).alloc (by simp) _, ?_, by omega, by simp⟩
    · have := World.iter_heap (w.alloc (.cells #[.pointer none, .slice none 0 0] 53)) s 0
      simpa using this
    · unfold Hid
      rw [show ((95 : Int) == 95) = true from rfl, HR.out]
      cases R <;> simp
  case round =>
    obtain ⟨pos, fuel, acc, x, rfl, hI, hit, hbw, HA, hfu, hal⟩ := hrel
    have hsz : w.heap.size + 1 < wr.heap.size := (Array.getElem?_eq_some_iff.1 hit).1
    by_cases hp : pos < s.size
    · have hnx : ∀ ty, (Instr.next (.pointer (some ⟨w.heap.size + 1, 0, none⟩)) true ty).run Tryd.prog wr = _ := fun ty => Lib.run_next_any_at wr (w.heap.size + 1) s pos ty hit hp
      have hwd := width_pos s pos hp
      have hd1 := decode_le s pos
      obtain ⟨f, rfl⟩ : ∃ f, fuel = f + 1 := ⟨fuel - 1, by omega⟩
      have HU : Hid (ug s (f + 1) pos (x == 95) = (if (Utf8.decode s pos).1 = 95 then (if (x == 95) = true then none else ug s f (pos + (Utf8.decode s pos).2) true) else (ug s f (pos + (Utf8.decode s pos).2) false).map (Lib.encodeRune (Utf8.decode s pos).1 ++ ·))) := by unfold Hid; rw [ug, if_pos hp]
      generalize Utf8.decode s pos = rd at *
      obtain ⟨r, d⟩ := rd
      dsimp only at hnx hwd hd1 HU
      have hI2 := hI.iterAt hit (pos + d)
      have hit2 := Lib.iterAt_heap wr (w.heap.size + 1) s pos (pos + d) hit
      have hbw2 := Lib.below_iterAt hbw (k := w.heap.size + 1) (by omega) s (pos + d)
      have hsz2 : w.heap.size ≤ (wr.iterAt (w.heap.size + 1) s (pos + d)).heap.size := by rw [Lib.iterAt_size]; omega
      by_cases hr : r = 95
      · subst hr
        rw [show ((95 : Nat) : Int) = 95 from rfl] at hnx
        have HU' := HU.out
        rw [if_pos rfl] at HU'
        by_cases hx : x = 95
        · subst hx
          have e : R = none := by rw [← HA.out, HU']; rfl
          have HE := hid (HR.out.trans e)
          clear HU HU' HA e
          go_wp2
          go_ret2
          exact .inr ⟨HE.out, rfl, hbw2⟩
        · have qx : (x == 95) = false := beq_eq_false_iff_ne.2 hx
          rw [qx, if_neg (by simp)] at HU'
          have HA2 : Hid ((ug s f (pos + d) true).map (acc ++ ·) = R) := by unfold Hid; rw [← HA.out, qx, HU']
          clear HU HU' HA
          go_wp2
          go_roundw
          case rel =>
            exact ⟨pos + d, f, acc, 95, rfl, hI2, hit2, hbw2, HA2, by omega, by omega⟩
          case measure =>
            simp only [World.iterPos, hit2, hit]
            omega
      · have HU' := HU.out
        rw [if_neg hr] at HU'
        have qr : ((r : Int) == 95) = false := beq_eq_false_iff_ne.2 (by omega)
        have qr2 : ((r : Int) != 95) = true := by rw [bne, qr]; rfl
        have qr3 : ¬ (r : Int) = 95 := by omega
        have hl4 := Lib.runeCells_le (r : Int)
        have HA2 : Hid ((ug s f (pos + d) ((r : Int) == 95)).map ((acc ++ Lib.encodeRune (r : Int)) ++ ·) = R) := by
          unfold Hid
          rw [← HA.out, HU', qr, Option.map_map]
          congr 1
          funext l
          simp [Function.comp]
        clear HU HU' HA
        go_wp2_with (go_at_call 33; refine (writeRune_any w.heap.size w.heap.size _ (r : Int) (by omega) (by omega) _ hI2 (by rw [Lib.byteCells_length]; omega) hsz2).mono ?_)
        rintro e W1 ⟨rfl, h1, b1, k1⟩
        go_wp2
        go_roundw
        case rel =>
          rw [Lib.runeCells_length] at hl4
          refine ⟨pos + d, f, acc ++ Lib.encodeRune (r : Int), (r : Int), rfl, ?_, k1.iter hit2 (by omega), hbw2.trans b1, HA2, by omega, by simp; omega⟩
          rw [Lib.byteCells_append, Lib.byteCells_encodeRune]; exact Or.inr h1
        case measure =>
          simp only [World.iterPos, k1.iter hit2 (by omega), hit]
          omega
    · have hnx : ∀ ty, (Instr.next (.pointer (some ⟨w.heap.size + 1, 0, none⟩)) true ty).run Tryd.prog wr = _ := fun ty => Lib.run_next_end_at wr (w.heap.size + 1) s pos ty hit hp
      have HA' := HA.out
      rw [ug_end hp] at HA'
      by_cases hx : x = 95
      · subst hx
        have e : R = none := by rw [← HA']; rfl
        go_wp2
        go_ret2
        exact .inr ⟨HR.out.trans e, rfl, hbw⟩
      · have qx : (x == 95) = false := beq_eq_false_iff_ne.2 hx
        have e : R = some acc := by rw [← HA', qx]; simp
        go_wp2_with (go_at_call 34; refine (string_any w.heap.size w.heap.size acc _ hI (by omega)).mono ?_)
        rintro e1 W1 ⟨rfl, _, b2, _⟩
        have HD := hid (readDec_any (l := acc) (HT.out.now (hbw.trans b2)) (by omega))
        go_wp2_with fail
        refine HD.out.mono ?_
        rintro e2 W2 h
        replace h := readPost_step (hbw.trans b2) h
        have HE := hid (HR.out.trans e)
        clear e HA' HD
        rcases h with ⟨g, zs, a, c, rfl, h2⟩ | ⟨g, rfl, h2⟩
        · replace g := hid g
          replace h2 := hid h2
          go_wp2
          go_ret2
          exact .inl ⟨_, HE.out, .inl ⟨g.out, zs, a, c, rfl, h2.out⟩⟩
        · replace g := hid g
          replace h2 := hid h2
          go_wp2
          go_ret2
          exact .inl ⟨_, HE.out, .inr ⟨g.out, rfl, h2.out⟩⟩
end Go.Proofs.YtaflidiokhaljaaDoor
