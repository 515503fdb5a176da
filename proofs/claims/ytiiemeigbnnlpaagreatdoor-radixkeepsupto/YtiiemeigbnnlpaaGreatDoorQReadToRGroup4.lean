/-
  QReadToRGroup4: Read, ReadDec4, RGroup4, joined.
-/
import Derived.Test.YtiiemeigbnnlpaaGreatDoorQJoined
import Derived.Test.YtiiemeigbnnlpaaGreatDoorQTextToBuild4

/- Read -/
namespace Go.Proofs.YtiiemeigbnnlpaaGreatDoor
open Go.RowKit
set_option linter.unusedVariables false

/-- What Read answers to a text, in a base that is one. -/
def ReadPost (w : World) (B : Nat) (l : List UInt8) (e : Ending) (w' : World) : Prop :=
  ((l ≠ [] ∧ Good B l) ∧ ∃ zs a c, e = .returned (.tuple #[.slice a zs.length c, .int .i64 0]) ∧ Mine w.heap.size w' (.slice a zs.length c) zs ∧ Canon zs ∧ vn zs = ofD B (dsL l) ∧ Below w.heap.size w w') ∨
  (¬ (l ≠ [] ∧ Good B l) ∧ e = .returned (.tuple #[.slice none 0 0, .int .i64 7]) ∧ Below w.heap.size w w')
theorem cut_nil {w : World} {B D : Nat} : Calls Tryz.prog 39 #[.string ⟨([] : List UInt8).toArray⟩, .int .i64 (B : Int), .int .i64 (D : Int)] w fun e w' => e = .returned (.tuple #[.slice none 0 0, .int .i64 7]) ∧ w' = w := by
  go_enter Tryz.func39, Tryz.ntmps39
  go_wp2
  go_ret2
  exact ⟨rfl, rfl⟩
theorem cut_all {w : World} {B D : Nat} {l : List UInt8} (hB : 2 ≤ B) (hB2 : B ≤ 36) (hD : WD B D) (hT : Sg w) (hl : l.length ≤ 1000000000) :
    Calls Tryz.prog 39 #[.string ⟨l.toArray⟩, .int .i64 (B : Int), .int .i64 (D : Int)] w fun e w' =>
      ((l ≠ [] ∧ Good B l) ∧ ∃ Gs a cap, e = .returned (.tuple #[.slice a Gs.length cap, .int .i64 0]) ∧ Bunch w.heap.size w' (.slice a Gs.length cap) (partsF Gs) ∧ 0 < Gs.length ∧ Gs.length ≤ l.length ∧ (∀ G ∈ Gs, G < B ^ D) ∧ ofD (B ^ D) Gs.reverse = ofD B (dsL l) ∧ Below w.heap.size w w') ∨
      (¬ (l ≠ [] ∧ Good B l) ∧ e = .returned (.tuple #[.slice none 0 0, .int .i64 7]) ∧ Below w.heap.size w w') := by
  by_cases h : l = []
  · subst h
    exact cut_nil.mono fun e w' ⟨h1, h2⟩ => .inr ⟨fun q => q.1 rfl, h1, by rw [h2]; exact Below.refl _ _⟩
  · refine (cut_any hB hB2 hD hT h hl).mono fun e w' hp => ?_
    rcases hp with ⟨g, Gs, a, cap, h1, _, h2, h3, h4, h5, h6, h7⟩ | ⟨g, h1, h2⟩
    · exact .inl ⟨⟨h, g⟩, Gs, a, cap, h1, h2, h3, h4, h5, h6, h7⟩
    · exact .inr ⟨fun q => g q.2, h1, h2⟩
set_option maxRecDepth 100000 in
set_option maxHeartbeats 3200000 in
theorem read_any {w : World} {B : Nat} {l : List UInt8} (hB : 2 ≤ B) (hB2 : B ≤ 36) (hT : Sg w) (hl : l.length ≤ 1000000000) :
    Calls Tryz.prog 18 #[.string ⟨l.toArray⟩, .int .i64 (B : Int)] w (ReadPost w B l) := by
  have HT := hid hT
  have HIB := hid (isBase_any (B : Int) (by omega) (by omega) w)
  rw [decide_eq_true (show (2 : Int) ≤ (B : Int) ∧ (B : Int) ≤ 36 by omega)] at HIB
  have HWF := hid (wordful_any hB hB2 w)
  obtain ⟨s, hs⟩ : ∃ s, s = (⟨l.toArray⟩ : ByteArray) := ⟨_, rfl⟩
  have HS := hid hs
  rw [← hs]
  clear hT hs
  go_enter Tryz.func18, Tryz.ntmps18
  go_wp2_with fail
  refine HIB.out.mono ?_
  rintro e w0 ⟨rfl, rfl⟩
  clear HIB
  go_wp2_with fail
  refine HWF.out.mono ?_
  rintro e w1 ⟨D, hD, rfl, mP, k1⟩
  have HCU := hid (cut_all (l := l) hB hB2 hD (HT.out.now k1) hl)
  rw [← HS.out] at HCU
  have K1 := hid k1
  have HP := hid mP
  have HD := hid hD
  clear HWF mP k1 hD
  go_wp2_with fail
  refine HCU.out.mono ?_
  rintro e w2 (⟨hg, Gs, a, cap, rfl, hbu, hg0, hgl, hgs, hv, k2⟩ | ⟨hg, rfl, k2⟩)
  · have HG := hid hg
    have hpl : (partsF Gs).length = Gs.length := by simp [partsF]
    have hco := canon_one (Nat.lt_of_lt_of_le (by omega) (Nat.pow_pos (n := D) (show 0 < B by omega))) HD.out.2.2.1
    have K2 := hid (below_step K1.out k2)
    have HJO := hid (joined_any (B0 := w1.heap.size) (w := w2) (Ps0 := partsF Gs) (a := a) (cap := cap) (ps0 := [((B ^ D : Nat) : Int)]) (N := ofD B (dsL l)) (by rw [hpl]; exact hbu) (HP.out.below k2) hco.1 (by rw [hpl]; exact hg0) (by rw [hpl]; omega) (by simp) (by rw [hco.2, lowv_parts]; exact hv) (fun i h => by
      have hi : i < Gs.length := by rw [hpl] at h; exact h
      have e : (partsF Gs)[i] = [((Gs[i] : Nat) : Int)] := by simp [partsF]
      rw [e, hco.2]
      exact ⟨by simpa [vn] using hgs _ (List.getElem_mem hi), by simp⟩) k2.size)
    rw [hpl] at HJO
    clear hbu hgs hv k2 HCU hco hg
    go_wp2_with fail
    refine HJO.out.mono ?_
    rintro e w3 ⟨zs, za, zc, rfl, mz, cz, vz, k3⟩
    have K3 : Hid (Below w0.heap.size w0 w3) := K2.out.trans (k3.mono K1.out.size)
    have MZ := hid mz
    clear HJO mz k3
    go_wp2
    go_ret2
    exact .inl ⟨HG.out, zs, za, zc, rfl, MZ.out.mono K1.out.size, cz, vz, K3.out⟩
  · have HG := hid hg
    have K2 := hid (below_step K1.out k2)
    clear k2 HCU hg
    go_wp2
    go_ret2
    exact .inr ⟨HG.out, rfl, K2.out⟩
theorem read_bad {w : World} {b : Int} (h0 : -9223372036854775808 ≤ b) (h1 : b ≤ 9223372036854775807) (hb : ¬ (2 ≤ b ∧ b ≤ 36)) (s : ByteArray) : Calls Tryz.prog 18 #[.string s, .int .i64 b] w fun e w' => e = .returned (.tuple #[.slice none 0 0, .int .i64 3]) ∧ w' = w := by
  have HIB := hid (isBase_any b h0 h1 w)
  rw [decide_eq_false hb] at HIB
  clear hb
  go_enter Tryz.func18, Tryz.ntmps18
  go_wp2_with fail
  refine HIB.out.mono ?_
  rintro e w0 ⟨rfl, rfl⟩
  clear HIB
  go_wp2
  go_ret2
  exact ⟨rfl, rfl⟩
theorem text_bad {w : World} {b : Int} (h0 : -9223372036854775808 ≤ b) (h1 : b ≤ 9223372036854775807) (hb : ¬ (2 ≤ b ∧ b ≤ 36)) (v : Value) : Calls Tryz.prog 12 #[v, .int .i64 b] w fun e w' => e = .returned (.tuple #[.string ⟨#[]⟩, .int .i64 3]) ∧ w' = w := by
  have HIB := hid (isBase_any b h0 h1 w)
  rw [decide_eq_false hb] at HIB
  clear hb
  go_enter Tryz.func12, Tryz.ntmps12
  go_wp2_with fail
  refine HIB.out.mono ?_
  rintro e w0 ⟨rfl, rfl⟩
  clear HIB
  go_wp2
  go_ret2
  exact ⟨rfl, rfl⟩
end Go.Proofs.YtiiemeigbnnlpaaGreatDoor

/- ReadDec4 -/
namespace Go.Proofs.YtiiemeigbnnlpaaGreatDoor
open Go.RowKit
set_option linter.unusedVariables false

theorem readPost_step {w w1 : World} {B : Nat} {l : List UInt8} {e : Ending} {w' : World} (b : Below w.heap.size w w1) (h : ReadPost w1 B l e w') : ReadPost w B l e w' := by
  rcases h with ⟨g, zs, a, c, h1, h2, h3, h4, h5⟩ | ⟨g, h1, h2⟩
  · exact .inl ⟨g, zs, a, c, h1, h2.mono b.size, h3, h4, below_step b h5⟩
  · exact .inr ⟨g, h1, below_step b h2⟩
set_option maxRecDepth 100000 in
set_option maxHeartbeats 3200000 in
theorem readDec_any {w : World} {l : List UInt8} (hT : Sg w) (hl : l.length ≤ 1000000000) :
    Calls Tryz.prog 16 #[.string ⟨l.toArray⟩] w (ReadPost w 10 l) := by
  have HR := hid (read_any (B := 10) (by omega) (by omega) hT hl)
  clear hT hl
  obtain ⟨s, hs⟩ : ∃ s, s = (⟨l.toArray⟩ : ByteArray) := ⟨_, rfl⟩
  rw [← hs] at HR ⊢
  clear hs
  go_enter Tryz.func16, Tryz.ntmps16
  go_wp2_with fail
  refine HR.out.mono ?_
  rintro e w1 h
  clear HR
  rcases h with ⟨g, zs, a, c, rfl, h2⟩ | ⟨g, rfl, h2⟩
  · replace g := hid g
    replace h2 := hid h2
    go_wp2
    go_ret2
    exact .inl ⟨g.out, zs, a, c, rfl, h2.out⟩
  · replace g := hid g
    replace h2 := hid h2
    go_wp2
    go_ret2
    exact .inr ⟨g.out, rfl, h2.out⟩
end Go.Proofs.YtiiemeigbnnlpaaGreatDoor

/- RGroup4 -/
namespace Go.Proofs.YtiiemeigbnnlpaaGreatDoor
open Go.RowKit
set_option linter.unusedVariables false

/-- The text without its marks, from place pos on, by at most 'fuel' runes; m: the rune before was a mark. -/
def ug (s : ByteArray) : Nat → Nat → Bool → Option (List UInt8)
  | 0, _, m => if m then none else some []
  | f + 1, pos, m => if pos < s.size then (if (Utf8.decode s pos).1 = 95 then (if m then none else ug s f (pos + (Utf8.decode s pos).2) true) else (ug s f (pos + (Utf8.decode s pos).2) false).map (Lib.encodeRune (Utf8.decode s pos).1 ++ ·)) else (if m then none else some [])
theorem ug_end {s : ByteArray} {f pos : Nat} {m : Bool} (h : ¬ pos < s.size) : ug s f pos m = if m then none else some [] := by
  cases f with
  | zero => rfl
  | succ f => rw [ug, if_neg h]
def RGPost (w : World) (s : ByteArray) (e : Ending) (w' : World) : Prop :=
  (∃ l, ug s s.size 0 true = some l ∧ ReadPost w 10 l e w') ∨ (ug s s.size 0 true = none ∧ e = .returned (.tuple #[.slice none 0 0, .int .i64 7]) ∧ Below w.heap.size w w')
theorem width_pos (s : ByteArray) (pos : Nat) (h : pos < s.size) : 1 ≤ (Utf8.decode s pos).2 := by
  by_cases ha : (s[pos]'h).toNat < 128
  · rw [decode_ascii s pos h ha]
    exact Nat.le_refl _
  · exact (decode_high s pos h (by omega)).2

set_option maxHeartbeats 3200000 in
set_option maxRecDepth 100000 in
theorem readGrouped_any {w : World} {s : ByteArray} (hs : s.size ≤ 200000000) (hT : Sg w) :
    Calls Tryz.prog 17 #[.string s] w (RGPost w s) := by
  have HT := hid hT
  clear hT
  obtain ⟨R, hR⟩ : ∃ R, ug s s.size 0 true = R := ⟨_, rfl⟩
  have HR := hid hR
  clear hR
  go_enter Tryz.func17, Tryz.ntmps17
  go_wp2
  go_loopw [5] (fun v wr => ∃ (pos fuel : Nat) (acc : List UInt8) (x : Int), v = .int .i32 x ∧ Lib.IsBuilderF 60 5 w.heap.size w.heap.size (Lib.byteCells acc) wr ∧ wr.heap[w.heap.size + 1]? = some (.stringIter s pos) ∧ Below w.heap.size w wr ∧ Hid ((ug s fuel pos (x == 95)).map (acc ++ ·) = R) ∧ s.size ≤ pos + fuel ∧ acc.length + 4 * fuel ≤ 4 * s.size) (fun _ wr => s.size - wr.iterPos (w.heap.size + 1))
  case atStart =>
    refine ⟨0, s.size, [], 95, rfl, (Lib.IsBuilderF.of (Lib.fresh_isBuilder 60 5 w)).alloc _, ?_, ((Below.refl _ w).alloc (Nat.le_refl _) _).alloc (by simp) _, ?_, by omega, by simp⟩
    · have := World.iter_heap (w.alloc (.cells #[.pointer none, .slice none 0 0] 60)) s 0
      simpa using this
    · unfold Hid
      rw [show ((95 : Int) == 95) = true from rfl, HR.out]
      cases R <;> simp
  case round =>
    obtain ⟨pos, fuel, acc, x, rfl, hI, hit, hbw, HA, hfu, hal⟩ := hrel
    have hsz : w.heap.size + 1 < wr.heap.size := (Array.getElem?_eq_some_iff.1 hit).1
    by_cases hp : pos < s.size
    · have hnx : ∀ ty, (Instr.next (.pointer (some ⟨w.heap.size + 1, 0, none⟩)) true ty).run Tryz.prog wr = _ := fun ty => Lib.run_next_any_at wr (w.heap.size + 1) s pos ty hit hp
      have hwd := width_pos s pos hp
      have hd1 := decode_le s pos
      obtain ⟨f, rfl⟩ : ∃ f, fuel = f + 1 := ⟨fuel - 1, by omega⟩
      have HU : Hid (ug s (f + 1) pos (x == 95) = (if (Utf8.decode s pos).1 = 95 then (if (x == 95) = true then none else ug s f (pos + (Utf8.decode s pos).2) true) else (ug s f (pos + (Utf8.decode s pos).2) false).map (Lib.encodeRune (Utf8.decode s pos).1 ++ ·))) := by unfold Hid; rw [ug, if_pos hp]
      generalize Utf8.decode s pos = rd at *
      obtain ⟨r, d⟩ := rd
      dsimp only at hnx hwd hd1 HU
      have hI2 := hI.iterAt hit (pos + d)
      have hit2 := Lib.iterAt_heap wr (w.heap.size + 1) s pos (pos + d) hit
      have hbw2 := Lib.below_iterAt hbw (k := w.heap.size + 1) (by omega) s (pos + d)
      have hsz2 : w.heap.size ≤ (wr.iterAt (w.heap.size + 1) s (pos + d)).heap.size := by rw [Lib.iterAt_size]; omega
      by_cases hr : r = 95
      · subst hr
        rw [show ((95 : Nat) : Int) = 95 from rfl] at hnx
        have HU' := HU.out
        rw [if_pos rfl] at HU'
        by_cases hx : x = 95
        · subst hx
          have e : R = none := by rw [← HA.out, HU']; rfl
          have HE := hid (HR.out.trans e)
          clear HU HU' HA e
          go_wp2
          go_ret2
          exact .inr ⟨HE.out, rfl, hbw2⟩
        · have qx : (x == 95) = false := beq_eq_false_iff_ne.2 hx
          rw [qx, if_neg (by simp)] at HU'
          have HA2 : Hid ((ug s f (pos + d) true).map (acc ++ ·) = R) := by unfold Hid; rw [← HA.out, qx, HU']
          clear HU HU' HA
          go_wp2
          go_roundw
          case rel =>
            exact ⟨pos + d, f, acc, 95, rfl, hI2, hit2, hbw2, HA2, by omega, by omega⟩
          case measure =>
            simp only [World.iterPos, hit2, hit]
            omega
      · have HU' := HU.out
        rw [if_neg hr] at HU'
        have qr : ((r : Int) == 95) = false := beq_eq_false_iff_ne.2 (by omega)
        have qr2 : ((r : Int) != 95) = true := by rw [bne, qr]; rfl
        have qr3 : ¬ (r : Int) = 95 := by omega
        have hl4 := Lib.runeCells_le (r : Int)
        have HA2 : Hid ((ug s f (pos + d) ((r : Int) == 95)).map ((acc ++ Lib.encodeRune (r : Int)) ++ ·) = R) := by
          unfold Hid
          rw [← HA.out, HU', qr, Option.map_map]
          congr 1
          funext l
          simp [Function.comp]
        clear HU HU' HA
        go_wp2_with (go_at_call 37; refine (writeRune_any w.heap.size w.heap.size _ (r : Int) (by omega) (by omega) _ hI2 (by rw [Lib.byteCells_length]; omega) hsz2).mono ?_)
        rintro e W1 ⟨rfl, h1, b1, k1⟩
        go_wp2
        go_roundw
        case rel =>
          rw [Lib.runeCells_length] at hl4
          refine ⟨pos + d, f, acc ++ Lib.encodeRune (r : Int), (r : Int), rfl, ?_, k1.iter hit2 (by omega), hbw2.trans b1, HA2, by omega, by simp; omega⟩
          rw [Lib.byteCells_append, Lib.byteCells_encodeRune]; exact Or.inr h1
        case measure =>
          simp only [World.iterPos, k1.iter hit2 (by omega), hit]
          omega
    · have hnx : ∀ ty, (Instr.next (.pointer (some ⟨w.heap.size + 1, 0, none⟩)) true ty).run Tryz.prog wr = _ := fun ty => Lib.run_next_end_at wr (w.heap.size + 1) s pos ty hit hp
      have HA' := HA.out
      rw [ug_end hp] at HA'
      by_cases hx : x = 95
      · subst hx
        have e : R = none := by rw [← HA']; rfl
        go_wp2
        go_ret2
        exact .inr ⟨HR.out.trans e, rfl, hbw⟩
      · have qx : (x == 95) = false := beq_eq_false_iff_ne.2 hx
        have e : R = some acc := by rw [← HA', qx]; simp
        go_wp2_with (go_at_call 38; refine (string_any w.heap.size w.heap.size acc _ hI (by omega)).mono ?_)
        rintro e1 W1 ⟨rfl, _, b2, _⟩
        have HD := hid (readDec_any (l := acc) (HT.out.now (hbw.trans b2)) (by omega))
        go_wp2_with fail
        refine HD.out.mono ?_
        rintro e2 W2 h
        replace h := readPost_step (hbw.trans b2) h
        have HE := hid (HR.out.trans e)
        clear e HA' HD
        rcases h with ⟨g, zs, a, c, rfl, h2⟩ | ⟨g, rfl, h2⟩
        · replace g := hid g
          replace h2 := hid h2
          go_wp2
          go_ret2
          exact .inl ⟨_, HE.out, .inl ⟨g.out, zs, a, c, rfl, h2.out⟩⟩
        · replace g := hid g
          replace h2 := hid h2
          go_wp2
          go_ret2
          exact .inl ⟨_, HE.out, .inr ⟨g.out, rfl, h2.out⟩⟩
end Go.Proofs.YtiiemeigbnnlpaaGreatDoor
