/-
  QReadToBr25: Read, ReadDec4, Br25, joined.
-/
import Derived.Test.YtdfnehngffajiabDoorQJoined
import Derived.Shelf.Strings.BuilderK
import Derived.Shelf.Strings.BuilderRune
import Derived.WalkKit
import Derived.BigCall

/- Read -/
namespace Go.Proofs.YtdfnehngffajiabDoor
open Go.RowKit
set_option linter.unusedVariables false

/-- What Read answers to a text, in a base that is one. -/
def ReadPost (w : World) (B : Nat) (l : List UInt8) (e : Ending) (w' : World) : Prop :=
  ((l ≠ [] ∧ Good B l) ∧ ∃ zs a c, e = .returned (.tuple #[.slice a zs.length c, .int .i64 0]) ∧ Mine w.heap.size w' (.slice a zs.length c) zs ∧ Canon zs ∧ vn zs = ofD B (dsL l) ∧ Below w.heap.size w w') ∨
  (¬ (l ≠ [] ∧ Good B l) ∧ e = .returned (.tuple #[.slice none 0 0, .int .i64 7]) ∧ Below w.heap.size w w')
theorem cut_nil {w : World} {B D : Nat} : Calls Tryd.prog 36 #[.string ⟨([] : List UInt8).toArray⟩, .int .i64 (B : Int), .int .i64 (D : Int)] w fun e w' => e = .returned (.tuple #[.slice none 0 0, .int .i64 7]) ∧ w' = w := by
  go_enter Tryd.func36, Tryd.ntmps36
  go_wp2
  go_ret2
  exact ⟨rfl, rfl⟩
theorem cut_all {w : World} {B D : Nat} {l : List UInt8} (hB : 2 ≤ B) (hB2 : B ≤ 36) (hD : WD B D) (hT : Sg w) (hl : l.length ≤ 1000000000) :
    Calls Tryd.prog 36 #[.string ⟨l.toArray⟩, .int .i64 (B : Int), .int .i64 (D : Int)] w fun e w' =>
      ((l ≠ [] ∧ Good B l) ∧ ∃ Gs a cap, e = .returned (.tuple #[.slice a Gs.length cap, .int .i64 0]) ∧ Bunch w.heap.size w' (.slice a Gs.length cap) (partsF Gs) ∧ 0 < Gs.length ∧ Gs.length ≤ l.length ∧ (∀ G ∈ Gs, G < B ^ D) ∧ ofD (B ^ D) Gs.reverse = ofD B (dsL l) ∧ Below w.heap.size w w') ∨
      (¬ (l ≠ [] ∧ Good B l) ∧ e = .returned (.tuple #[.slice none 0 0, .int .i64 7]) ∧ Below w.heap.size w w') := by
  by_cases h : l = []
  · subst h
    exact cut_nil.mono fun e w' ⟨h1, h2⟩ => .inr ⟨fun q => q.1 rfl, h1, by rw [h2]; exact Below.refl _ _⟩
  · refine (cut_any hB hB2 hD hT h hl).mono fun e w' hp => ?_
    rcases hp with ⟨g, Gs, a, cap, h1, _, h2, h3, h4, h5, h6, h7⟩ | ⟨g, h1, h2⟩
    · exact .inl ⟨⟨h, g⟩, Gs, a, cap, h1, h2, h3, h4, h5, h6, h7⟩
    · exact .inr ⟨fun q => g q.2, h1, h2⟩
set_option maxRecDepth 100000 in
set_option maxHeartbeats 3200000 in
theorem read_any {w : World} {B : Nat} {l : List UInt8} (hB : 2 ≤ B) (hB2 : B ≤ 36) (hT : Sg w) (hl : l.length ≤ 1000000000) :
    Calls Tryd.prog 28 #[.string ⟨l.toArray⟩, .int .i64 (B : Int)] w (ReadPost w B l) := by
  have HT := hid hT
  have HIB := hid (isBase_any (B : Int) (by omega) (by omega) w)
  rw [decide_eq_true (show (2 : Int) ≤ (B : Int) ∧ (B : Int) ≤ 36 by omega)] at HIB
  have HWF := hid (wordful_any hB hB2 w)
  obtain ⟨s, hs⟩ : ∃ s, s = (⟨l.toArray⟩ : ByteArray) := ⟨_, rfl⟩
  have HS := hid hs
  rw [← hs]
  clear hT hs
  go_enter Tryd.func28, Tryd.ntmps28
  go_wp2_with fail
  refine HIB.out.mono ?_
  rintro e w0 ⟨rfl, rfl⟩
  clear HIB
  go_wp2_with fail
  refine HWF.out.mono ?_
  rintro e w1 ⟨D, hD, rfl, mP, k1⟩
  have HCU := hid (cut_all (l := l) hB hB2 hD (HT.out.now k1) hl)
  rw [← HS.out] at HCU
  have K1 := hid k1
  have HP := hid mP
  have HD := hid hD
  clear HWF mP k1 hD
  go_wp2_with fail
  refine HCU.out.mono ?_
  rintro e w2 (⟨hg, Gs, a, cap, rfl, hbu, hg0, hgl, hgs, hv, k2⟩ | ⟨hg, rfl, k2⟩)
  · have HG := hid hg
    have hpl : (partsF Gs).length = Gs.length := by simp [partsF]
    have hco := canon_one (Nat.lt_of_lt_of_le (by omega) (Nat.pow_pos (n := D) (show 0 < B by omega))) HD.out.2.2.1
    have K2 := hid (below_step K1.out k2)
    have HJO := hid (joined_any (B0 := w1.heap.size) (w := w2) (Ps0 := partsF Gs) (a := a) (cap := cap) (ps0 := [((B ^ D : Nat) : Int)]) (N := ofD B (dsL l)) (by rw [hpl]; exact hbu) (HP.out.below k2) hco.1 (by rw [hpl]; exact hg0) (by rw [hpl]; omega) (by simp) (by rw [hco.2, lowv_parts]; exact hv) (fun i h => by
      have hi : i < Gs.length := by rw [hpl] at h; exact h
      have e : (partsF Gs)[i] = [((Gs[i] : Nat) : Int)] := by simp [partsF]
      rw [e, hco.2]
      exact ⟨by simpa [vn] using hgs _ (List.getElem_mem hi), by simp⟩) k2.size)
    rw [hpl] at HJO
    clear hbu hgs hv k2 HCU hco hg
    go_wp2_with fail
    refine HJO.out.mono ?_
    rintro e w3 ⟨zs, za, zc, rfl, mz, cz, vz, k3⟩
    have K3 : Hid (Below w0.heap.size w0 w3) := K2.out.trans (k3.mono K1.out.size)
    have MZ := hid mz
    clear HJO mz k3
    go_wp2
    go_ret2
    exact .inl ⟨HG.out, zs, za, zc, rfl, MZ.out.mono K1.out.size, cz, vz, K3.out⟩
  · have HG := hid hg
    have K2 := hid (below_step K1.out k2)
    clear k2 HCU hg
    go_wp2
    go_ret2
    exact .inr ⟨HG.out, rfl, K2.out⟩
theorem read_bad {w : World} {b : Int} (h0 : -9223372036854775808 ≤ b) (h1 : b ≤ 9223372036854775807) (hb : ¬ (2 ≤ b ∧ b ≤ 36)) (s : ByteArray) : Calls Tryd.prog 28 #[.string s, .int .i64 b] w fun e w' => e = .returned (.tuple #[.slice none 0 0, .int .i64 3]) ∧ w' = w := by
  have HIB := hid (isBase_any b h0 h1 w)
  rw [decide_eq_false hb] at HIB
  clear hb
  go_enter Tryd.func28, Tryd.ntmps28
  go_wp2_with fail
  refine HIB.out.mono ?_
  rintro e w0 ⟨rfl, rfl⟩
  clear HIB
  go_wp2
  go_ret2
  exact ⟨rfl, rfl⟩
end Go.Proofs.YtdfnehngffajiabDoor

/- ReadDec4 -/
namespace Go.Proofs.YtdfnehngffajiabDoor
open Go.RowKit
set_option linter.unusedVariables false

theorem readPost_step {w w1 : World} {B : Nat} {l : List UInt8} {e : Ending} {w' : World} (b : Below w.heap.size w w1) (h : ReadPost w1 B l e w') : ReadPost w B l e w' := by
  rcases h with ⟨g, zs, a, c, h1, h2, h3, h4, h5⟩ | ⟨g, h1, h2⟩
  · exact .inl ⟨g, zs, a, c, h1, h2.mono b.size, h3, h4, below_step b h5⟩
  · exact .inr ⟨g, h1, below_step b h2⟩
set_option maxRecDepth 100000 in
set_option maxHeartbeats 3200000 in
theorem readDec_any {w : World} {l : List UInt8} (hT : Sg w) (hl : l.length ≤ 1000000000) :
    Calls Tryd.prog 16 #[.string ⟨l.toArray⟩] w (ReadPost w 10 l) := by
  have HR := hid (read_any (B := 10) (by omega) (by omega) hT hl)
  clear hT hl
  obtain ⟨s, hs⟩ : ∃ s, s = (⟨l.toArray⟩ : ByteArray) := ⟨_, rfl⟩
  rw [← hs] at HR ⊢
  clear hs
  go_enter Tryd.func16, Tryd.ntmps16
  go_wp2_with fail
  refine HR.out.mono ?_
  rintro e w1 h
  clear HR
  rcases h with ⟨g, zs, a, c, rfl, h2⟩ | ⟨g, rfl, h2⟩
  · replace g := hid g
    replace h2 := hid h2
    go_wp2
    go_ret2
    exact .inl ⟨g.out, zs, a, c, rfl, h2.out⟩
  · replace g := hid g
    replace h2 := hid h2
    go_wp2
    go_ret2
    exact .inr ⟨g.out, rfl, h2.out⟩
end Go.Proofs.YtdfnehngffajiabDoor

/- Br25 -/
namespace Go.Proofs.YtdfnehngffajiabDoor
open Go.RowKit

def ren4 : Go.Shelf.Ren := ⟨fun | 168 => 15 | 169 => 17 | 240 => 26 | 242 => 27 | 276 => 32 | 278 => 33 | n => n, fun | 0 => 0 | 3 => 3 | 4 => 4 | 5 => 5 | 9 => 9 | 20 => 20 | 21 => 21 | 37 => 39 | 46 => 77 | 51 => 69 | 70 => 49 | 72 => 51 | 75 => 53 | 76 => 54 | 79 => 55 | 80 => 56 | 127 => 65 | 164 => 67 | n => n, fun | n => n⟩
theorem lays168 : Go.Proofs.Lays.n168 Tryd.prog ren4 := {
  mixed := by kernel_rfl
  f168 := Tryd.func15.trans (congrArg some (by kernel_rfl))
  f240 := Tryd.func26.trans (congrArg some (by kernel_rfl))
  f242 := Tryd.func27.trans (congrArg some (by kernel_rfl))
  f276 := Tryd.func32.trans (congrArg some (by kernel_rfl))
  f278 := Tryd.func33.trans (congrArg some (by kernel_rfl))
  t0 := Tryd.underlying0
  a0 := Tryd.isAgg0
  z0 := Tryd.sizeOf0
  v0 := Tryd.zeroValue0
  t3 := Tryd.underlying3
  a3 := Tryd.isAgg3
  z3 := Tryd.sizeOf3
  v3 := Tryd.zeroValue3
  t4 := Tryd.underlying4
  a4 := Tryd.isAgg4
  z4 := Tryd.sizeOf4
  v4 := Tryd.zeroValue4
  t5 := Tryd.underlying5
  a5 := Tryd.isAgg5
  z5 := Tryd.sizeOf5
  v5 := Tryd.zeroValue5
  t9 := Tryd.underlying9
  a9 := Tryd.isAgg9
  z9 := Tryd.sizeOf9
  v9 := Tryd.zeroValue9
  t20 := Tryd.underlying20
  a20 := Tryd.isAgg20
  z20 := Tryd.sizeOf20
  v20 := Tryd.zeroValue20
  t21 := Tryd.underlying21
  a21 := Tryd.isAgg21
  z21 := Tryd.sizeOf21
  v21 := Tryd.zeroValue21
  t37 := Tryd.underlying39
  a37 := Tryd.isAgg39
  z37 := Tryd.sizeOf39
  v37 := Tryd.zeroValue39
  t46 := Tryd.underlying77
  a46 := Tryd.isAgg77
  z46 := Tryd.sizeOf77
  v46 := Tryd.zeroValue77
  t51 := Tryd.underlying69
  a51 := Tryd.isAgg69
  z51 := Tryd.sizeOf69
  v51 := Tryd.zeroValue69
  t70 := Tryd.underlying49
  a70 := Tryd.isAgg49
  z70 := Tryd.sizeOf49
  v70 := Tryd.zeroValue49
  t72 := Tryd.underlying51
  a72 := Tryd.isAgg51
  z72 := Tryd.sizeOf51
  v72 := Tryd.zeroValue51
  t75 := Tryd.underlying53
  a75 := Tryd.isAgg53
  z75 := Tryd.sizeOf53
  v75 := Tryd.zeroValue53
  t164 := Tryd.underlying67
  a164 := Tryd.isAgg67
  z164 := Tryd.sizeOf67
  v164 := Tryd.zeroValue67 }
theorem lays169 : Go.Proofs.Lays.n169 Tryd.prog ren4 := {
  mixed := by kernel_rfl
  f169 := Tryd.func17.trans (congrArg some (by kernel_rfl))
  t0 := Tryd.underlying0
  a0 := Tryd.isAgg0
  z0 := Tryd.sizeOf0
  v0 := Tryd.zeroValue0
  t3 := Tryd.underlying3
  a3 := Tryd.isAgg3
  z3 := Tryd.sizeOf3
  v3 := Tryd.zeroValue3
  t9 := Tryd.underlying9
  a9 := Tryd.isAgg9
  z9 := Tryd.sizeOf9
  v9 := Tryd.zeroValue9
  t37 := Tryd.underlying39
  a37 := Tryd.isAgg39
  z37 := Tryd.sizeOf39
  v37 := Tryd.zeroValue39
  t70 := Tryd.underlying49
  a70 := Tryd.isAgg49
  z70 := Tryd.sizeOf49
  v70 := Tryd.zeroValue49
  t72 := Tryd.underlying51
  a72 := Tryd.isAgg51
  z72 := Tryd.sizeOf51
  v72 := Tryd.zeroValue51
  t127 := Tryd.underlying65
  a127 := Tryd.isAgg65
  z127 := Tryd.sizeOf65
  v127 := Tryd.zeroValue65 }
theorem extra4 : Builder.Extra Tryd.prog ren4 where
  sizeBuilder := by kernel_rfl
  liesBuilder := by kernel_rfl
  t5 := Tryd.underlying5
  a5 := Tryd.isAgg5
  z5 := Tryd.sizeOf5
  v5 := Tryd.zeroValue5
  infoByte := by kernel_rfl
  cellsByte := by kernel_rfl
  sizeByte := by kernel_rfl
  neB5 := by decide
theorem writeRune_any (B b : Nat) (bs : List Value) (r : Int) (hr0 : -2147483648 ≤ r) (hr1 : r ≤ 2147483647) (w : World) (h : Lib.IsBuilderF 51 5 B b bs w) (hlen : bs.length + 4 ≤ 140737488355328) (hBw : B ≤ w.heap.size) :
    Calls Tryd.prog 15 #[.pointer (some ⟨b, 0, none⟩), .int .i32 r] w fun e w' => e = .returned (.tuple #[.int .i64 (Lib.runeCells r).length, .nilIface]) ∧ (Lib.BuilderAtF 51 5 B b (.pointer (some ⟨b, 0, none⟩)) (bs ++ Lib.runeCells r) w' ∧ Below B w w' ∧ Lib.OthersKept 5 (some b) w w') := Any.Builder_WriteRune_k lays168 extra4 B b bs r hr0 hr1 w h hlen hBw
theorem string_any (B b : Nat) (l : List UInt8) (w : World) (h : Lib.IsBuilderF 51 5 B b (Lib.byteCells l) w) (hBw : B ≤ w.heap.size) :
    Calls Tryd.prog 17 #[.pointer (some ⟨b, 0, none⟩)] w fun e w' => e = .returned (.string ⟨l.toArray⟩) ∧ (Lib.IsBuilderF 51 5 B b (Lib.byteCells l) w' ∧ Below B w w' ∧ Lib.OthersKept 5 (some b) w w') := Any.Builder_String_any_k lays169 extra4 B b l w h hBw
end Go.Proofs.YtdfnehngffajiabDoor
