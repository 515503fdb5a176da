/-
  Cw25: the program's Columns.
-/
import Derived.Test.YtdfnehngffajiabDoorQKo25ToCu25
import Derived.Test.YtdfnehngffajiabDoorQCp25ToLib25
import Derived.Lib.OthersKept
namespace Go.Proofs.YtdfnehngffajiabDoor
open Go.RowKit
set_option linter.unusedVariables false

theorem chS_go {s : ByteArray} {i : Nat} (h : (chS s i).2 ≠ 0) : chS s i = Utf8.decode s i := by
  unfold chS at h ⊢
  split
  · rename_i q; rw [if_pos q] at h; exact absurd rfl h
  · rfl
theorem kdS_bad {v n : Nat} : kdS v n = 0 ↔ n = 0 := by
  unfold kdS
  constructor
  · intro h
    (repeat' split at h) <;> first | assumption | cases h
  · intro h; rw [if_pos h]
set_option maxHeartbeats 3200000 in
set_option maxRecDepth 100000 in
theorem columns25 (w : World) {s : ByteArray} (hs : s.size ≤ 1152921504606846976) : Calls Tryd.prog 8 #[.string s] w (ColP s w) := by
  have HK : Hid (∀ (wx : World) (i : Nat), i < s.size → Calls Tryd.prog 14 #[.string s, .int .i64 (i : Int), .int .i32 (((Utf8.decode s i).1 : Nat) : Int)] wx fun e w' => e = .returned (.int .i64 ((kdS (chS s i).1 (chS s i).2 : Nat) : Int)) ∧ w' = wx) := hid fun wx i hi => kindOf25 wx hi
  have HS := hid hs
  clear hs
  unfold ColP
  have K0 := hid ((Below.refl w.heap.size w).alloc (Nat.le_refl _) (.stringIter s 0))
  have hit0 := heap_alloc_new w (.stringIter s 0)
  have HI0 := hid hit0
  clear hit0
  go_enter Tryd.func8, Tryd.ntmps8
  go_wp2_with fail
  go_loopg [4] s.size (fun gk s4 wx => ∃ k : Nat, s4 = .int .i64 (k : Int) ∧ gk = s.size - ps s 0 k ∧ Hid (gdS s 0 k) ∧ Hid (wx.heap[w.heap.size]? = some (.stringIter s (ps s 0 k))) ∧ Hid (Below w.heap.size w wx))
  case atStart => exact ⟨0, rfl, by rfl, hid (gdS.zero s 0), HI0, K0⟩
  case round =>
    clear K0 HI0
    obtain ⟨k, rfl, hgk, hgd, HI, KK⟩ := hrel
    have HGK := hid hgk
    clear hgk
    obtain ⟨h1, h2⟩ := hgd.out.le (Nat.zero_le _)
    have hsz := HS.out
    obtain ⟨p, hp⟩ : ∃ p, ps s 0 k = p := ⟨_, rfl⟩
    have HP := hid hp
    rw [hp] at h1 h2 HI
    clear hp
    by_cases hlt : p < s.size
    · have hnx : ∀ ty, (Instr.next (.pointer (some ⟨w.heap.size, 0, none⟩)) true ty).run Tryd.prog wr = .ok (.tuple #[.bool true, .int .i64 (p : Int), .int .i32 (((Utf8.decode s p).1 : Nat) : Int)]) (wr.iterAt w.heap.size s (p + (Utf8.decode s p).2)) := fun ty => Lib.run_next_any_at (P := Tryd.prog) wr w.heap.size s p ty HI.out hlt
      have HI1 := hid (Lib.iterAt_heap wr w.heap.size s p (p + (Utf8.decode s p).2) HI.out)
      have K1 := hid (Lib.below_iterAt KK.out (Nat.le_refl _) s (p + (Utf8.decode s p).2))
      have CK := hid (HK.out (wr.iterAt w.heap.size s (p + (Utf8.decode s p).2)) p hlt)
      have HIN := hid (chS_in hlt)
      have HGO : Hid ((chS s p).2 ≠ 0 → (Utf8.decode s p).2 = (chS s p).2) := hid fun h => by rw [chS_go h]
      generalize wr.iterAt w.heap.size s (p + (Utf8.decode s p).2) = w1 at *
      obtain ⟨D, hD⟩ : ∃ D, (Utf8.decode s p).2 = D := ⟨_, rfl⟩
      obtain ⟨R, hR⟩ : ∃ R, (Utf8.decode s p).1 = R := ⟨_, rfl⟩
      obtain ⟨V, hV⟩ : ∃ V, (chS s p).1 = V := ⟨_, rfl⟩
      obtain ⟨N, hN⟩ : ∃ N, (chS s p).2 = N := ⟨_, rfl⟩
      rw [hD] at HI1 HGO
      rw [hR] at hnx CK
      rw [hV, hN] at CK
      rw [hN] at HIN HGO
      have HN := hid hN
      clear hD hR hV hN HI KK HK HS
      by_cases h0 : N = 0
      · subst h0
        rw [show kdS V 0 = 0 from kdS_bad.2 rfl] at CK
        have FIN : Hid (ColD s 0 12) := hid ⟨k, ⟨hgd.out, .inr ⟨rfl, by rw [HP.out]; exact hlt, by rw [HP.out]; exact HN.out⟩⟩, rfl⟩
        clear hgd HP HN HIN HGK HGO HI1
        go_wp2_with fail
        refine CK.out.mono ?_
        rintro e w2 ⟨rfl, hw2⟩
        subst hw2
        clear CK hnx
        go_wp2
        go_ret2
        exact ⟨_, _, rfl, FIN.out, K1.out⟩
      · obtain ⟨c, hc⟩ : ∃ c, kdS V N = c := ⟨_, rfl⟩
        have hcn : ((c : Int) == 0) = false := by
          rw [beq_eq_false_iff_ne]
          have : c ≠ 0 := fun q => h0 (kdS_bad.1 (hc.trans q))
          omega
        rw [hc] at CK
        have gb : IntKind.i64.wrap ((k : Int) + 1) = ((k + 1 : Nat) : Int) := by rw [wrap_is] <;> omega
        have EP : Hid (ps s 0 (k + 1) = p + D) := hid (by show ps s 0 k + (chS s (ps s 0 k)).2 = _; rw [HP.out, HN.out, HGO.out h0])
        have GD : Hid (gdS s 0 (k + 1)) := hid (hgd.out.succ (by rw [HP.out]; exact hlt) (by rw [HP.out, HN.out]; exact h0))
        have HI2 : Hid (w1.heap[w.heap.size]? = some (.stringIter s (ps s 0 (k + 1)))) := hid (by rw [EP.out]; exact HI1.out)
        have hd := HGO.out h0
        clear hgd HN HIN HI1 hc HGO
        go_wp2_with fail
        refine CK.out.mono ?_
        rintro e w2 ⟨rfl, hw2⟩
        subst hw2
        clear CK hnx
        go_wp2_with fail
        go_roundg (s.size - (p + D))
        case rel => exact ⟨k + 1, by first | rfl | go_num, by rw [EP.out], GD, HI2, K1⟩
        case measure => have := HGK.out; have := HP.out; omega
    · obtain rfl : p = s.size := by omega
      have hnx : ∀ ty, (Instr.next (.pointer (some ⟨w.heap.size, 0, none⟩)) true ty).run Tryd.prog wr = .ok (.tuple #[.bool false]) wr := fun ty => Lib.run_next_end_at (P := Tryd.prog) wr w.heap.size s s.size ty HI.out (by omega)
      have FIN : Hid (ColD s (k : Int) 0) := hid ⟨k, ⟨hgd.out, .inl ⟨rfl, HP.out⟩⟩, by rw [if_pos rfl]⟩
      clear hgd HGK HI HK HS
      go_wp2
      go_ret2
      exact ⟨_, _, rfl, FIN.out, KK.out⟩
end Go.Proofs.YtdfnehngffajiabDoor
