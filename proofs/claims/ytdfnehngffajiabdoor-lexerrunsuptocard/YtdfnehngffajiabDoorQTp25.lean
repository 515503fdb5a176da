/-
  Tp25: the program's Tokens.
-/
import Derived.Test.YtdfnehngffajiabDoorQTa25
import Derived.Lib.OthersKept
namespace Go.Proofs.YtdfnehngffajiabDoor
open Go.RowKit
set_option linter.unusedVariables false

theorem Toks.mono {B B' : Nat} {w : World} {v : Value} {L : List Tok} (h : Toks B w v L) (hb : B' ≤ B) : Toks B' w v L := by
  obtain ⟨q1, q2 | ⟨g, cap, cur, q2, q3, q4, q5⟩⟩ := h
  · exact ⟨q1, .inl q2⟩
  · exact ⟨q1, .inr ⟨g, cap, cur, q2, Nat.le_trans hb q3, q4, q5⟩⟩
theorem Toks.iter {B k pos pos' : Nat} {w : World} {v : Value} {L : List Tok} {s : ByteArray} (h : Toks B w v L) (hk : w.heap[k]? = some (.stringIter s pos)) : Toks B (w.iterAt k s pos') v L := by
  obtain ⟨q1, q2 | ⟨g, cap, cur, q2, q3, q4, q5⟩⟩ := h
  · exact ⟨q1, .inl q2⟩
  · have hne : g ≠ k := fun e => by subst e; rw [hk] at q4; cases q4
    exact ⟨q1, .inr ⟨g, cap, cur, q2, q3, (Lib.iterAt_other w k g s pos' hne).trans q4, q5⟩⟩
def CuL (s : ByteArray) : Array Value := #[.string s, .slice none 0 0, .int .i64 0, .int .i64 0, .int .i64 0, .int .i64 0, .bool false, .int .i64 0]
set_option maxHeartbeats 3200000 in
set_option maxRecDepth 100000 in
theorem tokens25p (w : World) {s : ByteArray} {g : ByteArray → Int} (hm : MaxL w) (hs : s.size ≤ 1000000000) (hG : GrP s g) : Calls Tryd.prog 6 #[.string s] w (TokD s g w) := by
  have HMX : Hid (∀ wx : World, Below w.heap.size w wx → MaxL wx) := hid fun wx hb => hm.on hb
  have HGL : Hid (0 < w.heap.size) := hid (by obtain ⟨m, h⟩ := hm; exact World.block_lt_of_cell? w _ h)
  have HG := hid hG
  have HS := hid hs
  clear hm hG hs
  unfold TokD
  have sz1 : (w.alloc (.cells (CuL s) 44)).heap.size = w.heap.size + 1 := by simp
  have K0 : Hid (Below w.heap.size w ((w.alloc (.cells (CuL s) 44)).alloc (.stringIter s 0))) := hid (((Below.refl _ _).alloc (Nat.le_refl _) _).alloc (by rw [sz1]; omega) _)
  have C0 : Hid (Cu ((w.alloc (.cells (CuL s) 44)).alloc (.stringIter s 0)) w.heap.size s (.slice none 0 0) 0 0 0 0 false 0) := hid ((heap_alloc_old (w.alloc (.cells (CuL s) 44)) (.stringIter s 0) (by rw [sz1]; omega)).trans (heap_alloc_new w _))
  have I0 : Hid (((w.alloc (.cells (CuL s) 44)).alloc (.stringIter s 0)).heap[w.heap.size + 1]? = some (.stringIter s 0)) := hid (by have := heap_alloc_new (w.alloc (.cells (CuL s) 44)) (.stringIter s 0); rw [sz1] at this; exact this)
  have Z0 : Hid (w.heap.size + 2 ≤ ((w.alloc (.cells (CuL s) 44)).alloc (.stringIter s 0)).heap.size) := hid (by simp)
  clear sz1
  unfold CuL at *
  go_enter Tryd.func6, Tryd.ntmps6
  go_wp2_with fail
  go_loopg [4] s.size (fun gk s4 wx => ∃ (n p op bb rc : Nat) (cm : Bool) (ft : Int) (lv : Value) (L : List Tok), s4 = .int .i64 0 ∧ gk = s.size - p ∧ p ≤ s.size ∧ n ≤ p ∧ Hid (L.length ≤ 2 * n) ∧ Hid (Cu wx w.heap.size s lv n op bb rc cm ft) ∧ Hid (Toks (w.heap.size + 2) wx lv L) ∧ Hid (StS s g op bb rc cm p (n + 1) L) ∧ Hid (wx.heap[w.heap.size + 1]? = some (.stringIter s p)) ∧ Hid (Below w.heap.size w wx) ∧ Hid (w.heap.size + 2 ≤ wx.heap.size))
  case atStart => exact ⟨0, 0, 0, 0, 0, false, 0, .slice none 0 0, [], rfl, rfl, Nat.zero_le _, Nat.le_refl _, hid (Nat.le_refl _), C0, hid (Toks.nil _ _), hid (.inl ⟨rfl, rfl, TkN.start s g⟩), I0, K0, Z0⟩
  case round =>
    clear C0 I0 K0 Z0
    obtain ⟨n, p, op, bb, rc, cm, ft, lv, L, rfl, hgk, hp, hn, HL, HC, HT, HST, HI, HB, HZ⟩ := hrel
    have HGK := hid hgk
    clear hgk
    have hsz := HS.out
    by_cases hlt : p < s.size
    · have hnx : ∀ ty, (Instr.next (.pointer (some ⟨w.heap.size + 1, 0, none⟩)) true ty).run Tryd.prog wr = .ok (.tuple #[.bool true, .int .i64 (p : Int), .int .i32 (((Utf8.decode s p).1 : Nat) : Int)]) (wr.iterAt (w.heap.size + 1) s (p + (Utf8.decode s p).2)) := fun ty => Lib.run_next_any_at (P := Tryd.prog) wr (w.heap.size + 1) s p ty HI.out hlt
      have HI1 := hid (Lib.iterAt_heap wr (w.heap.size + 1) s p (p + (Utf8.decode s p).2) HI.out)
      have HB1 := hid (Lib.below_iterAt HB.out (Nat.le_succ _) s (p + (Utf8.decode s p).2))
      have HC1 : Hid (Cu (wr.iterAt (w.heap.size + 1) s (p + (Utf8.decode s p).2)) w.heap.size s lv n op bb rc cm ft) := hid (HC.out.keep (Lib.iterAt_other wr (w.heap.size + 1) w.heap.size s _ (by omega)))
      have HT1 := hid (HT.out.iter (pos' := p + (Utf8.decode s p).2) HI.out)
      have HZ1 : Hid (w.heap.size + 2 ≤ (wr.iterAt (w.heap.size + 1) s (p + (Utf8.decode s p).2)).heap.size) := hid (by rw [Lib.iterAt_size]; exact HZ.out)
      have HGO : Hid ((chS s p).2 ≠ 0 → (Utf8.decode s p).2 = (chS s p).2) := hid fun h => by rw [chS_go h]
      have HIN := hid (chS_in hlt)
      generalize wr.iterAt (w.heap.size + 1) s (p + (Utf8.decode s p).2) = w1 at *
      have k2 := HC1.out.at (i := 2) rfl
      have z2 := HC1.out.fz 2
      have gb : IntKind.i64.wrap ((n : Int) + 1) = ((n + 1 : Nat) : Int) := by rw [wrap_is] <;> omega
      obtain ⟨w2, hw2⟩ : ∃ w2, w1.setCell ⟨w.heap.size, 2, none⟩ (.int .i64 ((n : Int) + 1)) = w2 := ⟨_, rfl⟩
      have HC2 : Hid (Cu w2 w.heap.size s lv (n + 1) op bb rc cm ft) := hid (by rw [← hw2]; exact HC1.out.set 2 (.int .i64 ((n : Int) + 1)))
      have HT2 : Hid (Toks (w.heap.size + 2) w2 lv L) := hid (by rw [← hw2]; exact HT1.out.set (by show w.heap.size < _; omega))
      have HB2 : Hid (Below w.heap.size w w2) := hid (by rw [← hw2]; exact HB1.out.setCell (p := ⟨w.heap.size, 2, none⟩) (Nat.le_refl _) _)
      have HI2 : Hid (w2.heap[w.heap.size + 1]? = some (.stringIter s (p + (Utf8.decode s p).2))) := hid (by rw [← hw2]; exact (Below.heap_setCell _ _ _ _ (by show w.heap.size + 1 ≠ w.heap.size; omega)).trans HI1.out)
      have HZ2 : Hid (w.heap.size + 2 ≤ w2.heap.size) := hid (by rw [← hw2]; have e := Nat.le_trans HZ1.out (((Below.refl w.heap.size w1).setCell (p := ⟨w.heap.size, 2, none⟩) (Nat.le_refl _) (.int .i64 ((n : Int) + 1))).size); exact e)
      have EW := hid hw2
      have HTK := hid (take25 (p := p) HC2.out HT2.out HST.out HG.out (by omega) HZ2.out (HMX.out _ HB2.out) HGL.out hsz hlt (by have := HL.out; omega))
      clear hw2 HC HT HI HB HZ HC1 HT1 HI1 HB1 HZ1 HC2 HT2 HST
      go_wp2_with fail
      rw [EW.out]
      clear EW k2 z2 hnx
      refine HTK.out.mono ?_
      clear HTK
      rintro e w3 ⟨hb3, ⟨a, er, lv1, col1, op1, b1, rc1, cm1, rfl, he, hc3, ht3⟩ | ⟨rfl, hN, lv1, op1, b1, rc1, cm1, ft1, L1, hc3, ht3, hs3, hl3⟩⟩
      · have he' : (er != 0) = true := by rw [bne_iff_ne]; exact he
        have k7 := hc3.at (i := 7) rfl
        have FIN := hid ht3
        have HB3 := hid (HB2.out.trans hb3.1)
        clear hb3 hc3 ht3 HI2 HZ2 HB2 HGK HGO HIN HL he
        go_wp2_with fail
        go_region
        go_wp2
        go_ret3
        exact ⟨_, _, _, _, rfl, FIN.out, Toks.nil _ _, HB3.out.drew⟩
      · have HB3 := hid (HB2.out.trans hb3.1)
        have HI3 : Hid (w3.heap[w.heap.size + 1]? = some (.stringIter s (p + (chS s p).2))) := hid (by rw [← HGO.out hN]; exact (hb3.2 _ (by omega) (by omega)).trans HI2.out)
        have HZ3 : Hid (w.heap.size + 2 ≤ w3.heap.size) := hid (Nat.le_trans HZ2.out hb3.1.size)
        have HC3 := hid hc3
        have HT3 := hid ht3
        have HS3 := hid hs3
        have HL3 : Hid (L1.length ≤ 2 * (n + 1)) := hid (by have := HL.out; omega)
        have hin := HIN.out
        obtain ⟨N, hNN⟩ : ∃ N, (chS s p).2 = N := ⟨_, rfl⟩
        rw [hNN] at HI3 HS3 hin hN
        clear hb3 hc3 ht3 hs3 hl3 HI2 HZ2 HB2 HGO HIN HL hNN
        go_wp2_with fail
        go_roundg (s.size - (p + N))
        case rel => exact ⟨n + 1, p + N, op1, b1, rc1, cm1, ft1, lv1, L1, rfl, rfl, by omega, by omega, HL3, HC3, HT3, HS3, HI3, HB3, HZ3⟩
        case measure => have := HGK.out; omega
    · obtain rfl : p = s.size := by omega
      have hnx : ∀ ty, (Instr.next (.pointer (some ⟨w.heap.size + 1, 0, none⟩)) true ty).run Tryd.prog wr = .ok (.tuple #[.bool false]) wr := fun ty => Lib.run_next_end_at (P := Tryd.prog) wr (w.heap.size + 1) s s.size ty HI.out (by omega)
      have HTE := hid (endT25 (p := s.size) HC.out HT.out HST.out HG.out (by omega) HZ.out (HMX.out _ HB.out) HGL.out hsz (Nat.le_refl _) (by have := HL.out; omega) (fun _ q => by omega))
      clear HC HT HST HI HGK HL
      go_wp2_with fail
      refine HTE.out.mono ?_
      clear HTE hnx
      rintro e w3 ⟨hb3, ⟨a, er, lv1, col1, op1, b1, rc1, cm1, rfl, he, hc3, ht3⟩ | ⟨rfl, lv1, L1, hc3, ht3, hs3, hl3⟩⟩
      · have he' : (er != 0) = true := by rw [bne_iff_ne]; exact he
        have k7 := hc3.at (i := 7) rfl
        have FIN := hid ht3
        have HB3 := hid (HB.out.trans hb3.1)
        clear hb3 hc3 ht3 HZ HB he
        go_wp2_with fail
        go_region
        go_wp2
        go_ret3
        exact ⟨_, _, _, _, rfl, FIN.out, Toks.nil _ _, HB3.out.drew⟩
      · have k1 := hc3.at (i := 1) rfl
        have HT3 := hid (ht3.mono (B' := w.heap.size) (by omega))
        have FIN : Hid (Tkn s g 0 1 L1 0 0) := by
          rcases hs3 with q | ⟨q, _⟩ | ⟨_, _, b', c', j, q2, q3, q4⟩
          · exact q.2.2.ends
          · omega
          · exact q2.fin q3.symm
        have HB3 := hid (HB.out.trans hb3.1)
        obtain ⟨la, lc, hlv⟩ := ht3.form
        subst hlv
        clear hb3 hc3 ht3 hs3 hl3 HZ HB
        go_wp2
        go_ret3
        exact ⟨_, _, _, _, rfl, FIN.out, HT3.out, HB3.out⟩
end Go.Proofs.YtdfnehngffajiabDoor
