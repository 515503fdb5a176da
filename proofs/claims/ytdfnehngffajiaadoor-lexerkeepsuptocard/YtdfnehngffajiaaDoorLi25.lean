/-
  Li25: the program's Lines.
-/
import Derived.Test.YtdfnehngffajiaaDoorSl25
import Derived.Test.YtdfnehngffajiaaDoorLil25
import Derived.Test.YtdfnehngffajiaaDoorCu25
import Derived.Test.YtdfnehngffajiaaDoorRt25
namespace Go.Proofs.YtdfnehngffajiaaDoor
open Go.RowKit
set_option linter.unusedVariables false

/-- The pieces, the first k of them trimmed. -/
def mixL (Q : List ByteArray) (k : Nat) : List ByteArray := (Q.take k).map trimL ++ Q.drop k
theorem mixL_zero (Q : List ByteArray) : mixL Q 0 = Q := by simp [mixL]
theorem mixL_len (Q : List ByteArray) (k : Nat) (h : k ≤ Q.length) : (mixL Q k).length = Q.length := by unfold mixL; rw [List.length_append, List.length_map, List.length_take, List.length_drop]; omega
theorem mixL_at {Q : List ByteArray} {k : Nat} (h : k < Q.length) : (mixL Q k)[k]? = some Q[k] := by
  unfold mixL
  rw [List.getElem?_append_right (by rw [List.length_map, List.length_take]; omega), List.length_map, List.length_take, Nat.min_eq_left (by omega), Nat.sub_self, List.getElem?_drop, Nat.add_zero, List.getElem?_eq_getElem h]
theorem mixL_set {Q : List ByteArray} {k : Nat} (h : k < Q.length) : (mixL Q k).set k (trimL Q[k]) = mixL Q (k + 1) := by
  unfold mixL
  rw [List.set_append_right _ _ (by rw [List.length_map, List.length_take]; omega)]
  rw [List.length_map, List.length_take, Nat.min_eq_left (by omega), Nat.sub_self, List.drop_eq_getElem_cons h, List.set_cons_zero, List.take_succ_eq_append_getElem h, List.map_append]
  simp
theorem strV_set (L : List ByteArray) (k : Nat) (x : ByteArray) : (strV L).set k (.string x) = strV (L.set k x) := by unfold strV; rw [List.map_set]
theorem split_size : ∀ (n : Nat) (s : ByteArray), ∀ x ∈ Lib.splitB nl25 0 n s, x.size ≤ s.size
  | 0, s, x, h => by
    rw [Lib.splitB_zero, List.mem_singleton] at h
    rw [h]; exact Nat.le_refl _
  | n + 1, s, x, h => by
    unfold Lib.splitB at h
    split at h
    · rw [List.mem_singleton] at h
      rw [h]; exact Nat.le_refl _
    · rcases List.mem_cons.1 h with rfl | h
      · rw [ByteArray.size_extract]; omega
      · have := split_size n _ x h
        rw [ByteArray.size_extract] at this
        omega
set_option maxHeartbeats 3200000 in
set_option maxRecDepth 100000 in
theorem lines25p (w : World) {s : ByteArray} (hm : MaxL w) (hs : s.size ≤ 1000000000) : Calls Tryd.prog 10 #[.string s] w (LinP s w) := by
  have HSP := hid (split25 s nl25 w (by omega) (by decide) hm)
  obtain ⟨n, hn⟩ : ∃ n, Lib.countB s nl25 = n := ⟨_, rfl⟩
  have hn1 : n ≤ 1000000000 := by have := Lib.countB_le nl25 (by decide) s.size s (Nat.le_refl _); omega
  have hlen := Lib.splitB_all nl25 (by decide) 0 n s hn
  have LS := hid (lines_split n s hn)
  have HQZ : Hid (∀ x ∈ Lib.splitB nl25 0 n s, x.size ≤ 1000000000) := hid fun x hx => Nat.le_trans (split_size n s x hx) hs
  rw [hn] at HSP
  obtain ⟨Q, hQ⟩ : ∃ Q, Lib.splitB nl25 0 n s = Q := ⟨_, rfl⟩
  rw [hQ] at HSP hlen LS HQZ
  have hHSP : Hid (Calls Tryd.prog 25 #[.string s, .string ⟨#[10]⟩] w fun e w' => e = .returned (.slice (some ⟨w.heap.size, 0, none⟩) (n + 1) (n + 1)) ∧ w' = w.alloc (.cells (strV Q).toArray 9)) := HSP
  have TS : Hid (∀ (x : ByteArray) (wx : World), x.size ≤ 1000000000 → Calls Tryd.prog 26 #[.string x, .string ⟨#[13]⟩] wx fun e w' => e = .returned (.string (trimL x)) ∧ w' = wx) := hid fun x wx hx => trimSuffix25 x ⟨#[13]⟩ wx (by omega)
  have HQL := hid hlen
  clear HSP hQ hn hm hlen
  unfold LinP
  go_enter Tryd.func10, Tryd.ntmps10
  go_wp2_with fail
  refine hHSP.out.mono ?_
  rintro e w1 ⟨rfl, hw1⟩
  have HC1 : Hid (Ce w1 w.heap.size 9 (strV (mixL Q 0))) := hid (by rw [hw1, mixL_zero]; exact heap_alloc_new w _)
  have HB1 : Hid (Below w.heap.size w w1) := hid (by rw [hw1]; exact (Below.refl _ _).alloc (Nat.le_refl _) _)
  clear hHSP hw1
  have hnl : n < Q.length := by have := HQL.out; omega
  have gl : IntKind.i64.wrap (((n + 1 : Nat) : Int) - 1) = (n : Int) := by rw [wrap_is] <;> omega
  have gl2 : IntKind.i64.wrap ((n : Int) + 1 - 1) = (n : Int) := by rw [wrap_is] <;> omega
  have i0 : (0 : Int) ≤ (n : Int) := by omega
  have i1 : (n : Int) < ((n + 1 : Nat) : Int) := by omega
  have i2 : (n : Int) < (n : Int) + 1 := by omega
  have i3 : (n : Int) ≤ (n : Int) + 1 := by omega
  have kq : w1.cell? ⟨w.heap.size, n, none⟩ = some (.string Q[n]) := HC1.out.at (by rw [mixL_zero]; unfold strV; rw [List.getElem?_map, List.getElem?_eq_getElem hnl]; rfl)
  have HLE : Hid (Q[Q.length - 1]? = some Q[n]) := hid (by have e := HQL.out; rw [show Q.length - 1 = n by omega, List.getElem?_eq_getElem hnl])
  obtain ⟨x, hx⟩ : ∃ x, Q[n] = x := ⟨_, rfl⟩
  rw [hx] at kq HLE
  clear hx
  by_cases hx : x = ⟨#[]⟩
  · subst hx
    have FINL : Hid ((Q.take n).map oneL = linesS s) := hid (by have e := LS.out; unfold lastE at e; rw [if_pos HLE.out, show Q.length - 1 = n by have := HQL.out; omega] at e; exact e)
    go_wp2_with fail
    clear LS HLE kq
    go_loopg [22] n (fun gk s22 wr => ∃ k : Nat, s22 = .int .i64 (k : Int) ∧ k ≤ n ∧ gk = n - k ∧ Hid (Ce wr w.heap.size 9 (strV (mixL Q k))) ∧ Hid (Below w.heap.size w wr))
    case atStart => exact ⟨0, rfl, Nat.zero_le _, rfl, HC1, HB1⟩
    case round =>
      clear HC1 HB1
      obtain ⟨k, rfl, hk, hgk, HC, HB⟩ := hrel
      have HGK := hid hgk
      clear hgk
      by_cases hlt : k < n
      · have h1 : (k : Int) < ((n : Nat) : Int) := by omega
        have h1b : (k : Int) < (n : Int) + 1 := by omega
        have h2 : (0 : Int) ≤ (k : Int) := by omega
        have hkl : k < Q.length := by omega
        have kk : wr.cell? ⟨w.heap.size, k, none⟩ = some (.string Q[k]) := HC.out.at (by unfold strV; rw [List.getElem?_map, mixL_at hkl]; rfl)
        have kz : wr.frozen? ⟨w.heap.size, k, none⟩ = false := HC.out.fz k
        have HT := hid (TS.out Q[k] wr (HQZ.out _ (List.getElem_mem hkl)))
        have HC2 : Hid (Ce (wr.setCell ⟨w.heap.size, k, none⟩ (.string (trimL Q[k]))) w.heap.size 9 (strV (mixL Q (k + 1)))) := hid (by rw [← mixL_set hkl, ← strV_set]; exact HC.out.set k _)
        have HB2 : Hid (Below w.heap.size w (wr.setCell ⟨w.heap.size, k, none⟩ (.string (trimL Q[k])))) := hid (HB.out.setCell (p := ⟨w.heap.size, k, none⟩) (Nat.le_refl _) _)
        have gk1 : IntKind.i64.wrap ((k : Int) + 1) = ((k + 1 : Nat) : Int) := by rw [wrap_is] <;> omega
        generalize trimL Q[k] = y at *
        generalize Q[k] = z at *
        clear HC HB TS HQZ HQL FINL
        go_wp2_with fail
        refine HT.out.mono ?_
        rintro e w2 ⟨rfl, hw2⟩
        obtain rfl := hw2.symm
        clear HT hw2
        go_wp2_with fail
        go_roundg (n - (k + 1))
        case rel => exact ⟨k + 1, by first | rfl | go_num, by omega, rfl, HC2, HB2⟩
        case measure => have := HGK.out; omega
      · have h1 : ¬ (k : Int) < ((n : Nat) : Int) := by omega
        have h1b : ¬ (k : Int) < (n : Int) := by omega
        obtain rfl : n = k := by omega
        have FIN : Hid (Strs w.heap.size wr (.slice (some ⟨w.heap.size, 0, none⟩) (n) (n + 1)) (linesS s)) := hid (by
          have hc := HC.out
          have hq := HQL.out
          have hl := FINL.out
          have hml : (linesS s).length = n := by rw [← hl, List.length_map, List.length_take]; omega
          refine ⟨by rw [strV_len, Nat.mul_one], .inr ⟨w.heap.size, n + 1, _, by rw [hml], Nat.le_refl _, hc, by omega, by unfold maxLen; omega, ?_, ?_⟩⟩
          · rw [List.size_toArray, strV_len, mixL_len Q _ (by omega)]; omega
          · rw [Nat.mul_one, hml, List.toList_toArray]
            unfold strV mixL
            rw [← List.map_take, List.take_append_of_le_length (by rw [List.length_map, List.length_take]; omega), List.take_of_length_le (by rw [List.length_map, List.length_take]; omega), ← hl]
            congr 1
            exact List.map_congr_left fun a _ => trimL_one a)
        clear HC HGK TS HQZ HQL FINL
        go_wp2
        go_ret
        exact ⟨_, rfl, FIN.out, HB.out⟩
  · have hm2 := emq25 hx
    have FINL : Hid ((Q.take (n + 1)).map oneL = linesS s) := hid (by have e := LS.out; unfold lastE at e; rw [if_neg (by rw [HLE.out]; intro q; exact hx (Option.some.inj q)), HQL.out] at e; exact e)
    clear hx
    go_wp2_with fail
    clear LS HLE kq
    go_loopg [22] (n + 1) (fun gk s22 wr => ∃ k : Nat, s22 = .int .i64 (k : Int) ∧ k ≤ (n + 1) ∧ gk = (n + 1) - k ∧ Hid (Ce wr w.heap.size 9 (strV (mixL Q k))) ∧ Hid (Below w.heap.size w wr))
    case atStart => exact ⟨0, rfl, Nat.zero_le _, rfl, HC1, HB1⟩
    case round =>
      clear HC1 HB1
      obtain ⟨k, rfl, hk, hgk, HC, HB⟩ := hrel
      have HGK := hid hgk
      clear hgk
      by_cases hlt : k < (n + 1)
      · have h1 : (k : Int) < (((n + 1) : Nat) : Int) := by omega
        have h1b : (k : Int) < (n : Int) + 1 := by omega
        have h2 : (0 : Int) ≤ (k : Int) := by omega
        have hkl : k < Q.length := by omega
        have kk : wr.cell? ⟨w.heap.size, k, none⟩ = some (.string Q[k]) := HC.out.at (by unfold strV; rw [List.getElem?_map, mixL_at hkl]; rfl)
        have kz : wr.frozen? ⟨w.heap.size, k, none⟩ = false := HC.out.fz k
        have HT := hid (TS.out Q[k] wr (HQZ.out _ (List.getElem_mem hkl)))
        have HC2 : Hid (Ce (wr.setCell ⟨w.heap.size, k, none⟩ (.string (trimL Q[k]))) w.heap.size 9 (strV (mixL Q (k + 1)))) := hid (by rw [← mixL_set hkl, ← strV_set]; exact HC.out.set k _)
        have HB2 : Hid (Below w.heap.size w (wr.setCell ⟨w.heap.size, k, none⟩ (.string (trimL Q[k])))) := hid (HB.out.setCell (p := ⟨w.heap.size, k, none⟩) (Nat.le_refl _) _)
        have gk1 : IntKind.i64.wrap ((k : Int) + 1) = ((k + 1 : Nat) : Int) := by rw [wrap_is] <;> omega
        generalize trimL Q[k] = y at *
        generalize Q[k] = z at *
        clear HC HB TS HQZ HQL FINL
        go_wp2_with fail
        refine HT.out.mono ?_
        rintro e w2 ⟨rfl, hw2⟩
        obtain rfl := hw2.symm
        clear HT hw2
        go_wp2_with fail
        go_roundg ((n + 1) - (k + 1))
        case rel => exact ⟨k + 1, by first | rfl | go_num, by omega, rfl, HC2, HB2⟩
        case measure => have := HGK.out; omega
      · have h1 : ¬ (k : Int) < (((n + 1) : Nat) : Int) := by omega
        have h1b : ¬ (k : Int) < (n : Int) + 1 := by omega
        obtain rfl : (n + 1) = k := by omega
        have FIN : Hid (Strs w.heap.size wr (.slice (some ⟨w.heap.size, 0, none⟩) ((n + 1)) (n + 1)) (linesS s)) := hid (by
          have hc := HC.out
          have hq := HQL.out
          have hl := FINL.out
          have hml : (linesS s).length = (n + 1) := by rw [← hl, List.length_map, List.length_take]; omega
          refine ⟨by rw [strV_len, Nat.mul_one], .inr ⟨w.heap.size, n + 1, _, by rw [hml], Nat.le_refl _, hc, by omega, by unfold maxLen; omega, ?_, ?_⟩⟩
          · rw [List.size_toArray, strV_len, mixL_len Q _ (by omega)]; omega
          · rw [Nat.mul_one, hml, List.toList_toArray]
            unfold strV mixL
            rw [← List.map_take, List.take_append_of_le_length (by rw [List.length_map, List.length_take]; omega), List.take_of_length_le (by rw [List.length_map, List.length_take]; omega), ← hl]
            congr 1
            exact List.map_congr_left fun a _ => trimL_one a)
        clear HC HGK TS HQZ HQL FINL
        go_wp2
        go_ret
        exact ⟨_, rfl, FIN.out, HB.out⟩
end Go.Proofs.YtdfnehngffajiaaDoor
