/-
  RWords: the reference's words.
-/
import Derived.Test.YthdnnphpjdchnaaQSplitToJoin
import Derived.Test.YthdnnphpjdchnaaQROrderToRDigits
namespace Go.Proofs.Ythdnnphpjdchnaa
open Go.RowKit
set_option linter.unusedVariables false

/-- What stands in word t once the digits from k on are in. -/
def wordUpto (D : List Int) (k t : Nat) : Int := dval ((D.drop (max k (4 * t))).take (4 * t + 4 - max k (4 * t)))
theorem wordUpto_other {D : List Int} {m t : Nat} (h : t ≠ m / 4) : wordUpto D m t = wordUpto D (m + 1) t := by
  unfold wordUpto
  by_cases q : m / 4 < t
  · rw [Nat.max_eq_right (by omega), Nat.max_eq_right (by omega)]
  · rw [show 4 * t + 4 - max m (4 * t) = 0 by omega, show 4 * t + 4 - max (m + 1) (4 * t) = 0 by omega]
    simp
theorem wordUpto_here {D : List Int} (hD : DF D) {m : Nat} (hm : m < D.length) : wordUpto D m (m / 4) = wordUpto D (m + 1) (m / 4) * 65536 + D[m] ∧ 0 ≤ D[m] ∧ D[m] ≤ 65535 ∧ 0 ≤ wordUpto D (m + 1) (m / 4) ∧ wordUpto D (m + 1) (m / 4) ≤ 281474976710655 := by
  have hx := hD.get hm
  unfold IsD dwB at hx
  have e1 : max m (4 * (m / 4)) = m := by omega
  have h1 := chunk_next hD (p := m) (n := 4 * (m / 4) + 3 - m)
  rw [show D.getD m 0 = D[m] by simp [hm]] at h1
  have e2 : wordUpto D (m + 1) (m / 4) = dval ((D.drop (m + 1)).take (4 * (m / 4) + 3 - m)) := by
    unfold wordUpto
    rw [Nat.max_eq_left (by omega), show 4 * (m / 4) + 4 - (m + 1) = 4 * (m / 4) + 3 - m by omega]
  have h3 := chunk3 ((hD.drop (m + 1)).take (4 * (m / 4) + 3 - m)) (by simp; omega)
  rw [← e2] at h3 h1
  refine ⟨?_, hx.1, by omega, h3.1, h3.2⟩
  have e3 : wordUpto D m (m / 4) = dval ((D.drop m).take (4 * (m / 4) + 3 - m + 1)) := by
    unfold wordUpto
    rw [e1, show 4 * (m / 4) + 4 - m = 4 * (m / 4) + 3 - m + 1 by omega]
  rw [e3, h1.1]
  omega
theorem wordUpto_all (D : List Int) (t : Nat) : wordUpto D 0 t = dval ((D.drop (4 * t)).take 4) := by
  unfold wordUpto
  rw [Nat.max_eq_right (by omega), show 4 * t + 4 - 4 * t = 4 by omega]
theorem wordUpto_none {D : List Int} {k t : Nat} (h : D.length ≤ k) : wordUpto D k t = 0 := by
  unfold wordUpto
  rw [List.drop_of_length_le (by omega)]
  simp [dval]
theorem words_value {D zs : List Int} (hD : DF D) (hz : ∀ t (h : t < zs.length), zs[t] = wordUpto D 0 t) (hl : D.length ≤ 4 * zs.length) (hl2 : 4 * zs.length ≤ D.length + 3) : ∀ s, s ≤ zs.length → WF (zs.take s) ∧ val (zs.take s) = dval (D.take (4 * s))
  | 0, _ => ⟨by simpa using WF.nil, by simp [val, dval]⟩
  | s + 1, hs => by
    obtain ⟨h1, h2⟩ := words_value hD hz hl hl2 s (by omega)
    have hl3 : (zs.take s).length = s := by simp; omega
    have := join_step hD h1 hl3 (by omega) h2 (y := zs[s]) (by rw [hz s (by omega), wordUpto_all])
    rw [List.take_succ_eq_append_getElem (show s < zs.length by omega)]
    exact this

set_option maxHeartbeats 3200000 in
theorem words_any {w : World} {v : Value} {D : List Int} (h : SlI w.heap.size w v D) (hd : DF D) :
    Calls Try.prog 75 #[v] w fun e w' => ∃ zs r, e = .returned r ∧ Own w.heap.size w' r zs ∧ Canon zs ∧ val zs = dval D ∧ Below w.heap.size w w' := by
  obtain ⟨hw, a, cap, rfl, hlc, hcm, hm⟩ := h
  have HM := hid hm
  have HD := hid hd
  have HW0 : Hid (∀ t, wordUpto D D.length t = 0) := fun t => wordUpto_none (Nat.le_refl _)
  have HWD : Hid (∀ zs : List Int, (∀ t (h : t < zs.length), zs[t] = wordUpto D 0 t) → zs.length = (D.length + 3) / 4 → WF zs ∧ val zs = dval D) := fun zs h1 h2 => by
    have := words_value hd h1 (by omega) (by omega) zs.length (Nat.le_refl _)
    rw [List.take_length, List.take_of_length_le (by omega)] at this
    exact this
  clear hm hw hd
  obtain ⟨nD, hnD⟩ : ∃ n, D.length = n := ⟨_, rfl⟩
  rw [hnD] at hlc HW0 HWD
  rw [hnD]
  have HN := hid hnD
  have hnl : nD ≤ 35184372088832 := by omega
  clear hnD
  have hh : ((nD : Int) + 3) / 4 = (((nD + 3) / 4 : Nat) : Int) := by omega
  obtain ⟨W, hW⟩ : ∃ W, (nD + 3) / 4 = W := ⟨_, rfl⟩
  have hW4 : nD ≤ 4 * W ∧ 4 * W ≤ nD + 3 := by omega
  rw [hW] at hh HWD
  clear hW
  go_enter Try.func75, Try.ntmps75
  go_wp2_with (at_make; refine wpList_make_words _ rfl _ _ rfl _ _ W W rfl rfl (by omega) (by omega) (Nat.le_refl _) (by omega) ?_)
  intro w2 hrow hb2 hsz2
  clear hsz2
  go_wp2_with fail
  go_loopw [4] (fun i wr => ∃ (k : Nat) (zs : List Int), k ≤ nD ∧ i = .int .i64 ((k : Int) - 1) ∧ Hid (zs.length = W) ∧ Hid (∀ t (h : t < zs.length), zs[t] = wordUpto D k t) ∧ Hid (Row wr w.heap.size (ws zs)) ∧ Hid (Below w.heap.size w wr)) (fun i _ => (intOf i + 1).toNat)
  case atStart => exact ⟨nD, List.replicate W 0, Nat.le_refl _, by go_num, (by unfold Hid; simp), (fun t h => by rw [HW0.out]; simp), hrow, hb2⟩
  case round =>
    clear hrow hb2
    obtain ⟨k, zs, hk, rfl, HL, HZ, hr, hb⟩ := hrel
    by_cases h0 : k = 0
    · subst h0
      obtain ⟨hwf, hval⟩ := HWD.out zs HZ.out HL.out
      have HWF := hid hwf
      have HVA := hid hval
      have HWI : Hid (∀ n : Nat, n ≤ zs.length → (∀ j (h : j < zs.length), n ≤ j → zs[j] = 0) → (0 < n → ∀ h' : n - 1 < zs.length, zs[n - 1] ≠ 0) → wid zs = n) := fun n h1 h2 h3 => wid_is h1 h2 h3
      clear hwf hval
      have fin : ∀ m, wid zs = m → ∃ qs r, Ending.returned (Value.slice (some ⟨w.heap.size, 0, none⟩) m W) = Ending.returned r ∧ Own w.heap.size wr r qs ∧ Canon qs ∧ val qs = dval D ∧ Below w.heap.size w wr := fun m hm => by
        have hw1 := wid_le zs
        have hl1 := HL.out
        refine ⟨lst zs, _, rfl, ⟨(canon_lst HWF.out).1, .inr ⟨w.heap.size, ws (zs.drop (wid zs)), Nat.le_refl _, ?_, ?_, ?_⟩⟩, canon_lst HWF.out, by rw [val_lst, HVA.out], hb.out⟩
        · rw [length_lst, length_ws, List.length_drop]; omega
        · rw [length_lst, length_ws, List.length_drop, hm, show m + (zs.length - m) = W by omega]
        · have e : ws (lst zs) ++ ws (zs.drop (wid zs)) = ws zs := by
            unfold lst ws
            rw [← List.map_append, List.take_append_drop]
          rw [e]; exact hr.out
      have FIN := hid fin
      clear fin
      go_wp2_with fail
      go_loop [5] (fun i => ∃ n : Nat, n ≤ zs.length ∧ i = .int .i64 n ∧ Hid (∀ j (h : j < zs.length), n ≤ j → zs[j] = 0)) (fun i => (intOf i).toNat)
      case atStart => exact ⟨zs.length, Nat.le_refl _, (by rw [HL.out]), fun j h h' => by omega⟩
      case round =>
        clear HZ
        obtain ⟨n, hn, rfl, HZ⟩ := hrel
        have hlz : zs.length = W := HL.out
        by_cases h0 : n = 0
        · subst h0
          have HE := hid (HWI.out 0 (by omega) HZ.out (by omega))
          go_wp2
          go_ret
          exact FIN.out 0 HE.out
        · obtain ⟨m, rfl⟩ : ∃ m, n = m + 1 := ⟨n - 1, by omega⟩
          have hm2 : m < zs.length := by omega
          have c3 : wr.cell? ⟨w.heap.size, m, none⟩ = some (.int .u64 zs[m]) := Row.word (r := []) (by simpa using hr.out) hm2
          obtain ⟨x, hx⟩ : ∃ x, x = zs[m] := ⟨_, rfl⟩
          rw [← hx] at c3
          have HX := hid hx
          clear hx h0
          by_cases hx0 : x = 0
          · have ht : (x == 0) = true := by simp [hx0]
            have HX0 := hid hx0
            clear hx0
            go_wp2
            go_round
            case rel =>
              refine ⟨m, by omega, by go_num, fun j h hj => ?_⟩
              by_cases e : j = m
              · subst e; rw [← HX.out]; exact HX0.out
              · exact HZ.out j h (by omega)
            case measure => first | (simp [intOf]; done) | (simp [intOf]; omega)
          · have ht : (x == 0) = false := by simp [hx0]
            have HE := hid (HWI.out (m + 1) hn HZ.out (fun _ h' => by have := HX.out; simp at h' ⊢; rw [← this]; exact hx0))
            go_wp2
            go_ret
            exact FIN.out (m + 1) HE.out
    · obtain ⟨m, rfl⟩ : ∃ m, k = m + 1 := ⟨k - 1, by omega⟩
      have hmD : m < D.length := by have := HN.out; omega
      rcases HM.out with e | ⟨b, off, rfl, hbg, hc⟩
      · subst e; simp at hmD
      have hq : m / 4 < zs.length := by have := HL.out; omega
      obtain ⟨hw1, hd0, hd1, hu0, hu1⟩ := wordUpto_here HD.out hmD
      have c1 : wr.cell? ⟨b, off + m, none⟩ = some (.int .i64 D[m]) := (hb.out.cell (p := ⟨b, off + m, none⟩) hbg).trans (hc m hmD)
      have c2 : wr.cell? ⟨w.heap.size, m / 4, none⟩ = some (.int .u64 (wordUpto D (m + 1) (m / 4))) := by
        rw [← HZ.out _ hq]
        exact Row.word (r := []) (by simpa using hr.out) hq
      have cf : wr.frozen? ⟨w.heap.size, m / 4, none⟩ = false := hr.out.frozen _
      have HZ2 : Hid (∀ t (h : t < (zs.set (m / 4) (wordUpto D m (m / 4))).length), (zs.set (m / 4) (wordUpto D m (m / 4)))[t] = wordUpto D m t) := fun t h => by
        by_cases e : m / 4 = t
        · subst e; simp
        · rw [List.getElem_set_ne e]
          exact (HZ.out t (by simpa using h)).trans (wordUpto_other (by omega)).symm
      have HR2 := hid (Row.setWord (r := []) (by simpa using hr.out) hq (wordUpto D m (m / 4)))
      have HB2 := hid (hb.out.setCell (p := ⟨w.heap.size, m / 4, none⟩) (Nat.le_refl _) (.int .u64 (wordUpto D m (m / 4))))
      have HL2 : Hid ((zs.set (m / 4) (wordUpto D m (m / 4))).length = W) := by unfold Hid; rw [List.length_set]; exact HL.out
      rw [hw1] at HZ2 HR2 HB2 HL2
      have hq4 : (m : Int) / 4 = ((m / 4 : Nat) : Int) := by omega
      have hqW : m / 4 < W := by have := HL.out; omega
      generalize D[m] = d at *
      generalize wordUpto D (m + 1) (m / 4) = u at *
      generalize zs.set (m / 4) (u * 65536 + d) = zs' at *
      have i1 : (0 : Int) ≤ (m : Int) := by omega
      have i2 : (m : Int) < (nD : Int) := by omega
      have i3 : ((m / 4 : Nat) : Int) < (W : Int) := by omega
      have i4 : (0 : Int) ≤ ((m / 4 : Nat) : Int) := by omega
      generalize m / 4 = t4 at *
      clear hc h0 hw1 HZ hr hb HL
      go_wp2_with fail
      go_region
      go_wp2
      go_roundw
      case rel => exact ⟨m, zs', by omega, by go_num, HL2, HZ2, (by unfold Hid; have := HR2.out; rw [List.append_nil] at this; exact this), HB2.out.drew⟩
      case measure => first | (simp [intOf]; done) | (simp [intOf]; omega)
end Go.Proofs.Ythdnnphpjdchnaa
