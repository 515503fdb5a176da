/-
  QRDigitsToRWords: RDigits, RWords, joined.
-/
import Derived.Test.YtkikiddoiigbjaaQSlIntsToSplit
import Derived.Test.YtkikiddoiigbjaaQJoinToChinP6

/- RDigits -/
namespace Go.Proofs.Ytkikiddoiigbjaa
open Go.RowKit
set_option linter.unusedVariables false

theorem digit_step {zs : List Int} {y R : Int} {p : Nat} (hp : p < zs.length) (h0 : zs[p] = 0) (hv : dval zs + dpw p * y = R) : dval (zs.set p (y % 65536)) + dpw (p + 1) * (y / 65536) = R := by
  rw [dval_set zs p _ hp, h0, dpw]
  unfold dwB
  have e : y = y % 65536 + 65536 * (y / 65536) := by omega
  generalize y % 65536 = a at *
  generalize y / 65536 = b at *
  subst e
  grind
theorem digit_is {y : Int} (h : 0 ≤ y) : IsD (y % 65536) := by unfold IsD dwB; omega

set_option maxHeartbeats 3200000 in
theorem digits_any {w : World} {v : Value} {xs : List Int} (h : Sl w.heap.size w v xs) (hlen : xs.length ≤ 8796093022208) :
    Calls Try.prog 66 #[v] w fun e w' => ∃ ds r, e = .returned r ∧ SlI w'.heap.size w' r ds ∧ DCanon ds ∧ dval ds = val xs ∧ ds.length ≤ 4 * xs.length ∧ Below w.heap.size w w' := by
  obtain ⟨hw, a, cap, rfl, hlc, hcm, hm⟩ := h
  have HW := hid hw
  have HM := hid hm
  have HTL : Hid (xs.take xs.length = xs) := by unfold Hid; simp
  have HV0 : Hid (∀ n, dval (List.replicate n 0) = 0) := fun n => by
    induction n with
    | zero => rfl
    | succ n ih => rw [List.replicate_succ, dval, ih]; omega
  clear hm hw
  go_enter Try.func66, Try.ntmps66
  go_wp2_with (at_make; refine wpList_make_ints _ rfl _ _ rfl _ _ (4 * xs.length) (4 * xs.length) rfl rfl (by omega) (by omega) (by omega) (by omega) ?_)
  intro w2 hrow hb2 hsz2
  have hhs : w.heap.size < w2.heap.size := by have := hsz2.out; omega
  clear hsz2
  go_wp2_with fail
  go_loopw [4] (fun i wr => ∃ (k : Nat) (zs : List Int), k ≤ xs.length ∧ i = .int .i64 k ∧ Hid (zs.length = 4 * xs.length) ∧ Hid (DF zs) ∧ Hid (∀ j (h : j < zs.length), 4 * k ≤ j → zs[j] = 0) ∧ Hid (dval zs = val (xs.take k)) ∧
      Hid (RowI wr w.heap.size (wi zs)) ∧ Hid (Below w.heap.size w wr)) (fun i _ => xs.length - (intOf i).toNat)
  case atStart => exact ⟨0, List.replicate (4 * xs.length) 0, Nat.zero_le _, rfl, (by unfold Hid; simp), (fun x hx => by rw [(List.mem_replicate.1 hx).2]; unfold IsD dwB; omega), (fun j h _ => by simp), (by unfold Hid; rw [HV0.out]; simp [val]), hrow, hb2⟩
  case round =>
    clear hrow hb2 hhs
    obtain ⟨k, zs, hk, rfl, HL, HD, HZ, HV, hr, hb⟩ := hrel
    by_cases hlt : k < xs.length
    · rcases HM.out with e | ⟨b, off, rfl, hbg, hc⟩
      · subst e; simp at hlt
      have c1 : wr.cell? ⟨b, off + k, none⟩ = some (.int .u64 xs[k]) := (hb.out.cell (p := ⟨b, off + k, none⟩) hbg).trans (hc k hlt)
      have hx := HW.out.get hlt
      have HTK := hid (val_take_succ xs k hlt)
      clear hc
      generalize xs[k] = x at *
      unfold IsW wB at hx
      obtain ⟨hx0, hx1⟩ := hx
      have HV1 : Hid (dval zs + dpw (4 * k + 0) * x = val (xs.take k) + x * pw k) := by
        unfold Hid; rw [HV.out, Nat.add_zero, dpw_four, Int.mul_comm]
      have HB1 : Hid (x * 65536 ^ 0 ≤ 18446744073709551615) := by unfold Hid; simp; omega
      go_wp2_with fail
      go_loopw [5, 6] (fun y i wr => ∃ (j : Nat) (zs : List Int) (yy : Int), j ≤ 4 ∧ i = .int .i64 j ∧ y = .int .u64 yy ∧ 0 ≤ yy ∧ yy ≤ 18446744073709551615 ∧ Hid (zs.length = 4 * xs.length) ∧ Hid (DF zs) ∧ Hid (∀ t (h : t < zs.length), 4 * k + j ≤ t → zs[t] = 0) ∧
          Hid (yy * 65536 ^ j ≤ 18446744073709551615) ∧ Hid (dval zs + dpw (4 * k + j) * yy = val (xs.take k) + x * pw k) ∧ Hid (RowI wr w.heap.size (wi zs)) ∧ Hid (Below w.heap.size w wr)) (fun _ i _ => 4 - (intOf i).toNat)
      case atStart => exact ⟨0, zs, x, by omega, rfl, rfl, hx0, by omega, HL, HD, HZ, HB1, HV1, hr, hb⟩
      case round =>
        clear HL HD HB1 HV1 hr hb HV HZ
        obtain ⟨j, zs, yy, hj, rfl, rfl, hy0, hy1, HL, HD, HZ, HB, HV, hr, hb⟩ := hrel
        by_cases hj4 : j < 4
        · have hp : 4 * k + j < zs.length := by have := HL.out; omega
          have hz := HZ.out _ hp (Nat.le_refl _)
          have c2 : wr.cell? ⟨w.heap.size, 4 * k + j, none⟩ = some (.int .i64 zs[4 * k + j]) := RowI.num (r := []) (by simpa using hr.out) hp
          have cf : wr.frozen? ⟨w.heap.size, 4 * k + j, none⟩ = false := hr.out.frozen _
          have hst := hid (digit_step hp hz HV.out)
          have hbd := hid (split_bound HB.out)
          have HR2 := hid (RowI.setNum (r := []) (by simpa using hr.out) hp (yy % 65536))
          have HB2 := hid (hb.out.setCell (p := ⟨w.heap.size, 4 * k + j, none⟩) (Nat.le_refl _) (.int .i64 (yy % 65536)))
          have HD2 := hid (HD.out.set (4 * k + j) (digit_is hy0))
          have HL2 : Hid ((zs.set (4 * k + j) (yy % 65536)).length = 4 * xs.length) := by unfold Hid; rw [List.length_set]; exact HL.out
          have HZ2 : Hid (∀ t (h : t < (zs.set (4 * k + j) (yy % 65536)).length), 4 * k + (j + 1) ≤ t → (zs.set (4 * k + j) (yy % 65536))[t] = 0) := fun t h ht => by
            rw [List.getElem_set_ne (by omega)]
            exact HZ.out t (by simpa using h) (by omega)
          generalize zs[4 * k + j] = z at *
          generalize zs.set (4 * k + j) (yy % 65536) = zs' at *
          clear HL HD HZ HB HV hr hb hz
          go_wp2
          go_roundw
          case rel => exact ⟨j + 1, zs', yy / 65536, by omega, by go_num, rfl, by omega, by omega, HL2, HD2, HZ2, hbd, hst, (by simpa using HR2), HB2⟩
          case measure => first | (simp [intOf]; done) | (simp [intOf]; omega)
        · obtain rfl : j = 4 := by omega
          have hy : yy = 0 := by
            have := HB.out
            rw [show (65536 : Int) ^ 4 = 18446744073709551616 from by decide] at this
            omega
          have HV5 : Hid (dval zs = val (xs.take (k + 1))) := by
            unfold Hid
            have := HV.out
            rw [hy] at this
            rw [HTK.out]; simpa using this
          clear hy HB HV
          go_wp2
          go_roundw
          case rel => exact ⟨k + 1, zs, by omega, by go_num, HL, HD, (fun t h ht => HZ.out t h (by omega)), HV5, hr, hb⟩
          case measure => first | (simp [intOf]; done) | (simp [intOf]; omega)
    · obtain rfl : k = xs.length := by omega
      rw [HTL.out] at HV
      have HWI : Hid (∀ n : Nat, n ≤ zs.length → (∀ j (h : j < zs.length), n ≤ j → zs[j] = 0) → (0 < n → ∀ h' : n - 1 < zs.length, zs[n - 1] ≠ 0) → dwid zs = n) := fun n h1 h2 h3 => dwid_is h1 h2 h3
      have HSL : Hid (∀ n, dwid zs = n → SlI wr.heap.size wr (.slice (some ⟨w.heap.size, 0, none⟩) n (4 * xs.length)) (dlst zs)) := fun n hn => by
        have h1 := dwid_le zs
        have h2 := HL.out
        refine ⟨fun p hp => ?_, _, _, by rw [dlength_lst, hn], by rw [dlength_lst]; omega, by omega, .inr ⟨_, 0, rfl, hr.out.lt, fun j hj => ?_⟩⟩
        · have := HD.out p (List.mem_of_mem_take hp)
          unfold IsD dwB at this
          omega
        · have hj' : j < zs.length := by rw [dlength_lst] at hj; omega
          rw [Nat.zero_add, RowI.num (r := []) (by simpa using hr.out) hj']
          simp [dlst]
      go_wp2_with fail
      go_loop [7] (fun i => ∃ n : Nat, n ≤ zs.length ∧ i = .int .i64 n ∧ Hid (∀ j (h : j < zs.length), n ≤ j → zs[j] = 0)) (fun i => (intOf i).toNat)
      case atStart => exact ⟨zs.length, Nat.le_refl _, (by rw [HL.out]; go_num), fun j h h' => by omega⟩
      case round =>
        clear HZ
        obtain ⟨n, hn, rfl, HZ⟩ := hrel
        have fin : ∀ m, dwid zs = m → ∃ ds r, Ending.returned (Value.slice (some ⟨w.heap.size, 0, none⟩) m (4 * xs.length)) = Ending.returned r ∧ SlI wr.heap.size wr r ds ∧ DCanon ds ∧ dval ds = val xs ∧ ds.length ≤ 4 * xs.length ∧ Below w.heap.size w wr := fun m hm =>
          ⟨dlst zs, _, rfl, HSL.out m hm, dcanon_lst HD.out, by rw [dval_lst, HV.out], by rw [dlength_lst]; have := dwid_le zs; have := HL.out; omega, hb.out⟩
        have FIN := hid fin
        clear fin
        have hlz : zs.length = 4 * xs.length := HL.out
        by_cases h0 : n = 0
        · subst h0
          have HE := hid (HWI.out 0 (by omega) HZ.out (by omega))
          go_wp2
          go_ret
          exact FIN.out 0 HE.out
        · obtain ⟨m, rfl⟩ : ∃ m, n = m + 1 := ⟨n - 1, by omega⟩
          have hm2 : m < zs.length := by omega
          have c3 : wr.cell? ⟨w.heap.size, m, none⟩ = some (.int .i64 zs[m]) := RowI.num (r := []) (by simpa using hr.out) hm2
          obtain ⟨x, hx⟩ : ∃ x, x = zs[m] := ⟨_, rfl⟩
          rw [← hx] at c3
          have HX := hid hx
          clear hx h0
          by_cases hx0 : x = 0
          · have ht : (x == 0) = true := by simp [hx0]
            have HX0 := hid hx0
            clear hx0
            go_wp2
            go_round
            case rel =>
              refine ⟨m, by omega, by go_num, fun j h hj => ?_⟩
              by_cases e : j = m
              · subst e; rw [← HX.out]; exact HX0.out
              · exact HZ.out j h (by omega)
            case measure => first | (simp [intOf]; done) | (simp [intOf]; omega)
          · have ht : (x == 0) = false := by simp [hx0]
            have HE := hid (HWI.out (m + 1) hn HZ.out (fun _ h' => by have := HX.out; simp at h' ⊢; rw [← this]; exact hx0))
            go_wp2
            go_ret
            exact FIN.out (m + 1) HE.out
end Go.Proofs.Ytkikiddoiigbjaa

/- RWords -/
namespace Go.Proofs.Ytkikiddoiigbjaa
open Go.RowKit
set_option linter.unusedVariables false

/-- What stands in word t once the digits from k on are in. -/
def wordUpto (D : List Int) (k t : Nat) : Int := dval ((D.drop (max k (4 * t))).take (4 * t + 4 - max k (4 * t)))
theorem wordUpto_other {D : List Int} {m t : Nat} (h : t ≠ m / 4) : wordUpto D m t = wordUpto D (m + 1) t := by
  unfold wordUpto
  by_cases q : m / 4 < t
  · rw [Nat.max_eq_right (by omega), Nat.max_eq_right (by omega)]
  · rw [show 4 * t + 4 - max m (4 * t) = 0 by omega, show 4 * t + 4 - max (m + 1) (4 * t) = 0 by omega]
    simp
theorem wordUpto_here {D : List Int} (hD : DF D) {m : Nat} (hm : m < D.length) : wordUpto D m (m / 4) = wordUpto D (m + 1) (m / 4) * 65536 + D[m] ∧ 0 ≤ D[m] ∧ D[m] ≤ 65535 ∧ 0 ≤ wordUpto D (m + 1) (m / 4) ∧ wordUpto D (m + 1) (m / 4) ≤ 281474976710655 := by
  have hx := hD.get hm
  unfold IsD dwB at hx
  have e1 : max m (4 * (m / 4)) = m := by omega
  have h1 := chunk_next hD (p := m) (n := 4 * (m / 4) + 3 - m)
  rw [show D.getD m 0 = D[m] by simp [hm]] at h1
  have e2 : wordUpto D (m + 1) (m / 4) = dval ((D.drop (m + 1)).take (4 * (m / 4) + 3 - m)) := by
    unfold wordUpto
    rw [Nat.max_eq_left (by omega), show 4 * (m / 4) + 4 - (m + 1) = 4 * (m / 4) + 3 - m by omega]
  have h3 := chunk3 ((hD.drop (m + 1)).take (4 * (m / 4) + 3 - m)) (by simp; omega)
  rw [← e2] at h3 h1
  refine ⟨?_, hx.1, by omega, h3.1, h3.2⟩
  have e3 : wordUpto D m (m / 4) = dval ((D.drop m).take (4 * (m / 4) + 3 - m + 1)) := by
    unfold wordUpto
    rw [e1, show 4 * (m / 4) + 4 - m = 4 * (m / 4) + 3 - m + 1 by omega]
  rw [e3, h1.1]
  omega
theorem wordUpto_all (D : List Int) (t : Nat) : wordUpto D 0 t = dval ((D.drop (4 * t)).take 4) := by
  unfold wordUpto
  rw [Nat.max_eq_right (by omega), show 4 * t + 4 - 4 * t = 4 by omega]
theorem wordUpto_none {D : List Int} {k t : Nat} (h : D.length ≤ k) : wordUpto D k t = 0 := by
  unfold wordUpto
  rw [List.drop_of_length_le (by omega)]
  simp [dval]
theorem words_value {D zs : List Int} (hD : DF D) (hz : ∀ t (h : t < zs.length), zs[t] = wordUpto D 0 t) (hl : D.length ≤ 4 * zs.length) (hl2 : 4 * zs.length ≤ D.length + 3) : ∀ s, s ≤ zs.length → WF (zs.take s) ∧ val (zs.take s) = dval (D.take (4 * s))
  | 0, _ => ⟨by simpa using WF.nil, by simp [val, dval]⟩
  | s + 1, hs => by
    obtain ⟨h1, h2⟩ := words_value hD hz hl hl2 s (by omega)
    have hl3 : (zs.take s).length = s := by simp; omega
    have := join_step hD h1 hl3 (by omega) h2 (y := zs[s]) (by rw [hz s (by omega), wordUpto_all])
    rw [List.take_succ_eq_append_getElem (show s < zs.length by omega)]
    exact this

set_option maxHeartbeats 3200000 in
theorem words_any {w : World} {v : Value} {D : List Int} (h : SlI w.heap.size w v D) (hd : DF D) :
    Calls Try.prog 67 #[v] w fun e w' => ∃ zs r, e = .returned r ∧ Own w.heap.size w' r zs ∧ Canon zs ∧ val zs = dval D ∧ Below w.heap.size w w' := by
  obtain ⟨hw, a, cap, rfl, hlc, hcm, hm⟩ := h
  have HM := hid hm
  have HD := hid hd
  have HW0 : Hid (∀ t, wordUpto D D.length t = 0) := fun t => wordUpto_none (Nat.le_refl _)
  have HWD : Hid (∀ zs : List Int, (∀ t (h : t < zs.length), zs[t] = wordUpto D 0 t) → zs.length = (D.length + 3) / 4 → WF zs ∧ val zs = dval D) := fun zs h1 h2 => by
    have := words_value hd h1 (by omega) (by omega) zs.length (Nat.le_refl _)
    rw [List.take_length, List.take_of_length_le (by omega)] at this
    exact this
  clear hm hw hd
  obtain ⟨nD, hnD⟩ : ∃ n, D.length = n := ⟨_, rfl⟩
  rw [hnD] at hlc HW0 HWD
  rw [hnD]
  have HN := hid hnD
  have hnl : nD ≤ 35184372088832 := by omega
  clear hnD
  have hh : ((nD : Int) + 3) / 4 = (((nD + 3) / 4 : Nat) : Int) := by omega
  obtain ⟨W, hW⟩ : ∃ W, (nD + 3) / 4 = W := ⟨_, rfl⟩
  have hW4 : nD ≤ 4 * W ∧ 4 * W ≤ nD + 3 := by omega
  rw [hW] at hh HWD
  clear hW
  go_enter Try.func67, Try.ntmps67
  go_wp2_with (at_make; refine wpList_make_words _ rfl _ _ rfl _ _ W W rfl rfl (by omega) (by omega) (Nat.le_refl _) (by omega) ?_)
  intro w2 hrow hb2 hsz2
  clear hsz2
  go_wp2_with fail
  go_loopw [4] (fun i wr => ∃ (k : Nat) (zs : List Int), k ≤ nD ∧ i = .int .i64 ((k : Int) - 1) ∧ Hid (zs.length = W) ∧ Hid (∀ t (h : t < zs.length), zs[t] = wordUpto D k t) ∧ Hid (Row wr w.heap.size (ws zs)) ∧ Hid (Below w.heap.size w wr)) (fun i _ => (intOf i + 1).toNat)
  case atStart => exact ⟨nD, List.replicate W 0, Nat.le_refl _, by go_num, (by unfold Hid; simp), (fun t h => by rw [HW0.out]; simp), hrow, hb2⟩
  case round =>
    clear hrow hb2
    obtain ⟨k, zs, hk, rfl, HL, HZ, hr, hb⟩ := hrel
    by_cases h0 : k = 0
    · subst h0
      obtain ⟨hwf, hval⟩ := HWD.out zs HZ.out HL.out
      have HWF := hid hwf
      have HVA := hid hval
      have HWI : Hid (∀ n : Nat, n ≤ zs.length → (∀ j (h : j < zs.length), n ≤ j → zs[j] = 0) → (0 < n → ∀ h' : n - 1 < zs.length, zs[n - 1] ≠ 0) → wid zs = n) := fun n h1 h2 h3 => wid_is h1 h2 h3
      clear hwf hval
      have fin : ∀ m, wid zs = m → ∃ qs r, Ending.returned (Value.slice (some ⟨w.heap.size, 0, none⟩) m W) = Ending.returned r ∧ Own w.heap.size wr r qs ∧ Canon qs ∧ val qs = dval D ∧ Below w.heap.size w wr := fun m hm => by
        have hw1 := wid_le zs
        have hl1 := HL.out
        refine ⟨lst zs, _, rfl, ⟨(canon_lst HWF.out).1, .inr ⟨w.heap.size, ws (zs.drop (wid zs)), Nat.le_refl _, ?_, ?_, ?_⟩⟩, canon_lst HWF.out, by rw [val_lst, HVA.out], hb.out⟩
        · rw [length_lst, length_ws, List.length_drop]; omega
        · rw [length_lst, length_ws, List.length_drop, hm, show m + (zs.length - m) = W by omega]
        · have e : ws (lst zs) ++ ws (zs.drop (wid zs)) = ws zs := by
            unfold lst ws
            rw [← List.map_append, List.take_append_drop]
          rw [e]; exact hr.out
      have FIN := hid fin
      clear fin
      go_wp2_with fail
      go_loop [5] (fun i => ∃ n : Nat, n ≤ zs.length ∧ i = .int .i64 n ∧ Hid (∀ j (h : j < zs.length), n ≤ j → zs[j] = 0)) (fun i => (intOf i).toNat)
      case atStart => exact ⟨zs.length, Nat.le_refl _, (by rw [HL.out]), fun j h h' => by omega⟩
      case round =>
        clear HZ
        obtain ⟨n, hn, rfl, HZ⟩ := hrel
        have hlz : zs.length = W := HL.out
        by_cases h0 : n = 0
        · subst h0
          have HE := hid (HWI.out 0 (by omega) HZ.out (by omega))
          go_wp2
          go_ret
          exact FIN.out 0 HE.out
        · obtain ⟨m, rfl⟩ : ∃ m, n = m + 1 := ⟨n - 1, by omega⟩
          have hm2 : m < zs.length := by omega
          have c3 : wr.cell? ⟨w.heap.size, m, none⟩ = some (.int .u64 zs[m]) := Row.word (r := []) (by simpa using hr.out) hm2
          obtain ⟨x, hx⟩ : ∃ x, x = zs[m] := ⟨_, rfl⟩
          rw [← hx] at c3
          have HX := hid hx
          clear hx h0
          by_cases hx0 : x = 0
          · have ht : (x == 0) = true := by simp [hx0]
            have HX0 := hid hx0
            clear hx0
            go_wp2
            go_round
            case rel =>
              refine ⟨m, by omega, by go_num, fun j h hj => ?_⟩
              by_cases e : j = m
              · subst e; rw [← HX.out]; exact HX0.out
              · exact HZ.out j h (by omega)
            case measure => first | (simp [intOf]; done) | (simp [intOf]; omega)
          · have ht : (x == 0) = false := by simp [hx0]
            have HE := hid (HWI.out (m + 1) hn HZ.out (fun _ h' => by have := HX.out; simp at h' ⊢; rw [← this]; exact hx0))
            go_wp2
            go_ret
            exact FIN.out (m + 1) HE.out
    · obtain ⟨m, rfl⟩ : ∃ m, k = m + 1 := ⟨k - 1, by omega⟩
      have hmD : m < D.length := by have := HN.out; omega
      rcases HM.out with e | ⟨b, off, rfl, hbg, hc⟩
      · subst e; simp at hmD
      have hq : m / 4 < zs.length := by have := HL.out; omega
      obtain ⟨hw1, hd0, hd1, hu0, hu1⟩ := wordUpto_here HD.out hmD
      have c1 : wr.cell? ⟨b, off + m, none⟩ = some (.int .i64 D[m]) := (hb.out.cell (p := ⟨b, off + m, none⟩) hbg).trans (hc m hmD)
      have c2 : wr.cell? ⟨w.heap.size, m / 4, none⟩ = some (.int .u64 (wordUpto D (m + 1) (m / 4))) := by
        rw [← HZ.out _ hq]
        exact Row.word (r := []) (by simpa using hr.out) hq
      have cf : wr.frozen? ⟨w.heap.size, m / 4, none⟩ = false := hr.out.frozen _
      have HZ2 : Hid (∀ t (h : t < (zs.set (m / 4) (wordUpto D m (m / 4))).length), (zs.set (m / 4) (wordUpto D m (m / 4)))[t] = wordUpto D m t) := fun t h => by
        by_cases e : m / 4 = t
        · subst e; simp
        · rw [List.getElem_set_ne e]
          exact (HZ.out t (by simpa using h)).trans (wordUpto_other (by omega)).symm
      have HR2 := hid (Row.setWord (r := []) (by simpa using hr.out) hq (wordUpto D m (m / 4)))
      have HB2 := hid (hb.out.setCell (p := ⟨w.heap.size, m / 4, none⟩) (Nat.le_refl _) (.int .u64 (wordUpto D m (m / 4))))
      have HL2 : Hid ((zs.set (m / 4) (wordUpto D m (m / 4))).length = W) := by unfold Hid; rw [List.length_set]; exact HL.out
      rw [hw1] at HZ2 HR2 HB2 HL2
      have hq4 : (m : Int) / 4 = ((m / 4 : Nat) : Int) := by omega
      have hqW : m / 4 < W := by have := HL.out; omega
      generalize D[m] = d at *
      generalize wordUpto D (m + 1) (m / 4) = u at *
      generalize zs.set (m / 4) (u * 65536 + d) = zs' at *
      have i1 : (0 : Int) ≤ (m : Int) := by omega
      have i2 : (m : Int) < (nD : Int) := by omega
      have i3 : ((m / 4 : Nat) : Int) < (W : Int) := by omega
      have i4 : (0 : Int) ≤ ((m / 4 : Nat) : Int) := by omega
      generalize m / 4 = t4 at *
      clear hc h0 hw1 HZ hr hb HL
      go_wp2_with fail
      go_region
      go_wp2
      go_roundw
      case rel => exact ⟨m, zs', by omega, by go_num, HL2, HZ2, (by unfold Hid; have := HR2.out; rw [List.append_nil] at this; exact this), HB2.out.drew⟩
      case measure => first | (simp [intOf]; done) | (simp [intOf]; omega)
end Go.Proofs.Ytkikiddoiigbjaa
