/-
  QJoinToChinP6: Join, ChinP6, joined.
-/
import Derived.Test.YtkikiddoiigbjaaQSlIntsToSplit
import Derived.Test.YtkikiddoiigbjaaQOpenL6ToShift
import Derived.Test.YtkikiddoiigbjaaQMeetPureToDWords
import Derived.Test.YtkikiddoiigbjaaQAlikeToOpenV8

/- Join -/
namespace Go.Proofs.Ytkikiddoiigbjaa
open Go.RowKit

theorem chunk3 {l : List Int} (h : DF l) (hl : l.length ≤ 3) : 0 ≤ dval l ∧ dval l ≤ 281474976710655 := by
  refine ⟨dval_nonneg h, ?_⟩
  match l, h, hl with
  | [], _, _ => simp [dval]
  | [a], h, _ => have h1 := h a (by simp); unfold IsD dwB at h1; simp [dval]; omega
  | [a, b], h, _ => have h1 := h a (by simp); have h2 := h b (by simp); unfold IsD dwB at h1 h2; simp [dval, dwB]; omega
  | [a, b, c], h, _ => have h1 := h a (by simp); have h2 := h b (by simp); have h3 := h c (by simp); unfold IsD dwB at h1 h2 h3; simp [dval, dwB]; omega
theorem DF.drop {xs : List Int} (h : DF xs) (n : Nat) : DF (xs.drop n) := fun x hx => h x (List.mem_of_mem_drop hx)
theorem chunk_next {D : List Int} (hD : DF D) {p n : Nat} : dval ((D.drop p).take (n + 1)) = D.getD p 0 + 65536 * dval ((D.drop (p + 1)).take n) ∧ 0 ≤ D.getD p 0 ∧ D.getD p 0 ≤ 65535 := by
  by_cases h : p < D.length
  · have hx := hD.get h
    unfold IsD dwB at hx
    rw [List.drop_eq_getElem_cons h, List.take_succ_cons, dval]
    have e : D.getD p 0 = D[p] := by simp [h]
    rw [e]
    exact ⟨rfl, by omega, by omega⟩
  · have e : D.getD p 0 = 0 := by simp [show D.length ≤ p by omega]
    rw [e, List.drop_of_length_le (by omega), List.drop_of_length_le (by omega)]
    simp [dval]
theorem join_step {D zs : List Int} {t : Nat} (hD : DF D) (hz : WF zs) (hl : zs.length = t) (ht : 4 * t < D.length) (hv : val zs = dval (D.take (4 * t))) {y : Int} (hy : y = dval ((D.drop (4 * t)).take 4)) :
    WF (zs ++ [y]) ∧ val (zs ++ [y]) = dval (D.take (4 * (t + 1))) := by
  obtain ⟨hc0, hc1, hc2⟩ := chunk_next hD (p := 4 * t) (n := 3)
  have hc : dval ((D.drop (4 * t)).take 4) = D.getD (4 * t) 0 + 65536 * dval ((D.drop (4 * t + 1)).take 3) := hc0
  have h3 := chunk3 ((hD.drop (4 * t + 1)).take 3) (by simp; omega)
  have hyw : IsW y := by unfold IsW wB; rw [hy]; omega
  refine ⟨hz.append (WF.cons hyw WF.nil), ?_⟩
  rw [val_append, hl, hv, show 4 * (t + 1) = 4 * t + 4 by omega, List.take_add, dval_append, List.length_take, Nat.min_eq_left (by omega), dpw_four, ← hy]
  simp [val]
theorem pw_mono {a b : Nat} (h : a ≤ b) : pw a ≤ pw b := by
  obtain ⟨c, rfl⟩ : ∃ c, b = a + c := ⟨b - a, by omega⟩
  rw [pw_add]
  have h1 := pw_pos a
  have h2 := pw_pos c
  have := Int.mul_le_mul_of_nonneg_left (show (1 : Int) ≤ pw c by omega) (Int.le_of_lt h1)
  omega
theorem canon_of_pw {zs : List Int} (hz : WF zs) {t : Nat} (hl : zs.length = t + 1) (h : pw t ≤ val zs) : Canon zs := by
  refine ⟨hz, ?_⟩
  have hle := wid_le zs
  by_cases e : wid zs = zs.length
  · exact e
  · exfalso
    have h1 := val_lt_pw (canon_lst hz).1
    rw [val_lst, length_lst] at h1
    have h2 := pw_mono (show wid zs ≤ t by omega)
    omega
theorem dcanon_ge {D : List Int} (h : DCanon D) {n : Nat} (hn : D.length = n + 1) : dpw n ≤ dval D := by
  obtain ⟨h1, h2⟩ := dwid_top (show dwid D = n + 1 by rw [h.2]; exact hn)
  have e : D = D.take n ++ [D[n]] := by rw [← List.take_succ_eq_append_getElem h1, ← hn, List.take_length]
  have hx := h.1.get h1
  have hp := dpw_pos n
  have h0 := dval_nonneg (h.1.take n)
  have hv : dval D = dval (D.take n) + dpw n * D[n] := by
    have q := dval_append (D.take n) [D[n]]
    rw [← e, List.length_take, Nat.min_eq_left (by omega)] at q
    rw [q]; simp [dval]
  have := Int.mul_le_mul_of_nonneg_left (show (1 : Int) ≤ D[n] by have := hx.1; omega) (Int.le_of_lt hp)
  rw [hv]; omega
theorem dpw_mono {a b : Nat} (h : a ≤ b) : dpw a ≤ dpw b := by
  induction h with
  | refl => exact Int.le_refl _
  | step _ ih => rw [dpw]; have := dpw_pos a; unfold dwB; omega
theorem join_canon {D zs : List Int} {t : Nat} (hD : DCanon D) (hz : WF zs) (hl : zs.length = t) (h1 : D.length ≤ 4 * t) (h2 : t = 0 ∨ 4 * (t - 1) < D.length) (hv : val zs = dval D) : Canon zs := by
  cases t with
  | zero => have : zs = [] := List.eq_nil_of_length_eq_zero hl; subst this; exact ⟨WF.nil, rfl⟩
  | succ t =>
    obtain ⟨n, hn⟩ : ∃ n, D.length = n + 1 := ⟨D.length - 1, by omega⟩
    refine canon_of_pw hz hl ?_
    rw [hv, ← dpw_four]
    exact Int.le_trans (dpw_mono (by omega)) (dcanon_ge hD hn)

set_option maxHeartbeats 3200000 in
theorem join_any {w : World} {v : Value} {ds : List Int} (h : SlI w.heap.size w v ds) (hd : DF ds) :
    Calls Try.prog 70 #[v] w fun e w' => ∃ zs r, e = .returned r ∧ Own w.heap.size w' r zs ∧ Canon zs ∧ val zs = dval ds ∧ Below w.heap.size w w' := by
  have HT := hid (trim_any h)
  have HDC := hid (dcanon_lst hd)
  have HDV := hid (dval_lst ds)
  clear h hd
  generalize dlst ds = D at *
  go_enter Try.func70, Try.ntmps70
  go_wp2_with fail
  refine HT.out.mono ?_
  rintro e w1 ⟨rv, rfl, hs, rfl⟩
  clear HT
  obtain ⟨hw, a, cap, rfl, hlc, hcm, hm⟩ := hs
  have HM := hid hm
  clear hm hw
  go_wp2_with (at_make; refine wpList_make_words _ rfl _ _ rfl _ _ 0 (D.length / 4 + 1) rfl rfl rfl (by omega) (by omega) (by omega) ?_)
  intro w2 hrow hb2 hsz2
  have hhs : w1.heap.size < w2.heap.size := by have := hsz2.out; omega
  clear hsz2
  go_wp2_with fail
  go_loopw [3, 4] (fun l i wr => ∃ (t : Nat) (zs : List Int) (r : List Value), Hid (t = 0 ∨ 4 * (t - 1) < D.length) ∧ t ≤ D.length ∧ i = .int .i64 ((4 * t : Nat) : Int) ∧ l = .slice (some ⟨w1.heap.size, 0, none⟩) t (D.length / 4 + 1) ∧ Hid (zs.length = t) ∧ Hid (r.length + t = D.length / 4 + 1) ∧ Hid (WF zs) ∧ Hid (val zs = dval (D.take (4 * t))) ∧
      Row wr w1.heap.size (ws zs ++ r) ∧ Below w1.heap.size w1 wr ∧ w1.heap.size < wr.heap.size) (fun _ i _ => D.length - (intOf i).toNat)
  case atStart => exact ⟨0, [], ws (List.replicate (D.length / 4 + 1) 0), .inl rfl, Nat.zero_le _, rfl, rfl, rfl, (by unfold Hid; simp [length_ws]), WF.nil, rfl, (by simpa [ws] using hrow), hb2, hhs⟩
  case round =>
    clear hrow hb2 hhs
    obtain ⟨t, zs, r, HT4, htl, rfl, rfl, HL, HR, HWZ, HV, hr, hb, hhs⟩ := hrel
    by_cases hlt : 4 * t < D.length
    · rcases HM.out with e | ⟨b, off, rfl, hbg, hc⟩
      · subst e; simp at hlt
      have HC : Hid (∀ p, p < D.length → wr.cell? ⟨b, off + p, none⟩ = some (.int .i64 (D.getD p 0))) := fun p hp => by
        rw [show D.getD p 0 = D[p] by simp [hp]]
        exact (hb.cell (p := ⟨b, off + p, none⟩) hbg).trans (hc p hp)
      clear hc
      have hlti : ((4 * t : Nat) : Int) < (D.length : Int) := by omega
      go_wp2_with fail
      go_loop [5, 6] (fun y i => ∃ (j : Nat) (yy : Int), j ≤ 4 ∧ i = .int .i64 ((j : Int) - 1) ∧ y = .int .u64 yy ∧ Hid (yy = dval ((D.drop (4 * t + j)).take (4 - j)))) (fun _ i => (intOf i + 1).toNat)
      case atStart => exact ⟨4, 0, Nat.le_refl _, rfl, rfl, (by unfold Hid; simp [dval])⟩
      case round =>
        obtain ⟨j, yy, hj, rfl, rfl, HY⟩ := hrel
        by_cases hj0 : j = 0
        · subst hj0
          have hrp : 0 < r.length := by have := HR.out; omega
          have hst := hid (join_step HDC.out.1 HWZ.out HL.out hlt HV.out (y := yy) (by rw [HY.out]; simp))
          go_wp2_with (at_builtin; refine wpList_append_more _ rfl (.tmp 41) (.tmp 43) rfl w1.heap.size t (D.length / 4 + 1) zs r yy (hr.alloc _) HL.out hrp (by have := HR.out; omega) rfl ⟨wr.heap.size, 0, none⟩ rfl (by simp) ?_)
          intro w5 hr5 hb5
          have hb15 := hid ((hb.alloc (Nat.le_of_lt hhs) _).trans hb5)
          have hhs5 : w1.heap.size < w5.heap.size := by have := hb5.size; simp at this; omega
          have HL5 : Hid ((zs ++ [yy]).length = t + 1) := by unfold Hid; simp; exact HL.out
          have HR5 : Hid (r.tail.length + (t + 1) = D.length / 4 + 1) := by unfold Hid; simp; have := HR.out; omega
          clear hb5 hr hb HL HR HV HC HY
          go_wp2
          go_roundw
          case rel => exact ⟨t + 1, _, r.tail, .inr (by simpa using hlt), by omega, by go_num, rfl, HL5, HR5, hst.out.1, hst.out.2, hr5, hb15.out, hhs5⟩
          case measure => simp [intOf]; omega
        · obtain ⟨q, rfl⟩ : ∃ q, j = q + 1 := ⟨j - 1, by omega⟩
          have hcn := chunk_next HDC.out.1 (p := 4 * t + q) (n := 4 - (q + 1))
          have h3 := chunk3 ((HDC.out.1.drop (4 * t + (q + 1))).take (4 - (q + 1))) (by simp; omega)
          rw [← HY.out] at h3
          rw [show 4 * t + q + 1 = 4 * t + (q + 1) by omega, ← HY.out, show 4 - (q + 1) + 1 = 4 - q by omega] at hcn
          obtain ⟨hc1, hd0, hd1⟩ := hcn
          have HC1 := hid hc1
          have hz : ¬ 4 * t + q < D.length → D.getD (4 * t + q) 0 = 0 := fun h => by simp [show D.length ≤ 4 * t + q by omega]
          have hcell := HC.out (4 * t + q)
          generalize D.getD (4 * t + q) 0 = d at *
          obtain ⟨hy0, hy1⟩ := h3
          clear hc1 hj0
          by_cases hin : 4 * t + q < D.length
          · have hcl := hcell hin
            clear hcell hz
            have hi1 : ((4 * t : Nat) : Int) + (q : Int) < (D.length : Int) := by omega
            go_wp2
            go_round
            case rel => exact ⟨q, _, by omega, rfl, rfl, (by unfold Hid; rw [HC1.out]; omega)⟩
            case measure => simp [intOf]
          · have hz0 := hid (hz hin)
            clear hcell hz
            have hi1 : ¬ ((4 * t : Nat) : Int) + (q : Int) < (D.length : Int) := by omega
            go_wp2
            go_round
            case rel => exact ⟨q, _, by omega, rfl, rfl, (by unfold Hid; rw [HC1.out, hz0.out]; omega)⟩
            case measure => simp [intOf]
    · have hnlt : ¬ ((4 * t : Nat) : Int) < (D.length : Int) := by omega
      go_wp2
      go_ret
      have hv : val zs = dval D := by rw [HV.out, List.take_of_length_le (by omega)]
      refine ⟨zs, _, rfl, ⟨HWZ.out, .inr ⟨w1.heap.size, r, Nat.le_refl _, ?_, ?_, hr⟩⟩, join_canon HDC.out HWZ.out HL.out (by omega) HT4.out hv, by rw [hv, HDV.out], hb⟩
      · have h1 := HL.out; have h2 := HR.out; omega
      · have h1 := HL.out
        have h2 := HR.out
        show Value.slice _ t (D.length / 4 + 1) = _
        rw [h1, show t + r.length = D.length / 4 + 1 by omega]

/-- A natural by its number: what the reference answers. -/
def Told (w : World) (s : Int) (e : Ending) (w' : World) : Prop := ∃ zs r, e = .returned r ∧ Own w.heap.size w' r zs ∧ Canon zs ∧ val zs = s ∧ Below w.heap.size w w'

end Go.Proofs.Ytkikiddoiigbjaa

/- ChinP6 -/
namespace Go.Proofs.Ytkikiddoiigbjaa
set_option linter.unusedVariables false

theorem lcmL_append (Gs : List Int) (m : Int) : lcmL (Gs ++ [m]) = lcmv (lcmL Gs) m := by unfold lcmL; rw [List.foldl_append]; rfl
/-- What divides: the least common multiple divides every common multiple. -/
theorem lcmL_least {z : Int} : ∀ {Gs : List Int}, (∀ x ∈ Gs, x ∣ z) → lcmL Gs ∣ z := by
  intro Gs
  induction h : Gs.length generalizing Gs with
  | zero =>
    intro _
    obtain rfl := List.eq_nil_of_length_eq_zero h
    exact Int.one_dvd z
  | succ n ih =>
    intro hd
    rcases List.eq_nil_or_concat Gs with rfl | ⟨t, a, rfl⟩
    · simp at h
    · rw [List.concat_eq_append] at h hd ⊢
      rw [lcmL_append]
      refine lcmv_least (ih (by simpa using h) fun x hx => hd x (by simp [hx])) (hd a (by simp))
/-- Remainders of N by moduli that are not 0. -/
structure GoodR (N : Int) (Rs Gs : List Int) (s : Nat) : Prop where
  len : Rs.length = Gs.length
  nz : ∀ j (h : j < Gs.length), Gs[j] ≠ 0
  dv : ∀ j (h : j < Gs.length) (h' : j < Rs.length), Gs[j] ∣ Rs[j] - N
  pr : ∀ j, j ≤ Gs.length → ((lcmL (Gs.take j)).natAbs : Int) < pw s
theorem GoodR.nil (N : Int) {s : Nat} (hs : 1 ≤ s) : GoodR N [] [] s := ⟨rfl, fun j h => by simp at h, fun j h => by simp at h, fun j h => by
  have : pw 1 ≤ pw s := pw_mono hs
  have e : pw 1 = 18446744073709551616 := by decide
  simp [lcmL]
  omega⟩
theorem GoodR.more {N : Int} {Rs Gs : List Int} {s t : Nat} (h : GoodR N Rs Gs s) (hs : s ≤ t) : GoodR N Rs Gs t := ⟨h.len, h.nz, h.dv, fun j hj => Int.lt_of_lt_of_le (h.pr j hj) (pw_mono hs)⟩
theorem GoodR.fit {N : Int} {Rs Gs : List Int} {s : Nat} (h : GoodR N Rs Gs s) : ((lcmL Gs).natAbs : Int) < pw s := by
  have := h.pr Gs.length (Nat.le_refl _)
  rwa [List.take_length] at this
theorem GoodR.next {N r m : Int} {Rs Gs : List Int} {s k : Nat} (h : GoodR N Rs Gs s) (hm : m ≠ 0) (hk : (m.natAbs : Int) < pw k) (hd : m ∣ r - N) : GoodR N (Rs ++ [r]) (Gs ++ [m]) (s + k) := by
  refine ⟨by simp [h.len], fun j hj => ?_, fun j hj hj' => ?_, fun j hj => ?_⟩
  · rw [List.getElem_append]
    split
    · exact h.nz j _
    · simpa using hm
  · have hl := h.len
    rw [List.getElem_append, List.getElem_append]
    simp at hj hj'
    by_cases q : j < Gs.length
    · rw [dif_pos q, dif_pos (by omega)]; exact h.dv j _ _
    · rw [dif_neg q, dif_neg (by omega)]; simpa using hd
  · simp at hj
    by_cases q : j ≤ Gs.length
    · rw [List.take_append_of_le_length q]
      exact Int.lt_of_lt_of_le (h.pr j q) (pw_mono (by omega))
    · obtain rfl : j = Gs.length + 1 := by omega
      rw [List.take_of_length_le (by simp), lcmL_append]
      have h1 := lcmv_le (lcmL Gs) m
      have h2 := pw_mul_lt h.fit hk
      omega
theorem crtL_ends {N r m : Int} {Rs Gs : List Int} (hl : Rs.length = Gs.length) (hd : ∀ j (h : j < Gs.length) (h' : j < Rs.length), Gs[j] ∣ Rs[j] - N) (hc : CrtL Rs Gs r m) : m ∣ r - N := by
  rw [hc.em]
  refine lcmL_least fun x hx => ?_
  obtain ⟨j, hj, rfl⟩ := List.getElem_of_mem hx
  have h1 := hc.dr j hj (by omega)
  have h2 := hd j hj (by omega)
  have := Int.dvd_add h1 h2
  have e : r - Rs[j] + (Rs[j] - N) = r - N := by omega
  rwa [e] at this
theorem GoodR.ends {N r m : Int} {Rs Gs : List Int} {s : Nat} (h : GoodR N Rs Gs s) (hc : CrtL Rs Gs r m) : m ∣ r - N := crtL_ends h.len h.dv hc
/-- They go together. -/
theorem GoodR.goes {N : Int} {Rs Gs : List Int} {s : Nat} (h : GoodR N Rs Gs s) : ¬ CrtN Rs Gs := by
  rintro ⟨j, hr, hm, r, m, hc, hn⟩
  refine hn ?_
  have hl := h.len
  have h1 : m ∣ r - N := crtL_ends (by simp [hl]) (fun i hi hi' => by
    rw [List.getElem_take, List.getElem_take]
    simp at hi hi'
    exact h.dv i (by omega) (by omega)) hc
  have h2 := h.dv j hm hr
  have h3 := Int.dvd_sub (Int.dvd_trans (Int.gcd_dvd_right m Gs[j]) h2) (Int.dvd_trans (Int.gcd_dvd_left m Gs[j]) h1)
  have e : Rs[j] - N - (r - N) = Rs[j] - r := by omega
  rwa [e] at h3
theorem ksum_take_succ {ks : List Nat} {i k : Nat} (h : ks[i]? = some k) : ksum (ks.take (i + 1)) = ksum (ks.take i) + k := by
  have hi := (List.getElem?_eq_some_iff.1 h).1
  have e : ks[i] = k := (List.getElem?_eq_some_iff.1 h).2
  have ha : ∀ (xs : List Nat) (y : Nat), ksum (xs ++ [y]) = ksum xs + y := by
    intro xs y
    induction xs with
    | nil => simp [ksum]
    | cons x t ih => rw [List.cons_append, ksum_cons, ih, ksum_cons]; omega
  rw [List.take_succ_eq_append_getElem hi, ha, e]
theorem ksum_take_le : ∀ (ks : List Nat) (m : Nat), ksum (ks.take m) ≤ ksum ks
  | [], m => by simp
  | k :: r, 0 => by simp [ksum]
  | k :: r, m + 1 => by
    have := ksum_take_le r m
    rw [List.take_succ_cons, ksum_cons, ksum_cons]
    omega
end Go.Proofs.Ytkikiddoiigbjaa
