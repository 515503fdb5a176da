/-
  QJoinToR5Cmp: Join, ROrder, RLeast, R5Made, RDigits, RWords, RMul, R5Ones, R5Cmp, joined.
-/
import Derived.Test.YtcceoildbnoliaaGreatQDWordsToSplit
import Derived.Test.YtcceoildbnoliaaGreatQAlikeToShift
import Derived.Test.YtcceoildbnoliaaGreatQTailToMWord
import Derived.Test.YtcceoildbnoliaaGreatQExact0ToCells6

/- Join -/
namespace Go.Proofs.YtcceoildbnoliaaGreat
open Go.RowKit

theorem chunk3 {l : List Int} (h : DF l) (hl : l.length ≤ 3) : 0 ≤ dval l ∧ dval l ≤ 281474976710655 := by
  refine ⟨dval_nonneg h, ?_⟩
  match l, h, hl with
  | [], _, _ => simp [dval]
  | [a], h, _ => have h1 := h a (by simp); unfold IsD dwB at h1; simp [dval]; omega
  | [a, b], h, _ => have h1 := h a (by simp); have h2 := h b (by simp); unfold IsD dwB at h1 h2; simp [dval, dwB]; omega
  | [a, b, c], h, _ => have h1 := h a (by simp); have h2 := h b (by simp); have h3 := h c (by simp); unfold IsD dwB at h1 h2 h3; simp [dval, dwB]; omega
theorem DF.drop {xs : List Int} (h : DF xs) (n : Nat) : DF (xs.drop n) := fun x hx => h x (List.mem_of_mem_drop hx)
theorem chunk_next {D : List Int} (hD : DF D) {p n : Nat} : dval ((D.drop p).take (n + 1)) = D.getD p 0 + 65536 * dval ((D.drop (p + 1)).take n) ∧ 0 ≤ D.getD p 0 ∧ D.getD p 0 ≤ 65535 := by
  by_cases h : p < D.length
  · have hx := hD.get h
    unfold IsD dwB at hx
    rw [List.drop_eq_getElem_cons h, List.take_succ_cons, dval]
    have e : D.getD p 0 = D[p] := by simp [h]
    rw [e]
    exact ⟨rfl, by omega, by omega⟩
  · have e : D.getD p 0 = 0 := by simp [show D.length ≤ p by omega]
    rw [e, List.drop_of_length_le (by omega), List.drop_of_length_le (by omega)]
    simp [dval]
theorem join_step {D zs : List Int} {t : Nat} (hD : DF D) (hz : WF zs) (hl : zs.length = t) (ht : 4 * t < D.length) (hv : val zs = dval (D.take (4 * t))) {y : Int} (hy : y = dval ((D.drop (4 * t)).take 4)) :
    WF (zs ++ [y]) ∧ val (zs ++ [y]) = dval (D.take (4 * (t + 1))) := by
  obtain ⟨hc0, hc1, hc2⟩ := chunk_next hD (p := 4 * t) (n := 3)
  have hc : dval ((D.drop (4 * t)).take 4) = D.getD (4 * t) 0 + 65536 * dval ((D.drop (4 * t + 1)).take 3) := hc0
  have h3 := chunk3 ((hD.drop (4 * t + 1)).take 3) (by simp; omega)
  have hyw : IsW y := by unfold IsW wB; rw [hy]; omega
  refine ⟨hz.append (WF.cons hyw WF.nil), ?_⟩
  rw [val_append, hl, hv, show 4 * (t + 1) = 4 * t + 4 by omega, List.take_add, dval_append, List.length_take, Nat.min_eq_left (by omega), dpw_four, ← hy]
  simp [val]
theorem pw_mono {a b : Nat} (h : a ≤ b) : pw a ≤ pw b := by
  obtain ⟨c, rfl⟩ : ∃ c, b = a + c := ⟨b - a, by omega⟩
  rw [pw_add]
  have h1 := pw_pos a
  have h2 := pw_pos c
  have := Int.mul_le_mul_of_nonneg_left (show (1 : Int) ≤ pw c by omega) (Int.le_of_lt h1)
  omega
theorem canon_of_pw {zs : List Int} (hz : WF zs) {t : Nat} (hl : zs.length = t + 1) (h : pw t ≤ val zs) : Canon zs := by
  refine ⟨hz, ?_⟩
  have hle := wid_le zs
  by_cases e : wid zs = zs.length
  · exact e
  · exfalso
    have h1 := val_lt_pw (canon_lst hz).1
    rw [val_lst, length_lst] at h1
    have h2 := pw_mono (show wid zs ≤ t by omega)
    omega
theorem dcanon_ge {D : List Int} (h : DCanon D) {n : Nat} (hn : D.length = n + 1) : dpw n ≤ dval D := by
  obtain ⟨h1, h2⟩ := dwid_top (show dwid D = n + 1 by rw [h.2]; exact hn)
  have e : D = D.take n ++ [D[n]] := by rw [← List.take_succ_eq_append_getElem h1, ← hn, List.take_length]
  have hx := h.1.get h1
  have hp := dpw_pos n
  have h0 := dval_nonneg (h.1.take n)
  have hv : dval D = dval (D.take n) + dpw n * D[n] := by
    have q := dval_append (D.take n) [D[n]]
    rw [← e, List.length_take, Nat.min_eq_left (by omega)] at q
    rw [q]; simp [dval]
  have := Int.mul_le_mul_of_nonneg_left (show (1 : Int) ≤ D[n] by have := hx.1; omega) (Int.le_of_lt hp)
  rw [hv]; omega
theorem dpw_mono {a b : Nat} (h : a ≤ b) : dpw a ≤ dpw b := by
  induction h with
  | refl => exact Int.le_refl _
  | step _ ih => rw [dpw]; have := dpw_pos a; unfold dwB; omega
theorem join_canon {D zs : List Int} {t : Nat} (hD : DCanon D) (hz : WF zs) (hl : zs.length = t) (h1 : D.length ≤ 4 * t) (h2 : t = 0 ∨ 4 * (t - 1) < D.length) (hv : val zs = dval D) : Canon zs := by
  cases t with
  | zero => have : zs = [] := List.eq_nil_of_length_eq_zero hl; subst this; exact ⟨WF.nil, rfl⟩
  | succ t =>
    obtain ⟨n, hn⟩ : ∃ n, D.length = n + 1 := ⟨D.length - 1, by omega⟩
    refine canon_of_pw hz hl ?_
    rw [hv, ← dpw_four]
    exact Int.le_trans (dpw_mono (by omega)) (dcanon_ge hD hn)

set_option maxHeartbeats 3200000 in
theorem join_any {w : World} {v : Value} {ds : List Int} (h : SlI w.heap.size w v ds) (hd : DF ds) :
    Calls Tryz.prog 168 #[v] w fun e w' => ∃ zs r, e = .returned r ∧ Own w.heap.size w' r zs ∧ Canon zs ∧ val zs = dval ds ∧ Below w.heap.size w w' := by
  have HT := hid (trim_any h)
  have HDC := hid (dcanon_lst hd)
  have HDV := hid (dval_lst ds)
  clear h hd
  generalize dlst ds = D at *
  go_enter Tryz.func168, Tryz.ntmps168
  go_wp2_with fail
  refine HT.out.mono ?_
  rintro e w1 ⟨rv, rfl, hs, rfl⟩
  clear HT
  obtain ⟨hw, a, cap, rfl, hlc, hcm, hm⟩ := hs
  have HM := hid hm
  clear hm hw
  go_wp2_with (at_make; refine wpList_make_words _ rfl _ _ rfl _ _ 0 (D.length / 4 + 1) rfl rfl rfl (by omega) (by omega) (by omega) ?_)
  intro w2 hrow hb2 hsz2
  have hhs : w1.heap.size < w2.heap.size := by have := hsz2.out; omega
  clear hsz2
  go_wp2_with fail
  go_loopw [3, 4] (fun l i wr => ∃ (t : Nat) (zs : List Int) (r : List Value), Hid (t = 0 ∨ 4 * (t - 1) < D.length) ∧ t ≤ D.length ∧ i = .int .i64 ((4 * t : Nat) : Int) ∧ l = .slice (some ⟨w1.heap.size, 0, none⟩) t (D.length / 4 + 1) ∧ Hid (zs.length = t) ∧ Hid (r.length + t = D.length / 4 + 1) ∧ Hid (WF zs) ∧ Hid (val zs = dval (D.take (4 * t))) ∧
      Row wr w1.heap.size (ws zs ++ r) ∧ Below w1.heap.size w1 wr ∧ w1.heap.size < wr.heap.size) (fun _ i _ => D.length - (intOf i).toNat)
  case atStart => exact ⟨0, [], ws (List.replicate (D.length / 4 + 1) 0), .inl rfl, Nat.zero_le _, rfl, rfl, rfl, (by unfold Hid; simp [length_ws]), WF.nil, rfl, (by simpa [ws] using hrow), hb2, hhs⟩
  case round =>
    clear hrow hb2 hhs
    obtain ⟨t, zs, r, HT4, htl, rfl, rfl, HL, HR, HWZ, HV, hr, hb, hhs⟩ := hrel
    by_cases hlt : 4 * t < D.length
    · rcases HM.out with e | ⟨b, off, rfl, hbg, hc⟩
      · subst e; simp at hlt
      have HC : Hid (∀ p, p < D.length → wr.cell? ⟨b, off + p, none⟩ = some (.int .i64 (D.getD p 0))) := fun p hp => by
        rw [show D.getD p 0 = D[p] by simp [hp]]
        exact (hb.cell (p := ⟨b, off + p, none⟩) hbg).trans (hc p hp)
      clear hc
      have hlti : ((4 * t : Nat) : Int) < (D.length : Int) := by omega
      go_wp2_with fail
      go_loop [5, 6] (fun y i => ∃ (j : Nat) (yy : Int), j ≤ 4 ∧ i = .int .i64 ((j : Int) - 1) ∧ y = .int .u64 yy ∧ Hid (yy = dval ((D.drop (4 * t + j)).take (4 - j)))) (fun _ i => (intOf i + 1).toNat)
      case atStart => exact ⟨4, 0, Nat.le_refl _, rfl, rfl, (by unfold Hid; simp [dval])⟩
      case round =>
        obtain ⟨j, yy, hj, rfl, rfl, HY⟩ := hrel
        by_cases hj0 : j = 0
        · subst hj0
          have hrp : 0 < r.length := by have := HR.out; omega
          have hst := hid (join_step HDC.out.1 HWZ.out HL.out hlt HV.out (y := yy) (by rw [HY.out]; simp))
          go_wp2_with (at_builtin; refine wpList_append_more _ rfl (.tmp 41) (.tmp 43) rfl w1.heap.size t (D.length / 4 + 1) zs r yy (hr.alloc _) HL.out hrp (by have := HR.out; omega) rfl ⟨wr.heap.size, 0, none⟩ rfl (by simp) ?_)
          intro w5 hr5 hb5
          have hb15 := hid ((hb.alloc (Nat.le_of_lt hhs) _).trans hb5)
          have hhs5 : w1.heap.size < w5.heap.size := by have := hb5.size; simp at this; omega
          have HL5 : Hid ((zs ++ [yy]).length = t + 1) := by unfold Hid; simp; exact HL.out
          have HR5 : Hid (r.tail.length + (t + 1) = D.length / 4 + 1) := by unfold Hid; simp; have := HR.out; omega
          clear hb5 hr hb HL HR HV HC HY
          go_wp2
          go_roundw
          case rel => exact ⟨t + 1, _, r.tail, .inr (by simpa using hlt), by omega, by go_num, rfl, HL5, HR5, hst.out.1, hst.out.2, hr5, hb15.out, hhs5⟩
          case measure => simp [intOf]; omega
        · obtain ⟨q, rfl⟩ : ∃ q, j = q + 1 := ⟨j - 1, by omega⟩
          have hcn := chunk_next HDC.out.1 (p := 4 * t + q) (n := 4 - (q + 1))
          have h3 := chunk3 ((HDC.out.1.drop (4 * t + (q + 1))).take (4 - (q + 1))) (by simp; omega)
          rw [← HY.out] at h3
          rw [show 4 * t + q + 1 = 4 * t + (q + 1) by omega, ← HY.out, show 4 - (q + 1) + 1 = 4 - q by omega] at hcn
          obtain ⟨hc1, hd0, hd1⟩ := hcn
          have HC1 := hid hc1
          have hz : ¬ 4 * t + q < D.length → D.getD (4 * t + q) 0 = 0 := fun h => by simp [show D.length ≤ 4 * t + q by omega]
          have hcell := HC.out (4 * t + q)
          generalize D.getD (4 * t + q) 0 = d at *
          obtain ⟨hy0, hy1⟩ := h3
          clear hc1 hj0
          by_cases hin : 4 * t + q < D.length
          · have hcl := hcell hin
            clear hcell hz
            have hi1 : ((4 * t : Nat) : Int) + (q : Int) < (D.length : Int) := by omega
            go_wp2
            go_round
            case rel => exact ⟨q, _, by omega, rfl, rfl, (by unfold Hid; rw [HC1.out]; omega)⟩
            case measure => simp [intOf]
          · have hz0 := hid (hz hin)
            clear hcell hz
            have hi1 : ¬ ((4 * t : Nat) : Int) + (q : Int) < (D.length : Int) := by omega
            go_wp2
            go_round
            case rel => exact ⟨q, _, by omega, rfl, rfl, (by unfold Hid; rw [HC1.out, hz0.out]; omega)⟩
            case measure => simp [intOf]
    · have hnlt : ¬ ((4 * t : Nat) : Int) < (D.length : Int) := by omega
      go_wp2
      go_ret
      have hv : val zs = dval D := by rw [HV.out, List.take_of_length_le (by omega)]
      refine ⟨zs, _, rfl, ⟨HWZ.out, .inr ⟨w1.heap.size, r, Nat.le_refl _, ?_, ?_, hr⟩⟩, join_canon HDC.out HWZ.out HL.out (by omega) HT4.out hv, by rw [hv, HDV.out], hb⟩
      · have h1 := HL.out; have h2 := HR.out; omega
      · have h1 := HL.out
        have h2 := HR.out
        show Value.slice _ t (D.length / 4 + 1) = _
        rw [h1, show t + r.length = D.length / 4 + 1 by omega]

/-- A natural by its number: what the reference answers. -/
def Told (w : World) (s : Int) (e : Ending) (w' : World) : Prop := ∃ zs r, e = .returned r ∧ Own w.heap.size w' r zs ∧ Canon zs ∧ val zs = s ∧ Below w.heap.size w w'

end Go.Proofs.YtcceoildbnoliaaGreat

/- ROrder -/
namespace Go.Proofs.YtcceoildbnoliaaGreat
open Go.RowKit

end Go.Proofs.YtcceoildbnoliaaGreat

/- RLeast -/
namespace Go.Proofs.YtcceoildbnoliaaGreat
open Go.RowKit

theorem rleast_any {w : World} {v : Value} {xs : List Int} (h : Sl w.heap.size w v xs) (hlen : xs.length ≤ 8796093022208) :
    Calls Tryz.prog 142 #[v] w (Told w (val xs)) := by
  have HS := hid (split_any h hlen)
  clear h
  go_enter Tryz.func142, Tryz.ntmps142
  go_wp2_with fail
  refine HS.out.mono ?_
  rintro e w1 ⟨ds, r, rfl, hs, hc, hv, _, hb⟩
  have HV := hid hv
  clear hv HS
  go_wp2_with fail
  refine (join_any hs hc.1).mono ?_
  rintro e w2 ⟨zs, q, rfl, ho, hcz, hvz, hb2⟩
  have HVZ := hid hvz
  clear hvz
  go_wp2
  go_ret
  refine ⟨zs, q, rfl, ⟨ho.1, ?_⟩, hcz, by rw [HVZ.out, HV.out], below_step hb hb2⟩
  rcases ho.2 with h1 | ⟨g, r', h1, h2, h3, h4⟩
  · exact .inl h1
  · exact .inr ⟨g, r', Nat.le_trans hb.size h1, h2, h3, h4⟩

end Go.Proofs.YtcceoildbnoliaaGreat

/- R5Made -/
namespace Go.Proofs.YtcceoildbnoliaaGreat
open Go.RowKit
set_option linter.unusedVariables false

set_option maxHeartbeats 3200000 in
set_option maxRecDepth 100000 in
theorem rmade {w : World} {n : Bool} {xs : List Int} {a : Option Addr} {c : Nat} (h : Sl w.heap.size w (.slice a xs.length c) xs) (hl : xs.length ≤ 8796093022208) :
    Calls Tryz.prog 118 #[.bool n, .slice a xs.length c] w (GivesZ w (iv n xs) xs.length) := by
  obtain ⟨W0, hW0⟩ : ∃ W0, w.alloc zbox = W0 := ⟨_, rfl⟩
  obtain ⟨b0, sz0⟩ := alloc1 w zbox
  rw [hW0] at b0 sz0
  have r0 : Duo W0 w.heap.size (.bool false) (.slice none 0 0) := by rw [← hW0]; exact duo_at rfl
  have hx := hid h.1
  have HL := hid (rleast_any (h.now b0) hl)
  have R0 := hid r0
  have EW := hid hW0
  have G := hid b0
  clear h r0 hW0 b0 hl
  go_enter Tryz.func118, Tryz.ntmps118
  go_wp2_with fail
  rw [EW.out]
  refine HL.out.mono ?_
  rintro e w1 ⟨zs, r, rfl, ho, hc, hv, b1⟩
  obtain ⟨az, cz, rfl⟩ := ho.form
  have HM := hid ho.mine5
  have HC := hid hc
  have hk : Hid (zs.length ≤ xs.length) := canon_len hc (by rw [hv]; exact val_lt_pw hx.out)
  have HV := hid (iv_val n hv)
  replace R0 := hid (R0.out.step b1)
  replace G := hid (below_step G.out b1)
  have y0 := R0.out.c0
  have y1 := R0.out.c1
  have f0 := R0.out.fz 0
  have f1 := R0.out.fz 1
  clear ho hc hv b1 HL
  have fin : Hid (GivesZ w (iv n xs) xs.length (.returned (.agg #[.bool (n && decide (0 < zs.length)), .slice az zs.length cz])) ((w1.setCell ⟨w.heap.size, 0, none⟩ (.bool (n && decide (0 < zs.length)))).setCell ⟨w.heap.size, 1, none⟩ (.slice az zs.length cz))) := by
    unfold Hid
    rw [← HV.out]
    exact gz_end (B := W0.heap.size) (zm_of HM.out HC.out hk.out) G.out (by omega) (by omega)
  cases n
  · go_wp2
    exact bodyPost_ret (zback Tryz.results118 (R0.out.set _ _) _ (by rfl)) rfl fin.out
  · simp only [Bool.true_and] at fin
    go_wp2
    exact bodyPost_ret (zback Tryz.results118 (R0.out.set _ _) _ (by rfl)) rfl fin.out
end Go.Proofs.YtcceoildbnoliaaGreat

/- RDigits -/
namespace Go.Proofs.YtcceoildbnoliaaGreat
open Go.RowKit
set_option linter.unusedVariables false

end Go.Proofs.YtcceoildbnoliaaGreat

/- RWords -/
namespace Go.Proofs.YtcceoildbnoliaaGreat
open Go.RowKit
set_option linter.unusedVariables false

end Go.Proofs.YtcceoildbnoliaaGreat

/- RMul -/
namespace Go.Proofs.YtcceoildbnoliaaGreat
open Go.RowKit
set_option linter.unusedVariables false

end Go.Proofs.YtcceoildbnoliaaGreat

/- R5Ones -/
namespace Go.Proofs.YtcceoildbnoliaaGreat
open Go.RowKit
set_option linter.unusedVariables false

set_option maxHeartbeats 3200000 in
set_option maxRecDepth 100000 in
theorem rleast_z {w : World} {va : Value} {A : Int} {ka : Nat} (ha : Zi w va A ka) (hk : ka ≤ 1099511627776) :
    Calls Tryz.prog 96 #[va] w (GivesZ w A ka) := by
  have za0 := ha
  obtain ⟨na, xa, aa, ca, rfl, sa, ea, la⟩ := ha
  obtain ⟨W0, hW0⟩ : ∃ W0, (w.alloc (duo (.bool na) (.slice aa xa.length ca))).alloc zbox = W0 := ⟨_, rfl⟩
  obtain ⟨b0, sz0⟩ := alloc2 w (duo (.bool na) (.slice aa xa.length ca)) zbox
  rw [hW0] at b0 sz0
  have pa : Duo W0 (w.heap.size) (.bool na) (.slice aa xa.length ca) := by rw [← hW0]; exact duo_late (duo_at (by simp)) _
  have r0 : Duo W0 (w.heap.size + 1) (.bool false) (.slice none 0 0) := by rw [← hW0]; exact duo_at (by simp)
  have Pa := hid pa
  have ia0 := pa.c0
  have ia1 := pa.c1
  have Za := hid (za0.now b0)
  have Sa := hid (sa.now b0)
  have R0 := hid r0
  have EW := hid hW0
  have G := hid b0
  clear b0 hW0 za0 sa pa r0
  have EV : Hid (iv na xa = A) := by
    unfold Hid
    have hx := Sa.out.1
    exact ea
  clear ea
  have HL : Hid (Calls Tryz.prog 118 #[.bool na, .slice aa xa.length ca] W0 (GivesZ W0 A xa.length)) := by
    unfold Hid
    have q := rmade (n := na) Sa.out (by omega)
    rw [EV.out] at q
    exact q
  clear EV
  go_enter Tryz.func96, Tryz.ntmps96
  go_wp2_with fail
  rw [EW.out]
  clear ia0 ia1
  refine (HL.out).mono ?_
  rintro e w1 ⟨r, rfl, m1, b⟩
  obtain ⟨n1, x1, a1, q1, rfl, -, -, -, -, -⟩ := id m1
  replace R0 := hid (R0.out.step b)
  replace G := hid (below_step G.out b)
  have Z1 := hid (m1.more la)
  clear b m1
  have y00 := R0.out.c0
  have y01 := R0.out.c1
  have f00 := R0.out.fz 0
  have f01 := R0.out.fz 1
  go_wp2
  exact bodyPost_ret (zback Tryz.results96 (R0.out.set _ _) _ (by rfl)) rfl (gz_end (B := W0.heap.size) Z1.out G.out (by omega) (by omega))

end Go.Proofs.YtcceoildbnoliaaGreat

/- R5Cmp -/
namespace Go.Proofs.YtcceoildbnoliaaGreat
open Go.RowKit
set_option linter.unusedVariables false

set_option maxHeartbeats 3200000 in
set_option maxRecDepth 100000 in
theorem rsign_z {w : World} {va : Value} {A : Int} {ka : Nat} (ha : Zi w va A ka) (hk : ka ≤ 1099511627776) :
    Calls Tryz.prog 69 #[va] w (fun e w' => e = .returned (.int .i64 (cmpI A 0)) ∧ Below w.heap.size w w') := by
  have za0 := ha
  obtain ⟨na, xa, aa, ca, rfl, sa, ea, la⟩ := ha
  obtain ⟨W0, hW0⟩ : ∃ W0, w.alloc (duo (.bool na) (.slice aa xa.length ca)) = W0 := ⟨_, rfl⟩
  obtain ⟨b0, sz0⟩ := alloc1 w (duo (.bool na) (.slice aa xa.length ca))
  rw [hW0] at b0 sz0
  have pa : Duo W0 (w.heap.size) (.bool na) (.slice aa xa.length ca) := by rw [← hW0]; exact duo_at (by simp)
  have Pa := hid pa
  have ia0 := pa.c0
  have ia1 := pa.c1
  have Za := hid (za0.now b0)
  have Sa := hid (sa.now b0)
  have EW := hid hW0
  have G := hid b0
  clear b0 hW0 za0 sa pa 
  clear ea
  have key : Hid (∀ n (xs : List Int), Canon xs → (xs = [] → n = false) → iv n xs = A → (n = true ∧ cmpI A 0 = -1) ∨ (n = false ∧ (0 : Int) < xs.length ∧ cmpI A 0 = 1) ∨ (n = false ∧ ¬ (0 : Int) < xs.length ∧ cmpI A 0 = 0)) := fun n xs hc hn e => by
    have hv := val_nonneg hc.1
    have h0 : xs ≠ [] → val xs ≠ 0 := fun q e => q (canon_zero hc e)
    cases n
    · rw [iv_pos] at e
      by_cases q : xs = []
      · subst q; exact .inr (.inr ⟨rfl, by simp, by rw [← e]; simp [val, cmpI]⟩)
      · have := h0 q
        exact .inr (.inl ⟨rfl, by have := List.length_pos_iff.2 q; omega, cmpI_gt (by omega)⟩)
    · rw [iv_neg] at e
      by_cases q : xs = []
      · exact absurd (hn q) (by simp)
      · have := h0 q
        exact .inl ⟨rfl, cmpI_lt (by omega)⟩
  go_enter Tryz.func69, Tryz.ntmps69
  go_wp2_with fail
  rw [EW.out]
  clear ia0 ia1
  refine (rleast_z Za.out hk).mono ?_
  rintro e w1 ⟨r, rfl, m1, b⟩
  obtain ⟨n1, x1, a1, q1, rfl, -, t1, t2, t3, -⟩ := m1
  have KK := hid (key.out n1 x1 t1 t2 t3)
  have B1 := hid (below_step (below_step G.out b) (alloc1 w1 (duo (.bool n1) (.slice a1 x1.length q1))).1)
  clear b t1 t2 t3 key
  rcases KK.out with ⟨rfl, e⟩ | ⟨rfl, hp, e⟩ | ⟨rfl, hp, e⟩
  all_goals
    have HE := hid e
    clear e KK
    go_wp2
    go_ret
    exact ⟨by rw [HE.out]; rfl, B1.out⟩

end Go.Proofs.YtcceoildbnoliaaGreat
