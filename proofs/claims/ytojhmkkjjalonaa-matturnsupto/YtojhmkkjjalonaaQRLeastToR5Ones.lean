/-
  QRLeastToR5Ones: RLeast, R5Made, RDigits, RWords, RMul, R5Ones, joined.
-/
import Derived.Test.YtojhmkkjjalonaaQJoinToROrder
import Derived.Test.YtojhmkkjjalonaaQTurnP9ToZDivs
import Derived.Test.YtojhmkkjjalonaaQExact0ToZStore
import Derived.Test.YtojhmkkjjalonaaQSplit

/- RLeast -/
namespace Go.Proofs.Ytojhmkkjjalonaa
open Go.RowKit

theorem rleast_any {w : World} {v : Value} {xs : List Int} (h : Sl w.heap.size w v xs) (hlen : xs.length ≤ 8796093022208) :
    Calls Try.prog 70 #[v] w (Told w (val xs)) := by
  have HS := hid (split_any h hlen)
  clear h
  go_enter Try.func70, Try.ntmps70
  go_wp2_with fail
  refine HS.out.mono ?_
  rintro e w1 ⟨ds, r, rfl, hs, hc, hv, _, hb⟩
  have HV := hid hv
  clear hv HS
  go_wp2_with fail
  refine (join_any hs hc.1).mono ?_
  rintro e w2 ⟨zs, q, rfl, ho, hcz, hvz, hb2⟩
  have HVZ := hid hvz
  clear hvz
  go_wp2
  go_ret
  refine ⟨zs, q, rfl, ⟨ho.1, ?_⟩, hcz, by rw [HVZ.out, HV.out], below_step hb hb2⟩
  rcases ho.2 with h1 | ⟨g, r', h1, h2, h3, h4⟩
  · exact .inl h1
  · exact .inr ⟨g, r', Nat.le_trans hb.size h1, h2, h3, h4⟩

theorem rcmp_any {w : World} {v u : Value} {xs ys : List Int} (h : Sl w.heap.size w v xs) (h' : Sl w.heap.size w u ys) (hlen : xs.length ≤ 8796093022208) (hlen' : ys.length ≤ 8796093022208) :
    Calls Try.prog 66 #[v, u] w fun e w' => e = .returned (.int .i64 (cmpI (val xs) (val ys))) ∧ Below w.heap.size w w' := by
  go_enter Try.func66, Try.ntmps66
  go_wp2_with fail
  refine (split_any h hlen).mono ?_
  rintro e w1 ⟨ds, r, rfl, hs, hc, hv, _, hb⟩
  have h1 := h'.now hb
  have HV := hid hv
  clear hv h h'
  go_wp2_with fail
  refine (split_any h1 hlen').mono ?_
  rintro e w2 ⟨ds', r', rfl, hs', hc', hv', _, hb2⟩
  have h2 := hs.now hb2
  have HV' := hid hv'
  have hb12 := below_step hb hb2
  clear hv' h1 hs hb hb2
  go_wp2_with fail
  refine (rorder_any h2 hs' hc hc').mono ?_
  rintro e w3 ⟨rfl, n, rfl⟩
  rw [HV.out, HV'.out]
  go_wp2
  go_ret
  exact ⟨rfl, below_drewN hb12 n⟩
end Go.Proofs.Ytojhmkkjjalonaa

/- R5Made -/
namespace Go.Proofs.Ytojhmkkjjalonaa
open Go.RowKit
set_option linter.unusedVariables false

set_option maxHeartbeats 3200000 in
set_option maxRecDepth 100000 in
theorem rmade {w : World} {n : Bool} {xs : List Int} {a : Option Addr} {c : Nat} (h : Sl w.heap.size w (.slice a xs.length c) xs) (hl : xs.length ≤ 8796093022208) :
    Calls Try.prog 55 #[.bool n, .slice a xs.length c] w (GivesZ w (iv n xs) xs.length) := by
  obtain ⟨W0, hW0⟩ : ∃ W0, w.alloc zbox = W0 := ⟨_, rfl⟩
  obtain ⟨b0, sz0⟩ := alloc1 w zbox
  rw [hW0] at b0 sz0
  have r0 : Duo W0 w.heap.size (.bool false) (.slice none 0 0) := by rw [← hW0]; exact duo_at rfl
  have hx := hid h.1
  have HL := hid (rleast_any (h.now b0) hl)
  have R0 := hid r0
  have EW := hid hW0
  have G := hid b0
  clear h r0 hW0 b0 hl
  go_enter Try.func55, Try.ntmps55
  go_wp2_with fail
  rw [EW.out]
  refine HL.out.mono ?_
  rintro e w1 ⟨zs, r, rfl, ho, hc, hv, b1⟩
  obtain ⟨az, cz, rfl⟩ := ho.form
  have HM := hid ho.mine5
  have HC := hid hc
  have hk : Hid (zs.length ≤ xs.length) := canon_len hc (by rw [hv]; exact val_lt_pw hx.out)
  have HV := hid (iv_val n hv)
  replace R0 := hid (R0.out.step b1)
  replace G := hid (below_step G.out b1)
  have y0 := R0.out.c0
  have y1 := R0.out.c1
  have f0 := R0.out.fz 0
  have f1 := R0.out.fz 1
  clear ho hc hv b1 HL
  have fin : Hid (GivesZ w (iv n xs) xs.length (.returned (.agg #[.bool (n && decide (0 < zs.length)), .slice az zs.length cz])) ((w1.setCell ⟨w.heap.size, 0, none⟩ (.bool (n && decide (0 < zs.length)))).setCell ⟨w.heap.size, 1, none⟩ (.slice az zs.length cz))) := by
    unfold Hid
    rw [← HV.out]
    exact gz_end (B := W0.heap.size) (zm_of HM.out HC.out hk.out) G.out (by omega) (by omega)
  cases n
  · go_wp2
    exact bodyPost_ret (zback Try.results55 (R0.out.set _ _) _ (by rfl)) rfl fin.out
  · simp only [Bool.true_and] at fin
    go_wp2
    exact bodyPost_ret (zback Try.results55 (R0.out.set _ _) _ (by rfl)) rfl fin.out
end Go.Proofs.Ytojhmkkjjalonaa

/- RDigits -/
namespace Go.Proofs.Ytojhmkkjjalonaa
open Go.RowKit
set_option linter.unusedVariables false

theorem digit_step {zs : List Int} {y R : Int} {p : Nat} (hp : p < zs.length) (h0 : zs[p] = 0) (hv : dval zs + dpw p * y = R) : dval (zs.set p (y % 65536)) + dpw (p + 1) * (y / 65536) = R := by
  rw [dval_set zs p _ hp, h0, dpw]
  unfold dwB
  have e : y = y % 65536 + 65536 * (y / 65536) := by omega
  generalize y % 65536 = a at *
  generalize y / 65536 = b at *
  subst e
  grind
theorem digit_is {y : Int} (h : 0 ≤ y) : IsD (y % 65536) := by unfold IsD dwB; omega

end Go.Proofs.Ytojhmkkjjalonaa

/- RWords -/
namespace Go.Proofs.Ytojhmkkjjalonaa
open Go.RowKit
set_option linter.unusedVariables false

/-- What stands in word t once the digits from k on are in. -/
def wordUpto (D : List Int) (k t : Nat) : Int := dval ((D.drop (max k (4 * t))).take (4 * t + 4 - max k (4 * t)))
theorem wordUpto_other {D : List Int} {m t : Nat} (h : t ≠ m / 4) : wordUpto D m t = wordUpto D (m + 1) t := by
  unfold wordUpto
  by_cases q : m / 4 < t
  · rw [Nat.max_eq_right (by omega), Nat.max_eq_right (by omega)]
  · rw [show 4 * t + 4 - max m (4 * t) = 0 by omega, show 4 * t + 4 - max (m + 1) (4 * t) = 0 by omega]
    simp
theorem wordUpto_here {D : List Int} (hD : DF D) {m : Nat} (hm : m < D.length) : wordUpto D m (m / 4) = wordUpto D (m + 1) (m / 4) * 65536 + D[m] ∧ 0 ≤ D[m] ∧ D[m] ≤ 65535 ∧ 0 ≤ wordUpto D (m + 1) (m / 4) ∧ wordUpto D (m + 1) (m / 4) ≤ 281474976710655 := by
  have hx := hD.get hm
  unfold IsD dwB at hx
  have e1 : max m (4 * (m / 4)) = m := by omega
  have h1 := chunk_next hD (p := m) (n := 4 * (m / 4) + 3 - m)
  rw [show D.getD m 0 = D[m] by simp [hm]] at h1
  have e2 : wordUpto D (m + 1) (m / 4) = dval ((D.drop (m + 1)).take (4 * (m / 4) + 3 - m)) := by
    unfold wordUpto
    rw [Nat.max_eq_left (by omega), show 4 * (m / 4) + 4 - (m + 1) = 4 * (m / 4) + 3 - m by omega]
  have h3 := chunk3 ((hD.drop (m + 1)).take (4 * (m / 4) + 3 - m)) (by simp; omega)
  rw [← e2] at h3 h1
  refine ⟨?_, hx.1, by omega, h3.1, h3.2⟩
  have e3 : wordUpto D m (m / 4) = dval ((D.drop m).take (4 * (m / 4) + 3 - m + 1)) := by
    unfold wordUpto
    rw [e1, show 4 * (m / 4) + 4 - m = 4 * (m / 4) + 3 - m + 1 by omega]
  rw [e3, h1.1]
  omega
theorem wordUpto_all (D : List Int) (t : Nat) : wordUpto D 0 t = dval ((D.drop (4 * t)).take 4) := by
  unfold wordUpto
  rw [Nat.max_eq_right (by omega), show 4 * t + 4 - 4 * t = 4 by omega]
theorem wordUpto_none {D : List Int} {k t : Nat} (h : D.length ≤ k) : wordUpto D k t = 0 := by
  unfold wordUpto
  rw [List.drop_of_length_le (by omega)]
  simp [dval]
theorem words_value {D zs : List Int} (hD : DF D) (hz : ∀ t (h : t < zs.length), zs[t] = wordUpto D 0 t) (hl : D.length ≤ 4 * zs.length) (hl2 : 4 * zs.length ≤ D.length + 3) : ∀ s, s ≤ zs.length → WF (zs.take s) ∧ val (zs.take s) = dval (D.take (4 * s))
  | 0, _ => ⟨by simpa using WF.nil, by simp [val, dval]⟩
  | s + 1, hs => by
    obtain ⟨h1, h2⟩ := words_value hD hz hl hl2 s (by omega)
    have hl3 : (zs.take s).length = s := by simp; omega
    have := join_step hD h1 hl3 (by omega) h2 (y := zs[s]) (by rw [hz s (by omega), wordUpto_all])
    rw [List.take_succ_eq_append_getElem (show s < zs.length by omega)]
    exact this

end Go.Proofs.Ytojhmkkjjalonaa

/- RMul -/
namespace Go.Proofs.Ytojhmkkjjalonaa
open Go.RowKit
set_option linter.unusedVariables false

theorem drop_set_past {α : Type} (L : List α) {i n : Nat} (h : i < n) (x : α) : (L.set i x).drop n = L.drop n := by
  rw [List.drop_set, if_pos h]
theorem dtimes_step {Y zs : List Int} {V x y s c l h : Int} {i j : Nat} (hk : i + j < zs.length) (hs : zs[i + j] = s) (hy : j < Y.length) (hyv : Y[j] = y)
    (hv : dval zs + dpw (i + j) * c = V + dpw i * (x * dval (Y.take j))) (hl : l + 65536 * h = s + x * y + c) (hd : dpw (i + j) = dpw i * dpw j) :
    dval (zs.set (i + j) l) + dpw (i + (j + 1)) * h = V + dpw i * (x * dval (Y.take (j + 1))) := by
  rw [dval_set zs (i + j) l hk, hs, dval_take_succ Y j hy, hyv, show i + (j + 1) = (i + j) + 1 by omega, dpw]
  rw [hd] at hv ⊢
  unfold dwB
  generalize dpw i = P at *
  generalize dpw j = K at *
  generalize dval zs = Z at *
  generalize dval (Y.take j) = X at *
  have e : l = s + x * y + c - 65536 * h := by omega
  subst e
  grind
theorem dpw_plus : ∀ m n : Nat, dpw (m + n) = dpw m * dpw n
  | 0, n => by simp [dpw]
  | m + 1, n => by rw [show m + 1 + n = (m + n) + 1 by omega, dpw, dpw, dpw_plus m n, Int.mul_assoc]
theorem drows_step {X Y zs zs' : List Int} {x c : Int} {i n : Nat} (hi : i < X.length) (hw : X[i] = x) (hz : dval zs = dval (X.take i) * dval Y) (h' : dval zs' + dpw (i + n) * c = dval zs + dpw i * (x * dval Y))
    (hk : i + n < zs'.length) (h0 : zs'[i + n] = 0) : dval (zs'.set (i + n) c) = dval (X.take (i + 1)) * dval Y := by
  rw [dval_set zs' (i + n) c hk, h0, dval_take_succ X i hi, hw]
  grind
theorem dzeros_head {zs : List Int} {n j : Nat} (h : zs.drop n = List.replicate (j + 1) 0) : ∃ hn : n < zs.length, zs[n] = 0 := by
  have hl := congrArg List.length h
  simp only [List.length_drop, List.length_replicate] at hl
  refine ⟨by omega, ?_⟩
  have e : zs.drop n = zs[n]'(by omega) :: zs.drop (n + 1) := List.drop_eq_getElem_cons (by omega)
  rw [e, List.replicate_succ] at h
  exact (List.cons.inj h).1
theorem dzeros_tail {zs : List Int} {n j : Nat} (h : zs.drop n = List.replicate (j + 1) 0) : zs.drop (n + 1) = List.replicate j 0 := by
  rw [show n + 1 = 1 + n by omega, Nat.add_comm 1 n, ← List.drop_drop, h, List.replicate_succ]
  rfl
theorem dval_zeros : ∀ n : Nat, dval (List.replicate n 0) = 0
  | 0 => rfl
  | n + 1 => by rw [List.replicate_succ, dval, dval_zeros n]; omega
theorem df_zeros (n : Nat) : DF (List.replicate n 0) := fun x hx => by rw [(List.mem_replicate.1 hx).2]; unfold IsD dwB; omega
theorem dprod {x y : Int} (hx0 : 0 ≤ x) (hx1 : x ≤ 65535) (hy0 : 0 ≤ y) (hy1 : y ≤ 65535) : 0 ≤ x * y ∧ x * y ≤ 4294836225 := by
  refine ⟨Int.mul_nonneg hx0 hy0, ?_⟩
  have := Int.mul_le_mul hx1 hy1 hy0 (by omega)
  omega

end Go.Proofs.Ytojhmkkjjalonaa

/- R5Ones -/
namespace Go.Proofs.Ytojhmkkjjalonaa
open Go.RowKit
set_option linter.unusedVariables false

set_option maxHeartbeats 3200000 in
set_option maxRecDepth 100000 in
theorem rleast_z {w : World} {va : Value} {A : Int} {ka : Nat} (ha : Zi w va A ka) (hk : ka ≤ 1099511627776) :
    Calls Try.prog 27 #[va] w (GivesZ w A ka) := by
  have za0 := ha
  obtain ⟨na, xa, aa, ca, rfl, sa, ea, la⟩ := ha
  obtain ⟨W0, hW0⟩ : ∃ W0, (w.alloc (duo (.bool na) (.slice aa xa.length ca))).alloc zbox = W0 := ⟨_, rfl⟩
  obtain ⟨b0, sz0⟩ := alloc2 w (duo (.bool na) (.slice aa xa.length ca)) zbox
  rw [hW0] at b0 sz0
  have pa : Duo W0 (w.heap.size) (.bool na) (.slice aa xa.length ca) := by rw [← hW0]; exact duo_late (duo_at (by simp)) _
  have r0 : Duo W0 (w.heap.size + 1) (.bool false) (.slice none 0 0) := by rw [← hW0]; exact duo_at (by simp)
  have Pa := hid pa
  have ia0 := pa.c0
  have ia1 := pa.c1
  have Za := hid (za0.now b0)
  have Sa := hid (sa.now b0)
  have R0 := hid r0
  have EW := hid hW0
  have G := hid b0
  clear b0 hW0 za0 sa pa r0
  have EV : Hid (iv na xa = A) := by
    unfold Hid
    have hx := Sa.out.1
    exact ea
  clear ea
  have HL : Hid (Calls Try.prog 55 #[.bool na, .slice aa xa.length ca] W0 (GivesZ W0 A xa.length)) := by
    unfold Hid
    have q := rmade (n := na) Sa.out (by omega)
    rw [EV.out] at q
    exact q
  clear EV
  go_enter Try.func27, Try.ntmps27
  go_wp2_with fail
  rw [EW.out]
  clear ia0 ia1
  refine (HL.out).mono ?_
  rintro e w1 ⟨r, rfl, m1, b⟩
  obtain ⟨n1, x1, a1, q1, rfl, -, -, -, -, -⟩ := id m1
  replace R0 := hid (R0.out.step b)
  replace G := hid (below_step G.out b)
  have Z1 := hid (m1.more la)
  clear b m1
  have y00 := R0.out.c0
  have y01 := R0.out.c1
  have f00 := R0.out.fz 0
  have f01 := R0.out.fz 1
  go_wp2
  exact bodyPost_ret (zback Try.results27 (R0.out.set _ _) _ (by rfl)) rfl (gz_end (B := W0.heap.size) Z1.out G.out (by omega) (by omega))

end Go.Proofs.Ytojhmkkjjalonaa
