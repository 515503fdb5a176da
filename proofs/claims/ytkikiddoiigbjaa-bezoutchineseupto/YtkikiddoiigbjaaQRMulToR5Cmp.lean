/-
  QRMulToR5Cmp: RMul, R5Ones, R5Cmp, joined.
-/
import Derived.Test.YtkikiddoiigbjaaQRDigitsToRWords
import Derived.Test.YtkikiddoiigbjaaQGatE6ToR5Made

/- RMul -/
namespace Go.Proofs.Ytkikiddoiigbjaa
open Go.RowKit
set_option linter.unusedVariables false

theorem drop_set_past {α : Type} (L : List α) {i n : Nat} (h : i < n) (x : α) : (L.set i x).drop n = L.drop n := by
  rw [List.drop_set, if_pos h]
theorem dtimes_step {Y zs : List Int} {V x y s c l h : Int} {i j : Nat} (hk : i + j < zs.length) (hs : zs[i + j] = s) (hy : j < Y.length) (hyv : Y[j] = y)
    (hv : dval zs + dpw (i + j) * c = V + dpw i * (x * dval (Y.take j))) (hl : l + 65536 * h = s + x * y + c) (hd : dpw (i + j) = dpw i * dpw j) :
    dval (zs.set (i + j) l) + dpw (i + (j + 1)) * h = V + dpw i * (x * dval (Y.take (j + 1))) := by
  rw [dval_set zs (i + j) l hk, hs, dval_take_succ Y j hy, hyv, show i + (j + 1) = (i + j) + 1 by omega, dpw]
  rw [hd] at hv ⊢
  unfold dwB
  generalize dpw i = P at *
  generalize dpw j = K at *
  generalize dval zs = Z at *
  generalize dval (Y.take j) = X at *
  have e : l = s + x * y + c - 65536 * h := by omega
  subst e
  grind
theorem dpw_plus : ∀ m n : Nat, dpw (m + n) = dpw m * dpw n
  | 0, n => by simp [dpw]
  | m + 1, n => by rw [show m + 1 + n = (m + n) + 1 by omega, dpw, dpw, dpw_plus m n, Int.mul_assoc]
theorem drows_step {X Y zs zs' : List Int} {x c : Int} {i n : Nat} (hi : i < X.length) (hw : X[i] = x) (hz : dval zs = dval (X.take i) * dval Y) (h' : dval zs' + dpw (i + n) * c = dval zs + dpw i * (x * dval Y))
    (hk : i + n < zs'.length) (h0 : zs'[i + n] = 0) : dval (zs'.set (i + n) c) = dval (X.take (i + 1)) * dval Y := by
  rw [dval_set zs' (i + n) c hk, h0, dval_take_succ X i hi, hw]
  grind
theorem dzeros_head {zs : List Int} {n j : Nat} (h : zs.drop n = List.replicate (j + 1) 0) : ∃ hn : n < zs.length, zs[n] = 0 := by
  have hl := congrArg List.length h
  simp only [List.length_drop, List.length_replicate] at hl
  refine ⟨by omega, ?_⟩
  have e : zs.drop n = zs[n]'(by omega) :: zs.drop (n + 1) := List.drop_eq_getElem_cons (by omega)
  rw [e, List.replicate_succ] at h
  exact (List.cons.inj h).1
theorem dzeros_tail {zs : List Int} {n j : Nat} (h : zs.drop n = List.replicate (j + 1) 0) : zs.drop (n + 1) = List.replicate j 0 := by
  rw [show n + 1 = 1 + n by omega, Nat.add_comm 1 n, ← List.drop_drop, h, List.replicate_succ]
  rfl
theorem dval_zeros : ∀ n : Nat, dval (List.replicate n 0) = 0
  | 0 => rfl
  | n + 1 => by rw [List.replicate_succ, dval, dval_zeros n]; omega
theorem df_zeros (n : Nat) : DF (List.replicate n 0) := fun x hx => by rw [(List.mem_replicate.1 hx).2]; unfold IsD dwB; omega
theorem dprod {x y : Int} (hx0 : 0 ≤ x) (hx1 : x ≤ 65535) (hy0 : 0 ≤ y) (hy1 : y ≤ 65535) : 0 ≤ x * y ∧ x * y ≤ 4294836225 := by
  refine ⟨Int.mul_nonneg hx0 hy0, ?_⟩
  have := Int.mul_le_mul hx1 hy1 hy0 (by omega)
  omega

set_option maxHeartbeats 6400000 in
theorem rmul_any {w : World} {v u : Value} {xs ys : List Int} (h : Sl w.heap.size w v xs) (h' : Sl w.heap.size w u ys) (hlen : xs.length ≤ 1099511627776) (hlen' : ys.length ≤ 1099511627776) :
    Calls Try.prog 44 #[v, u] w (Told w (val xs * val ys)) := by
  go_enter Try.func44, Try.ntmps44
  go_wp2_with fail
  refine (digits_any h (by omega)).mono ?_
  rintro e w1 ⟨X, rx, rfl, hs, hcx, hvx, hlx, hb⟩
  have h1 := h'.now hb
  have HVX := hid hvx
  have HXD := hid hcx.1
  clear hvx h h' hcx
  go_wp2_with fail
  refine (digits_any h1 (by omega)).mono ?_
  rintro e w2 ⟨Y, ry, rfl, hsy, hcy, hvy, hly, hb2⟩
  have hsx := hs.now hb2
  have HVY := hid hvy
  have HYD := hid hcy.1
  have hb12 := hid (below_step hb hb2)
  clear hvy h1 hs hb hb2 hcy
  obtain ⟨hwx, a, capx, rfl, hlcx, hcmx, hmx⟩ := hsx
  obtain ⟨hwy, b, capy, rfl, hlcy, hcmy, hmy⟩ := hsy
  have HMX := hid hmx
  have HMY := hid hmy
  obtain ⟨n, hn⟩ : ∃ n, X.length = n := ⟨_, rfl⟩
  obtain ⟨m, hm⟩ : ∃ m, Y.length = m := ⟨_, rfl⟩
  rw [hn] at hlx hlcx
  rw [hm] at hly hlcy
  rw [hn, hm]
  have HN := hid hn
  have HM := hid hm
  have HTX : Hid (X.take n = X) := by unfold Hid; rw [← hn]; simp
  have HTY : Hid (Y.take m = Y) := by unfold Hid; rw [← hm]; simp
  clear hmx hmy hwx hwy hn hm
  go_wp2_with (at_make; refine wpList_make_ints _ rfl _ _ rfl _ _ (n + m) (n + m) rfl rfl (by omega) (by omega) (by omega) (by omega) ?_)
  intro w3 hrow hb3 hsz3
  clear hsz3
  go_wp2_with fail
  go_loopw [8] (fun i wr => ∃ (k : Nat) (zs : List Int), k ≤ n ∧ i = .int .i64 k ∧ Hid (zs.length = n + m) ∧ Hid (DF zs) ∧ Hid (dval zs = dval (X.take k) * dval Y) ∧ Hid (zs.drop (k + m) = List.replicate (n - k) 0) ∧ Hid (RowI wr w2.heap.size (wi zs)) ∧ Hid (Below w2.heap.size w2 wr)) (fun i _ => n - (intOf i).toNat)
  case atStart => exact ⟨0, List.replicate (n + m) 0, Nat.zero_le _, rfl, (by unfold Hid; simp), df_zeros _, (by unfold Hid; rw [dval_zeros]; simp [dval]), (by unfold Hid; simp), hrow, hb3⟩
  case round =>
    clear hrow hb3
    obtain ⟨k, zs, hk, rfl, HL, HD, HV, HZ, hr, hb⟩ := hrel
    by_cases hlt : k < n
    · have hk2 : k < X.length := by have := HN.out; omega
      rcases HMX.out with e | ⟨bx, ox, rfl, hbx, hcx⟩
      · subst e; simp at hk2
      have CX : Hid (w2.cell? ⟨bx, ox + k, none⟩ = some (.int .i64 X[k])) := hcx k hk2
      have hxd := HXD.out.get hk2
      have HST : Hid (∀ zs' c, dval zs' + dpw (k + m) * c = dval zs + dpw k * (X[k] * dval Y) → ∀ hz : k + m < zs'.length, zs'[k + m] = 0 → dval (zs'.set (k + m) c) = dval (X.take (k + 1)) * dval Y) := fun zs' c g1 g2 g3 => drows_step hk2 rfl HV.out g1 g2 g3
      generalize X[k] = x at *
      unfold IsD dwB at hxd
      obtain ⟨hx0, hx1⟩ := hxd
      obtain ⟨j1, hj1⟩ : ∃ j, n - k = j + 1 := ⟨n - k - 1, by omega⟩
      have HZ1 := hid HZ.out
      rw [hj1] at HZ1
      have HV1 : Hid (dval zs + dpw (k + 0) * 0 = dval zs + dpw k * (x * dval (Y.take 0))) := by unfold Hid; simp [dval]
      obtain ⟨Z0, hZ0⟩ : ∃ z, dval zs = z := ⟨_, rfl⟩
      rw [hZ0] at HST
      rw [hZ0] at HV1
      have HV1' : Hid (dval zs + dpw (k + 0) * 0 = Z0 + dpw k * (x * dval (Y.take 0))) := by unfold Hid; rw [hZ0]; exact HV1.out
      clear hcx HV1 HV hZ0
      go_wp2_with fail
      go_loopw [9, 10] (fun c i wr => ∃ (j : Nat) (zs : List Int) (cc : Int), j ≤ m ∧ i = .int .i64 j ∧ c = .int .i64 cc ∧ 0 ≤ cc ∧ cc ≤ 65535 ∧ Hid (zs.length = n + m) ∧ Hid (DF zs) ∧ Hid (dval zs + dpw (k + j) * cc = Z0 + dpw k * (x * dval (Y.take j))) ∧ Hid (zs.drop (k + m) = List.replicate (j1 + 1) 0) ∧ Hid (RowI wr w2.heap.size (wi zs)) ∧ Hid (Below w2.heap.size w2 wr)) (fun _ i _ => m - (intOf i).toNat)
      case atStart => exact ⟨0, zs, 0, Nat.zero_le _, rfl, rfl, by omega, by omega, HL, HD, HV1', HZ1, hr, hb⟩
      case round =>
        clear HL HD HV1' HZ1 HZ hr hb
        obtain ⟨j, zs, cc, hj, rfl, rfl, hc0, hc1, HL, HD, HV, HZ, hr, hb⟩ := hrel
        by_cases hjm : j < m
        · have hj2 : j < Y.length := by have := HM.out; omega
          have hp : k + j < zs.length := by have := HL.out; omega
          rcases HMY.out with e | ⟨by_, oy, rfl, hby, hcy⟩
          · subst e; simp at hj2
          have c1 : wr.cell? ⟨bx, ox + k, none⟩ = some (.int .i64 x) := (hb.out.cell (p := ⟨bx, ox + k, none⟩) hbx).trans CX.out
          have c2 : wr.cell? ⟨by_, oy + j, none⟩ = some (.int .i64 Y[j]) := (hb.out.cell (p := ⟨by_, oy + j, none⟩) hby).trans (hcy j hj2)
          have c3 : wr.cell? ⟨w2.heap.size, k + j, none⟩ = some (.int .i64 zs[k + j]) := RowI.num (r := []) (by simpa using hr.out) hp
          have cf : wr.frozen? ⟨w2.heap.size, k + j, none⟩ = false := hr.out.frozen _
          have hyd := HYD.out.get hj2
          have hzd := HD.out.get hp
          have hst : Hid (∀ l h, l + 65536 * h = zs[k + j] + x * Y[j] + cc → dval (zs.set (k + j) l) + dpw (k + (j + 1)) * h = Z0 + dpw k * (x * dval (Y.take (j + 1)))) := fun l h hl => dtimes_step hp rfl hj2 rfl HV.out hl (dpw_plus k j)
          have HR2 : Hid (∀ z, RowI (wr.setCell ⟨w2.heap.size, k + j, none⟩ (.int .i64 z)) w2.heap.size (wi (zs.set (k + j) z) ++ [])) := fun z => RowI.setNum (r := []) (by simpa using hr.out) hp z
          have HB2 : Hid (∀ z, Below w2.heap.size w2 (wr.setCell ⟨w2.heap.size, k + j, none⟩ (.int .i64 z))) := fun z => hb.out.setCell (p := ⟨w2.heap.size, k + j, none⟩) (Nat.le_refl _) (.int .i64 z)
          have HD2 : Hid (∀ z, 0 ≤ z → z ≤ 65535 → DF (zs.set (k + j) z)) := fun z z0 z1 => HD.out.set (k + j) (by unfold IsD dwB; omega)
          have HL2 : Hid (∀ z, (zs.set (k + j) z).length = n + m) := fun z => by rw [List.length_set]; exact HL.out
          have HZ2 : Hid (∀ z, (zs.set (k + j) z).drop (k + m) = List.replicate (j1 + 1) 0) := fun z => by rw [drop_set_past _ (by omega)]; exact HZ.out
          generalize Y[j] = y at *
          generalize zs[k + j] = s at *
          unfold IsD dwB at hyd hzd
          obtain ⟨hy0, hy1⟩ := hyd
          obtain ⟨hs0, hs1⟩ := hzd
          obtain ⟨hxy0, hxy1⟩ := dprod hx0 (show x ≤ 65535 by omega) hy0 (show y ≤ 65535 by omega)
          have HXY : Hid (∃ q, x * y = q) := ⟨_, rfl⟩
          have i0 : (0 : Int) ≤ (k : Int) := by omega
          have i1 : (k : Int) < (n : Int) := by omega
          have i2 : (0 : Int) ≤ (j : Int) := by omega
          have i3 : (j : Int) < (m : Int) := by omega
          have i4 : (k : Int) + (j : Int) < (n : Int) + (m : Int) := by omega
          clear hcy HL HD HV HZ hr hb
          go_wp2_with fail
          go_region
          obtain ⟨T, hT⟩ : ∃ T, s + x * y + cc = T := ⟨_, rfl⟩
          have hT0 : 0 ≤ T := by omega
          have hT1 : T ≤ 4294967295 := by omega
          rw [hT]
          have HT := hid hT
          clear hT hxy0 hxy1
          go_wp2
          go_roundw
          case rel => exact ⟨j + 1, zs.set (k + j) (T % 65536), T / 65536, by omega, by go_num, rfl, by omega, by omega, HL2.out _, HD2.out _ (by omega) (by omega), hst.out _ _ (by rw [HT.out]; omega), HZ2.out _, (by unfold Hid; have := HR2.out (T % 65536); rw [List.append_nil] at this; exact this), (HB2.out _).drew⟩
          case measure => first | (simp [intOf]; done) | (simp [intOf]; omega)
        · obtain rfl : j = m := by omega
          rw [HTY.out] at HV
          obtain ⟨hk3, hz3⟩ := dzeros_head HZ.out
          have c3 : wr.cell? ⟨w2.heap.size, k + j, none⟩ = some (.int .i64 zs[k + j]) := RowI.num (r := []) (by simpa using hr.out) hk3
          have cf : wr.frozen? ⟨w2.heap.size, k + j, none⟩ = false := hr.out.frozen _
          have HV4 := hid (HST.out zs cc HV.out hk3 hz3)
          have HR4 := hid (RowI.setNum (r := []) (by simpa using hr.out) hk3 cc)
          have HB4 := hid (hb.out.setCell (p := ⟨w2.heap.size, k + j, none⟩) (Nat.le_refl _) (.int .i64 cc))
          have HD4 := hid (HD.out.set (k + j) (show IsD cc by unfold IsD dwB; omega))
          have HL4 : Hid ((zs.set (k + j) cc).length = n + j) := by unfold Hid; rw [List.length_set]; exact HL.out
          have HZ4 : Hid ((zs.set (k + j) cc).drop (k + 1 + j) = List.replicate (n - (k + 1)) 0) := by
            unfold Hid
            rw [show k + 1 + j = k + j + 1 by omega, drop_set_past _ (by omega), dzeros_tail HZ.out]
            congr 1
            omega
          generalize zs[k + j] = z at *
          generalize zs.set (k + j) cc = zs'' at *
          clear hz3 HL HD HV HZ hr hb HST
          go_wp2
          go_roundw
          case rel => exact ⟨k + 1, zs'', by omega, by go_num, HL4, HD4, HV4, HZ4, (by unfold Hid; have := HR4.out; rw [List.append_nil] at this; exact this), HB4⟩
          case measure => first | (simp [intOf]; done) | (simp [intOf]; omega)
    · obtain rfl : k = n := by omega
      rw [HTX.out] at HV
      have hsl : SlI wr.heap.size wr (.slice (some ⟨w2.heap.size, 0, none⟩) (k + m) (k + m)) zs := by
        have := RowI.sl (r := []) (by simpa using hr.out) (fun p hp => by have := HD.out p hp; unfold IsD dwB at this; omega) (cap := k + m) (by rw [HL.out]; exact Nat.le_refl _) (by omega) hr.out.lt
        rw [HL.out] at this
        exact this
      have HW := hid (words_any hsl HD.out)
      clear hsl
      go_wp2_with fail
      refine HW.out.mono ?_
      rintro e w5 ⟨qs, r, rfl, ho, hcz, hvz, hb5⟩
      have HVZ := hid hvz
      clear hvz HW
      go_wp2
      go_ret
      have hbb := below_step hb12.out (below_step hb.out hb5)
      refine ⟨qs, r, rfl, ⟨ho.1, ?_⟩, hcz, by rw [HVZ.out, HV.out, HVX.out, HVY.out], hbb⟩
      rcases ho.2 with q1 | ⟨g, r', q1, q2, q3, q4⟩
      · exact .inl q1
      · exact .inr ⟨g, r', Nat.le_trans (Nat.le_trans hb12.out.size hb.out.size) q1, q2, q3, q4⟩
end Go.Proofs.Ytkikiddoiigbjaa

/- R5Ones -/
namespace Go.Proofs.Ytkikiddoiigbjaa
open Go.RowKit
set_option linter.unusedVariables false

set_option maxHeartbeats 3200000 in
set_option maxRecDepth 100000 in
theorem rleast_z {w : World} {va : Value} {A : Int} {ka : Nat} (ha : Zi w va A ka) (hk : ka ≤ 1099511627776) :
    Calls Try.prog 24 #[va] w (GivesZ w A ka) := by
  have za0 := ha
  obtain ⟨na, xa, aa, ca, rfl, sa, ea, la⟩ := ha
  obtain ⟨W0, hW0⟩ : ∃ W0, (w.alloc (duo (.bool na) (.slice aa xa.length ca))).alloc zbox = W0 := ⟨_, rfl⟩
  obtain ⟨b0, sz0⟩ := alloc2 w (duo (.bool na) (.slice aa xa.length ca)) zbox
  rw [hW0] at b0 sz0
  have pa : Duo W0 (w.heap.size) (.bool na) (.slice aa xa.length ca) := by rw [← hW0]; exact duo_late (duo_at (by simp)) _
  have r0 : Duo W0 (w.heap.size + 1) (.bool false) (.slice none 0 0) := by rw [← hW0]; exact duo_at (by simp)
  have Pa := hid pa
  have ia0 := pa.c0
  have ia1 := pa.c1
  have Za := hid (za0.now b0)
  have Sa := hid (sa.now b0)
  have R0 := hid r0
  have EW := hid hW0
  have G := hid b0
  clear b0 hW0 za0 sa pa r0
  have EV : Hid (iv na xa = A) := by
    unfold Hid
    have hx := Sa.out.1
    exact ea
  clear ea
  have HL : Hid (Calls Try.prog 42 #[.bool na, .slice aa xa.length ca] W0 (GivesZ W0 A xa.length)) := by
    unfold Hid
    have q := rmade (n := na) Sa.out (by omega)
    rw [EV.out] at q
    exact q
  clear EV
  go_enter Try.func24, Try.ntmps24
  go_wp2_with fail
  rw [EW.out]
  clear ia0 ia1
  refine (HL.out).mono ?_
  rintro e w1 ⟨r, rfl, m1, b⟩
  obtain ⟨n1, x1, a1, q1, rfl, -, -, -, -, -⟩ := id m1
  replace R0 := hid (R0.out.step b)
  replace G := hid (below_step G.out b)
  have Z1 := hid (m1.more la)
  clear b m1
  have y00 := R0.out.c0
  have y01 := R0.out.c1
  have f00 := R0.out.fz 0
  have f01 := R0.out.fz 1
  go_wp2
  exact bodyPost_ret (zback Try.results24 (R0.out.set _ _) _ (by rfl)) rfl (gz_end (B := W0.heap.size) Z1.out G.out (by omega) (by omega))

set_option maxHeartbeats 3200000 in
set_option maxRecDepth 100000 in
theorem rmul_z {w : World} {va vb : Value} {A B : Int} {ka kb : Nat} (ha : Zi w va A ka) (hb : Zi w vb B kb) (hk : ka ≤ 1099511627776) (hl : kb ≤ 1099511627776) :
    Calls Try.prog 26 #[va, vb] w (GivesZ w (A * B) (ka + kb)) := by
  have za0 := ha
  obtain ⟨na, xa, aa, ca, rfl, sa, ea, la⟩ := ha
  have zb0 := hb
  obtain ⟨nb, xb, ab, cb, rfl, sb, eb, lb⟩ := hb
  obtain ⟨W0, hW0⟩ : ∃ W0, ((w.alloc (duo (.bool na) (.slice aa xa.length ca))).alloc (duo (.bool nb) (.slice ab xb.length cb))).alloc zbox = W0 := ⟨_, rfl⟩
  obtain ⟨b0, sz0⟩ := alloc3 w (duo (.bool na) (.slice aa xa.length ca)) (duo (.bool nb) (.slice ab xb.length cb)) zbox
  rw [hW0] at b0 sz0
  have pa : Duo W0 (w.heap.size) (.bool na) (.slice aa xa.length ca) := by rw [← hW0]; exact duo_late (duo_late (duo_at (by simp)) _) _
  have pb : Duo W0 (w.heap.size + 1) (.bool nb) (.slice ab xb.length cb) := by rw [← hW0]; exact duo_late (duo_at (by simp)) _
  have r0 : Duo W0 (w.heap.size + 1 + 1) (.bool false) (.slice none 0 0) := by rw [← hW0]; exact duo_at (by simp)
  have Pa := hid pa
  have ia0 := pa.c0
  have ia1 := pa.c1
  have Za := hid (za0.now b0)
  have Sa := hid (sa.now b0)
  have Pb := hid pb
  have ib0 := pb.c0
  have ib1 := pb.c1
  have Zb := hid (zb0.now b0)
  have Sb := hid (sb.now b0)
  have R0 := hid r0
  have EW := hid hW0
  have G := hid b0
  clear b0 hW0 za0 sa pa zb0 sb pb r0
  have HV : Hid (∀ zs, val zs = val xa * val xb → iv (na != nb) zs = A * B) := fun zs e => by
    rw [← ea, ← eb]; cases na <;> cases nb <;> simp [iv, e, Int.mul_neg, Int.neg_mul]
  have HLt := hid (val_mul_lt Sa.out.1 Sb.out.1)
  clear ea eb
  go_enter Try.func26, Try.ntmps26
  go_wp2_with fail
  rw [EW.out]
  clear ia0 ia1 ib0 ib1
  refine (rmul_any Sa.out Sb.out (by omega) (by omega)).mono ?_
  rintro e w1 ⟨zs, r, rfl, ho, hc, hv, b⟩
  obtain ⟨az, cz, rfl⟩ := ho.form
  have hk1 : zs.length ≤ xa.length + xb.length := canon_len hc (by rw [hv]; exact HLt.out)
  have HM := hid ho.sl
  have lw := b.size
  have EV := hid (HV.out zs hv)
  replace Pa := hid (Pa.out.step b)
  have ia0 := Pa.out.c0
  have ia1 := Pa.out.c1
  replace Pb := hid (Pb.out.step b)
  have ib0 := Pb.out.c0
  have ib1 := Pb.out.c1
  replace R0 := hid (R0.out.step b)
  replace G := hid (below_step G.out b)
  clear b ho hc hv HV HLt
  go_wp2_with fail
  clear ia0 ia1 ib0 ib1
  have HL : Hid (Calls Try.prog 42 #[.bool (na != nb), .slice az zs.length cz] w1 (GivesZ w1 (A * B) zs.length)) := by
    unfold Hid
    have q := rmade (n := na != nb) HM.out (by omega)
    rw [EV.out] at q
    exact q
  refine (HL.out).mono ?_
  rintro e w2 ⟨r, rfl, m2, b⟩
  obtain ⟨n2, x2, a2, q2, rfl, -, -, -, -, -⟩ := id m2
  replace R0 := hid (R0.out.step b)
  replace G := hid (below_step G.out b)
  have Z2 := hid ((m2.mono (B' := W0.heap.size) lw).more (l := ka + kb) (by omega))
  clear b m2
  have y00 := R0.out.c0
  have y01 := R0.out.c1
  have f00 := R0.out.fz 0
  have f01 := R0.out.fz 1
  go_wp2
  exact bodyPost_ret (zback Try.results26 (R0.out.set _ _) _ (by rfl)) rfl (gz_end (B := W0.heap.size) Z2.out G.out (by omega) (by omega))

end Go.Proofs.Ytkikiddoiigbjaa

/- R5Cmp -/
namespace Go.Proofs.Ytkikiddoiigbjaa
open Go.RowKit
set_option linter.unusedVariables false

set_option maxHeartbeats 3200000 in
set_option maxRecDepth 100000 in
theorem rsign_z {w : World} {va : Value} {A : Int} {ka : Nat} (ha : Zi w va A ka) (hk : ka ≤ 1099511627776) :
    Calls Try.prog 10 #[va] w (fun e w' => e = .returned (.int .i64 (cmpI A 0)) ∧ Below w.heap.size w w') := by
  have za0 := ha
  obtain ⟨na, xa, aa, ca, rfl, sa, ea, la⟩ := ha
  obtain ⟨W0, hW0⟩ : ∃ W0, w.alloc (duo (.bool na) (.slice aa xa.length ca)) = W0 := ⟨_, rfl⟩
  obtain ⟨b0, sz0⟩ := alloc1 w (duo (.bool na) (.slice aa xa.length ca))
  rw [hW0] at b0 sz0
  have pa : Duo W0 (w.heap.size) (.bool na) (.slice aa xa.length ca) := by rw [← hW0]; exact duo_at (by simp)
  have Pa := hid pa
  have ia0 := pa.c0
  have ia1 := pa.c1
  have Za := hid (za0.now b0)
  have Sa := hid (sa.now b0)
  have EW := hid hW0
  have G := hid b0
  clear b0 hW0 za0 sa pa 
  clear ea
  have key : Hid (∀ n (xs : List Int), Canon xs → (xs = [] → n = false) → iv n xs = A → (n = true ∧ cmpI A 0 = -1) ∨ (n = false ∧ (0 : Int) < xs.length ∧ cmpI A 0 = 1) ∨ (n = false ∧ ¬ (0 : Int) < xs.length ∧ cmpI A 0 = 0)) := fun n xs hc hn e => by
    have hv := val_nonneg hc.1
    have h0 : xs ≠ [] → val xs ≠ 0 := fun q e => q (canon_zero hc e)
    cases n
    · rw [iv_pos] at e
      by_cases q : xs = []
      · subst q; exact .inr (.inr ⟨rfl, by simp, by rw [← e]; simp [val, cmpI]⟩)
      · have := h0 q
        exact .inr (.inl ⟨rfl, by have := List.length_pos_iff.2 q; omega, cmpI_gt (by omega)⟩)
    · rw [iv_neg] at e
      by_cases q : xs = []
      · exact absurd (hn q) (by simp)
      · have := h0 q
        exact .inl ⟨rfl, cmpI_lt (by omega)⟩
  go_enter Try.func10, Try.ntmps10
  go_wp2_with fail
  rw [EW.out]
  clear ia0 ia1
  refine (rleast_z Za.out hk).mono ?_
  rintro e w1 ⟨r, rfl, m1, b⟩
  obtain ⟨n1, x1, a1, q1, rfl, -, t1, t2, t3, -⟩ := m1
  have KK := hid (key.out n1 x1 t1 t2 t3)
  have B1 := hid (below_step (below_step G.out b) (alloc1 w1 (duo (.bool n1) (.slice a1 x1.length q1))).1)
  clear b t1 t2 t3 key
  rcases KK.out with ⟨rfl, e⟩ | ⟨rfl, hp, e⟩ | ⟨rfl, hp, e⟩
  all_goals
    have HE := hid e
    clear e KK
    go_wp2
    go_ret
    exact ⟨by rw [HE.out]; rfl, B1.out⟩

set_option maxHeartbeats 3200000 in
set_option maxRecDepth 100000 in
theorem rcmpAbs_z {w : World} {va vb : Value} {A B : Int} {ka kb : Nat} (ha : Zi w va A ka) (hb : Zi w vb B kb) (hk : ka ≤ 1099511627776) (hl : kb ≤ 1099511627776) :
    Calls Try.prog 34 #[va, vb] w (fun e w' => e = .returned (.int .i64 (cmpI (A.natAbs : Int) (B.natAbs : Int))) ∧ Below w.heap.size w w') := by
  have za0 := ha
  obtain ⟨na, xa, aa, ca, rfl, sa, ea, la⟩ := ha
  have zb0 := hb
  obtain ⟨nb, xb, ab, cb, rfl, sb, eb, lb⟩ := hb
  obtain ⟨W0, hW0⟩ : ∃ W0, (w.alloc (duo (.bool na) (.slice aa xa.length ca))).alloc (duo (.bool nb) (.slice ab xb.length cb)) = W0 := ⟨_, rfl⟩
  obtain ⟨b0, sz0⟩ := alloc2 w (duo (.bool na) (.slice aa xa.length ca)) (duo (.bool nb) (.slice ab xb.length cb))
  rw [hW0] at b0 sz0
  have pa : Duo W0 (w.heap.size) (.bool na) (.slice aa xa.length ca) := by rw [← hW0]; exact duo_late (duo_at (by simp)) _
  have pb : Duo W0 (w.heap.size + 1) (.bool nb) (.slice ab xb.length cb) := by rw [← hW0]; exact duo_at (by simp)
  have Pa := hid pa
  have ia0 := pa.c0
  have ia1 := pa.c1
  have Za := hid (za0.now b0)
  have Sa := hid (sa.now b0)
  have Pb := hid pb
  have ib0 := pb.c0
  have ib1 := pb.c1
  have Zb := hid (zb0.now b0)
  have Sb := hid (sb.now b0)
  have EW := hid hW0
  have G := hid b0
  clear b0 hW0 za0 sa pa zb0 sb pb 
  have HC := hid (rcmp_any Sa.out Sb.out (by omega) (by omega))
  have ga := iv_abs Sa.out.1 ea
  have gb := iv_abs Sb.out.1 eb
  rw [ga, gb] at HC
  clear ga gb
  clear ea eb
  generalize cmpI (A.natAbs : Int) (B.natAbs : Int) = C at *
  go_enter Try.func34, Try.ntmps34
  go_wp2_with fail
  rw [EW.out]
  clear ia0 ia1 ib0 ib1
  refine HC.out.mono ?_
  rintro e w1 ⟨rfl, b⟩
  have B1 := hid (below_step G.out b)
  clear b HC
  go_wp2
  go_ret
  exact ⟨rfl, B1.out⟩

set_option maxHeartbeats 3200000 in
set_option maxRecDepth 100000 in
theorem rcmp_z {w : World} {va vb : Value} {A B : Int} {ka kb : Nat} (ha : Zi w va A ka) (hb : Zi w vb B kb) (hk : ka ≤ 1099511627776) (hl : kb ≤ 1099511627776) :
    Calls Try.prog 28 #[va, vb] w (fun e w' => e = .returned (.int .i64 (cmpI A B)) ∧ Below w.heap.size w w') := by
  have za0 := ha
  obtain ⟨na, xa, aa, ca, rfl, sa, ea, la⟩ := ha
  have zb0 := hb
  obtain ⟨nb, xb, ab, cb, rfl, sb, eb, lb⟩ := hb
  obtain ⟨W0, hW0⟩ : ∃ W0, (w.alloc (duo (.bool na) (.slice aa xa.length ca))).alloc (duo (.bool nb) (.slice ab xb.length cb)) = W0 := ⟨_, rfl⟩
  obtain ⟨b0, sz0⟩ := alloc2 w (duo (.bool na) (.slice aa xa.length ca)) (duo (.bool nb) (.slice ab xb.length cb))
  rw [hW0] at b0 sz0
  have pa : Duo W0 (w.heap.size) (.bool na) (.slice aa xa.length ca) := by rw [← hW0]; exact duo_late (duo_at (by simp)) _
  have pb : Duo W0 (w.heap.size + 1) (.bool nb) (.slice ab xb.length cb) := by rw [← hW0]; exact duo_at (by simp)
  have Pa := hid pa
  have ia0 := pa.c0
  have ia1 := pa.c1
  have Za := hid (za0.now b0)
  have Sa := hid (sa.now b0)
  have Pb := hid pb
  have ib0 := pb.c0
  have ib1 := pb.c1
  have Zb := hid (zb0.now b0)
  have Sb := hid (sb.now b0)
  have EW := hid hW0
  have G := hid b0
  clear b0 hW0 za0 sa pa zb0 sb pb 
  clear ea eb
  have H1 : Hid (∀ w', Below W0.heap.size W0 w' → _) := fun w' h => rsign_z (Za.out.now h) hk
  have H2 : Hid (∀ w', Below W0.heap.size W0 w' → _) := fun w' h => rsign_z (Zb.out.now h) hl
  have H3 : Hid (∀ w', Below W0.heap.size W0 w' → _) := fun w' h => rcmpAbs_z (Za.out.now h) (Zb.out.now h) hk hl
  have bd := cmpI_bound A 0
  have bd2 := cmpI_bound (A.natAbs : Int) (B.natAbs : Int)
  have HS : Hid ((cmpI A 0 = cmpI B 0 → cmpI A 0 * cmpI (A.natAbs : Int) (B.natAbs : Int) = cmpI A B) ∧ (cmpI A 0 < cmpI B 0 → cmpI A B = -1) ∧ (cmpI B 0 < cmpI A 0 → cmpI A B = 1)) := by
    unfold Hid cmpI
    refine ⟨?_, ?_, ?_⟩ <;> intro h <;> (repeat' split at h) <;> (repeat' split) <;> omega
  generalize cmpI A 0 = S at *
  generalize cmpI B 0 = T at *
  generalize cmpI (A.natAbs : Int) (B.natAbs : Int) = U at *
  generalize cmpI A B = R at *
  go_enter Try.func28, Try.ntmps28
  go_wp2_with fail
  rw [EW.out]
  clear ia0 ia1 ib0 ib1
  refine (H1.out W0 (Below.refl _ _)).mono ?_
  rintro e w1 ⟨rfl, b⟩
  have B1 := hid b
  replace Pa := hid (Pa.out.step b)
  have ia0 := Pa.out.c0
  have ia1 := Pa.out.c1
  replace Pb := hid (Pb.out.step b)
  have ib0 := Pb.out.c0
  have ib1 := Pb.out.c1
  replace G := hid (below_step G.out b)
  clear b
  go_wp2_with fail
  clear ia0 ia1 ib0 ib1
  refine (H2.out w1 B1.out).mono ?_
  rintro e w2 ⟨rfl, b⟩
  have B2 := hid (below_step B1.out b)
  replace Pa := hid (Pa.out.step b)
  have ia0 := Pa.out.c0
  have ia1 := Pa.out.c1
  replace Pb := hid (Pb.out.step b)
  have ib0 := Pb.out.c0
  have ib1 := Pb.out.c1
  replace G := hid (below_step G.out b)
  clear b
  rcases (show S = T ∨ S < T ∨ T < S by omega) with h | h | h
  · have hne : (S != T) = false := by simp [h]
    have HR := hid (HS.out.1 h)
    have hm : IntKind.i64.wrap (S * U) = R := by
      rw [HR.out, wrap_is] <;> rw [← HR.out]
      all_goals (obtain ⟨q1, q2⟩ := bd; obtain ⟨q3, q4⟩ := bd2; rcases (show S = -1 ∨ S = 0 ∨ S = 1 by omega) with e | e | e <;> rw [e] <;> omega)
    clear h HS
    go_wp2_with fail
    clear ia0 ia1 ib0 ib1
    refine (H3.out w2 B2.out).mono ?_
    rintro e w3 ⟨rfl, b⟩
    have B3 := hid (below_step G.out b)
    clear b
    go_wp2
    go_ret
    exact ⟨by first | rfl | rw [hm], B3.out⟩
  · have hne : (S != T) = true := by simp; omega
    have HR := hid (HS.out.2.1 h)
    clear HS
    go_wp2
    go_ret
    exact ⟨by rw [HR.out]; rfl, G.out⟩
  · have hne : (S != T) = true := by simp; omega
    have h' : ¬ S < T := by omega
    have HR := hid (HS.out.2.2 h)
    clear HS
    go_wp2
    go_ret
    exact ⟨by rw [HR.out]; rfl, G.out⟩

end Go.Proofs.Ytkikiddoiigbjaa
