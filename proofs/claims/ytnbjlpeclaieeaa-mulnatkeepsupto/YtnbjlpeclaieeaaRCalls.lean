/-
  RCalls: the reference's calls above Mul.
-/
import Derived.Test.YtnbjlpeclaieeaaRMul
import Derived.Test.YtnbjlpeclaieeaaRAdd
import Derived.Test.YtnbjlpeclaieeaaRLow
import Derived.Test.YtnbjlpeclaieeaaProduct
import Derived.Test.YtnbjlpeclaieeaaPowToMoved
import Derived.Test.YtnbjlpeclaieeaaLowToMulLow
namespace Go.Proofs.Ytnbjlpeclaieeaa
open Go.RowKit
set_option linter.unusedVariables false

theorem Own.mine {B : Nat} {w : World} {v : Value} {zs : List Int} (h : Own B w v zs) : Mine B w v zs := by
  obtain ⟨hw, h1 | ⟨g, r, h1, h2, h3, h4⟩⟩ := h
  · exact ⟨hw, .inl h1⟩
  · exact ⟨hw, .inr ⟨g, r, _, h1, by omega, by omega, .inr ⟨rfl, by unfold maxLen; omega⟩, h3, h4⟩⟩
theorem Told.makes {w w' : World} {s : Int} {e : Ending} (h : Told w s e w') : Makes w s e w' := by
  obtain ⟨zs, r, rfl, h2, h3, h4, h5⟩ := h
  exact ⟨zs, r, rfl, h2.mine, h3, h4, h5⟩
theorem rmul_makes {w : World} {v u : Value} {xs ys : List Int} (h : Sl w.heap.size w v xs) (h' : Sl w.heap.size w u ys) (hlen : xs.length ≤ 1099511627776) (hlen' : ys.length ≤ 1099511627776) :
    Calls Try.prog 17 #[v, u] w (Makes w (val xs * val ys)) := (rmul_any h h' hlen hlen').mono fun _ _ q => q.makes
theorem rsquare_any {w : World} {va : Value} {xs : List Int} (ha : Sl w.heap.size w va xs) (hl : xs.length ≤ 1099511627776) :
    Calls Try.prog 20 #[va] w (Makes w (val xs * val xs)) := by
  have HM := hid (rmul_makes ha ha hl hl)
  clear ha
  go_enter Try.func20, Try.ntmps20
  go_wp2_with fail
  refine HM.out.mono ?_
  rintro e w1 ⟨zs, r, rfl, m1, m2, m3, m4⟩
  go_wp2
  go_ret
  exact ⟨zs, r, rfl, m1, m2, m3, m4⟩
theorem rword_any {w : World} {va : Value} {xs : List Int} (ha : Sl w.heap.size w va xs) {W : Int} (hW : IsW W) (hl : xs.length ≤ 1099511627776) :
    Calls Try.prog 16 #[va, .int .u64 W] w (Makes w (val xs * W)) := by
  have kk := (Below.refl w.heap.size w).alloc (Nat.le_refl _) (.cells #[.int .u64 W] 32)
  have aq := ha.now kk
  have q0 := lit_last w [W] #[.int .u64 W] rfl (WF.cons hW WF.nil) (by simp) 1 rfl
  have HM := hid (rmul_makes aq q0 hl (by simp))
  have KK := hid kk
  clear ha aq q0 kk
  go_enter Try.func16, Try.ntmps16
  go_wp2_with fail
  refine HM.out.mono ?_
  rintro e w1 hm
  have hm' := hm.step KK.out
  obtain ⟨zs, r, rfl, m1, m2, m3, m4⟩ := hm'
  clear hm HM KK
  go_wp2
  go_ret
  exact ⟨zs, r, rfl, m1, m2, by rw [m3]; simp [val], m4⟩
theorem rmulAdd_any {w : World} {va vb vc : Value} {xs ys zs : List Int} (ha : Sl w.heap.size w va xs) (hb : Sl w.heap.size w vb ys) (hc : Sl w.heap.size w vc zs) (la : xs.length ≤ 274877906944) (lb : ys.length ≤ 274877906944) (lc : zs.length ≤ 274877906944) :
    Calls Try.prog 18 #[va, vb, vc] w (Makes w (val xs * val ys + val zs)) := by
  have HM := hid ((rmul_makes ha hb (by omega) (by omega)).mono fun _ _ q => q.gives (val_mul_lt ha.1 hb.1))
  clear ha hb
  go_enter Try.func18, Try.ntmps18
  go_wp2_with fail
  refine HM.out.mono ?_
  rintro e w1 ⟨P, pa, pc, rfl, p0, cp, HP, lp, k1⟩
  have c1 := hc.now k1
  replace HP := hid HP
  clear hc HM
  go_wp2_with fail
  refine (radd_any p0 c1 (by omega) (by omega)).mono ?_
  rintro e w2 hm
  have hm' := (hm.makes).step k1
  obtain ⟨qs, r, rfl, m1, m2, m3, m4⟩ := hm'
  clear hm
  go_wp2
  go_ret
  exact ⟨qs, r, rfl, m1, m2, by rw [m3, HP.out], m4⟩
theorem rmulLow_neg (v u : Value) (w : World) {i : Int} (hi : i < 0) :
    Calls Try.prog 19 #[v, u, .int .i64 i] w fun e w' => e = .returned (.tuple #[.slice none 0 0, .int .i64 3]) ∧ w' = w := by
  go_enter Try.func19, Try.ntmps19
  go_wp2
  go_ret2
  exact ⟨rfl, rfl⟩
theorem rmulLow_any {w : World} {va vb : Value} {xs ys : List Int} (ha : Sl w.heap.size w va xs) (hb : Sl w.heap.size w vb ys) (la : xs.length ≤ 274877906944) (lb : ys.length ≤ 274877906944) {n : Nat} (hn : n ≤ 9223372036854775807) :
    Calls Try.prog 19 #[va, vb, .int .i64 (n : Int)] w (Makes2 w ((vn xs * vn ys % 2 ^ n : Nat) : Int)) := by
  have WA := hid ha.1
  have WB := hid hb.1
  have HM := hid ((rmul_makes ha hb (by omega) (by omega)).mono fun _ _ q => q.gives (val_mul_lt ha.1 hb.1))
  clear ha hb
  go_enter Try.func19, Try.ntmps19
  go_wp2_with fail
  refine HM.out.mono ?_
  rintro e w1 ⟨P, pa, pc, rfl, p0, cp, HP, lp, k1⟩
  have VP := hid (vn_mul WA.out WB.out cp.1 HP)
  clear HM HP
  go_wp2_with fail
  refine (rlow_any p0 hn (by omega)).mono ?_
  rintro e w2 ⟨zs, r, rfl, h2, h3, h4, h5⟩
  have g2 := below_step k1 h5
  have HV := hid h4
  have HM2 := hid (h2.mine.mono k1.size)
  clear h4 h5 h2
  go_wp2
  go_ret2
  exact ⟨zs, r, rfl, HM2.out, h3, by rw [HV.out, VP.out], g2⟩
theorem rpow_neg (v : Value) (w : World) {i : Int} (hi : i < 0) :
    Calls Try.prog 21 #[v, .int .i64 i] w fun e w' => e = .returned (.tuple #[.slice none 0 0, .int .i64 3]) ∧ w' = w := by
  go_enter Try.func21, Try.ntmps21
  go_wp2
  go_ret2
  exact ⟨rfl, rfl⟩
theorem rpow_big (v : Value) (w : World) {i : Int} (hi : 256 < i) :
    Calls Try.prog 21 #[v, .int .i64 i] w fun e w' => e = .returned (.tuple #[.slice none 0 0, .int .i64 5]) ∧ w' = w := by
  have h0 : ¬ i < 0 := by omega
  go_enter Try.func21, Try.ntmps21
  go_wp2
  go_ret2
  exact ⟨rfl, rfl⟩
set_option maxHeartbeats 1600000 in
theorem rpow_some {w : World} {va : Value} {xs : List Int} (ha : Sl w.heap.size w va xs) (hl : xs.length ≤ 2097152) {n : Nat} (hn : n ≤ 256) :
    Calls Try.prog 21 #[va, .int .i64 (n : Int)] w (Makes2 w (val xs ^ n)) := by
  have HA := hid ha
  have X0 := hid (val_nonneg ha.1)
  have X1 := hid (val_lt_pw ha.1)
  have HL2 : Hid (∀ e, e ≤ 256 → xs.length * e ≤ 536870912) := fun e he => by
    have := Nat.mul_le_mul hl he
    omega
  clear ha
  have hnew := hid (mine_row (B := w.heap.size) (zs := [1]) (k := 1) (Nat.le_refl _) canon_one.1 rfl (by omega) (Row.new w [1]))
  have hbel := hid ((Below.refl w.heap.size w).alloc (Nat.le_refl _) (.cells #[.int .u64 1] 32))
  go_enter Try.func21, Try.ntmps21
  go_wp2_with fail
  go_loopw [6, 7] (fun p i wr => ∃ (j : Nat) (zs : List Int), j ≤ n ∧ i = .int .i64 j ∧ Hid (Mine w.heap.size wr p zs) ∧ Hid (Canon zs) ∧ Hid (val zs = val xs ^ j) ∧ Hid (Below w.heap.size w wr)) (fun _ i _ => n - (intOf i).toNat)
  case atStart => exact ⟨0, [1], Nat.zero_le _, rfl, hnew, hid canon_one, (by unfold Hid; simp [val]), hbel⟩
  case round =>
    clear hnew hbel
    obtain ⟨j, zs, hj, rfl, HM, HC, HV, hb⟩ := hrel
    by_cases hlt : j < n
    · have hlen := pow_len X0.out X1.out HC.out HV.out
      have hl2 := HL2.out j (by omega)
      have HMU := hid (rmul_makes HM.out.sl (HA.out.now hb.out) (by omega) (by omega))
      obtain ⟨pa, pc, rfl⟩ := HM.out.form
      clear hlen hl2
      go_wp2_with fail
      refine HMU.out.mono ?_
      rintro e w2 ⟨qs, q, rfl, m1, m2, m3, m4⟩
      have HM2 := hid (m1.mono hb.out.size)
      have HC2 := hid m2
      have HV2 : Hid (val qs = val xs ^ (j + 1)) := by unfold Hid; rw [m3, HV.out, Int.pow_succ]
      have hb2 := hid (below_step hb.out m4)
      clear m1 m2 m3 m4 HMU
      go_wp2
      go_roundw
      case rel => exact ⟨j + 1, qs, by omega, by go_num, HM2, HC2, HV2, hb2⟩
      case measure => first | (simp [intOf]; done) | (simp [intOf]; omega)
    · obtain rfl : j = n := by omega
      obtain ⟨pa, pc, rfl⟩ := HM.out.form
      go_wp2
      go_ret2
      exact ⟨zs, _, rfl, HM.out, HC.out, HV.out, hb.out⟩
theorem prodv_next (Xs : List (List Int)) (i : Nat) (h : i < Xs.length) : prodv (Xs.take (i + 1)) = prodv (Xs.take i) * val Xs[i] := by
  rw [List.take_succ_eq_append_getElem h, prodv_append]
  simp [prodv]
theorem len_tot : ∀ (Xs : List (List Int)) (i : Nat) (h : i < Xs.length), Xs[i].length ≤ tot Xs
  | [], i, h => by simp at h
  | x :: r, 0, _ => by simp [tot]
  | x :: r, i + 1, h => by
    have := len_tot r i (by simpa using h)
    simp only [List.getElem_cons_succ, tot]
    omega
set_option maxHeartbeats 1600000 in
theorem rproduct_any {w : World} {v : Value} {Xs : List (List Int)} (h : Ls w.heap.size w v Xs) (ht : tot Xs ≤ 1073741824) :
    Calls Try.prog 22 #[v] w (Makes w (prodv Xs)) := by
  have HLS := hid h
  have HWF := hid h.wf
  obtain ⟨a, cap, rfl, h2, h2', h3⟩ := h
  obtain ⟨n, hn⟩ : ∃ n, Xs.length = n := ⟨_, rfl⟩
  have HN := hid hn
  rw [hn] at h2 h2' HLS ⊢
  have HH : Hid (Xs = [] ∨ ∃ b off, a = some ⟨b, off, none⟩) := by
    unfold Hid
    rcases h3 with e | ⟨b, off, e, _⟩
    · exact .inl e
    · exact .inr ⟨b, off, e⟩
  have hnew := hid (mine_row (B := w.heap.size) (zs := [1]) (k := 1) (Nat.le_refl _) canon_one.1 rfl (by omega) (Row.new w [1]))
  have hbel := hid ((Below.refl w.heap.size w).alloc (Nat.le_refl _) (.cells #[.int .u64 1] 32))
  clear h3 hn
  go_enter Try.func22, Try.ntmps22
  go_wp2_with fail
  go_loopw [3, 4] (fun p i wr => ∃ (j : Nat) (zs : List Int), j ≤ n ∧ i = .int .i64 j ∧ Hid (Mine w.heap.size wr p zs) ∧ Hid (Canon zs) ∧ Hid (val zs = prodv (Xs.take j)) ∧ Hid (Below w.heap.size w wr)) (fun _ i _ => n - (intOf i).toNat)
  case atStart => exact ⟨0, [1], Nat.zero_le _, rfl, hnew, hid canon_one, (by unfold Hid; simp [val, prodv]), hbel⟩
  case round =>
    clear hnew hbel
    obtain ⟨j, zs, hj, rfl, HM, HC, HV, hb⟩ := hrel
    by_cases hlt : j < n
    · have hj2 : j < Xs.length := by have := HN.out; omega
      rcases HH.out with e | ⟨b, off, rfl⟩
      · subst e; simp at hj2
      have hat := HLS.out.now hb.out
      obtain ⟨a', cap', he, _, _, e | ⟨b', off', e, hbw, hcell⟩⟩ := hat
      · rw [e] at hj2; simp at hj2
      simp only [Value.slice.injEq] at he
      obtain ⟨rfl, hnx, rfl⟩ := he
      clear hnx
      simp only [Option.some.injEq, Addr.mk.injEq, and_true] at e
      obtain ⟨rfl, rfl⟩ := e
      obtain ⟨u, c1, su, _⟩ := hcell j hj2
      have lz := canon_len HC.out (by rw [HV.out]; exact prodv_lt (fun x hx => HWF.out x (List.mem_of_mem_take hx)))
      have lt : tot (Xs.take j) ≤ tot Xs := by have := tot_halves Xs j; omega
      have lu := len_tot Xs j hj2
      have HMU := hid (rmul_makes HM.out.sl su (by omega) (by omega))
      have HVS := hid (prodv_next Xs j hj2)
      obtain ⟨ua, uc, rfl⟩ : ∃ ua uc, u = .slice ua Xs[j].length uc := by obtain ⟨_, a, ca, e, _⟩ := su; exact ⟨a, ca, e⟩
      obtain ⟨pa, pc, rfl⟩ := HM.out.form
      generalize Xs[j] = xj at *
      clear lz lt lu su hcell
      go_wp2_with fail
      refine HMU.out.mono ?_
      rintro e w2 ⟨qs, q, rfl, m1, m2, m3, m4⟩
      have HM2 := hid (m1.mono hb.out.size)
      have HC2 := hid m2
      have HV2 : Hid (val qs = prodv (Xs.take (j + 1))) := by unfold Hid; rw [m3, HV.out, HVS.out]
      have hb2 := hid (below_step hb.out m4)
      clear m1 m2 m3 m4 HMU c1
      go_wp2
      go_roundw
      case rel => exact ⟨j + 1, qs, by omega, by go_num, HM2, HC2, HV2, hb2⟩
      case measure => first | (simp [intOf]; done) | (simp [intOf]; omega)
    · obtain rfl : j = n := by omega
      obtain ⟨pa, pc, rfl⟩ := HM.out.form
      go_wp2
      go_ret
      exact ⟨zs, _, rfl, HM.out, HC.out, by rw [HV.out, List.take_of_length_le (by have := HN.out; omega)], hb.out⟩
end Go.Proofs.Ytnbjlpeclaieeaa
