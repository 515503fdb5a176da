/-
  QKe12ToRm12: Ke12, Dz12, Du12, Rc12, Rm12, joined.
-/
import Derived.Test.YtonmlmdnjjafhaaGreatQSb12ToCo12
import Derived.Test.YtonmlmdnjjafhaaGreatQPr12ToFn12
import Derived.Test.YtonmlmdnjjafhaaGreatQCw12ToTy9
import Derived.Test.YtonmlmdnjjafhaaGreatQCols9ToOpenM9
import Derived.Test.YtonmlmdnjjafhaaGreatQR5AddToLess6
import Derived.Test.YtonmlmdnjjafhaaGreatQFil9ToRowsOf9
import Derived.Test.YtonmlmdnjjafhaaGreatQRs12ToTailA

/- Ke12 -/
namespace Go.Proofs.YtonmlmdnjjafhaaGreat
open Go.RowKit
set_option linter.unusedVariables false

theorem cornL_wide {N top left : Nat} {ms : List (List Int)} (h : WidE N ms) : WidE (N - left) (cornL top left ms) := fun l hl => by
  obtain ⟨x, hx, rfl⟩ := List.mem_map.1 hl
  rw [List.length_drop, h x (List.mem_of_mem_drop hx)]
theorem cornL_res {p top left : Nat} {ms : List (List Int)} (h : ResM p ms) : ResM p (cornL top left ms) := fun l hl => by
  obtain ⟨x, hx, rfl⟩ := List.mem_map.1 hl
  exact fun y hy => h x (List.mem_of_mem_drop hx) y (List.mem_of_mem_drop hy)
theorem cornL_len {top left r : Nat} {ms : List (List Int)} (h : ms.length = r) : (cornL top left ms).length = r - top := by simp [cornL, h]
/-- The kernel's rows. -/
def kerL (p r c : Nat) (zs : List Int) : List (List Int) := cornL (wkR p r c zs) c (wkS p r c zs).m
set_option maxHeartbeats 3200000 in
set_option maxRecDepth 100000 in
theorem kernel12 {w : World} {v : Value} {p r c : Nat} {zs : List Int} {K : Nat} (hp : gdB p = true) (h : Mx w v r c zs K) (hK : K ≤ 1099511627775) :
    Calls Tryz.prog 25 #[v, .int .u64 (p : Int)] w (GivesMO w (r - wkR p r c zs) r (kerL p r c zs).flatten 1) := by
  obtain ⟨hpr, hp2⟩ := gd_parts hp
  have hp1 := hpr.1
  have hm0 := h
  obtain ⟨a, cap, rfl, hr, hc⟩ := h.form
  have hl : zs.length = r * c := by obtain ⟨_, _, _, _, _, q, _⟩ := hm0; exact q
  have OKS := hid (wk_ok (p := p) (c := c) (r := r) hp1 hl)
  have HKF : Hid (kerL p r c zs = cornL (wkR p r c zs) c (wkS p r c zs).m) := rfl
  have HRK : Hid (wkR p r c zs ≤ r) := Nat.le_trans (cntB_le _ _) OKS.out.piv
  obtain ⟨n, hn⟩ : ∃ n, r * c = n := ⟨_, rfl⟩
  rw [hn] at hm0 ⊢
  obtain ⟨W0, hW⟩ : ∃ W0, (w.alloc (mrO (r : Int) (c : Int) a n cap)).alloc mbox = W0 := ⟨_, rfl⟩
  have b0 : Below w.heap.size w W0 := by rw [← hW]; exact ((Below.refl _ _).alloc (Nat.le_refl _) _).alloc (by simp) _
  have P1 : Hid (Cel W0 w.heap.size 24 (mrC (r : Int) (c : Int) a n cap)) := by unfold Hid; rw [← hW]; exact (Cel.new w _ _).step (alo12 _ _).1
  have PR : Hid (Cel W0 (w.heap.size + 1) 24 [.int .i64 0, .int .i64 0, .slice none 0 0]) := by
    unfold Hid; rw [← hW]
    have := Cel.new (w.alloc (mrO (r : Int) (c : Int) a n cap)) 24 [.int .i64 0, .int .i64 0, .slice none 0 0]
    simpa using this
  have x0 := P1.out.at (i := 0) rfl
  have x1 := P1.out.at (i := 1) rfl
  have x2 := P1.out.at (i := 2) rfl
  rw [← hW] at x0 x1 x2
  have HF := hid (fault12 (s := true) (f := true) (p := p) (hm0.now b0).chk)
  rw [fault_zero hp] at HF
  have HWO : Hid (∀ w', Below W0.heap.size W0 w' → Calls Tryz.prog 47 #[matv r c (.slice a n cap), .int .u64 (p : Int)] w' (Worked w' p r c zs)) := fun w' q => worked12 hp ((hm0.now b0).now q) hK
  have G0 := hid b0
  have EW := hid hW
  obtain ⟨KL, hKL⟩ : ∃ KL, kerL p r c zs = KL := ⟨_, rfl⟩
  rw [hKL] at HKF ⊢
  have HWU : Hid (∀ w' e x, Worked w' p r c zs e x → ∃ lv gs pa pcap, e = .returned (.tuple #[shv p (c + r) lv, .slice pa (wkR p r c zs) pcap]) ∧ Lns w'.heap.size x lv (c + r) gs (wkS p r c zs).m ∧ Below w'.heap.size w' x) := fun _ _ _ q => q
  obtain ⟨rk, hrk⟩ : ∃ rk, wkR p r c zs = rk := ⟨_, rfl⟩
  obtain ⟨S, hS⟩ : ∃ S, wkS p r c zs = S := ⟨_, rfl⟩
  rw [hrk] at HKF HRK HWU ⊢
  rw [hS] at HKF HWU OKS
  obtain ⟨N, hN⟩ : ∃ N, c + r = N := ⟨_, rfl⟩
  have HNN := hid hN
  rw [hN] at HWU OKS
  have HKW : Hid (WidE r KL) := by
    unfold Hid
    rw [HKF.out]
    have := cornL_wide (top := rk) (left := c) OKS.out.wid
    rw [show N - c = r by omega] at this
    exact this
  have HKR : Hid (ResM p KL) := by unfold Hid; rw [HKF.out]; exact cornL_res OKS.out.res
  have HKN : Hid (KL.length = r - rk) := by unfold Hid; rw [HKF.out]; exact cornL_len OKS.out.len
  clear b0 hW h hm0 hK hl hn hpr hp hKL hrk hS hN
  go_enter Tryz.func25, Tryz.ntmps25
  go_wp2_with fail
  rw [EW.out]
  refine HF.out.mono ?_
  rintro e w1 ⟨rfl, b1⟩
  have q0 : ((0 : Int) != 0) = false := rfl
  replace P1 := hid (P1.out.step b1)
  have z0 := P1.out.at (i := 0) rfl
  have z1 := P1.out.at (i := 1) rfl
  have z2 := P1.out.at (i := 2) rfl
  have HW1 := hid (HWO.out _ b1)
  have G1 := hid (below_step G0.out b1)
  replace PR := hid (PR.out.step b1)
  clear HF b1 x0 x1 x2 EW G0 HWO
  go_wp2_with fail
  refine HW1.out.mono ?_
  intro e w2 hwk
  obtain ⟨lv, gs, pa, pcap, rfl, hln, b2⟩ := HWU.out _ _ _ hwk
  clear hwk
  have G2 := hid (below_step G1.out b2)
  obtain ⟨la, lcap, rfl, -, -⟩ := hln.form
  rw [OKS.out.len] at hln ⊢
  obtain ⟨V, hV⟩ : ∃ V, w2.alloc (shO p N (.slice la r lcap)) = V := ⟨_, rfl⟩
  obtain ⟨bV, szV⟩ := alo12 w2 (shO p N (.slice la r lcap))
  rw [hV] at bV szV
  have PB : Hid (Cel V w2.heap.size 66 (shc p N (.slice la r lcap))) := by unfold Hid; rw [← hV]; exact Cel.new w2 _ _
  have HCO := hid (corner12 (p := p) (top := rk) (left := c) (hln.now bV) OKS.out.len hr (by have := HNN.out; omega) HRK.out (by have := HNN.out; omega) (fun _ => by have := HNN.out; omega))
  rw [← HKF.out] at HCO
  have HNC : Hid (N - c = r) := by unfold Hid; have := HNN.out; omega
  rw [HNC.out] at HCO
  replace PR := hid ((PR.out.step b2).step bV)
  replace P1 := hid ((P1.out.step b2).step bV)
  have y0 := PB.out.at (i := 0) rfl
  have y1 := PB.out.at (i := 1) rfl
  have y2 := PB.out.at (i := 2) rfl
  have z1' := P1.out.at (i := 1) rfl
  rw [← hV] at y0 y1 y2 z1'
  have EV := hid hV
  have GV := hid (below_step G2.out bV)
  clear HW1 hln b2 z0 z1 z2 G1 G2 bV szV hV HWU
  go_wp2_with fail
  rw [EV.out]
  refine HCO.out.mono ?_
  rintro e w4 ⟨lv4, rfl, hrd, b4⟩
  obtain ⟨la4, lcap4, rfl, -, -⟩ := hrd.form
  rw [HKN.out] at hrd ⊢
  have HMT := hid (matrix12 (p := p) hrd HKW.out HKR.out hp2 HKN.out (by omega) hr)
  have PR4 := hid (PR.out.step b4)
  have G4 := hid (below_step GV.out b4)
  clear HCO hrd b4 y0 y1 y2 z1' EV GV PR PB P1
  go_wp2_with fail
  refine HMT.out.mono ?_
  rintro e w5 ⟨v5, rfl, hm5, b5⟩
  have PR5 := hid (PR4.out.step b5)
  have G5 := hid (below_step G4.out b5)
  obtain ⟨a5, q5, rfl, -, -⟩ := hm5.mx.form
  obtain ⟨la9, hla⟩ : ∃ la9, (r - rk) * r = la9 := ⟨_, rfl⟩
  obtain ⟨r9, hr9⟩ : ∃ r9, r - rk = r9 := ⟨_, rfl⟩
  rw [hla] at hm5 ⊢
  rw [hr9] at hm5 ⊢
  have FIN : Hid (GivesMO w (r - rk) r KL.flatten 1 (.returned (.tuple #[.agg #[.int .i64 (r9 : Int), .int .i64 (r : Int), .slice a5 la9 q5], .int .i64 0])) (put3 w5 (w.heap.size + 1) (.int .i64 (r9 : Int)) (.int .i64 (r : Int)) (.slice a5 la9 q5))) := by
    unfold Hid
    rw [hr9]
    exact ⟨_, rfl, hm5.wk PR5.out _ _ _, below_put3 G5.out (by omega) _ _ _⟩
  have PF := hid (PR5.out.put3 (.int .i64 (r9 : Int)) (.int .i64 (r : Int)) (.slice a5 la9 q5))
  have r0 := PR5.out.at (i := 0) rfl
  have r1 := PR5.out.at (i := 1) rfl
  have r2 := PR5.out.at (i := 2) rfl
  have f0 := PR5.out.fz 0
  have f1 := PR5.out.fz 1
  have f2 := PR5.out.fz 2
  clear HMT hm5 b5 PR4 G4 PR5 G5
  go_wp2
  exact bodyPost_ret (mback1 Tryz.results25 PF.out _ (by rfl) (by rfl)) rfl FIN.out
end Go.Proofs.YtonmlmdnjjafhaaGreat

/- Dz12 -/
namespace Go.Proofs.YtonmlmdnjjafhaaGreat
set_option linter.unusedVariables false

def su : Nat → (Nat → Int) → Int
  | 0, _ => 0
  | n + 1, f => su n f + f n

theorem su_congr : ∀ {n : Nat} {f g : Nat → Int}, (∀ k, k < n → f k = g k) → su n f = su n g
  | 0, _, _, _ => rfl
  | n + 1, f, g, h => by
    show su n f + f n = su n g + g n
    rw [su_congr (fun k hk => h k (by omega)), h n (by omega)]
theorem su_zero : ∀ {n : Nat} {f : Nat → Int}, (∀ k, k < n → f k = 0) → su n f = 0
  | 0, _, _ => rfl
  | n + 1, f, h => by
    show su n f + f n = 0
    rw [su_zero (fun k hk => h k (by omega)), h n (by omega)]; rfl
theorem su_add : ∀ (n : Nat) (f g : Nat → Int), su n (fun k => f k + g k) = su n f + su n g
  | 0, _, _ => rfl
  | n + 1, f, g => by
    show su n (fun k => f k + g k) + (f n + g n) = su n f + f n + (su n g + g n)
    rw [su_add n f g]; omega
theorem su_mul : ∀ (n : Nat) (c : Int) (f : Nat → Int), su n (fun k => c * f k) = c * su n f
  | 0, c, _ => by show (0 : Int) = c * 0; simp
  | n + 1, c, f => by
    show su n (fun k => c * f k) + c * f n = c * (su n f + f n)
    rw [su_mul n c f, Int.mul_add]
theorem su_mulr (n : Nat) (c : Int) (f : Nat → Int) : su n (fun k => f k * c) = su n f * c := by
  rw [Int.mul_comm, ← su_mul]; exact su_congr fun k _ => Int.mul_comm _ _
theorem su_swap : ∀ (n m : Nat) (f : Nat → Nat → Int), su n (fun i => su m (fun j => f i j)) = su m (fun j => su n (fun i => f i j))
  | 0, m, f => by
    show (0 : Int) = _
    exact (su_zero fun k _ => rfl).symm
  | n + 1, m, f => by
    show su n (fun i => su m (fun j => f i j)) + su m (fun j => f n j) = su m (fun j => su n (fun i => f i j) + f n j)
    rw [su_add, su_swap n m f]
theorem su_one : ∀ {n i : Nat} {f : Nat → Int}, i < n → (∀ k, k < n → k ≠ i → f k = 0) → su n f = f i
  | 0, i, f, h, _ => by omega
  | n + 1, i, f, h, hz => by
    show su n f + f n = f i
    by_cases hi : i = n
    · subst hi
      rw [su_zero (fun k hk => hz k (by omega) (by omega))]; omega
    · rw [su_one (by omega : i < n) (fun k hk hne => hz k (by omega) hne), hz n (by omega) (by omega)]; omega
/-- Two neighbours that cancel, all others 0. -/
theorem su_pair : ∀ {n i : Nat} {f : Nat → Int}, i + 1 < n → (∀ k, k < n → k ≠ i → k ≠ i + 1 → f k = 0) → f i + f (i + 1) = 0 → su n f = 0
  | 0, i, f, h, _, _ => by omega
  | n + 1, i, f, h, hz, hc => by
    show su n f + f n = 0
    by_cases hi : i + 1 = n
    · subst hi
      rw [su_one (by omega : i < i + 1) (fun k hk hne => hz k (by omega) hne (by omega))]; exact hc
    · rw [su_pair (by omega : i + 1 < n) (fun k hk h1 h2 => hz k (by omega) h1 h2) hc, hz n (by omega) (by omega) (by omega)]; rfl
theorem su_dvd {p : Int} : ∀ {n : Nat} {f : Nat → Int}, (∀ k, k < n → p ∣ f k) → p ∣ su n f
  | 0, _, _ => Int.dvd_zero p
  | n + 1, f, h => Int.dvd_add (su_dvd fun k hk => h k (by omega)) (h n (by omega))

def skd (i k : Nat) : Nat := if k < i then k else k + 1
def sgd : Nat → Int
  | 0 => 1
  | n + 1 => - sgd n
def dlz (i j : Nat) : Int := if i = j then 1 else 0
def stR (A : Nat → Nat → Int) (i : Nat) (u : Nat → Int) : Nat → Nat → Int := fun r c => if r = i then u c else A r c
def det : Nat → (Nat → Nat → Int) → Int
  | 0, _ => 1
  | n + 1, A => su (n + 1) fun i => sgd i * A i 0 * det n (fun r c => A (skd i r) (c + 1))

theorem det_congr : ∀ {n : Nat} {A B : Nat → Nat → Int}, (∀ i j, i < n → j < n → A i j = B i j) → det n A = det n B
  | 0, _, _, _ => rfl
  | n + 1, A, B, h => su_congr fun i hi => by
    show sgd i * A i 0 * det n (fun r c => A (skd i r) (c + 1)) = sgd i * B i 0 * det n (fun r c => B (skd i r) (c + 1))
    rw [h i 0 hi (by omega), det_congr (A := fun r c => A (skd i r) (c + 1)) (B := fun r c => B (skd i r) (c + 1)) fun r c hr hc => h _ _ (by unfold skd; split <;> omega) (by omega)]

/-- Linear and alternating in n rows of n entries. -/
structure Alt (n : Nat) (F : (Nat → Nat → Int) → Int) : Prop where
  congr : ∀ A B : Nat → Nat → Int, (∀ i j, i < n → j < n → A i j = B i j) → F A = F B
  lin : ∀ (A : Nat → Nat → Int) (i : Nat) (u v : Nat → Int) (x y : Int), i < n → F (stR A i fun j => x * u j + y * v j) = x * F (stR A i u) + y * F (stR A i v)
  alt : ∀ (A : Nat → Nat → Int) (i : Nat), i + 1 < n → (∀ j, j < n → A i j = A (i + 1) j) → F A = 0

theorem det_alt : ∀ n : Nat, Alt n (det n)
  | 0 => ⟨fun _ _ _ => rfl, fun _ i _ _ _ _ h => by omega, fun _ i h => by omega⟩
  | n + 1 => by
    have IH := det_alt n
    refine ⟨fun A B h => det_congr h, fun A a u v x y ha => ?_, fun A a ha he => ?_⟩
    · show su (n + 1) _ = x * su (n + 1) _ + y * su (n + 1) _
      rw [← su_mul, ← su_mul, ← su_add]
      refine su_congr fun i hi => ?_
      by_cases hia : i = a
      · subst hia
        have e : ∀ z : Nat → Int, det n (fun r c => stR A i z (skd i r) (c + 1)) = det n (fun r c => A (skd i r) (c + 1)) := fun z => det_congr fun r c _ _ => if_neg (by unfold skd; split <;> omega)
        have e0 : ∀ z : Nat → Int, stR A i z i 0 = z 0 := fun z => if_pos rfl
        simp only [e, e0]
        grind
      · have e0 : ∀ z : Nat → Int, stR A a z i 0 = A i 0 := fun z => if_neg hia
        obtain ⟨b, hb, hbn⟩ : ∃ b, skd i b = a ∧ b < n := ⟨if a < i then a else a - 1, by unfold skd; grind, by split <;> omega⟩
        have e : ∀ z : Nat → Int, det n (fun r c => stR A a z (skd i r) (c + 1)) = det n (stR (fun r c => A (skd i r) (c + 1)) b fun c => z (c + 1)) := fun z => det_congr fun r c _ _ => by
          show (if skd i r = a then z (c + 1) else A (skd i r) (c + 1)) = if r = b then z (c + 1) else A (skd i r) (c + 1)
          by_cases hrb : r = b
          · rw [if_pos (by rw [hrb]; exact hb), if_pos hrb]
          · rw [if_neg (by rw [← hb]; unfold skd; grind), if_neg hrb]
        simp only [e, e0]
        rw [IH.lin _ b _ _ x y hbn]
        grind
    · refine su_pair (i := a) ha (fun i hi h1 h2 => ?_) ?_
      · have h0 : det n (fun r c => A (skd i r) (c + 1)) = 0 := by
          refine IH.alt _ (if i < a then a - 1 else a) (by split <;> omega) fun j hj => ?_
          have e1 : skd i (if i < a then a - 1 else a) = a := by unfold skd; split <;> split <;> omega
          have e2 : skd i ((if i < a then a - 1 else a) + 1) = a + 1 := by unfold skd; split <;> split <;> omega
          show A (skd i (if i < a then a - 1 else a)) (j + 1) = A (skd i ((if i < a then a - 1 else a) + 1)) (j + 1)
          rw [e1, e2]; exact he _ (by omega)
        rw [h0, Int.mul_zero]
      · have e : det n (fun r c => A (skd a r) (c + 1)) = det n (fun r c => A (skd (a + 1) r) (c + 1)) := det_congr fun r c hr hc => by
          by_cases hra : r = a
          · subst hra
            have e1 : skd r r = r + 1 := by unfold skd; split <;> omega
            have e2 : skd (r + 1) r = r := by unfold skd; split <;> omega
            show A (skd r r) (c + 1) = A (skd (r + 1) r) (c + 1)
            rw [e1, e2]; exact (he _ (by omega)).symm
          · have e1 : skd a r = skd (a + 1) r := by unfold skd; split <;> split <;> omega
            show A (skd a r) (c + 1) = A (skd (a + 1) r) (c + 1)
            rw [e1]
        rw [e, he 0 (by omega)]
        show _ + - sgd a * _ * _ = 0
        grind

theorem stR_self (A : Nat → Nat → Int) (i : Nat) : stR A i (A i) = A := by
  funext r c; unfold stR; split <;> simp_all
theorem stR_two {A : Nat → Nat → Int} {i k : Nat} (h : i ≠ k) (u v : Nat → Int) : stR (stR A i u) k v = stR (stR A k v) i u := by
  funext r c; unfold stR; split <;> split <;> simp_all
theorem stR_over {A : Nat → Nat → Int} {i : Nat} (u v : Nat → Int) : stR (stR A i u) i v = stR A i v := by
  funext r c; unfold stR; split <;> simp_all
theorem stR_at (A : Nat → Nat → Int) (i : Nat) (u : Nat → Int) : stR A i u i = u := by funext c; simp [stR]
theorem stR_off (A : Nat → Nat → Int) {i k : Nat} (h : k ≠ i) (u : Nat → Int) : stR A i u k = A k := by funext c; simp [stR, h]

section
variable {n : Nat} {F : (Nat → Nat → Int) → Int}
theorem Alt.add (h : Alt n F) {A : Nat → Nat → Int} {i : Nat} (hi : i < n) (u v : Nat → Int) : F (stR A i fun j => u j + v j) = F (stR A i u) + F (stR A i v) := by
  have := h.lin A i u v 1 1 hi
  simpa using this
theorem Alt.mul (h : Alt n F) {A : Nat → Nat → Int} {i : Nat} (hi : i < n) (x : Int) (u : Nat → Int) : F (stR A i fun j => x * u j) = x * F (stR A i u) := by
  have := h.lin A i u u x 0 hi
  simpa using this
/-- Two rows are made equal to the sum of two: what swapping does, where equal rows give 0. -/
theorem Alt.swap_of (h : Alt n F) {A : Nat → Nat → Int} {i k : Nat} (hi : i < n) (hk : k < n) (hik : i ≠ k)
    (h0 : ∀ u : Nat → Int, F (stR (stR A i u) k u) = 0) : F (stR (stR A i (A k)) k (A i)) = - F A := by
  have h1 := h0 fun j => A i j + A k j
  rw [h.add hk, stR_two hik, stR_two hik, h.add hi, h.add hi, stR_two (Ne.symm hik), stR_two (Ne.symm hik), stR_two (Ne.symm hik), stR_two (Ne.symm hik)] at h1
  have h2 := h0 (A i)
  have h3 := h0 (A k)
  rw [h2, h3] at h1
  rw [stR_self A i, stR_self A k] at h1
  omega
theorem Alt.swap1 (h : Alt n F) {A : Nat → Nat → Int} {i : Nat} (hi : i + 1 < n) : F (stR (stR A i (A (i + 1))) (i + 1) (A i)) = - F A :=
  h.swap_of (by omega) hi (by omega) fun u => h.alt _ i hi fun j _ => by rw [stR_at, stR_off _ (by omega), stR_at]
theorem Alt.equal (h : Alt n F) : ∀ (d : Nat) {A : Nat → Nat → Int} {i : Nat}, i + d + 1 < n → (∀ j, j < n → A i j = A (i + d + 1) j) → F A = 0
  | 0, A, i, hi, he => h.alt A i hi he
  | d + 1, A, i, hi, he => by
    have h1 := h.swap1 (A := A) (i := i + d + 1) (by omega)
    have h2 := Alt.equal h d (A := stR (stR A (i + d + 1) (A (i + d + 1 + 1))) (i + d + 1 + 1) (A (i + d + 1))) (i := i) (by omega) (fun j hj => by
      rw [stR_off _ (by omega), stR_off _ (by omega), stR_off _ (by omega), stR_at]; exact he j hj)
    rw [h2] at h1; omega
theorem Alt.same (h : Alt n F) {A : Nat → Nat → Int} {i k : Nat} (hi : i < n) (hk : k < n) (hik : i ≠ k) (he : ∀ j, j < n → A i j = A k j) : F A = 0 := by
  rcases Nat.lt_or_gt_of_ne hik with hl | hl
  · obtain ⟨d, rfl⟩ : ∃ d, k = i + d + 1 := ⟨k - i - 1, by omega⟩
    exact h.equal d hk he
  · obtain ⟨d, rfl⟩ : ∃ d, i = k + d + 1 := ⟨i - k - 1, by omega⟩
    exact h.equal d hi fun j hj => (he j hj).symm
theorem Alt.swap (h : Alt n F) {A : Nat → Nat → Int} {i k : Nat} (hi : i < n) (hk : k < n) (hik : i ≠ k) : F (stR (stR A i (A k)) k (A i)) = - F A :=
  h.swap_of hi hk hik fun u => h.same hi hk hik fun j _ => by rw [stR_at, stR_off _ hik, stR_at]
theorem Alt.plus (h : Alt n F) {A : Nat → Nat → Int} {i k : Nat} (hi : i < n) (hk : k < n) (hik : i ≠ k) (t : Int) : F (stR A i fun j => A i j + t * A k j) = F A := by
  rw [h.add hi, h.mul hi, stR_self, h.same (A := stR A i (A k)) hi hk hik fun j _ => by rw [stR_at, stR_off _ (Ne.symm hik)]]
  omega
theorem Alt.sum (h : Alt n F) {A : Nat → Nat → Int} {i : Nat} (hi : i < n) (x : Nat → Int) (U : Nat → Nat → Int) : ∀ m : Nat, F (stR A i fun j => su m fun k => x k * U k j) = su m fun k => x k * F (stR A i (U k))
  | 0 => by
    have := h.mul (A := A) hi 0 (fun _ => 0)
    simpa [su] using this
  | m + 1 => by
    show F (stR A i fun j => (su m fun k => x k * U k j) + x m * U m j) = (su m fun k => x k * F (stR A i (U k))) + x m * F (stR A i (U m))
    rw [h.add hi, Alt.sum h hi x U m, h.mul hi]
theorem Alt.nul (h : Alt n F) {A : Nat → Nat → Int} {i : Nat} (hi : i < n) (hz : ∀ j, j < n → A i j = 0) : F A = 0 := by
  have h1 := h.mul (A := A) hi 0 (A i)
  rw [h.congr (stR A i fun j => 0 * A i j) A (fun r c hr hc => by
    unfold stR; split
    · next e => rw [e, hz c hc]; exact Int.zero_mul _
    · rfl)] at h1
  omega
end
end Go.Proofs.YtonmlmdnjjafhaaGreat

/- Du12 -/
namespace Go.Proofs.YtonmlmdnjjafhaaGreat
set_option linter.unusedVariables false

/-- A row with a 0 put in at place j. -/
def insd (j : Nat) (u : Nat → Int) (c : Nat) : Int := if c < j then u c else if c = j then 0 else u (c - 1)
/-- The unit row j above a matrix with a column of zeros put in at j. -/
def capd (j : Nat) (B : Nat → Nat → Int) : Nat → Nat → Int
  | 0, c => dlz j c
  | r + 1, c => insd j (B r) c

theorem capd_stR (j : Nat) (B : Nat → Nat → Int) (i : Nat) (u : Nat → Int) : capd j (stR B i u) = stR (capd j B) (i + 1) (insd j u) := by
  funext r c
  cases r with
  | zero => simp [capd, stR]
  | succ r =>
    show insd j (stR B i u r) c = if r + 1 = i + 1 then insd j u c else insd j (B r) c
    by_cases h : r = i
    · subst h; rw [stR_at, if_pos rfl]
    · rw [stR_off _ h, if_neg (by omega)]

theorem Alt.cap {n j : Nat} {F : (Nat → Nat → Int) → Int} (h : Alt (n + 1) F) (hj : j ≤ n) : Alt n fun B => F (capd j B) := by
  refine ⟨fun A B e => h.congr _ _ fun r c hr hc => ?_, fun A i u v x y hi => ?_, fun A i hi e => h.alt _ (i + 1) (by omega) fun c hc => ?_⟩
  · cases r with
    | zero => rfl
    | succ r =>
      show insd j (A r) c = insd j (B r) c
      unfold insd
      split
      · exact e r c (by omega) (by omega)
      · split
        · rfl
        · exact e r (c - 1) (by omega) (by omega)
  · show F (capd j (stR A i _)) = x * F (capd j (stR A i u)) + y * F (capd j (stR A i v))
    rw [capd_stR, capd_stR, capd_stR, ← h.lin _ (i + 1) _ _ x y (by omega)]
    congr 2
    funext c
    unfold insd
    split
    · rfl
    · split
      · simp
      · rfl
  · show insd j (A i) c = insd j (A (i + 1)) c
    unfold insd
    split
    · exact e c (by omega)
    · split
      · rfl
      · exact e (c - 1) (by omega)

/-- The unit matrix with row j moved to the top. -/
theorem Alt.top {n : Nat} {F : (Nat → Nat → Int) → Int} (h : Alt (n + 1) F) : ∀ {j : Nat}, j ≤ n → F (capd j dlz) = sgd j * F dlz
  | 0, _ => by
    show _ = 1 * _
    rw [Int.one_mul]
    refine h.congr _ _ fun r c _ _ => ?_
    cases r with
    | zero => rfl
    | succ r => show insd 0 (dlz r) c = _; unfold insd dlz; grind
  | j + 1, hj => by
    have h1 := Alt.top h (j := j) (by omega)
    have h2 := h.swap (A := capd j dlz) (i := 0) (k := j + 1) (by omega) (by omega) (by omega)
    show _ = - sgd j * _
    rw [Int.neg_mul, ← h1, ← h2]
    refine h.congr _ _ fun r c _ _ => ?_
    by_cases hr : r = j + 1
    · subst hr
      rw [stR_at]
      show insd (j + 1) (dlz j) c = dlz j c
      unfold insd dlz; grind
    · rw [stR_off _ hr]
      cases r with
      | zero =>
        rw [stR_at]
        show dlz (j + 1) c = insd j (dlz j) c
        unfold insd dlz; grind
      | succ r =>
        rw [stR_off _ (by omega)]
        show insd (j + 1) (dlz r) c = insd j (dlz r) c
        unfold insd dlz; grind

/-- Under a unit row the column may be cleared. -/
theorem Alt.clear {n j : Nat} {F : (Nat → Nat → Int) → Int} (h : Alt (n + 1) F) (hj : j ≤ n) (A : Nat → Nat → Int) : F (stR A 0 (dlz j)) = F (capd j fun r c => A (r + 1) (skd j c)) := by
  have key : ∀ k, k ≤ n → F (stR A 0 (dlz j)) = F (fun r c => if r = 0 then dlz j c else if r ≤ k then insd j (fun c => A r (skd j c)) c else A r c) := by
    intro k
    induction k with
    | zero => intro _; exact h.congr _ _ fun r c _ _ => by unfold stR; grind
    | succ k ih =>
      intro hk
      rw [ih (by omega)]
      rw [← h.plus (A := fun r c => if r = 0 then dlz j c else if r ≤ k then insd j (fun c => A r (skd j c)) c else A r c) (i := k + 1) (k := 0) (by omega) (by omega) (by omega) (- A (k + 1) j)]
      refine h.congr _ _ fun r c _ _ => ?_
      by_cases hr : r = k + 1
      · subst hr
        rw [stR_at]
        simp only [Nat.add_one_ne_zero, if_false, if_true]
        rw [if_neg (by omega), if_pos (by omega)]
        unfold insd dlz skd; grind
      · rw [stR_off _ hr]
        grind
  rw [key n (Nat.le_refl n)]
  refine h.congr _ _ fun r c hr _ => ?_
  cases r with
  | zero => rfl
  | succ r =>
    show (if r + 1 = 0 then _ else if r + 1 ≤ n then _ else _) = insd j (fun c => A (r + 1) (skd j c)) c
    rw [if_neg (by omega), if_pos (by omega)]

/-- By the first row. -/
def exd (n : Nat) (A : Nat → Nat → Int) : Int := su (n + 1) fun j => sgd j * A 0 j * det n (fun r c => A (r + 1) (skd j c))
theorem Alt.exp {n : Nat} (IH : ∀ G, Alt n G → ∀ B, G B = det n B * G dlz) {F : (Nat → Nat → Int) → Int} (h : Alt (n + 1) F) (A : Nat → Nat → Int) : F A = exd n A * F dlz := by
  have e0 : F A = F (stR A 0 fun c => su (n + 1) fun j => A 0 j * dlz j c) := h.congr _ _ fun r c _ hc => by
    by_cases hr : r = 0
    · subst hr
      rw [stR_at, su_one (i := c) hc fun k _ hk => by unfold dlz; rw [if_neg hk]; simp]
      unfold dlz; simp
    · rw [stR_off _ hr]
  rw [e0, h.sum (by omega)]
  unfold exd
  rw [← su_mulr]
  refine su_congr fun j hj => ?_
  rw [h.clear (by omega), IH _ (h.cap (by omega)), h.top (by omega)]
  grind

theorem det_unit : ∀ n : Nat, det n dlz = 1
  | 0 => rfl
  | n + 1 => by
    show su (n + 1) _ = 1
    rw [su_one (i := 0) (by omega) fun k _ hk => by unfold dlz; rw [if_neg hk]; simp]
    have e : det n (fun r c => dlz (skd 0 r) (c + 1)) = 1 := by
      rw [← det_unit n]; exact det_congr fun r c _ _ => by unfold dlz skd; grind
    rw [e]; simp [sgd, dlz]

/-- What is linear and alternating is the determinant times its value at the unit matrix. -/
theorem Alt.eq : ∀ {n : Nat} {F : (Nat → Nat → Int) → Int}, Alt n F → ∀ A, F A = det n A * F dlz
  | 0, F, h, A => by
    show F A = 1 * F dlz
    rw [Int.one_mul]; exact h.congr _ _ fun i j hi _ => by omega
  | n + 1, F, h, A => by
    have h1 := Alt.exp (fun G hG B => Alt.eq hG B) h A
    have h2 := Alt.exp (fun G hG B => Alt.eq hG B) (det_alt (n + 1)) A
    rw [det_unit, Int.mul_one] at h2
    rw [h2]; exact h1
theorem det_row (n : Nat) (A : Nat → Nat → Int) : det (n + 1) A = exd n A := by
  have h2 := Alt.exp (fun G hG B => Alt.eq hG B) (det_alt (n + 1)) A
  rwa [det_unit, Int.mul_one] at h2

theorem det_turn : ∀ (n : Nat) (A : Nat → Nat → Int), det n (fun i j => A j i) = det n A
  | 0, _ => rfl
  | n + 1, A => by
    rw [det_row n A]
    exact su_congr fun i _ => by
      show sgd i * A 0 i * det n (fun r c => A (c + 1) (skd i r)) = sgd i * A 0 i * det n (fun r c => A (r + 1) (skd i c))
      rw [det_turn n (fun r c => A (r + 1) (skd i c))]

def muz (m : Nat) (A B : Nat → Nat → Int) : Nat → Nat → Int := fun i j => su m fun k => A i k * B k j
theorem muz_alt (n : Nat) (B : Nat → Nat → Int) : Alt n fun A => det n (muz n A B) := by
  have e : ∀ (A : Nat → Nat → Int) (i : Nat) (u : Nat → Int), muz n (stR A i u) B = stR (muz n A B) i fun j => su n fun k => u k * B k j := fun A i u => by
    funext r c
    unfold muz stR
    split <;> simp_all
  refine ⟨fun A C h => det_congr fun i j hi hj => su_congr fun k hk => by rw [h i k hi hk], fun A i u v x y hi => ?_, fun A i hi he => (det_alt n).alt _ i hi fun j hj => su_congr fun k hk => by rw [he k hk]⟩
  show det n (muz n (stR A i _) B) = x * det n (muz n (stR A i u) B) + y * det n (muz n (stR A i v) B)
  rw [e, e, e, ← (det_alt n).lin _ i _ _ x y hi]
  congr 2
  funext j
  rw [← su_mul, ← su_mul, ← su_add]
  exact su_congr fun k _ => by grind
theorem det_mul (n : Nat) (A B : Nat → Nat → Int) : det n (muz n A B) = det n A * det n B := by
  have h := Alt.eq (muz_alt n B) A
  rw [h]
  congr 1
  exact det_congr fun i j hi _ => by
    show su n (fun k => dlz i k * B k j) = B i j
    rw [su_one (i := i) hi fun k _ hk => by unfold dlz; rw [if_neg (Ne.symm hk)]; simp]
    unfold dlz; simp

theorem det_dvd {p : Int} : ∀ {n : Nat} {A B : Nat → Nat → Int}, (∀ i j, i < n → j < n → p ∣ A i j - B i j) → p ∣ det n A - det n B
  | 0, _, _, _ => by show p ∣ 1 - 1; exact Int.dvd_zero p
  | n + 1, A, B, h => by
    have e : det (n + 1) A - det (n + 1) B = su (n + 1) fun i => sgd i * A i 0 * det n (fun r c => A (skd i r) (c + 1)) - sgd i * B i 0 * det n (fun r c => B (skd i r) (c + 1)) := by
      have h1 := su_add (n + 1) (fun i => sgd i * A i 0 * det n (fun r c => A (skd i r) (c + 1)) - sgd i * B i 0 * det n (fun r c => B (skd i r) (c + 1))) (fun i => sgd i * B i 0 * det n (fun r c => B (skd i r) (c + 1)))
      have h2 := su_congr (n := n + 1) (f := fun i => sgd i * A i 0 * det n (fun r c => A (skd i r) (c + 1)) - sgd i * B i 0 * det n (fun r c => B (skd i r) (c + 1)) + sgd i * B i 0 * det n (fun r c => B (skd i r) (c + 1))) (g := fun i => sgd i * A i 0 * det n (fun r c => A (skd i r) (c + 1))) fun i _ => by omega
      rw [h2] at h1
      show su (n + 1) _ - su (n + 1) _ = _
      rw [h1]; omega
    rw [e]
    refine su_dvd fun i hi => ?_
    have h1 : p ∣ A i 0 - B i 0 := h i 0 hi (by omega)
    have h2 : p ∣ det n (fun r c => A (skd i r) (c + 1)) - det n (fun r c => B (skd i r) (c + 1)) := det_dvd fun r c hr hc => h _ _ (by unfold skd; split <;> omega) (by omega)
    obtain ⟨x, hx⟩ := h1
    obtain ⟨y, hy⟩ := h2
    refine ⟨sgd i * x * det n (fun r c => A (skd i r) (c + 1)) + sgd i * B i 0 * y, ?_⟩
    grind
end Go.Proofs.YtonmlmdnjjafhaaGreat

/- Rc12 -/
namespace Go.Proofs.YtonmlmdnjjafhaaGreat
open Go.RowKit
set_option linter.unusedVariables false

def RCk (w : World) (e : Ending) (w' : World) : Prop := e = .returned (.int .i64 0) ∧ Below w.heap.size w w'
set_option maxHeartbeats 1600000 in
set_option maxRecDepth 100000 in
theorem rcheck12 {w : World} {r c : Nat} {a : Option Addr} {l cap : Nat} (hr : r ≤ 64) (hc : c ≤ 64) (hl : l = r * c) : Calls Tryz.prog 42 #[matv r c (.slice a l cap)] w (RCk w) := by
  obtain ⟨W0, hW⟩ : ∃ W0, w.alloc (matO r c (.slice a l cap)) = W0 := ⟨_, rfl⟩
  obtain ⟨b0, sz0⟩ := alo1 w (matO r c (.slice a l cap))
  rw [hW] at b0 sz0
  have P1 : Hid (Cel W0 w.heap.size 24 (matc r c (.slice a l cap))) := by unfold Hid; rw [← hW]; exact Cel.new w _ _
  have x0 := P1.out.at (i := 0) rfl
  have x1 := P1.out.at (i := 1) rfl
  have x2 := P1.out.at (i := 2) rfl
  rw [← hW] at x0 x1 x2
  have G0 := hid b0
  have EW := hid hW
  clear b0 sz0 hW P1
  have h1 : ¬ (r : Int) < 0 := by omega
  have h2 : ¬ (64 : Int) < (r : Int) := by omega
  have h3 : ¬ (c : Int) < 0 := by omega
  have h4 : ¬ (64 : Int) < (c : Int) := by omega
  have hw := wrapM9 (i := r) (c := c) hr hc
  rw [← hl] at hw
  have hw2 := hw
  rw [IntKind.wrap_i64] at hw2
  have q0 : ((l : Int) != (l : Int)) = false := by simp
  clear hl
  go_enter Tryz.func42, Tryz.ntmps42
  go_wp2
  rw [EW.out]
  go_ret
  exact ⟨rfl, G0.out⟩
theorem rcheckM {w : World} {v : Value} {r c : Nat} {zs : List Int} {K0 : Nat} (h : Mx w v r c zs K0) : ∀ w', Below w.heap.size w w' → Calls Tryz.prog 42 #[v] w' (RCk w') := fun w' hb => by
  obtain ⟨a, cap, rfl, h1, h2⟩ := h.form
  exact rcheck12 h1 h2 rfl
set_option maxHeartbeats 1600000 in
set_option maxRecDepth 100000 in
theorem rboth12 {w : World} {va vb : Value} {r m r' c : Nat} {xs ys : List Int} {k l : Nat} (ha : Mx w va r m xs k) (hb : Mx w vb r' c ys l) : Calls Tryz.prog 39 #[va, vb] w (RCk w) := by
  have CA := hid (rcheckM ha)
  have CB := hid (rcheckM hb)
  obtain ⟨a1, cap1, rfl, -, -⟩ := ha.form
  obtain ⟨a2, cap2, rfl, -, -⟩ := hb.form
  obtain ⟨n1, hn1⟩ : ∃ n1, r * m = n1 := ⟨_, rfl⟩
  obtain ⟨n2, hn2⟩ : ∃ n2, r' * c = n2 := ⟨_, rfl⟩
  rw [hn1] at CA ⊢
  rw [hn2] at CB ⊢
  clear ha hb hn1 hn2
  obtain ⟨W0, hW⟩ : ∃ W0, (w.alloc (matO r m (.slice a1 n1 cap1))).alloc (matO r' c (.slice a2 n2 cap2)) = W0 := ⟨_, rfl⟩
  have b0 : Below w.heap.size w W0 := by rw [← hW]; exact ((Below.refl _ _).alloc (Nat.le_refl _) _).alloc (by simp) _
  have PA : Hid (Cel W0 w.heap.size 24 (matc r m (.slice a1 n1 cap1))) := by
    unfold Hid; rw [← hW]
    exact (Cel.new w _ _).step ((Below.refl _ _).alloc (Nat.le_refl _) _)
  have PB : Hid (Cel W0 (w.heap.size + 1) 24 (matc r' c (.slice a2 n2 cap2))) := by
    unfold Hid; rw [← hW]
    have := Cel.new (w.alloc (matO r m (.slice a1 n1 cap1))) 24 (matc r' c (.slice a2 n2 cap2))
    simpa using this
  have x0 := PA.out.at (i := 0) rfl
  have x1 := PA.out.at (i := 1) rfl
  have x2 := PA.out.at (i := 2) rfl
  rw [← hW] at x0 x1 x2
  have G0 := hid b0
  have EW := hid hW
  clear b0 hW
  go_enter Tryz.func39, Tryz.ntmps39
  go_wp2_with fail
  rw [EW.out]
  refine (CA.out _ G0.out).mono ?_
  rintro e w1 ⟨rfl, b1⟩
  have G1 := hid (below_step G0.out b1)
  have PB1 := hid (PB.out.step b1)
  have y0 := PB1.out.at (i := 0) rfl
  have y1 := PB1.out.at (i := 1) rfl
  have y2 := PB1.out.at (i := 2) rfl
  clear x0 x1 x2 EW PA PB G0 b1
  go_wp2_with fail
  refine (CB.out _ G1.out).mono ?_
  rintro e w2 ⟨rfl, b2⟩
  have G2 := hid (below_step G1.out b2)
  clear y0 y1 y2 PB1 G1 b2
  go_wp2
  go_ret
  exact ⟨rfl, G2.out⟩
def Blanked (w : World) (r c n : Nat) (e : Ending) (w' : World) : Prop := ∃ g, e = .returned (matv r c (.slice (some ⟨g, 0, none⟩) n n)) ∧ w.heap.size ≤ g ∧ Arr w' g (List.replicate n zpair) ∧ Below w.heap.size w w'
set_option maxHeartbeats 1600000 in
set_option maxRecDepth 100000 in
theorem rblank12 {w : World} {r c n : Nat} (hr : r ≤ 64) (hc : c ≤ 64) (hn : r * c = n) : Calls Tryz.prog 40 #[.int .i64 (r : Int), .int .i64 (c : Int)] w (Blanked w r c n) := by
  obtain ⟨W0, hW⟩ : ∃ W0, w.alloc mbox = W0 := ⟨_, rfl⟩
  obtain ⟨b0, sz0⟩ := alo1 w mbox
  rw [hW] at b0 sz0
  have P4 := hid (mbox_new hW)
  have hm0 := wrapM9 (i := r) (c := c) hr hc
  have hrc : r * c ≤ 64 * 64 := Nat.mul_le_mul hr hc
  rw [hn] at hm0 hrc
  have hm2 := hm0
  rw [IntKind.wrap_i64] at hm2
  have G0 := hid b0
  have EW := hid hW
  have SZ := hid sz0
  clear b0 hW sz0 hn
  go_enter Tryz.func40, Tryz.ntmps40
  go_wp2_with (at_make; rw [EW.out]; refine wpList_make_pairs9 _ rfl _ _ rfl _ _ n n rfl rfl rfl rfl (Nat.le_refl _) (by omega) ?_)
  intro w2 hrow hb2 hsz2
  have PR := hid (P4.out.step hb2)
  have r0 := PR.out.at (i := 0) rfl
  have r1 := PR.out.at (i := 1) rfl
  have r2 := PR.out.at (i := 2) rfl
  have f0 := PR.out.fz 0
  have f1 := PR.out.fz 1
  have f2 := PR.out.fz 2
  have FIN : Hid (Blanked w r c n (.returned (.agg #[.int .i64 (r : Int), .int .i64 (c : Int), .slice (some ⟨W0.heap.size, 0, none⟩) n n])) (put3 w2 w.heap.size (.int .i64 (r : Int)) (.int .i64 (c : Int)) (.slice (some ⟨W0.heap.size, 0, none⟩) n n))) :=
    ⟨_, rfl, by have := SZ.out; omega, hrow.put3 (by have := SZ.out; omega) _ _ _, below_put3 (below_step G0.out hb2) (Nat.le_refl _) _ _ _⟩
  have PF := hid (PR.out.put3 (.int .i64 (r : Int)) (.int .i64 (c : Int)) (.slice (some ⟨W0.heap.size, 0, none⟩) n n))
  clear P4 hrow hb2 hsz2 G0 EW
  go_wp2
  exact bodyPost_ret (mback Tryz.results40 PF.out _ (by rfl)) rfl FIN.out
end Go.Proofs.YtonmlmdnjjafhaaGreat

/- Rm12 -/
namespace Go.Proofs.YtonmlmdnjjafhaaGreat
open Go.RowKit
set_option linter.unusedVariables false

theorem Cel.ty12 {T T' : TypeId} {w w' : World} {b : Nat} {L : List Value} (h : Cel w b T L) (ht : Ty T' w w') (hT : T ≠ T') : Cel w' b T L := ht.2 b _ _ _ h hT
theorem Duo.ty12 {w : World} {b : Nat} {x y : Value} (d : Duo w b x y) (u u' : Value) : Ty 36 w ((w.setCell ⟨b, 0, none⟩ u).setCell ⟨b, 1, none⟩ u') :=
  (Ty.set (show Cel w b 36 [x, y] from d)).trans (Ty.set (show Cel _ b 36 [u, y] from d.set0 u))
theorem Arr.ty12 {w : World} {g t : Nat} {ps : List (Value × Value)} (h : Arr w g ps) (x y : Value) : Ty 36 w ((w.setCell ⟨g, t * 2, none⟩ x).setCell ⟨g, t * 2 + 1, none⟩ y) :=
  (Ty.set h.1).trans (Ty.set (h.1.set _ _))
theorem FilM.box {w : World} {g n i : Nat} {F : Nat → Int} {k b : Nat} {x y : Value} (h : FilM w g n i F k) (d : Duo w b x y) (hne : b ≠ g) (u u' : Value) : FilM ((w.setCell ⟨b, 0, none⟩ u).setCell ⟨b, 1, none⟩ u') g n i F k := by
  obtain ⟨ps, h1, h2, h3⟩ := h
  exact ⟨ps, (h1.ne hne).ne hne, h2, fun j p hj hp => (h3 j p hj hp).box d u u'⟩
theorem FilM.ty12 {w : World} {g n i : Nat} {F : Nat → Int} {k t : Nat} (h : FilM w g n i F k) (x y : Value) : Ty 36 w ((w.setCell ⟨g, t * 2, none⟩ x).setCell ⟨g, t * 2 + 1, none⟩ y) := by
  obtain ⟨ps, h1, h2, h3⟩ := h
  exact h1.ty12 x y
theorem FilM.blk {w : World} {g n i : Nat} {F : Nat → Int} {k : Nat} (h : FilM w g n i F k) : g < w.heap.size := by
  obtain ⟨ps, h1, h2, h3⟩ := h
  exact h1.1.blk
/-- Where the calls of matrices keep what came in, their answer and what they make. -/
def MB (w wx : World) (bm : Nat) (A0 B0 M0 : List Value) : Prop := Cel wx w.heap.size 24 A0 ∧ Cel wx (w.heap.size + 1) 24 B0 ∧ Cel wx (w.heap.size + 1 + 1) 24 [.int .i64 0, .int .i64 0, .slice none 0 0] ∧ Cel wx bm 24 M0 ∧ Below w.heap.size w wx
theorem MB.step {w x y : World} {bm : Nat} {A0 B0 M0 : List Value} (h : MB w x bm A0 B0 M0) (hb : Below x.heap.size x y) : MB w y bm A0 B0 M0 := ⟨h.1.step hb, h.2.1.step hb, h.2.2.1.step hb, h.2.2.2.1.step hb, below_step h.2.2.2.2 hb⟩
theorem MB.ty {w x y : World} {bm : Nat} {A0 B0 M0 : List Value} (h : MB w x bm A0 B0 M0) (ht : Ty 36 x y) (hb : Below w.heap.size w y) : MB w y bm A0 B0 M0 := ⟨h.1.ty12 ht (by decide), h.2.1.ty12 ht (by decide), h.2.2.1.ty12 ht (by decide), h.2.2.2.1.ty12 ht (by decide), hb⟩
def mulF (m c : Nat) (xs ys : List Int) (i j : Nat) (k : Nat) : Int := su k fun t => xs.getD (i * m + t) 0 * ys.getD (t * c + j) 0
/-- The entry at a place, row by row. -/
def mulE (m c : Nat) (xs ys : List Int) (t : Nat) : Int := mulF m c xs ys (t / c) (t % c) m
def mulL (r m c : Nat) (xs ys : List Int) : List Int := (List.range (r * c)).map (mulE m c xs ys)
theorem mulE_at {m c i j : Nat} {xs ys : List Int} (hj : j < c) : mulE m c xs ys (i * c + j) = mulF m c xs ys i j m := by
  unfold mulE
  have e1 : (i * c + j) / c = i := by rw [Nat.mul_comm, Nat.mul_add_div (by omega), Nat.div_eq_of_lt hj]; omega
  have e2 : (i * c + j) % c = j := by rw [Nat.mul_comm, Nat.mul_add_mod, Nat.mod_eq_of_lt hj]
  rw [e1, e2]
def MulI (w : World) (bm g r c N : Nat) (F : Nat → Int) (kk : Nat) (A0 B0 M0 : List Value) (gk : Nat) (s : Value) (wx : World) : Prop :=
  ∃ i : Nat, s = .int .i64 (i : Int) ∧ i ≤ r ∧ gk = r - i ∧ FilM wx g N (i * c) F kk ∧ MB w wx bm A0 B0 M0
def MulJ (w : World) (bm g i c N : Nat) (F : Nat → Int) (kk : Nat) (A0 B0 M0 : List Value) (gk : Nat) (s : Value) (wx : World) : Prop :=
  ∃ j : Nat, s = .int .i64 (j : Int) ∧ j ≤ c ∧ gk = c - j ∧ FilM wx g N (i * c + j) F kk ∧ MB w wx bm A0 B0 M0
def MulK (w : World) (bm g T m N bx : Nat) (F : Nat → Int) (f : Nat → Int) (kk k0 : Nat) (A0 B0 M0 : List Value) (gk : Nat) (s : Value) (wx : World) : Prop :=
  ∃ t : Nat, s = .int .i64 (t : Int) ∧ t ≤ m ∧ gk = m - t ∧ FilM wx g N T F kk ∧ MB w wx bm A0 B0 M0 ∧ ∃ n a l c, Duo wx bx (.bool n) (.slice a l c) ∧ Zm 0 wx (.agg #[.bool n, .slice a l c]) (f t) (k0 + t)
theorem place12 {r c i j : Nat} (hi : i < r) (hj : j < c) : i * c + j < r * c := by
  have : (i + 1) * c ≤ r * c := Nat.mul_le_mul_right c hi
  rw [Nat.succ_mul] at this
  omega
theorem Prs.isI12 {B : Nat} {w : World} {v : Value} {ps : List (Value × Value)} {zs : List Int} {k t : Nat} (h : Prs B w v ps) (hz : Zis w ps zs k) (ht : t < zs.length) : ∃ b off cap n a l c, v = .slice (some ⟨b, off, none⟩) zs.length cap ∧ w.cell? ⟨b, off + t * 2, none⟩ = some (.bool n) ∧ w.cell? ⟨b, off + t * 2 + 1, none⟩ = some (.slice a l c) ∧ Zi w (.agg #[.bool n, .slice a l c]) (zs.getD t 0) k := by
  obtain ⟨a0, c0, rfl, h2, h3, h4, h5⟩ := h.form
  obtain ⟨b, off, rfl, -⟩ := h5 (fun e => by have := hz.1; rw [e] at this; simp at this; omega)
  have hp : ps[t]? = some (ps[t]'(by have := hz.1; omega)) := List.getElem?_eq_getElem (by have := hz.1; omega)
  have hq : zs[t]? = some (zs[t]) := List.getElem?_eq_getElem ht
  have h6 := hz.2 t _ _ hp hq
  obtain ⟨n, a, l, c, e⟩ := h6.isI
  have h7 := h.at hp
  have e' : ps[t]'(by have := hz.1; omega) = (.bool n, .slice a l c) := e
  rw [e'] at h6 h7
  refine ⟨b, off, c0, n, a, l, c, by rw [hz.1], h7.1, h7.2, ?_⟩
  have : zs.getD t 0 = zs[t] := by simp [ht]
  rw [this]; exact h6
set_option maxHeartbeats 3200000 in
set_option maxRecDepth 100000 in
theorem rmul12 {w : World} {va vb : Value} {r m c : Nat} {xs ys : List Int} {ka kb : Nat} (ha : Mx w va r m xs ka) (hb : Mx w vb m c ys kb) (hk : ka + kb + 64 ≤ 1099511627776) :
    Calls Tryz.prog 16 #[va, vb] w (GivesMO w r c (mulL r m c xs ys) (ka + kb + 64)) := by
  have HBT : Hid (∀ w', Below w.heap.size w w' → Calls Tryz.prog 39 #[va, vb] w' (RCk w')) := fun w' h => rboth12 (ha.now h) (hb.now h)
  have HBL : Hid (∀ w', Calls Tryz.prog 40 #[.int .i64 (r : Int), .int .i64 (c : Int)] w' (Blanked w' r c (r * c))) := by
    obtain ⟨_, _, _, h1, _⟩ := ha.form
    obtain ⟨_, _, _, _, h2⟩ := hb.form
    exact fun w' => rblank12 h1 h2 rfl
  obtain ⟨ata, pa, rfl, pa1, pa2, pa3, hr, hm⟩ := ha
  obtain ⟨atb, pb, rfl, pb1, pb2, pb3, -, hc⟩ := hb
  have HAA : Hid (∀ wx, Below w.heap.size w wx → ∀ t, t < r * m → ∃ b off cap n a l c, ata = .slice (some ⟨b, off, none⟩) (r * m) cap ∧ wx.cell? ⟨b, off + t * 2, none⟩ = some (.bool n) ∧ wx.cell? ⟨b, off + t * 2 + 1, none⟩ = some (.slice a l c) ∧ Zi wx (.agg #[.bool n, .slice a l c]) (xs.getD t 0) ka) := fun wx h t ht => by
    have := (pa1.now h).isI12 (pa2.now h) (t := t) (by rw [pa3]; exact ht)
    rw [pa3] at this
    exact this
  have HBB : Hid (∀ wx, Below w.heap.size w wx → ∀ t, t < m * c → ∃ b off cap n a l c', atb = .slice (some ⟨b, off, none⟩) (m * c) cap ∧ wx.cell? ⟨b, off + t * 2, none⟩ = some (.bool n) ∧ wx.cell? ⟨b, off + t * 2 + 1, none⟩ = some (.slice a l c') ∧ Zi wx (.agg #[.bool n, .slice a l c']) (ys.getD t 0) kb) := fun wx h t ht => by
    have := (pb1.now h).isI12 (pb2.now h) (t := t) (by rw [pb3]; exact ht)
    rw [pb3] at this
    exact this
  have hrc : r * c ≤ 64 * 64 := Nat.mul_le_mul hr hc
  obtain ⟨N, hN⟩ : ∃ N, r * c = N := ⟨_, rfl⟩
  have HNN := hid hN
  rw [hN] at HBL hrc
  obtain ⟨W0, hW⟩ : ∃ W0, ((w.alloc (matO r m ata)).alloc (matO m c atb)).alloc mbox = W0 := ⟨_, rfl⟩
  obtain ⟨b0, sz0⟩ := alloc3 w (matO r m ata) (matO m c atb) mbox
  rw [hW] at b0 sz0
  have PA : Hid (Cel W0 w.heap.size 24 (matc r m ata)) := by
    unfold Hid; rw [← hW]
    exact (((Cel.new w 24 (matc r m ata)).step ((Below.refl _ _).alloc (Nat.le_refl _) _)).step ((Below.refl _ _).alloc (Nat.le_refl _) _))
  have PB : Hid (Cel W0 (w.heap.size + 1) 24 (matc m c atb)) := by
    unfold Hid; rw [← hW]
    have := ((Cel.new (w.alloc (matO r m ata)) 24 (matc m c atb)).step ((Below.refl _ _).alloc (Nat.le_refl _) mbox))
    simpa using this
  have PR : Hid (Cel W0 (w.heap.size + 1 + 1) 24 [.int .i64 0, .int .i64 0, .slice none 0 0]) := by
    unfold Hid; rw [← hW]
    have := Cel.new ((w.alloc (matO r m ata)).alloc (matO m c atb)) 24 [.int .i64 0, .int .i64 0, .slice none 0 0]
    simpa using this
  have x0 := PA.out.at (i := 0) rfl
  have x1 := PA.out.at (i := 1) rfl
  have x2 := PA.out.at (i := 2) rfl
  have y0 := PB.out.at (i := 0) rfl
  have y1 := PB.out.at (i := 1) rfl
  have y2 := PB.out.at (i := 2) rfl
  rw [← hW] at x0 x1 x2 y0 y1 y2
  have G0 := hid b0
  have SZ := hid sz0
  have HK := hid hk
  have EW := hid hW
  clear pa1 pa2 pb1 pb2 pa3 pb3 b0 sz0 hW hk hN
  go_enter Tryz.func16, Tryz.ntmps16
  go_wp2_with fail
  rw [EW.out]
  refine (HBT.out _ G0.out).mono ?_
  rintro e w1 ⟨rfl, b1⟩
  have PA1 := hid (PA.out.step b1)
  have PB1 := hid (PB.out.step b1)
  have PR1 := hid (PR.out.step b1)
  have G1 := hid (below_step G0.out b1)
  clear x0 x1 x2 y0 y1 y2 EW PA PB PR G0 HBT
  have x0 := PA1.out.at (i := 0) rfl
  have x1 := PA1.out.at (i := 1) rfl
  have y0 := PB1.out.at (i := 0) rfl
  have y1 := PB1.out.at (i := 1) rfl
  have sz1 := b1.size
  have q0 : ((m : Int) != (m : Int)) = false := by simp
  go_wp2_with fail
  refine (HBL.out _).mono ?_
  rintro e w2 ⟨g, rfl, hge, harr, b2⟩
  clear x0 x1 y0 y1 q0 HBL
  obtain ⟨V1, hV⟩ : ∃ V1, w2.alloc (matO r c (.slice (some ⟨g, 0, none⟩) N N)) = V1 := ⟨_, rfl⟩
  obtain ⟨b3, sz3⟩ := alo1 w2 (matO r c (.slice (some ⟨g, 0, none⟩) N N))
  rw [hV] at b3 sz3
  have PM : Hid (Cel V1 w2.heap.size 24 (matc r c (.slice (some ⟨g, 0, none⟩) N N))) := by unfold Hid; rw [← hV]; exact Cel.new w2 _ _
  have HGW : Hid (w.heap.size + 1 + 1 < g) := by unfold Hid; have h1 := SZ.out; omega
  have H0 : Hid (MulI w w2.heap.size g r c N (mulE m c xs ys) (ka + kb + 64) (matc r m ata) (matc m c atb) (matc r c (.slice (some ⟨g, 0, none⟩) N N)) r (.int .i64 0) V1) :=
    ⟨0, rfl, Nat.zero_le _, by omega, by rw [Nat.zero_mul]; exact (FilM.start harr _ _).step b3, (PA1.out.step b2).step b3, (PB1.out.step b2).step b3, (PR1.out.step b2).step b3, PM.out, below_step (below_step G1.out b2) b3⟩
  have hsz2 := b2.size
  have HBM : Hid (w.heap.size + 1 + 1 < w2.heap.size) := by unfold Hid; have h1 := SZ.out; omega
  have EV := hid hV
  clear PA1 PB1 PR1 G1 harr b1 b2 b3 sz3 PM hV hge SZ sz1 hsz2
  go_wp2_with fail
  rw [EV.out]
  clear EV
  obtain ⟨bm, hbm⟩ : ∃ bm, w2.heap.size = bm := ⟨_, rfl⟩
  rw [hbm] at H0 HBM ⊢
  clear hbm
  go_loopg [8] r (fun gk s8 wx => MulI w bm g r c N (mulE m c xs ys) (ka + kb + 64) (matc r m ata) (matc m c atb) (matc r c (.slice (some ⟨g, 0, none⟩) N N)) gk s8 wx)
  case atStart => exact H0.out
  case round =>
    clear H0
    obtain ⟨i, rfl, hin, hg, hfil, hmb⟩ := hrel
    have FI := hid hfil
    have MBx := hid hmb
    have HG := hid hg
    clear hfil hmb hg
    have x0 := MBx.out.1.at (i := 0) rfl
    by_cases hlt : i < r
    · have hlt' : (i : Int) < (r : Int) := by omega
      have hw := wrapI9 (i := i) (by omega)
      have HMM : Hid (r - (i + 1) < gk) := by unfold Hid; rw [HG.out]; omega
      have H1 : Hid (MulJ w bm g i c N (mulE m c xs ys) (ka + kb + 64) (matc r m ata) (matc m c atb) (matc r c (.slice (some ⟨g, 0, none⟩) N N)) c (.int .i64 0) wr) := ⟨0, rfl, Nat.zero_le _, by omega, FI.out, MBx.out⟩
      clear HG FI MBx
      go_wp2_with fail
      go_loopg [9] c (fun gk2 s9 wx => MulJ w bm g i c N (mulE m c xs ys) (ka + kb + 64) (matc r m ata) (matc m c atb) (matc r c (.slice (some ⟨g, 0, none⟩) N N)) gk2 s9 wx)
      case atStart => exact H1.out
      case round =>
        clear H1 x0
        obtain ⟨j, rfl, hjn, hg, hfil, hmb⟩ := hrel
        have FI := hid hfil
        have MBx := hid hmb
        have HG := hid hg
        clear hfil hmb hg
        have y1 := MBx.out.2.1.at (i := 1) rfl
        by_cases hlt2 : j < c
        · have hlt2' : (j : Int) < (c : Int) := by omega
          have hw2 := wrapI9 (i := j) (by omega)
          have HMM2 : Hid (c - (j + 1) < gk) := by unfold Hid; rw [HG.out]; omega
          obtain ⟨X1, hX⟩ : ∃ X1, wr.alloc zbox = X1 := ⟨_, rfl⟩
          obtain ⟨b1, sz1⟩ := alo1 wr zbox
          rw [hX] at b1 sz1
          have PX : Hid (Duo X1 wr.heap.size (.bool false) (.slice none 0 0)) := by unfold Hid; rw [← hX]; exact Duo.new wr _ _
          obtain ⟨bx, hbx⟩ : ∃ bx, wr.heap.size = bx := ⟨_, rfl⟩
          have HGX : Hid (g < bx ∧ w.heap.size < bx) := by unfold Hid; rw [← hbx]; exact ⟨FI.out.blk, MBx.out.1.blk⟩
          have H2 : Hid (MulK w bm g (i * c + j) m N bx (mulE m c xs ys) (mulF m c xs ys i j) (ka + kb + 64) (ka + kb) (matc r m ata) (matc m c atb) (matc r c (.slice (some ⟨g, 0, none⟩) N N)) m (.int .i64 0) X1) :=
            ⟨0, rfl, Nat.zero_le _, by omega, FI.out.step b1, MBx.out.step b1, false, none, 0, 0, by rw [← hbx]; exact PX.out, ⟨false, [], none, 0, rfl, Mine.nil _ _, ⟨WF.nil, rfl⟩, fun _ => rfl, by simp [iv, val, mulF, su], Nat.zero_le _⟩⟩
          have EX := hid hX
          have HBX := hid hbx
          have hmc : i * c + j < N := by rw [← HNN.out]; exact place12 hlt hlt2
          clear b1 sz1 hX PX FI MBx HG hbx
          go_wp2_with fail
          rw [EX.out, HBX.out]
          clear EX HBX y1
          go_loopg [11] m (fun gk3 s11 wx => MulK w bm g (i * c + j) m N bx (mulE m c xs ys) (mulF m c xs ys i j) (ka + kb + 64) (ka + kb) (matc r m ata) (matc m c atb) (matc r c (.slice (some ⟨g, 0, none⟩) N N)) gk3 s11 wx)
          case atStart => exact H2.out
          case round =>
            clear H2
            obtain ⟨t, rfl, htn, hg, hfil, hmb, ns, as_, ls, cs, hduo, hzm⟩ := hrel
            have FI := hid hfil
            have MBx := hid hmb
            have HG := hid hg
            have DX := hid hduo
            have ZX := hid hzm
            clear hfil hmb hg hduo hzm
            have x1 := MBx.out.1.at (i := 1) rfl
            by_cases hlt3 : t < m
            · have hlt3' : (t : Int) < (m : Int) := by omega
              have hw3 := wrapI9 (i := t) (by omega)
              have HMM3 : Hid (m - (t + 1) < gk) := by unfold Hid; rw [HG.out]; omega
              have hp1 : i * m + t < r * m := place12 hlt hlt3
              have hp2 : t * c + j < m * c := place12 hlt3 hlt2
              have hrm : r * m ≤ 64 * 64 := Nat.mul_le_mul hr hm
              have hmc2 : m * c ≤ 64 * 64 := Nat.mul_le_mul hm hc
              obtain ⟨b1, o1, c1, n1, a1, l1, d1, rfl, u0, u1, z1⟩ := HAA.out wr MBx.out.2.2.2.2 (i * m + t) hp1
              obtain ⟨b2, o2, c2, n2, a2, l2, d2, rfl, v0, v1, z2⟩ := HBB.out wr MBx.out.2.2.2.2 (t * c + j) hp2
              have k1 := wrapM9 (i := i) (c := m) (by omega) hm
              have k2 := wrapM9 (i := t) (c := c) (by omega) hc
              have k3 : IntKind.i64.wrap (((i * m : Nat) : Int) + (t : Int)) = ((i * m + t : Nat) : Int) := by rw [wrap_is] <;> omega
              have k4 : IntKind.i64.wrap (((t * c : Nat) : Int) + (j : Int)) = ((t * c + j : Nat) : Int) := by rw [wrap_is] <;> omega
              have HS : Hid (∀ w', Below wr.heap.size wr w' → Calls Tryz.prog 41 #[.agg #[.bool n1, .slice a1 l1 d1], .agg #[.bool n2, .slice a2 l2 d2], .agg #[.bool ns, .slice as_ ls cs]] w' (GivesZ w' (mulF m c xs ys i j (t + 1)) (ka + kb + (t + 1)))) := fun w' h => by
                have q := rmulAdd_z (z1.now h) (z2.now h) (ZX.out.zi.now h) (by have := HK.out; omega) (by have := HK.out; omega)
                refine q.mono ?_
                rintro e w'' ⟨rr, q1, q2, q3⟩
                refine ⟨rr, q1, ?_, q3⟩
                have e1 : xs.getD (i * m + t) 0 * ys.getD (t * c + j) 0 + mulF m c xs ys i j t = mulF m c xs ys i j (t + 1) := by
                  show _ = mulF m c xs ys i j t + xs.getD (i * m + t) 0 * ys.getD (t * c + j) 0
                  exact Int.add_comm _ _
                rw [e1] at q2
                exact q2.more (by omega)
              obtain ⟨n3, hn3⟩ : ∃ n3, r * m = n3 := ⟨_, rfl⟩
              obtain ⟨n4, hn4⟩ : ∃ n4, m * c = n4 := ⟨_, rfl⟩
              obtain ⟨q1, hq1⟩ : ∃ q1, i * m = q1 := ⟨_, rfl⟩
              obtain ⟨q2, hq2⟩ : ∃ q2, t * c = q2 := ⟨_, rfl⟩
              rw [hn3] at hp1 hrm MBx
              rw [hn4] at hp2 hmc2 MBx
              rw [hq1] at hp1 k1 k3 u0 u1
              rw [hq2] at hp2 k2 k4 v0 v1
              obtain ⟨t1, ht1⟩ : ∃ t1, q1 + t = t1 := ⟨_, rfl⟩
              obtain ⟨t2, ht2⟩ : ∃ t2, q2 + j = t2 := ⟨_, rfl⟩
              rw [ht1] at hp1 k3 u0 u1
              rw [ht2] at hp2 k4 v0 v1
              have hp1' : (t1 : Int) < (n3 : Int) := by omega
              have hp2' : (t2 : Int) < (n4 : Int) := by omega
              have k1' := k1
              have k2' := k2
              have k3' := k3
              have k4' := k4
              rw [IntKind.wrap_i64] at k1' k2' k3' k4'
              have x2 := MBx.out.1.at (i := 2) rfl
              have y1 := MBx.out.2.1.at (i := 1) rfl
              have y2 := MBx.out.2.1.at (i := 2) rfl
              have s0 := DX.out.c0
              have s1 := DX.out.c1
              have E3 := hid hn3
              have E4 := hid hn4
              clear z1 z2 hn3 hn4 hq1 hq2 ht1 ht2 HG ZX
              go_wp2_with fail
              have KB : Hid (∀ w', Below wr.heap.size wr w' → w'.cell? ⟨w.heap.size, 1, none⟩ = some (.int .i64 (m : Int)) ∧ w'.cell? ⟨w.heap.size, 2, none⟩ = some (.slice (some ⟨b1, o1, none⟩) n3 c1) ∧ w'.cell? ⟨w.heap.size + 1, 1, none⟩ = some (.int .i64 (c : Int)) ∧ w'.cell? ⟨w.heap.size + 1, 2, none⟩ = some (.slice (some ⟨b2, o2, none⟩) n4 c2) ∧ w'.cell? ⟨b1, o1 + t1 * 2, none⟩ = some (.bool n1) ∧ w'.cell? ⟨b1, o1 + t1 * 2 + 1, none⟩ = some (.slice a1 l1 d1) ∧ w'.cell? ⟨b2, o2 + t2 * 2, none⟩ = some (.bool n2) ∧ w'.cell? ⟨b2, o2 + t2 * 2 + 1, none⟩ = some (.slice a2 l2 d2) ∧ w'.cell? ⟨bx, 0, none⟩ = some (.bool ns) ∧ w'.cell? ⟨bx, 1, none⟩ = some (.slice as_ ls cs)) := fun w' h => ⟨cnow h x1, cnow h x2, cnow h y1, cnow h y2, cnow h u0, cnow h u1, cnow h v0, cnow h v1, cnow h s0, cnow h s1⟩
              refine wp_region_tail (fun w' => w'.cell? ⟨w.heap.size, 1, none⟩ = some (.int .i64 (m : Int)) ∧ w'.cell? ⟨w.heap.size, 2, none⟩ = some (.slice (some ⟨b1, o1, none⟩) n3 c1) ∧ w'.cell? ⟨w.heap.size + 1, 1, none⟩ = some (.int .i64 (c : Int)) ∧ w'.cell? ⟨w.heap.size + 1, 2, none⟩ = some (.slice (some ⟨b2, o2, none⟩) n4 c2) ∧ w'.cell? ⟨b1, o1 + t1 * 2, none⟩ = some (.bool n1) ∧ w'.cell? ⟨b1, o1 + t1 * 2 + 1, none⟩ = some (.slice a1 l1 d1) ∧ w'.cell? ⟨b2, o2 + t2 * 2, none⟩ = some (.bool n2) ∧ w'.cell? ⟨b2, o2 + t2 * 2 + 1, none⟩ = some (.slice a2 l2 d2) ∧ w'.cell? ⟨bx, 0, none⟩ = some (.bool ns) ∧ w'.cell? ⟨bx, 1, none⟩ = some (.slice as_ ls cs)) 22 (by kernel_rfl) ?_
              obtain ⟨D1, hD⟩ : ∃ D1, wr.drew = D1 := ⟨_, rfl⟩
              have GB : Hid (Below wr.heap.size wr D1) := by unfold Hid; rw [← hD]; exact (Below.refl _ _).drew
              rw [hD]
              clear hD
              have GBs := GB
              refine wpAnyT_take (i := 0) (oi := { dst := some 49, op := Op.fieldAddr 24 (Operand.tmp 2) 2, type := 0, pos := "ref.go:161", after := #[], guard := none }) (v := (.pointer (some ⟨w.heap.size, 2, none⟩))) rfl (by kernel_rfl) (fun _ _ _ h => h) (Or.inl ⟨by rfl, ?_⟩) (KB.out _ GB.out) ?_
              · intro w hSw
                (try dsimp only at hSw)
                go_simp
              simp only [Act.put, List.setIfInBounds_toArray, List.set_cons_zero, List.set_cons_succ]
              refine wpAnyT_take (i := 1) (oi := { dst := some 50, op := Op.load 22 (Operand.tmp 49), type := 22, pos := "ref.go:161", after := #[{ on := 0, ground := Ground.data }], guard := none }) (v := (.slice (some ⟨b1, o1, none⟩) n3 c1)) rfl (by kernel_rfl) (fun _ _ _ h => h) (Or.inl ⟨by rfl, ?_⟩) (KB.out _ GB.out) ?_
              · intro w hSw
                (try dsimp only at hSw)
                go_simp
              simp only [Act.put, List.setIfInBounds_toArray, List.set_cons_zero, List.set_cons_succ]
              refine wpAnyT_take (i := 2) (oi := { dst := some 51, op := Op.move (Operand.tmp 8), type := 3, pos := "ref.go:161", after := #[], guard := none }) (v := (.int .i64 (i : Int))) rfl (by kernel_rfl) (fun _ _ _ h => h) (Or.inl ⟨by rfl, ?_⟩) (KB.out _ GB.out) ?_
              · intro w hSw
                (try dsimp only at hSw)
                go_simp
              simp only [Act.put, List.setIfInBounds_toArray, List.set_cons_zero, List.set_cons_succ]
              refine wpAnyT_take (i := 3) (oi := { dst := some 52, op := Op.fieldAddr 24 (Operand.tmp 2) 1, type := 0, pos := "ref.go:161", after := #[], guard := none }) (v := (.pointer (some ⟨w.heap.size, 1, none⟩))) rfl (by kernel_rfl) (fun _ _ _ h => h) (Or.inl ⟨by rfl, ?_⟩) (KB.out _ GB.out) ?_
              · intro w hSw
                (try dsimp only at hSw)
                go_simp
              simp only [Act.put, List.setIfInBounds_toArray, List.set_cons_zero, List.set_cons_succ]
              refine wpAnyT_take (i := 4) (oi := { dst := some 53, op := Op.load 3 (Operand.tmp 52), type := 3, pos := "ref.go:161", after := #[{ on := 3, ground := Ground.data }], guard := none }) (v := (.int .i64 (m : Int))) rfl (by kernel_rfl) (fun _ _ _ h => h) (Or.inl ⟨by rfl, ?_⟩) (KB.out _ GB.out) ?_
              · intro w hSw
                (try dsimp only at hSw)
                go_simp
              simp only [Act.put, List.setIfInBounds_toArray, List.set_cons_zero, List.set_cons_succ]
              refine wpAnyT_take (i := 5) (oi := { dst := some 54, op := Op.binOp BinOp.mul 3 (Operand.tmp 51) (Operand.tmp 53) 3, type := 3, pos := "ref.go:161", after := #[{ on := 2, ground := Ground.data }, { on := 4, ground := Ground.data }], guard := none }) (v := (.int .i64 (q1 : Int))) rfl (by kernel_rfl) (fun _ _ _ h => h) (Or.inl ⟨by rfl, ?_⟩) (KB.out _ GB.out) ?_
              · intro w hSw
                (try dsimp only at hSw)
                go_simp
              simp only [Act.put, List.setIfInBounds_toArray, List.set_cons_zero, List.set_cons_succ]
              refine wpAnyT_take (i := 6) (oi := { dst := some 55, op := Op.move (Operand.tmp 11), type := 3, pos := "ref.go:161", after := #[], guard := none }) (v := (.int .i64 (t : Int))) rfl (by kernel_rfl) (fun _ _ _ h => h) (Or.inl ⟨by rfl, ?_⟩) (KB.out _ GB.out) ?_
              · intro w hSw
                (try dsimp only at hSw)
                go_simp
              simp only [Act.put, List.setIfInBounds_toArray, List.set_cons_zero, List.set_cons_succ]
              refine wpAnyT_take (i := 7) (oi := { dst := some 56, op := Op.binOp BinOp.add 3 (Operand.tmp 54) (Operand.tmp 55) 3, type := 3, pos := "ref.go:161", after := #[{ on := 5, ground := Ground.data }, { on := 6, ground := Ground.data }], guard := none }) (v := (.int .i64 (t1 : Int))) rfl (by kernel_rfl) (fun _ _ _ h => h) (Or.inl ⟨by rfl, ?_⟩) (KB.out _ GB.out) ?_
              · intro w hSw
                (try dsimp only at hSw)
                go_simp
              simp only [Act.put, List.setIfInBounds_toArray, List.set_cons_zero, List.set_cons_succ]
              refine wpAnyT_take (i := 8) (oi := { dst := some 57, op := Op.indexAddr 22 (Operand.tmp 50) (Operand.tmp 56), type := 0, pos := "ref.go:161", after := #[{ on := 1, ground := Ground.data }, { on := 7, ground := Ground.data }], guard := none }) (v := (.pointer (some ⟨b1, o1 + t1 * 2, none⟩))) rfl (by kernel_rfl) (fun _ _ _ h => h) (Or.inl ⟨by rfl, ?_⟩) (KB.out _ GB.out) ?_
              · intro w hSw
                (try dsimp only at hSw)
                go_simp
              simp only [Act.put, List.setIfInBounds_toArray, List.set_cons_zero, List.set_cons_succ]
              refine wpAnyT_take (i := 9) (oi := { dst := some 58, op := Op.load 36 (Operand.tmp 57), type := 36, pos := "ref.go:161", after := #[{ on := 8, ground := Ground.data }], guard := none }) (v := (.agg #[.bool n1, .slice a1 l1 d1])) rfl (by kernel_rfl) (fun _ _ _ h => h) (Or.inl ⟨by rfl, ?_⟩) (KB.out _ GB.out) ?_
              · intro w hSw
                (try dsimp only at hSw)
                go_simp
              simp only [Act.put, List.setIfInBounds_toArray, List.set_cons_zero, List.set_cons_succ]
              refine wpAnyT_take (i := 10) (oi := { dst := some 59, op := Op.fieldAddr 24 (Operand.tmp 3) 2, type := 0, pos := "ref.go:161", after := #[], guard := none }) (v := (.pointer (some ⟨(w.heap.size + 1), 2, none⟩))) rfl (by kernel_rfl) (fun _ _ _ h => h) (Or.inl ⟨by rfl, ?_⟩) (KB.out _ GB.out) ?_
              · intro w hSw
                (try dsimp only at hSw)
                go_simp
              simp only [Act.put, List.setIfInBounds_toArray, List.set_cons_zero, List.set_cons_succ]
              refine wpAnyT_take (i := 11) (oi := { dst := some 60, op := Op.load 22 (Operand.tmp 59), type := 22, pos := "ref.go:161", after := #[{ on := 10, ground := Ground.data }], guard := none }) (v := (.slice (some ⟨b2, o2, none⟩) n4 c2)) rfl (by kernel_rfl) (fun _ _ _ h => h) (Or.inl ⟨by rfl, ?_⟩) (KB.out _ GB.out) ?_
              · intro w hSw
                (try dsimp only at hSw)
                go_simp
              simp only [Act.put, List.setIfInBounds_toArray, List.set_cons_zero, List.set_cons_succ]
              refine wpAnyT_take (i := 12) (oi := { dst := some 61, op := Op.move (Operand.tmp 11), type := 3, pos := "ref.go:161", after := #[], guard := none }) (v := (.int .i64 (t : Int))) rfl (by kernel_rfl) (fun _ _ _ h => h) (Or.inl ⟨by rfl, ?_⟩) (KB.out _ GB.out) ?_
              · intro w hSw
                (try dsimp only at hSw)
                go_simp
              simp only [Act.put, List.setIfInBounds_toArray, List.set_cons_zero, List.set_cons_succ]
              refine wpAnyT_take (i := 13) (oi := { dst := some 62, op := Op.fieldAddr 24 (Operand.tmp 3) 1, type := 0, pos := "ref.go:161", after := #[], guard := none }) (v := (.pointer (some ⟨(w.heap.size + 1), 1, none⟩))) rfl (by kernel_rfl) (fun _ _ _ h => h) (Or.inl ⟨by rfl, ?_⟩) (KB.out _ GB.out) ?_
              · intro w hSw
                (try dsimp only at hSw)
                go_simp
              simp only [Act.put, List.setIfInBounds_toArray, List.set_cons_zero, List.set_cons_succ]
              refine wpAnyT_take (i := 14) (oi := { dst := some 63, op := Op.load 3 (Operand.tmp 62), type := 3, pos := "ref.go:161", after := #[{ on := 13, ground := Ground.data }], guard := none }) (v := (.int .i64 (c : Int))) rfl (by kernel_rfl) (fun _ _ _ h => h) (Or.inl ⟨by rfl, ?_⟩) (KB.out _ GB.out) ?_
              · intro w hSw
                (try dsimp only at hSw)
                go_simp
              simp only [Act.put, List.setIfInBounds_toArray, List.set_cons_zero, List.set_cons_succ]
              refine wpAnyT_take (i := 15) (oi := { dst := some 64, op := Op.binOp BinOp.mul 3 (Operand.tmp 61) (Operand.tmp 63) 3, type := 3, pos := "ref.go:161", after := #[{ on := 12, ground := Ground.data }, { on := 14, ground := Ground.data }], guard := none }) (v := (.int .i64 (q2 : Int))) rfl (by kernel_rfl) (fun _ _ _ h => h) (Or.inl ⟨by rfl, ?_⟩) (KB.out _ GB.out) ?_
              · intro w hSw
                (try dsimp only at hSw)
                go_simp
              simp only [Act.put, List.setIfInBounds_toArray, List.set_cons_zero, List.set_cons_succ]
              refine wpAnyT_take (i := 16) (oi := { dst := some 65, op := Op.move (Operand.tmp 9), type := 3, pos := "ref.go:161", after := #[], guard := none }) (v := (.int .i64 (j : Int))) rfl (by kernel_rfl) (fun _ _ _ h => h) (Or.inl ⟨by rfl, ?_⟩) (KB.out _ GB.out) ?_
              · intro w hSw
                (try dsimp only at hSw)
                go_simp
              simp only [Act.put, List.setIfInBounds_toArray, List.set_cons_zero, List.set_cons_succ]
              refine wpAnyT_take (i := 17) (oi := { dst := some 66, op := Op.binOp BinOp.add 3 (Operand.tmp 64) (Operand.tmp 65) 3, type := 3, pos := "ref.go:161", after := #[{ on := 15, ground := Ground.data }, { on := 16, ground := Ground.data }], guard := none }) (v := (.int .i64 (t2 : Int))) rfl (by kernel_rfl) (fun _ _ _ h => h) (Or.inl ⟨by rfl, ?_⟩) (KB.out _ GB.out) ?_
              · intro w hSw
                (try dsimp only at hSw)
                go_simp
              simp only [Act.put, List.setIfInBounds_toArray, List.set_cons_zero, List.set_cons_succ]
              refine wpAnyT_take (i := 18) (oi := { dst := some 67, op := Op.indexAddr 22 (Operand.tmp 60) (Operand.tmp 66), type := 0, pos := "ref.go:161", after := #[{ on := 11, ground := Ground.data }, { on := 17, ground := Ground.data }], guard := none }) (v := (.pointer (some ⟨b2, o2 + t2 * 2, none⟩))) rfl (by kernel_rfl) (fun _ _ _ h => h) (Or.inl ⟨by rfl, ?_⟩) (KB.out _ GB.out) ?_
              · intro w hSw
                (try dsimp only at hSw)
                go_simp
              simp only [Act.put, List.setIfInBounds_toArray, List.set_cons_zero, List.set_cons_succ]
              refine wpAnyT_take (i := 19) (oi := { dst := some 68, op := Op.load 36 (Operand.tmp 67), type := 36, pos := "ref.go:161", after := #[{ on := 18, ground := Ground.data }], guard := none }) (v := (.agg #[.bool n2, .slice a2 l2 d2])) rfl (by kernel_rfl) (fun _ _ _ h => h) (Or.inl ⟨by rfl, ?_⟩) (KB.out _ GB.out) ?_
              · intro w hSw
                (try dsimp only at hSw)
                go_simp
              simp only [Act.put, List.setIfInBounds_toArray, List.set_cons_zero, List.set_cons_succ]
              refine wpAnyT_take (i := 20) (oi := { dst := some 69, op := Op.load 36 (Operand.tmp 10), type := 36, pos := "ref.go:161", after := #[], guard := none }) (v := (.agg #[.bool ns, .slice as_ ls cs])) rfl (by kernel_rfl) (fun _ _ _ h => h) (Or.inl ⟨by rfl, ?_⟩) (KB.out _ GB.out) ?_
              · intro w hSw
                (try dsimp only at hSw)
                go_simp
              simp only [Act.put, List.setIfInBounds_toArray, List.set_cons_zero, List.set_cons_succ]
              refine wpAnyT_one (i := 21) (o := { dst := some 70, op := Op.call { callee := Callee.value (Operand.func 41), args := #[Operand.tmp 58, Operand.tmp 68, Operand.tmp 69], argTypes := #[36, 36, 36] }, type := 36, pos := "ref.go:161", after := #[{ on := 9, ground := Ground.data }, { on := 19, ground := Ground.data }, { on := 20, ground := Ground.data }], guard := none }) (by kernel_rfl) rfl (fun K hK => ?_)
              go_simp
              go_at_call 41
              refine (HS.out _ GB.out).mono ?_
              rintro e w2 ⟨rr, rfl, m1, b⟩
              have lz2 := (show Below _ _ _ from b).size
              replace GB := hid (below_step GB.out b)
              have FI1 := hid (FI.out.step (below_step (w0 := wr) GBs.out b))
              have MB1 := hid (MBx.out.step (below_step (w0 := wr) GBs.out b))
              have DX1 := hid (DX.out.step (below_step (w0 := wr) GBs.out b))
              have M1 := hid (m1.mono (Nat.zero_le _))
              obtain ⟨nr, xr, ar, cr, rfl⟩ := m1.parts
              clear m1
              clear b
              refine hK.out _ _ (fun _ => KB.out _ GB.out) ?_
              clear hK
              refine wpAnyT_one (i := 22) (o := { dst := none, op := Op.store 36 (Operand.tmp 10) (Operand.tmp 70), type := 0, pos := "ref.go:161", after := #[{ on := 21, ground := Ground.data }, { on := 21, ground := Ground.chain }, { on := 0, ground := Ground.phase }, { on := 1, ground := Ground.phase }, { on := 2, ground := Ground.phase }, { on := 3, ground := Ground.phase }, { on := 4, ground := Ground.phase }, { on := 5, ground := Ground.phase }, { on := 6, ground := Ground.phase }, { on := 7, ground := Ground.phase }, { on := 8, ground := Ground.phase }, { on := 9, ground := Ground.phase }, { on := 10, ground := Ground.phase }, { on := 11, ground := Ground.phase }, { on := 12, ground := Ground.phase }, { on := 13, ground := Ground.phase }, { on := 14, ground := Ground.phase }, { on := 15, ground := Ground.phase }, { on := 16, ground := Ground.phase }, { on := 17, ground := Ground.phase }, { on := 18, ground := Ground.phase }, { on := 19, ground := Ground.phase }, { on := 20, ground := Ground.phase }, { on := 21, ground := Ground.phase }], guard := none }) (by kernel_rfl) rfl (fun K hK => ?_)
              have e0 := DX1.out.c0
              have e1 := DX1.out.c1
              have e2 := DX1.out.fz 0
              have e3 := DX1.out.fz 1
              go_simp
              clear e0 e1 e2 e3
              obtain ⟨V3, hW⟩ : ∃ V3, ((w2.setCell ⟨bx, 0, none⟩ (.bool nr)).setCell ⟨bx, 1, none⟩ (.slice ar xr.length cr)) = V3 := ⟨_, rfl⟩
              have HN1 : Hid (MulK w bm g (i * c + j) m N bx (mulE m c xs ys) (mulF m c xs ys i j) (ka + kb + 64) (ka + kb) (matc r m (.slice (some ⟨b1, o1, none⟩) n3 c1)) (matc m c (.slice (some ⟨b2, o2, none⟩) n4 c2)) (matc r c (.slice (some ⟨g, 0, none⟩) N N)) (m - (t + 1)) (.int .i64 ((t + 1 : Nat) : Int)) V3) := by
                unfold Hid
                rw [← hW]
                exact ⟨t + 1, rfl, by omega, rfl, FI1.out.box DX1.out (by have := HGX.out; omega) _ _, MB1.out.ty (DX1.out.ty12 _ _) (bset (bset MB1.out.2.2.2.2 (by have := HGX.out; omega)) (by have := HGX.out; omega)), nr, ar, xr.length, cr, DX1.out.set _ _, M1.out.box DX1.out _ _⟩
              rw [E3.out.symm, E4.out.symm] at HN1
              rw [hW]
              clear hW
              refine hK.out _ _ (fun h => absurd h (by decide)) ?_
              clear hK
              try simp only [Act.put]
              refine wpAnyT_done (by kernel_rfl) ?_ _
              clear HS FI DX MBx FI1 MB1 DX1 M1 GBs GB KB
              go_wp2_with fail
              go_roundg (m - (t + 1))
              case rel => exact HN1.out
              case measure => exact HMM3.out
            · have hlt3' : ¬ (t : Int) < (m : Int) := by omega
              obtain rfl : t = m := by omega
              have s0 := DX.out.c0
              have s1 := DX.out.c1
              have m2 := MBx.out.2.2.2.1.at (i := 2) rfl
              have y1 := MBx.out.2.1.at (i := 1) rfl
              have k1 := wrapM9 (i := i) (c := c) (by omega) hc
              have k3 : IntKind.i64.wrap (((i * c : Nat) : Int) + (j : Int)) = ((i * c + j : Nat) : Int) := by rw [wrap_is] <;> omega
              obtain ⟨T1, hT1⟩ : ∃ T1, i * c + j = T1 := ⟨_, rfl⟩
              obtain ⟨q1, hq1⟩ : ∃ q1, i * c = q1 := ⟨_, rfl⟩
              have ZE : Hid (Zm 0 wr (.agg #[.bool ns, .slice as_ ls cs]) (mulE t c xs ys T1) (ka + kb + 64)) := by
                unfold Hid
                rw [← hT1, mulE_at hlt2]
                exact ZX.out.more (by omega)
              rw [hT1] at k3 FI hmc
              rw [hq1] at k1 k3
              have hmc' : (T1 : Int) < (N : Int) := by omega
              have k1' := k1
              have k3' := k3
              rw [IntKind.wrap_i64] at k1' k3'
              obtain ⟨m0, am, lm, cm, e0, e1, e2, e3⟩ := FI.out.cells hmc
              have HN1 : Hid (MulJ w bm g i c N (mulE t c xs ys) (ka + kb + 64) (matc r t ata) (matc t c atb) (matc r c (.slice (some ⟨g, 0, none⟩) N N)) (c - (j + 1)) (.int .i64 ((j + 1 : Nat) : Int)) ((wr.setCell ⟨g, T1 * 2, none⟩ (.bool ns)).setCell ⟨g, T1 * 2 + 1, none⟩ (.slice as_ ls cs))) := by
                refine ⟨j + 1, rfl, by omega, rfl, ?_, MBx.out.ty (FI.out.ty12 _ _) (bset (bset MBx.out.2.2.2.2 (by have := HGW.out; omega)) (by have := HGW.out; omega))⟩
                rw [show i * c + (j + 1) = T1 + 1 by omega]
                exact FI.out.put hmc ZE.out
              clear FI MBx DX ZX ZE HG hT1 hq1
              go_wp2_with fail
              go_roundg (c - (j + 1))
              case rel => exact HN1.out
              case measure => exact HMM2.out
        · have hlt2' : ¬ (j : Int) < (c : Int) := by omega
          obtain rfl : j = c := by omega
          have HN1 : Hid (MulI w bm g r j N (mulE m j xs ys) (ka + kb + 64) (matc r m ata) (matc m j atb) (matc r j (.slice (some ⟨g, 0, none⟩) N N)) (r - (i + 1)) (.int .i64 ((i + 1 : Nat) : Int)) wr) := by
            refine ⟨i + 1, rfl, by omega, rfl, ?_, MBx.out⟩
            rw [Nat.succ_mul]; exact FI.out
          clear FI MBx HG
          go_wp2_with fail
          go_roundg (r - (i + 1))
          case rel => exact HN1.out
          case measure => exact HMM.out
    · have hlt' : ¬ (i : Int) < (r : Int) := by omega
      obtain rfl : i = r := by omega
      have m0 := MBx.out.2.2.2.1.at (i := 0) rfl
      have m1 := MBx.out.2.2.2.1.at (i := 1) rfl
      have m2 := MBx.out.2.2.2.1.at (i := 2) rfl
      have r0 := MBx.out.2.2.1.at (i := 0) rfl
      have r1 := MBx.out.2.2.1.at (i := 1) rfl
      have r2 := MBx.out.2.2.1.at (i := 2) rfl
      have f0 := MBx.out.2.2.1.fz 0
      have f1 := MBx.out.2.2.1.fz 1
      have f2 := MBx.out.2.2.1.fz 2
      have FI2 := FI.out
      rw [HNN.out] at FI2
      obtain ⟨ps, p1, p2⟩ := FI2.done (by omega)
      have FIN : Hid (GivesMO w i c (mulL i m c xs ys) (ka + kb + 64) (.returned (.tuple #[.agg #[.int .i64 (i : Int), .int .i64 (c : Int), .slice (some ⟨g, 0, none⟩) N N], .int .i64 0])) (put3 wr (w.heap.size + 1 + 1) (.int .i64 (i : Int)) (.int .i64 (c : Int)) (.slice (some ⟨g, 0, none⟩) N N))) := by
        have t1 : Ty 24 wr (put3 wr (w.heap.size + 1 + 1) (.int .i64 (i : Int)) (.int .i64 (c : Int)) (.slice (some ⟨g, 0, none⟩) N N)) := ((Ty.set MBx.out.2.2.1).trans (Ty.set (MBx.out.2.2.1.set 0 _))).trans (Ty.set ((MBx.out.2.2.1.set 0 _).set 1 _))
        refine ⟨_, rfl, ⟨_, ps, rfl, (p1.ty t1 (by decide)).1, ?_, ?_, hr, hc⟩, below_put3 MBx.out.2.2.2.2 (by omega) _ _ _⟩
        · have := (p2.ty t1 (by decide)).zcs
          unfold mulL
          rw [HNN.out]
          exact this
        · unfold mulL; simp
      have PG := hid (MBx.out.2.2.1.put3 (.int .i64 (i : Int)) (.int .i64 (c : Int)) (.slice (some ⟨g, 0, none⟩) N N))
      clear FI MBx HG p1 p2 FI2
      go_wp2
      exact bodyPost_ret (mback1 Tryz.results16 PG.out _ (by rfl) (by rfl)) rfl FIN.out
end Go.Proofs.YtonmlmdnjjafhaaGreat
