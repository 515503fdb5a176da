/-
  QNb17ToLi17: Nb17, Ig17, Kg17, Li17, joined.
-/
import Derived.Test.YtcceoildbnoliaaGreatQMu17
import Derived.Test.YtcceoildbnoliaaGreatQCc17ToAw17
import Derived.Test.YtcceoildbnoliaaGreatQEach9ToPr12
import Derived.Test.YtcceoildbnoliaaGreatQG417ToLk17
import Derived.Test.YtcceoildbnoliaaGreatQKn17

/- Nb17 -/
namespace Go.Proofs.YtcceoildbnoliaaGreat
open Go.RowKit
open Q17 (Rref Eqv Comb sm vm dlt)
set_option linter.unusedVariables false

theorem dotv_su (m : Nat) (f g : Nat → Int) : dotv ((List.range m).map f) ((List.range m).map g) = su m fun x => f x * g x := by
  unfold dotv
  rw [List.length_map, List.length_range, zsum_su]
  refine su_congr fun k hk => ?_
  simp [hk]
theorem mlF_eq {m c : Nat} {P Q P' Q' : Nat → Int} {i j : Nat} : mlF m c P Q P' Q' i j = vm m (qfr m P Q i) (qfr c P' Q') j := by
  unfold mlF
  obtain ⟨R, hR⟩ : ∃ R : Nat → Rat, (fun x => Rat.divInt (rwP m P i x) (rwP m Q i x)) = R := ⟨_, rfl⟩
  obtain ⟨C, hC⟩ : ∃ C : Nat → Rat, (fun x => Rat.divInt (clP c P' j x) (clP c Q' j x)) = C := ⟨_, rfl⟩
  have eR : ∀ x, qfr m P Q i x = R x := fun x => by rw [← hR]; rfl
  have eC : ∀ x, qfr c P' Q' x j = C x := fun x => by rw [← hC]; rfl
  rw [hR, hC, dotv_su, Rat.divInt_eq_div, cast_su, Rat.intCast_mul]
  have k1 : ((lcn R m : Int) : Rat) ≠ 0 := cast_ne (by have := lcn_pos R m; omega)
  have k2 : ((lcn C m : Int) : Rat) ≠ 0 := cast_ne (by have := lcn_pos C m; omega)
  obtain ⟨a, ha⟩ : ∃ a : Rat, ((lcn R m : Int) : Rat) = a := ⟨_, rfl⟩
  obtain ⟨b, hb⟩ : ∃ b : Rat, ((lcn C m : Int) : Rat) = b := ⟨_, rfl⟩
  have e : sm m (fun x => ((whl R m x * whl C m x : Int) : Rat)) = (a * b) * vm m (qfr m P Q i) (qfr c P' Q') j := by
    unfold vm
    rw [← Q17.sm_mul]
    refine Q17.sm_congr fun k hk => ?_
    rw [Rat.intCast_mul, whl_rat R hk, whl_rat C hk, ha, hb, eR, eC]
    grind
  rw [e, ha, hb]
  rw [ha] at k1
  rw [hb] at k2
  have hab : a * b ≠ 0 := fun q => by rcases Rat.mul_eq_zero.1 q with h | h <;> contradiction
  rw [Rat.div_def, Rat.mul_comm (a * b), Rat.mul_assoc, Rat.mul_inv_cancel _ hab, Rat.mul_one]
end Go.Proofs.YtcceoildbnoliaaGreat

/- Ig17 -/
namespace Go.Proofs.YtcceoildbnoliaaGreat
open Go.RowKit
open Q17 (Rref Eqv Comb sm vm dlt)
set_option linter.unusedVariables false

abbrev nmR (R : Nat → Rat) (t : Nat) : Int := (R t).num
abbrev dnR (R : Nat → Rat) (t : Nat) : Int := ((R t).den : Int)
theorem idx17 {n i j : Nat} (hj : j < n) : (i * n + j) / n = i ∧ (i * n + j) % n = j := by
  have h0 : 0 < n := by omega
  constructor
  · rw [Nat.mul_comm, Nat.mul_add_div h0, Nat.div_eq_of_lt hj, Nat.add_zero]
  · rw [Nat.mul_comm, Nat.mul_add_mod, Nat.mod_eq_of_lt hj]
theorem qfr_num {n i j : Nat} {R : Nat → Rat} : qfr n (nmR R) (dnR R) i j = R (i * n + j) := Rat.num_divInt_den _
theorem dnR_ne (R : Nat → Rat) (t : Nat) : dnR R t ≠ 0 := by have := (R t).den_pos; show ((R t).den : Int) ≠ 0; omega
/-- What was read has few words. -/
theorem Qc.lt {w : World} {v : Value} {n k : Nat} {R : Nat → Rat} (h : Qc w v n R k) : ∀ t, t < n → (((R t).num.natAbs : Int) < pw k) ∧ ((R t).den : Int) < pw k := fun t ht => by
  obtain ⟨a, c, h1, h2, h3, h4⟩ := h
  rcases h4 with h4 | ⟨b, off, h5, h6, h7⟩
  · omega
  · obtain ⟨n1, a1, l1, c1, n2, a2, l2, c2, e1, e2, e3, e4, e5, e6⟩ := h7 t ht
    have g1 := e5.zi.lt
    have g2 := e6.zi.lt
    rw [Int.natAbs_natCast] at g2
    exact ⟨g1, g2⟩
theorem Qc.wd {w : World} {v : Value} {n k : Nat} {R : Nat → Rat} (h : Qc w v n R k) : Wd17 n (nmR R) (dnR R) (fun _ => 2 * k) (n * (2 * k)) :=
  wd_even (fun t _ => dnR_ne R t) fun t ht => ⟨Int.le_of_lt (h.lt t ht).1, by
    show ((((R t).den : Int).natAbs : Nat) : Int) ≤ pw k
    rw [Int.natAbs_natCast]
    exact Int.le_of_lt (h.lt t ht).2⟩
end Go.Proofs.YtcceoildbnoliaaGreat

/- Kg17 -/
namespace Go.Proofs.YtcceoildbnoliaaGreat
open Go.RowKit
open Q17 (Rref Eqv Comb sm vm dlt frL)
set_option linter.unusedVariables false

def krR (n : Nat) (E : Nat → Nat → Rat) (pv : List Nat) (t : Nat) : Rat := Q17.kr n E pv (t / n) (t % n)
theorem krR_at {n i j : Nat} {E : Nat → Nat → Rat} {pv : List Nat} (hj : j < n) : krR n E pv (i * n + j) = Q17.kr n E pv i j := by
  unfold krR
  rw [(idx17 hj).1, (idx17 hj).2]
theorem qfr_kr {n i j : Nat} {E : Nat → Nat → Rat} {pv : List Nat} (hj : j < n) : qfr n (nmR (krR n E pv)) (dnR (krR n E pv)) i j = Q17.kr n E pv i j := by rw [qfr_num, krR_at hj]
theorem Q17.Eqv.same {m n : Nat} {M A : Nat → Nat → Rat} (h : ∀ i j, i < m → j < n → M i j = A i j) : Eqv n m M A :=
  ⟨⟨dlt, fun i j hi hj => by rw [Q17.vm_dlt hi]; exact h i j hi hj⟩, ⟨dlt, fun i j hi hj => by rw [Q17.vm_dlt hi]; exact (h i j hi hj).symm⟩⟩
theorem ker_heads {c m n : Nat} {E E2 : Nat → Nat → Rat} {pv hd : List Nat} (hR : Rref c n E pv) (hm : m = (frL n pv).length) (h2 : Rref m n E2 hd) (he2 : Eqv n m E2 (qfr n (nmR (krR n E pv)) (dnR (krR n E pv)))) : hd.length = m ∧ Rref m n (fun i j => krR n E pv (i * n + j)) hd := by
  have hk : Rref m n (Q17.kr n E pv) (Q17.khd n pv) := by rw [hm]; exact hR.kernel
  have he : Eqv n m E2 (Q17.kr n E pv) := he2.trans (Q17.Eqv.same fun i j hi hj => qfr_kr hj)
  obtain ⟨e, -⟩ := Q17.Rref.unique Q17.fld17 h2 hk he
  rw [e]
  exact ⟨by rw [Q17.khd_len, hm], hk.congr (Nat.le_refl _) fun i j hi hj => krR_at hj⟩
theorem ker_prod {c m n : Nat} {P Q : Nat → Int} {E : Nat → Nat → Rat} {pv : List Nat} (hR : Rref c n E pv) (he : Eqv n c E (Q17.upq n (qfr c P Q))) (hm : m = (frL n pv).length) {t : Nat} (ht : t < m * c) : mlF n c (nmR (krR n E pv)) (dnR (krR n E pv)) P Q (t / c) (t % c) = 0 := by
  have hc : 0 < c := Nat.pos_of_ne_zero fun e => by subst e; simp at ht
  have h1 : t / c < m := (Nat.div_lt_iff_lt_mul hc).2 ht
  have h2 : t % c < c := Nat.mod_lt _ hc
  rw [mlF_eq]
  unfold vm
  rw [Q17.sm_congr (g := fun k => Q17.kr n E pv (t / c) k * qfr c P Q k (t % c)) fun k hk => by rw [qfr_kr hk]]
  exact hR.kernel_zero he.2 (by omega) h2
theorem ker_rank {c m n : Nat} {P Q : Nat → Int} {E F : Nat → Nat → Rat} {pv cols : List Nat} (hR : Rref c n E pv) (he : Eqv n c E (Q17.upq n (qfr c P Q))) (hm : m = (frL n pv).length) (hF : Rref n c F cols) (hf : Eqv c n F (qfr c P Q)) : m + cols.length = n := by
  have := hR.ranks he hF hf
  have := hR.frees
  omega
theorem sn_swap17 : ∀ (n m : Nat) (f : Nat → Nat → Nat), sn n (fun i => sn m (fun j => f i j)) = sn m (fun j => sn n (fun i => f i j))
  | 0, m, f => by
    show 0 = sn m (fun j => 0)
    rw [sn_const]; simp
  | n + 1, m, f => by
    show sn n (fun i => sn m fun j => f i j) + sn m (fun j => f n j) = sn m (fun j => sn n (fun i => f i j) + f n j)
    rw [sn_add, sn_swap17 n m f]
theorem sn_cg17 : ∀ {n : Nat} {f g : Nat → Nat}, (∀ j, j < n → f j = g j) → sn n f = sn n g := fun h => Nat.le_antisymm (sn_le fun j hj => Nat.le_of_eq (h j hj)) (sn_le fun j hj => Nat.le_of_eq (h j hj).symm)
theorem sn_rev17 : ∀ (n : Nat) (f : Nat → Nat), sn n (fun k => f (n - 1 - k)) = sn n f
  | 0, f => rfl
  | n + 1, f => by
    rw [sn_head n (fun k => f (n + 1 - 1 - k))]
    show f (n + 1 - 1 - 0) + _ = sn n f + f n
    rw [← sn_rev17 n f, sn_cg17 (g := fun k => f (n - 1 - k)) (fun k hk => by congr 1; omega), show n + 1 - 1 - 0 = n by omega]
    omega
theorem up_size {r c : Nat} {P Q : Nat → Int} {u : Nat → Nat} {S : Nat} (h : Wd17 (r * c) P Q u S) (hc : c ≤ 64) (f : Nat → Nat) : ((dcl (wha r (upP r c P) (upP r c Q)) c r f).natAbs : Int) < pw (S + c + 1) := by
  obtain ⟨a, b, hab⟩ := wd_split h
  have h1 : ((dcl (wha r (upP r c P) (upP r c Q)) c r f).natAbs : Int) ≤ pw (sn c fun l => (sn r fun i => a ((r - 1 - i) * c + l) + b ((r - 1 - i) * c + l)) + 1) := dcl_pw hc fun l i hl hi => by
    refine whl_pw (R := fun j => Rat.divInt (upP r c P l j) (upP r c Q l j)) (a := fun j => a ((r - 1 - j) * c + l)) (b := fun j => b ((r - 1 - j) * c + l)) (fun j hj => ?_) (fun j hj => ?_) hi
    · have hix := zF_lt17 (show r - 1 - j < r by omega) hl
      have := (hab _ hix).2.1
      have hs := (divInt_small (p := P ((r - 1 - j) * c + l)) (h.nz _ hix)).2
      exact Int.le_trans (Int.ofNat_le.2 hs) this
    · have hix := zF_lt17 (show r - 1 - j < r by omega) hl
      have := (hab _ hix).1
      have hs := (divInt_small (p := P ((r - 1 - j) * c + l)) (h.nz _ hix)).1
      exact Int.le_trans (Int.ofNat_le.2 hs) this
  refine Int.lt_of_le_of_lt h1 ?_
  rw [sn_add c _ (fun _ => 1), sn_const, Nat.mul_one, sn_swap17, sn_rev17 r (fun i => sn c fun l => a (i * c + l) + b (i * c + l)), sn_rows c (fun t => a t + b t) r]
  have h2 : sn (r * c) (fun t => a t + b t) ≤ S := Nat.le_trans (sn_le fun t ht => (hab t ht).2.2) h.sum
  refine Int.lt_of_le_of_lt (pw_le17 (show _ ≤ S + c by omega)) ?_
  rw [pw_add (S + c) 1]
  have h3 := pw_pos (S + c)
  have h4 : pw 1 = 18446744073709551616 := by decide
  rw [h4]; omega
theorem up_kw {r c : Nat} {P Q : Nat → Int} {u : Nat → Nat} {S K : Nat} (h : Wd17 (r * c) P Q u S) (hc : c ≤ 64) (hS : S + 65 ≤ K) (f : Nat → Nat) : ((dcl (wha r (upP r c P) (upP r c Q)) c r f).natAbs : Int) < pw K :=
  Int.lt_of_lt_of_le (up_size h hc f) (pw_le17 (by omega))
theorem form_kw2 {r c : Nat} {P Q : Nat → Int} {u : Nat → Nat} {S K : Nat} (h : Wd17 (r * c) P Q u S) (hr : r ≤ 64) (hS : S + 65 ≤ K) (f : Nat → Nat) : ((dcl (wha c (rwP c P) (rwP c Q)) r c f).natAbs : Int) < pw K :=
  Int.lt_of_lt_of_le (form_size h hr f) (pw_le17 (by omega))
end Go.Proofs.YtcceoildbnoliaaGreat

/- Li17 -/
namespace Go.Proofs.YtcceoildbnoliaaGreat
open Go.RowKit
set_option linter.unusedVariables false

theorem canon_top17 : ∀ (xs : List Int), wid xs = xs.length → ∀ h : xs.length - 1 < xs.length, xs[xs.length - 1] ≠ 0
  | [x], hw, _ => by
    intro e
    have e' : x = 0 := by simpa using e
    subst e'
    simp [wid] at hw
  | x :: y :: r, hw, _ => by
    have h1 : wid (y :: r) = (y :: r).length := by
      have := wid_le (y :: r)
      rw [wid] at hw
      have e : (x :: y :: r).length = (y :: r).length + 1 := rfl
      rw [e] at hw
      by_cases q : wid (y :: r) = 0
      · rw [if_pos q] at hw
        have e2 : (y :: r).length = r.length + 1 := rfl
        by_cases q2 : x = 0
        · rw [if_pos q2] at hw; omega
        · rw [if_neg q2] at hw; omega
      · rw [if_neg q] at hw; omega
    have := canon_top17 (y :: r) h1 (by simp)
    simpa using this
set_option maxHeartbeats 1600000 in
set_option maxRecDepth 100000 in
theorem leastInt17 {w : World} {v : Value} {z : Int} {k : Nat} (h : Zc w v z k) : Calls Tryz.prog 72 #[v] w fun e w' => e = .returned (.bool true) ∧ Below w.heap.size w w' := by
  obtain ⟨n, xs, a, c, rfl, hs, hc, hn, -, -⟩ := h
  obtain ⟨W0, hW⟩ : ∃ W0, w.alloc (duo (.bool n) (.slice a xs.length c)) = W0 := ⟨_, rfl⟩
  obtain ⟨b0, sz0⟩ := alo1 w (duo (.bool n) (.slice a xs.length c))
  rw [hW] at b0 sz0
  have P1 : Duo W0 w.heap.size (.bool n) (.slice a xs.length c) := by rw [← hW]; exact Duo.new w _ _
  have x0 := P1.c0
  have x1 := P1.c1
  have G := hid b0
  have EW := hid hW
  by_cases hx : xs = []
  · obtain rfl := hn hx
    subst hx
    rw [← hW] at x0 x1
    clear hs hc hn b0 sz0 hW P1
    simp only [List.length_nil] at x1 EW ⊢
    go_enter Tryz.func72, Tryz.ntmps72
    go_wp2_with fail
    rw [EW.out]
    go_ret
    exact ⟨rfl, G.out⟩
  · obtain ⟨hwf, a', cap, he, hcap, hlen, hq⟩ := hs
    simp only [Value.slice.injEq] at he
    obtain ⟨rfl, -, rfl⟩ := he
    rcases hq with hq | ⟨b, off, rfl, hb, hq⟩
    · exact absurd hq hx
    · have hpos : 0 < xs.length := List.length_pos_iff.2 hx
      have htop := canon_top17 xs hc.2 (by omega)
      have y0 := cnow b0 (hq (xs.length - 1) (by omega))
      obtain ⟨m, hm⟩ : ∃ m, xs.length = m + 1 := ⟨xs.length - 1, by omega⟩
      have hwm : IntKind.i64.wrap (((m + 1 : Nat) : Int) - 1) = (m : Int) := by rw [wrap_is] <;> omega
      obtain ⟨t, ht⟩ : ∃ t, xs[xs.length - 1]'(by omega) = t := ⟨_, rfl⟩
      rw [ht] at htop y0
      have hoff : xs.length - 1 = m := by omega
      rw [hoff] at y0
      rw [hm] at x1 EW ⊢
      have hne : (t != 0) = true := by simpa using htop
      have hlt : (m : Int) < ((m + 1 : Nat) : Int) := by omega
      have hz : (((m + 1 : Nat) : Int) == 0) = false := by simp; omega
      have hz2 : ¬ ((m + 1 : Nat) : Int) = 0 := by omega
      rw [hm] at hW hlen hcap
      rw [← hW] at x0 x1 y0
      obtain ⟨l1, hl1⟩ : ∃ l1, m + 1 = l1 := ⟨_, rfl⟩
      rw [hl1] at hwm x0 x1 y0 EW hlt hz hz2 hcap ⊢
      clear hc hn b0 sz0 hW P1 hq ht htop hoff hpos hx hm hwf
      go_enter Tryz.func72, Tryz.ntmps72
      go_wp2_with fail
      rw [EW.out]
      go_ret
      exact ⟨rfl, G.out⟩
end Go.Proofs.YtcceoildbnoliaaGreat
