/-
  QNb17ToFr17: Nb17, Ig17, Fr17, joined.
-/
import Derived.Test.YthpldhaolpmneaaGreatQMu17
import Derived.Test.YthpldhaolpmneaaGreatQSz17ToAw17
import Derived.Test.YthpldhaolpmneaaGreatQAdd9ToPr12
import Derived.Test.YthpldhaolpmneaaGreatQG417ToLk17
import Derived.Test.YthpldhaolpmneaaGreatQFo17
import Derived.Test.YthpldhaolpmneaaGreatQCat9ToMul9

/- Nb17 -/
namespace Go.Proofs.YthpldhaolpmneaaGreat
open Go.RowKit
open Q17 (Rref Eqv Comb sm vm dlt)
set_option linter.unusedVariables false

theorem dotv_su (m : Nat) (f g : Nat → Int) : dotv ((List.range m).map f) ((List.range m).map g) = su m fun x => f x * g x := by
  unfold dotv
  rw [List.length_map, List.length_range, zsum_su]
  refine su_congr fun k hk => ?_
  simp [hk]
theorem mlF_eq {m c : Nat} {P Q P' Q' : Nat → Int} {i j : Nat} : mlF m c P Q P' Q' i j = vm m (qfr m P Q i) (qfr c P' Q') j := by
  unfold mlF
  obtain ⟨R, hR⟩ : ∃ R : Nat → Rat, (fun x => Rat.divInt (rwP m P i x) (rwP m Q i x)) = R := ⟨_, rfl⟩
  obtain ⟨C, hC⟩ : ∃ C : Nat → Rat, (fun x => Rat.divInt (clP c P' j x) (clP c Q' j x)) = C := ⟨_, rfl⟩
  have eR : ∀ x, qfr m P Q i x = R x := fun x => by rw [← hR]; rfl
  have eC : ∀ x, qfr c P' Q' x j = C x := fun x => by rw [← hC]; rfl
  rw [hR, hC, dotv_su, Rat.divInt_eq_div, cast_su, Rat.intCast_mul]
  have k1 : ((lcn R m : Int) : Rat) ≠ 0 := cast_ne (by have := lcn_pos R m; omega)
  have k2 : ((lcn C m : Int) : Rat) ≠ 0 := cast_ne (by have := lcn_pos C m; omega)
  obtain ⟨a, ha⟩ : ∃ a : Rat, ((lcn R m : Int) : Rat) = a := ⟨_, rfl⟩
  obtain ⟨b, hb⟩ : ∃ b : Rat, ((lcn C m : Int) : Rat) = b := ⟨_, rfl⟩
  have e : sm m (fun x => ((whl R m x * whl C m x : Int) : Rat)) = (a * b) * vm m (qfr m P Q i) (qfr c P' Q') j := by
    unfold vm
    rw [← Q17.sm_mul]
    refine Q17.sm_congr fun k hk => ?_
    rw [Rat.intCast_mul, whl_rat R hk, whl_rat C hk, ha, hb, eR, eC]
    grind
  rw [e, ha, hb]
  rw [ha] at k1
  rw [hb] at k2
  have hab : a * b ≠ 0 := fun q => by rcases Rat.mul_eq_zero.1 q with h | h <;> contradiction
  rw [Rat.div_def, Rat.mul_comm (a * b), Rat.mul_assoc, Rat.mul_inv_cancel _ hab, Rat.mul_one]
theorem vm_cg {m : Nat} {x y : Nat → Rat} {A B : Nat → Nat → Rat} {j j' : Nat} (hx : ∀ i, i < m → x i = y i) (hA : ∀ i, i < m → A i j = B i j') : vm m x A j = vm m y B j' :=
  Q17.sm_congr fun k hk => by rw [hx k hk, hA k hk]
theorem vm_unit {n j : Nat} (hj : j < n) (x : Nat → Rat) : vm n x dlt j = x j := by
  unfold vm
  rw [Q17.sm_one hj fun k _ hk => by unfold dlt; rw [if_neg hk]; exact Rat.mul_zero _]
  unfold dlt
  rw [if_pos rfl, Rat.mul_one]
theorem Rref.whole {n : Nat} {E : Nat → Nat → Rat} {pv : List Nat} (h : Rref n n E pv) (hl : pv.length = n) : ∀ t, t < n → pv[t]? = some t := by
  have h1 : ∀ t a : Nat, pv[t]? = some a → t ≤ a := fun t => by
    induction t with
    | zero => intro a _; omega
    | succ t ih =>
      intro a ha
      have hlt : t + 1 < pv.length := (List.getElem?_eq_some_iff.1 ha).1
      have hb : pv[t]? = some (pv[t]'(by omega)) := List.getElem?_eq_getElem (by omega)
      have h2 := ih _ hb
      have h3 := h.inc t (t + 1) _ a (by omega) hb ha
      omega
  have h2 : ∀ s t a : Nat, t + s + 1 = n → pv[t]? = some a → a ≤ t := fun s => by
    induction s with
    | zero => intro t a e ha; have := h.lt t a ha; omega
    | succ s ih =>
      intro t a e ha
      have hb : pv[t + 1]? = some (pv[t + 1]'(by omega)) := List.getElem?_eq_getElem (by omega)
      have h2 := ih (t + 1) _ (by omega) hb
      have h3 := h.inc t (t + 1) a _ (by omega) ha hb
      omega
  intro t ht
  have hb : pv[t]? = some (pv[t]'(by omega)) := List.getElem?_eq_getElem (by omega)
  have e1 := h1 t _ hb
  have e2 := h2 (n - 1 - t) t _ (by omega) hb
  rw [hb]
  congr 1
  omega
theorem Rref.unit {n : Nat} {E : Nat → Nat → Rat} {pv : List Nat} (h : Rref n n E pv) (hl : pv.length = n) {i j : Nat} (hi : i < n) (hj : j < n) : E i j = dlt i j := h.one j j i (Rref.whole h hl j hj) hi
theorem Eqv.less {n m l : Nat} {A B : Nat → Nat → Rat} (h : Eqv n m A B) (hl : l ≤ n) : Eqv l m A B := by
  obtain ⟨⟨U, hU⟩, ⟨V, hV⟩⟩ := h
  exact ⟨⟨U, fun i j hi hj => hU i j hi (by omega)⟩, ⟨V, fun i j hi hj => hV i j hi (by omega)⟩⟩
theorem Eqv.right {n m : Nat} {A B C : Nat → Nat → Rat} (h : Eqv n m A B) (e : ∀ i j, i < m → j < n → B i j = C i j) : Eqv n m A C :=
  h.trans (Q17.eqv_scale (d := fun _ => 1) (fun _ _ => by decide) fun i j hi hj => by rw [Rat.one_mul]; exact e i j hi hj)
theorem inv_first {n : Nat} {P Q : Nat → Int} {E : Nat → Nat → Rat} (he : Eqv (2 * n) n E (qbu n P Q)) : Eqv n n E (qfr n P Q) :=
  Eqv.right (Eqv.less he (by omega)) fun i j hi hj => by unfold qbu; rw [if_pos hj]
theorem inv_pv {n : Nat} {P Q : Nat → Int} {E E' : Nat → Nat → Rat} {pv pv' : List Nat} (h : Rref n n E pv) (he : Eqv (2 * n) n E (qbu n P Q)) (h' : Rref n n E' pv') (he' : Eqv n n E' (qfr n P Q)) : pv = pv' :=
  (Q17.Rref.unique Q17.fld17 h h' ((inv_first he).trans he'.symm)).1
theorem inv_left {n : Nat} {P Q : Nat → Int} {E : Nat → Nat → Rat} {pv : List Nat} (h : Rref n n E pv) (hl : pv.length = n) (he : Eqv (2 * n) n E (qbu n P Q)) : ∀ i j, i < n → j < n → dlt i j = vm n (fun k => E i (n + k)) (qfr n P Q) j := by
  obtain ⟨⟨U, hU⟩, -⟩ := he
  have e1 : ∀ i k, i < n → k < n → E i (n + k) = U i k := fun i k hi hk => by
    rw [hU i (n + k) hi (by omega), ← vm_unit hk (U i)]
    refine vm_cg (fun _ _ => rfl) fun a ha => ?_
    unfold qbu dlt
    rw [if_neg (by omega), Nat.add_sub_cancel_left]
    by_cases q : k = a
    · rw [if_pos q, if_pos q.symm]
    · rw [if_neg q, if_neg fun e => q e.symm]
  intro i j hi hj
  rw [← Rref.unit h hl hi hj, hU i j hi (by omega)]
  refine vm_cg (fun k hk => (e1 i k hi hk).symm) fun a ha => ?_
  unfold qbu
  rw [if_pos hj]
theorem inv_back {n : Nat} {P Q P' Q' : Nat → Int} {X E2 : Nat → Nat → Rat} {pv2 : List Nat} (hX : ∀ i j, i < n → j < n → dlt i j = vm n (X i) (qfr n P Q) j) (hq : ∀ i j, i < n → j < n → qfr n P' Q' i j = X i j) (h2 : Rref n n E2 pv2) (he2 : Eqv (2 * n) n E2 (qbu n P' Q')) : pv2.length = n ∧ ∀ i j, i < n → j < n → E2 i (n + j) = qfr n P Q i j := by
  obtain ⟨F, hF⟩ : ∃ F : Nat → Nat → Rat, F = fun i j => if j < n then dlt i j else qfr n P Q i (j - n) := ⟨_, rfl⟩
  have f1 : ∀ i j, j < n → F i j = dlt i j := fun i j hj => by rw [hF]; exact if_pos hj
  have f2 : ∀ i j, ¬ j < n → F i j = qfr n P Q i (j - n) := fun i j hj => by rw [hF]; exact if_neg hj
  clear hF
  have hXr : ∀ i j, i < n → j < n → vm n (qfr n P Q i) X j = dlt i j := fun i j hi hj => Q17.inv_both17 hX hi hj
  have eF : Eqv (2 * n) n F (qbu n P' Q') := by
    refine ⟨⟨qfr n P Q, fun i j hi hj => ?_⟩, ⟨X, fun i j hi hj => ?_⟩⟩
    · by_cases q : j < n
      · rw [f1 i j q, ← hXr i j hi q]
        refine vm_cg (fun _ _ => rfl) fun a ha => ?_
        unfold qbu
        rw [if_pos q, hq a j ha q]
      · rw [f2 i j q, ← vm_unit (show j - n < n by omega) (qfr n P Q i)]
        refine vm_cg (fun _ _ => rfl) fun a ha => ?_
        unfold qbu dlt
        rw [if_neg q]
        by_cases e : j - n = a
        · rw [if_pos e, if_pos e.symm]
        · rw [if_neg e, if_neg fun q => e q.symm]
    · by_cases q : j < n
      · have : qbu n P' Q' i j = X i j := by unfold qbu; rw [if_pos q, hq i j hi q]
        rw [this, ← vm_unit q (X i)]
        exact vm_cg (fun _ _ => rfl) fun a ha => (f1 a j q).symm
      · have : qbu n P' Q' i j = dlt i (j - n) := by
          unfold qbu dlt
          rw [if_neg q]
          by_cases e : j - n = i
          · rw [if_pos e, if_pos e.symm]
          · rw [if_neg e, if_neg fun q => e q.symm]
        rw [this, hX i (j - n) hi (by omega)]
        exact vm_cg (fun _ _ => rfl) fun a ha => (f2 a j q).symm
  have g : ∀ {t a : Nat}, (List.range n)[t]? = some a → t = a ∧ t < n := fun {t a} h => by
    have hlt : t < n := by have := (List.getElem?_eq_some_iff.1 h).1; simpa using this
    rw [List.getElem?_range hlt] at h
    exact ⟨by simpa using h, hlt⟩
  have rF : Rref n n F (List.range n) := by
    refine ⟨by simp, fun s t a b hst h1 h2 => ?_, fun t a h1 => ?_, fun t a i h1 hi => ?_, fun t a j h1 hj => ?_, fun i j h1 h2 h3 => ?_⟩
    · have := g h1; have := g h2; omega
    · have := g h1; omega
    · obtain ⟨rfl, hlt⟩ := g h1
      exact f1 i t hlt
    · obtain ⟨rfl, hlt⟩ := g h1
      rw [f1 t j (by omega)]
      unfold dlt
      exact if_neg (by omega)
    · simp at h1; omega
  have eE := he2.trans eF.symm
  obtain ⟨u1, u2⟩ := Q17.Rref.unique Q17.fld17 h2 rF (Eqv.less eE (by omega))
  refine ⟨by rw [u1]; simp, fun i j hi hj => ?_⟩
  obtain ⟨⟨U, hU⟩, -⟩ := eE
  have eU : ∀ k, k < n → U i k = dlt i k := fun k hk => by
    rw [← f1 i k hk, ← u2 i k hi hk, hU i k hi (by omega), ← vm_unit hk (U i)]
    exact vm_cg (fun _ _ => rfl) fun a ha => (f1 a k hk).symm
  rw [hU i (n + j) hi (by omega), ← Q17.vm_dlt hi (qfr n P Q) j]
  refine vm_cg eU fun a ha => ?_
  rw [f2 a (n + j) (by omega), Nat.add_sub_cancel_left]
end Go.Proofs.YthpldhaolpmneaaGreat

/- Ig17 -/
namespace Go.Proofs.YthpldhaolpmneaaGreat
open Go.RowKit
open Q17 (Rref Eqv Comb sm vm dlt)
set_option linter.unusedVariables false

abbrev nmR (R : Nat → Rat) (t : Nat) : Int := (R t).num
abbrev dnR (R : Nat → Rat) (t : Nat) : Int := ((R t).den : Int)
def ivR (n : Nat) (E : Nat → Nat → Rat) (t : Nat) : Rat := E (t / n) (n + t % n)
def idR (n : Nat) (t : Nat) : Rat := Rat.divInt ((unitL n n).getD t 0) 1
def mlR (n : Nat) (P Q P' Q' : Nat → Int) (t : Nat) : Rat := mlF n n P Q P' Q' (t / n) (t % n)
theorem idx17 {n i j : Nat} (hj : j < n) : (i * n + j) / n = i ∧ (i * n + j) % n = j := by
  have h0 : 0 < n := by omega
  constructor
  · rw [Nat.mul_comm, Nat.mul_add_div h0, Nat.div_eq_of_lt hj, Nat.add_zero]
  · rw [Nat.mul_comm, Nat.mul_add_mod, Nat.mod_eq_of_lt hj]
theorem rem17 {n t : Nat} (ht : t < n * n) : t / n < n ∧ t % n < n ∧ t / n * n + t % n = t := by
  have h0 : 0 < n := by
    rcases Nat.eq_zero_or_pos n with q | q
    · subst q; omega
    · exact q
  exact ⟨Nat.div_lt_of_lt_mul ht, Nat.mod_lt _ h0, by rw [Nat.mul_comm]; exact Nat.div_add_mod t n⟩
theorem qfr_num {n i j : Nat} {R : Nat → Rat} : qfr n (nmR R) (dnR R) i j = R (i * n + j) := Rat.num_divInt_den _
theorem qfr_iv {n i j : Nat} {E : Nat → Nat → Rat} (hj : j < n) : qfr n (nmR (ivR n E)) (dnR (ivR n E)) i j = E i (n + j) := by
  rw [qfr_num]; unfold ivR; rw [(idx17 hj).1, (idx17 hj).2]
theorem idR_at {n i j : Nat} (hi : i < n) (hj : j < n) : idR n (i * n + j) = dlt i j := by
  unfold idR dlt
  rw [unit_at hi hj]
  by_cases e : j = i
  · rw [if_pos e, if_pos e.symm]; rfl
  · rw [if_neg e, if_neg fun q => e q.symm]; rfl
theorem dnR_ne (R : Nat → Rat) (t : Nat) : dnR R t ≠ 0 := by have := (R t).den_pos; show ((R t).den : Int) ≠ 0; omega
theorem law_p {n : Nat} {P Q : Nat → Int} {E : Nat → Nat → Rat} (hX : ∀ i j, i < n → j < n → dlt i j = vm n (fun k => E i (n + k)) (qfr n P Q) j) {t : Nat} (ht : t < n * n) : mlR n P Q (nmR (ivR n E)) (dnR (ivR n E)) t = idR n t := by
  obtain ⟨h1, h2, h3⟩ := rem17 ht
  have e : idR n t = dlt (t / n) (t % n) := by rw [← idR_at h1 h2, h3]
  unfold mlR
  rw [mlF_eq, e, ← Q17.inv_both17 (X := fun i k => E i (n + k)) hX h1 h2]
  exact vm_cg (fun _ _ => rfl) fun a ha => qfr_iv h2
theorem law_r {n : Nat} {P Q : Nat → Int} {E : Nat → Nat → Rat} (hX : ∀ i j, i < n → j < n → dlt i j = vm n (fun k => E i (n + k)) (qfr n P Q) j) {t : Nat} (ht : t < n * n) : mlR n (nmR (ivR n E)) (dnR (ivR n E)) P Q t = idR n t := by
  obtain ⟨h1, h2, h3⟩ := rem17 ht
  have e : idR n t = dlt (t / n) (t % n) := by rw [← idR_at h1 h2, h3]
  unfold mlR
  rw [mlF_eq, e, hX _ _ h1 h2]
  exact vm_cg (fun k hk => qfr_iv hk) fun a ha => rfl
theorem law_low {n : Nat} {P Q : Nat → Int} {t : Nat} (ht : t < n * n) : mlR n (nmR (idR n)) (dnR (idR n)) P Q t = qfr n P Q (t / n) (t % n) := by
  obtain ⟨h1, h2, h3⟩ := rem17 ht
  unfold mlR
  rw [mlF_eq, ← Q17.vm_dlt h1 (qfr n P Q) (t % n)]
  exact vm_cg (fun k hk => by rw [qfr_num]; exact idR_at h1 hk) fun a ha => rfl
theorem law_back {n : Nat} {P Q : Nat → Int} {E E2 : Nat → Nat → Rat} {pv2 : List Nat} (hX : ∀ i j, i < n → j < n → dlt i j = vm n (fun k => E i (n + k)) (qfr n P Q) j) (h2 : Rref n n E2 pv2) (he2 : Eqv (2 * n) n E2 (qbu n (nmR (ivR n E)) (dnR (ivR n E)))) :
    pv2.length = n ∧ ∀ t, t < n * n → ivR n E2 t = mlR n (nmR (idR n)) (dnR (idR n)) P Q t := by
  obtain ⟨u1, u2⟩ := inv_back (X := fun i k => E i (n + k)) hX (fun i j hi hj => qfr_iv hj) h2 he2
  refine ⟨u1, fun t ht => ?_⟩
  obtain ⟨h1, h2, h3⟩ := rem17 ht
  rw [law_low ht]
  exact u2 _ _ h1 h2
/-- What was read has few words. -/
theorem Qc.lt {w : World} {v : Value} {n k : Nat} {R : Nat → Rat} (h : Qc w v n R k) : ∀ t, t < n → (((R t).num.natAbs : Int) < pw k) ∧ ((R t).den : Int) < pw k := fun t ht => by
  obtain ⟨a, c, h1, h2, h3, h4⟩ := h
  rcases h4 with h4 | ⟨b, off, h5, h6, h7⟩
  · omega
  · obtain ⟨n1, a1, l1, c1, n2, a2, l2, c2, e1, e2, e3, e4, e5, e6⟩ := h7 t ht
    have g1 := e5.zi.lt
    have g2 := e6.zi.lt
    rw [Int.natAbs_natCast] at g2
    exact ⟨g1, g2⟩
theorem Qc.wd {w : World} {v : Value} {n k : Nat} {R : Nat → Rat} (h : Qc w v n R k) : Wd17 n (nmR R) (dnR R) (fun _ => 2 * k) (n * (2 * k)) :=
  wd_even (fun t _ => dnR_ne R t) fun t ht => ⟨Int.le_of_lt (h.lt t ht).1, by
    show ((((R t).den : Int).natAbs : Nat) : Int) ≤ pw k
    rw [Int.natAbs_natCast]
    exact Int.le_of_lt (h.lt t ht).2⟩
theorem inv_kw {n : Nat} {P Q : Nat → Int} {u : Nat → Nat} {S K : Nat} (h : Wd17 (n * n) P Q u S) (hn : n ≤ 64) (hS : S + 65 ≤ K) (f : Nat → Nat) : ((dcl (wha (2 * n) (buP n P) (buQ n Q)) n (2 * n) f).natAbs : Int) < pw K :=
  Int.lt_of_lt_of_le (inv_size h hn f) (pw_le17 (by omega))
theorem form_kw {n : Nat} {P Q : Nat → Int} {u : Nat → Nat} {S K : Nat} (h : Wd17 (n * n) P Q u S) (hn : n ≤ 64) (hS : S + 65 ≤ K) (f : Nat → Nat) : ((dcl (wha n (rwP n P) (rwP n Q)) n n f).natAbs : Int) < pw K :=
  Int.lt_of_lt_of_le (form_size h hn f) (pw_le17 (by omega))
end Go.Proofs.YthpldhaolpmneaaGreat

/- Fr17 -/
namespace Go.Proofs.YthpldhaolpmneaaGreat
open Go.RowKit
set_option linter.unusedVariables false
set_option linter.unusedSimpArgs false

def Frd (w : World) (r c : Nat) (zs : List Int) (k : Nat) (e : Ending) (w' : World) : Prop := ∃ g, e = .returned (.tuple #[qmv r c (.slice (some ⟨g, 0, none⟩) (r * c) (r * c)), .int .i64 0]) ∧ FilQ w' g (r * c) (r * c) (fun t => Rat.divInt (zs.getD t 0) 1) k ∧ Below w.heap.size w w'
set_option maxHeartbeats 3200000 in
set_option maxRecDepth 100000 in
theorem from_yes17 {w : World} {v : Value} {r c k : Nat} {zs : List Int} (hm : Mx w v r c zs k) (hk : k ≤ 68719476736) (hk1 : 1 ≤ k) : Calls Tryz.prog 26 #[v] w (Frd w r c zs k) := by
  have HM := hid hm
  have HZL : Hid (∃ a cap, v = matv r c (.slice a (r * c) cap) ∧ zs.length = r * c ∧ Zl w (.slice a (r * c) cap) zs k) := by
    obtain ⟨at_, ps, h1, h2, h3, h4, -, -⟩ := hm
    obtain ⟨a0, c0, rfl, -, -, -, -⟩ := h2.form
    have hz := zl_of h2 h3
    rw [h3.1, h4] at h1 hz
    exact ⟨_, _, h1, h4, hz⟩
  obtain ⟨a, cap, rfl, hlen, hzl⟩ := HZL.out
  clear HZL
  obtain ⟨-, -, -, hr, hc⟩ := hm.form
  have hn2 : r * c ≤ 1048576 := Nat.le_trans (Nat.mul_le_mul hr hc) (by omega)
  obtain ⟨n, hn⟩ : ∃ n, r * c = n := ⟨_, rfl⟩
  unfold Frd
  rw [hn] at hlen hzl hn2 HM hm ⊢
  obtain ⟨W1, hW⟩ : ∃ W1, (w.alloc (matO r c (.slice a n cap))).alloc (.cells #[.int .i64 0, .int .i64 0, .slice none 0 0] 24) = W1 := ⟨_, rfl⟩
  obtain ⟨b0, sz0⟩ := alloc2 w (matO r c (.slice a n cap)) (.cells #[.int .i64 0, .int .i64 0, .slice none 0 0] 24)
  rw [hW] at b0 sz0
  have CM : Hid (Cel W1 w.heap.size 35 (matc r c (.slice a n cap))) := by
    unfold Hid; rw [← hW]
    exact (Cel.new w 35 (matc r c (.slice a n cap))).step (alo1 _ _).1
  have C0 : Hid (Cel W1 (w.heap.size + 1) 24 [.int .i64 0, .int .i64 0, .slice none 0 0]) := by
    unfold Hid; rw [← hW]
    have := Cel.new (w.alloc (matO r c (.slice a n cap))) 24 [.int .i64 0, .int .i64 0, .slice none 0 0]
    simpa using this
  have HC := hid (check_yes (hm.now b0))
  have B0 := hid b0
  have EW := hid hW
  have ZL := hid (hzl.now b0)
  have HLEN := hid hlen
  have HK := hid hk
  have HK1 := hid hk1
  have HN2 := hid hn2
  have x0 := CM.out.at (i := 0) rfl
  have x1 := CM.out.at (i := 1) rfl
  have x2 := CM.out.at (i := 2) rfl
  rw [← hW] at x0 x1 x2
  clear b0 sz0 hW hm HM hzl hlen hk hk1 hn2
  go_enter Tryz.func26, Tryz.ntmps26
  go_wp2_with fail
  rw [EW.out]
  refine HC.out.mono ?_
  rintro e w1 ⟨rfl, b1⟩
  have CM1 := hid (CM.out.step b1)
  have C1 := hid (C0.out.step b1)
  have G1 := hid (below_step B0.out b1)
  have ZL1 := hid (ZL.out.now b1)
  have y0 := CM1.out.at (i := 0) rfl
  have y1 := CM1.out.at (i := 1) rfl
  have y2 := CM1.out.at (i := 2) rfl
  clear HC b1 CM C0 B0 EW x0 x1 x2 ZL CM1
  go_wp2_with fail
  have KB : Hid (∀ w', Below w1.heap.size w1 w' → w'.cell? ⟨w.heap.size, 0, none⟩ = some (.int .i64 (r : Int)) ∧ w'.cell? ⟨w.heap.size, 1, none⟩ = some (.int .i64 (c : Int)) ∧ w'.cell? ⟨w.heap.size, 2, none⟩ = some (.slice a n cap)) := fun w' h => ⟨cnow h y0, cnow h y1, cnow h y2⟩
  refine wp_region_tail (fun w' => w'.cell? ⟨w.heap.size, 0, none⟩ = some (.int .i64 (r : Int)) ∧ w'.cell? ⟨w.heap.size, 1, none⟩ = some (.int .i64 (c : Int)) ∧ w'.cell? ⟨w.heap.size, 2, none⟩ = some (.slice a n cap)) 9 (by kernel_rfl) ?_
  obtain ⟨D21, hD⟩ : ∃ D21, w1.drew = D21 := ⟨_, rfl⟩
  have GB : Hid (Below w1.heap.size w1 D21) := by unfold Hid; rw [← hD]; exact (Below.refl _ _).drew
  rw [hD]
  clear hD
  refine wpAnyT_list [(0, (.pointer (some ⟨w.heap.size, 0, none⟩))), (1, (.int .i64 (r : Int))), (2, (.pointer (some ⟨w.heap.size, 1, none⟩))), (3, (.int .i64 (c : Int))), (4, (.pointer (some ⟨w.heap.size, 2, none⟩))), (5, (.slice a n cap))] 6 ?_ (KB.out _ GB.out) ?_
  · simp only [TakesV, gA9, g09, g19, Act.put, sI9, s09, s19]
    (repeat' (first | exact trivial | refine And.intro (Or.inl ⟨by rfl, ?_⟩) ?_)) <;> (intro w hSw; (try dsimp only at hSw); go_simp)
  simp only [actV, gA9, g09, g19, Act.put, sI9, s09, s19]
  refine wpAnyT_one (i := 6) (o := { dst := some 17, op := Op.call { callee := Callee.value (Operand.func 60), args := #[Operand.const (Value.int IntKind.i64 1)], argTypes := #[2] }, type := 45, pos := "rref.go:23", after := #[], guard := none }) (by kernel_rfl) rfl (fun K hK => ?_)
  go_simp
  go_at_call 60
  refine (of_z (n := 1) (by omega) (by omega) _).mono ?_
  rintro e w22 ⟨r1, rfl, m1, b⟩
  have lz22 := (show Below _ _ _ from b).size
  replace GB := hid (below_step GB.out b)
  obtain ⟨n1, x1, a1, c1, rfl⟩ := m1.parts
  have MO := hid ((m1.zi).more HK1.out)
  clear m1
  clear b
  refine hK.out _ _ (fun _ => KB.out _ GB.out) ?_
  clear hK
  refine wpAnyT_one (i := 7) (o := { dst := some 18, op := Op.call { callee := Callee.value (Operand.func 31), args := #[Operand.tmp 16, Operand.tmp 17], argTypes := #[33, 45] }, type := 22, pos := "rref.go:23", after := #[{ on := 5, ground := Ground.data }, { on := 6, ground := Ground.data }, { on := 6, ground := Ground.chain }], guard := none }) (by kernel_rfl) rfl (fun K hK => ?_)
  go_simp
  go_at_call 31
  refine (over_any (n := n) (ZL1.out.now GB.out) MO.out (by decide) HK.out HLEN.out HN2.out).mono ?_
  rintro e w23 ⟨go, rfl, hgn, hfq, b⟩
  have lz23 := (show Below _ _ _ from b).size
  replace GB := hid (below_step GB.out b)
  have FQ := hid hfq
  clear hfq hgn MO
  clear b
  refine hK.out _ _ (fun _ => KB.out _ GB.out) ?_
  clear hK
  refine wpAnyT_list [(8, (.agg #[.int .i64 (r : Int), .int .i64 (c : Int), .slice (some ⟨go, 0, none⟩) n n]))] 1 ?_ (KB.out _ GB.out) ?_
  · simp only [TakesV, gA9, g09, g19, Act.put, sI9, s09, s19]
    (repeat' (first | exact trivial | refine And.intro (Or.inl ⟨by rfl, ?_⟩) ?_)) <;> (intro w hSw; (try dsimp only at hSw); go_simp)
  simp only [actV, gA9, g09, g19, Act.put, sI9, s09, s19]
  refine wpAnyT_one (i := 9) (o := { dst := none, op := Op.store 24 (Operand.tmp 2) (Operand.tmp 19), type := 0, pos := "rref.go:23", after := #[{ on := 8, ground := Ground.data }, { on := 7, ground := Ground.chain }, { on := 0, ground := Ground.phase }, { on := 1, ground := Ground.phase }, { on := 2, ground := Ground.phase }, { on := 3, ground := Ground.phase }, { on := 4, ground := Ground.phase }, { on := 5, ground := Ground.phase }, { on := 6, ground := Ground.phase }, { on := 7, ground := Ground.phase }, { on := 8, ground := Ground.phase }], guard := none }) (by kernel_rfl) rfl (fun K hK => ?_)
  have C3 := hid (C1.out.step GB.out)
  have h0 := C3.out.at (i := 0) rfl
  have j0 := C3.out.fz 0
  have h1 := C3.out.at (i := 1) rfl
  have j1 := C3.out.fz 1
  have h2 := C3.out.at (i := 2) rfl
  have j2 := C3.out.fz 2
  go_simp
  clear h0 h1 h2 j0 j1 j2
  obtain ⟨V24, hW⟩ : ∃ V24, (((w23.setCell ⟨w.heap.size + 1, 0, none⟩ (.int .i64 (r : Int))).setCell ⟨w.heap.size + 1, 1, none⟩ (.int .i64 (c : Int))).setCell ⟨w.heap.size + 1, 2, none⟩ (.slice (some ⟨go, 0, none⟩) n n)) = V24 := ⟨_, rfl⟩
  have DR : Hid (Cel V24 (w.heap.size + 1) 24 [.int .i64 (r : Int), .int .i64 (c : Int), .slice (some ⟨go, 0, none⟩) n n]) := by unfold Hid; rw [← hW]; exact ((C3.out.set 0 _).set 1 _).set 2 _
  have FF : Hid (∃ g, (Ending.returned (.tuple #[.agg #[.int .i64 (r : Int), .int .i64 (c : Int), .slice (some ⟨go, 0, none⟩) n n], .int .i64 0])) = .returned (.tuple #[qmv r c (.slice (some ⟨g, 0, none⟩) n n), .int .i64 0]) ∧ FilQ V24 g n n (fun t => Rat.divInt (zs.getD t 0) 1) k ∧ Below w.heap.size w V24) := by
    have t : Ty 24 w23 V24 := by rw [← hW]; exact ((Ty.set C3.out).trans (Ty.set (C3.out.set 0 _))).trans (Ty.set ((C3.out.set 0 _).set 1 _))
    refine ⟨go, rfl, FQ.out.ty t (by decide) (by decide), ?_⟩
    rw [← hW]
    have h : w.heap.size ≤ w.heap.size + 1 := by omega
    exact bset (bset (bset (below_step G1.out GB.out) h) h) h
  rw [hW]
  clear hW
  refine hK.out _ _ (fun h => absurd h (by decide)) ?_
  clear hK
  try simp only [Act.put]
  refine wpAnyT_one (i := 10) (o := { dst := some 3, op := Op.assign (Operand.const (Value.int IntKind.i64 0)), type := 27, pos := "rref.go:23", after := #[{ on := 9, ground := Ground.chain }, { on := 0, ground := Ground.phase }, { on := 1, ground := Ground.phase }, { on := 2, ground := Ground.phase }, { on := 3, ground := Ground.phase }, { on := 4, ground := Ground.phase }, { on := 5, ground := Ground.phase }, { on := 6, ground := Ground.phase }, { on := 7, ground := Ground.phase }, { on := 8, ground := Ground.phase }, { on := 9, ground := Ground.phase }], guard := none }) (by kernel_rfl) rfl (fun K hK => ?_)
  go_simp
  refine hK.out _ _ (fun h => absurd h (by decide)) ?_
  clear hK
  try simp only [Act.put]
  refine wpAnyT_done (by kernel_rfl) ?_ _
  clear GB KB FQ C3 ZL1 C1 G1
  go_wp2
  exact bodyPost_ret (qback2 Tryz.results26 DR.out _ (by rfl) (by rfl)) rfl FF.out
end Go.Proofs.YthpldhaolpmneaaGreat
