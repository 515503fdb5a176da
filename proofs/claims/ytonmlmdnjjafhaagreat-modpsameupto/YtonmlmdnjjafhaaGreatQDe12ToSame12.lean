/-
  QDe12ToSame12: De12, Sa12, Same12, joined.
-/
import Derived.Test.YtonmlmdnjjafhaaGreatQSb12ToCo12
import Derived.Test.YtonmlmdnjjafhaaGreatQKe12ToRm12
import Derived.Test.YtonmlmdnjjafhaaGreatQZr12
import Derived.Test.YtonmlmdnjjafhaaGreatQLw12
import Derived.Test.YtonmlmdnjjafhaaGreatQCols9ToOpenM9

/- De12 -/
namespace Go.Proofs.YtonmlmdnjjafhaaGreat
set_option linter.unusedVariables false

/-- To all rows but one, that one is added as often as one likes. -/
theorem Alt.rows {n : Nat} {F : (Nat → Nat → Int) → Int} (h : Alt n F) {top : Nat} (ht : top < n) (A : Nat → Nat → Int) (t : Nat → Int) : F (fun i j => if i = top then A i j else A i j + t i * A top j) = F A := by
  have key : ∀ k, k ≤ n → F (fun i j => if i = top ∨ k ≤ i then A i j else A i j + t i * A top j) = F A := by
    intro k
    induction k with
    | zero => intro _; exact h.congr _ _ fun i j _ _ => by rw [if_pos (.inr (Nat.zero_le i))]
    | succ k ih =>
      intro hk
      rw [← ih (by omega)]
      by_cases hkt : k = top
      · exact h.congr _ _ fun i j _ _ => by grind
      · rw [← h.plus (A := fun i j => if i = top ∨ k ≤ i then A i j else A i j + t i * A top j) (i := k) (k := top) (by omega) ht hkt (t k)]
        refine h.congr _ _ fun i j _ _ => ?_
        by_cases hik : i = k
        · subst hik
          rw [stR_at]; grind
        · rw [stR_off _ hik]; grind
  rw [← key n (Nat.le_refl n)]
  exact h.congr _ _ fun i j hi _ => by grind

section
variable {p : Nat} [NeZero p]
theorem fp_neg (x : Int) : (fp (-x) : Fin p) = - fp x := by
  have h := fp_sub (p := p) 0 x
  rw [fp_zero] at h
  rw [show (-x : Int) = 0 - x by omega, h]; grind
theorem fp_dvd {x y : Int} (h : (p : Int) ∣ x - y) : (fp x : Fin p) = fp y := fp_eq.2 (by
  obtain ⟨k, hk⟩ := h
  have : x = y + (p : Int) * k := by omega
  rw [this, Int.add_mul_emod_self_left])
theorem dvd_fp {x y : Int} (h : (fp x : Fin p) = fp y) : (p : Int) ∣ x - y := Int.dvd_of_emod_eq_zero (by
  have := fp_eq.1 h
  rw [Int.sub_emod, this]; simp)
theorem fp_det {n : Nat} {A B : Nat → Nat → Int} (h : ∀ i j, i < n → j < n → (fp (A i j) : Fin p) = fp (B i j)) : (fp (det n A) : Fin p) = fp (det n B) :=
  fp_dvd (det_dvd fun i j hi hj => dvd_fp (h i j hi hj))

/-- One column's step keeps the determinant times the factor. -/
theorem step_det (hp : IsPr p) {c r : Nat} {s : St12} (ho : Ok12 p r c r s) (hc : c < r) :
    (fp (det r (ent (step12 p c s).m)) : Fin p) * fp (step12 p c s).f = fp (det r (ent s.m)) * fp s.f := by
  have hp2 := hp.1
  have hl := ho.len
  unfold step12
  split
  · rfl
  · rename_i k hf
    obtain ⟨hk1, hk2, -⟩ := List.findIdx?_eq_some_iff_getElem.1 hf
    rw [List.length_drop] at hk1
    have hkn : ent s.m (s.pv.length + k) c ≠ 0 := by
      unfold ent
      rw [rowE_at (by omega)]
      rw [List.getElem_drop] at hk2
      simpa using hk2
    have hm1 : ∃ m1 f1, (if 0 < k then swE s.m s.pv.length (s.pv.length + k) else s.m) = m1 ∧ (if 0 < k then ((p : Int) - s.f) % (p : Int) else s.f) = f1 ∧ WidE r m1 ∧ ResM p m1 ∧ m1.length = r ∧ ent m1 s.pv.length c = ent s.m (s.pv.length + k) c ∧ (fp (det r (ent m1)) : Fin p) * fp f1 = fp (det r (ent s.m)) * fp s.f := by
      refine ⟨_, _, rfl, rfl, ?_, ?_, ?_, ?_, ?_⟩
      · split
        · exact swE_wide ho.wid (by omega) (by omega)
        · exact ho.wid
      · split
        · exact swE_res ho.res
        · exact ho.res
      · split
        · simp [swE, hl]
        · exact hl
      · split
        · rw [ent_sw (by omega) (by omega) (by omega), if_pos rfl]
        · obtain rfl : k = 0 := by omega
          rfl
      · split
        · next hk =>
          have e := (det_alt r).swap (A := ent s.m) (i := s.pv.length) (k := s.pv.length + k) (by omega) (by omega) (by omega)
          have e' : det r (ent (swE s.m s.pv.length (s.pv.length + k))) = - det r (ent s.m) := by
            rw [← e]
            refine det_congr fun i j hi hj => ?_
            rw [ent_sw (by omega) (by omega) (by omega)]
            by_cases h2 : i = s.pv.length + k
            · subst h2
              rw [stR_at, if_neg (by omega), if_pos rfl]
            · rw [stR_off _ h2]
              by_cases h1 : i = s.pv.length
              · subst h1
                rw [stR_at, if_pos rfl]
              · rw [stR_off _ h1, if_neg h1, if_neg h2]
          rw [e', fp_neg, fp_mod, fp_sub, fp_p]
          grind
        · rfl
    obtain ⟨m1, f1, em, ef, w1, r1, l1, ex, e1⟩ := hm1
    simp only [em, ef]
    have ht : s.pv.length < r := by omega
    have hx : ent m1 s.pv.length c ≠ 0 := by rw [ex]; exact hkn
    have rx : IsR p (ent m1 s.pv.length c) := (r1.at s.pv.length).getD (by omega) c
    obtain ⟨x, hxx⟩ : ∃ x, ent m1 s.pv.length c = x := ⟨_, rfl⟩
    rw [hxx] at hx rx
    simp only [hxx]
    have hy := inv_right hp rx hx
    obtain ⟨rt, hrt⟩ : ∃ rt, dvL p x (rowE m1 s.pv.length) = rt := ⟨_, rfl⟩
    simp only [hrt]
    have lrt : rt.length = r := by rw [← hrt, dvL_len]; exact w1.at (by omega)
    have hrtj : ∀ j, j < r → (fp (rt.getD j 0) : Fin p) = fp (ent m1 s.pv.length j) * fp (invP p x) := fun j hj => by
      rw [← hrt, dvL_at (q := p) (by rw [w1.at (by omega)]; exact hj)]
      rfl
    have key : ∀ i j, i < r → j < r → (fp (ent (clr p c s.pv.length rt (m1.set s.pv.length rt) m1.length) i j) : Fin p) = fp (if i = s.pv.length then stR (ent m1) s.pv.length (fun j => invP p x * ent m1 s.pv.length j) i j else stR (ent m1) s.pv.length (fun j => invP p x * ent m1 s.pv.length j) i j + (- ent m1 i c) * stR (ent m1) s.pv.length (fun j => invP p x * ent m1 s.pv.length j) s.pv.length j) := fun i j hi hj => by
      have hset : rowE (m1.set s.pv.length rt) i = if s.pv.length = i then rt else rowE m1 i := rowE_set (by omega)
      show fp ((rowE (clr p c s.pv.length rt (m1.set s.pv.length rt) m1.length) i).getD j 0) = _
      rw [clr_at (by rw [List.length_set]; omega), stR_at]
      by_cases e : i = s.pv.length
      · rw [if_pos (.inl e), if_pos e, hset, if_pos e.symm, hrtj j hj, e, stR_at, fp_mul]
        grind
      · rw [if_neg (by omega), if_neg e, stR_off _ e]
        have he : ent (m1.set s.pv.length rt) i c = ent m1 i c := by
          unfold ent
          rw [hset, if_neg (fun q => e q.symm)]
        rw [hset, if_neg (fun q => e q.symm), he, tkL_at (by rw [w1.at (by omega)]; exact hj) (by rw [lrt, w1.at (by omega)]), hrtj j hj, fp_add, fp_mul, fp_neg, fp_mul]
        show fp (ent m1 i j) - _ = _
        grind
    rw [fp_det key, (det_alt r).rows ht _ (fun i => - ent m1 i c), (det_alt r).mul ht, stR_self, fp_mul, fp_mod, fp_mul, ← e1]
    grind

theorem red_det0 (hp : IsPr p) {r : Nat} {m : List (List Int)} (hw : WidE r m) (hr : ResM p m) (hl : m.length = r) : ∀ c, c ≤ r → (fp (det r (ent (red12 p m c).m)) : Fin p) * fp (red12 p m c).f = fp (det r (ent m))
  | 0, _ => by
    show fp (det r (ent m)) * fp 1 = _
    rw [fp_one hp.1]; grind
  | c + 1, h => by
    rw [← red_det0 hp hw hr hl c (by omega)]
    exact step_det hp (Ok12.red hp.1 hw hr hl c) (by omega)

theorem inc_full : ∀ {l : List Nat} {r : Nat}, l.length = r → (∀ (s t a b : Nat), s < t → l[s]? = some a → l[t]? = some b → a < b) → (∀ (t a : Nat), l[t]? = some a → a < r) → ∀ t, t < r → l[t]? = some t := by
  intro l r hl hi hr t ht
  have up : ∀ t, t < r → ∀ a, l[t]? = some a → t ≤ a := by
    intro t
    induction t with
    | zero => intros; omega
    | succ t ih =>
      intro h a ha
      have e : l[t]? = some (l[t]'(by omega)) := by simp; 
      have h1 := ih (by omega) _ e
      have h2 := hi t (t + 1) _ a (by omega) e ha
      omega
  have dn : ∀ d, d < r → ∀ a, l[r - 1 - d]? = some a → a ≤ r - 1 - d := by
    intro d
    induction d with
    | zero => intro h a ha; have := hr _ a ha; omega
    | succ d ih =>
      intro h a ha
      have e : l[r - 1 - d]? = some (l[r - 1 - d]'(by omega)) := by simp
      have h1 := ih (by omega) _ e
      have h2 := hi (r - 1 - (d + 1)) (r - 1 - d) a _ (by omega) ha e
      omega
  have e : l[t]? = some (l[t]'(by omega)) := by simp
  have h1 := up t ht _ e
  have h2 := dn (r - 1 - t) (by omega) (l[t]'(by omega)) (by rw [show r - 1 - (r - 1 - t) = t by omega]; exact e)
  rw [e]; congr 1; omega

/-- What Det answers is the determinant's least residue. -/
theorem red_det (hp : IsPr p) {r : Nat} {m : List (List Int)} (hw : WidE r m) (hr : ResM p m) (hl : m.length = r) : (if (red12 p m r).pv.length < r then 0 else (red12 p m r).f) = det r (ent m) % (p : Int) := by
  have h0 := red_det0 hp hw hr hl r (Nat.le_refl r)
  have h1 := (red_rref hp hw hr hl r (Nat.le_refl r)).1
  have ho := Ok12.red hp.1 hw hr hl r
  have hp0 : 0 < p := by have := hp.1; omega
  refine fp_inj (p := p) ?_ (emod_isR hp0 _) ?_
  · split
    · exact ⟨by omega, by omega⟩
    · exact ho.fac
  rw [fp_mod, ← h0]
  split
  · next hlt =>
    have e : det r (ent (red12 p m r).m) = 0 := (det_alt r).nul (i := (red12 p m r).pv.length) hlt fun j hj => (fp_is_zero ((ho.res.at _).getD hp0 j)).1 (h1.zer _ j (Nat.le_refl _) hlt hj)
    rw [e, fp_zero]; grind
  · next hge =>
    have hlen : (red12 p m r).pv.length = r := by have := h1.len; omega
    have hpv := inc_full hlen h1.inc h1.lt
    have e : det r (ent (red12 p m r).m) = 1 := by
      rw [← det_unit r]
      refine det_congr fun i j hi hj => fp_inj (p := p) ((ho.res.at _).getD hp0 j) ?_ ?_
      · unfold dlz; have := hp.1; split <;> exact ⟨by omega, by omega⟩
      · have := h1.one j j i (hpv j hj) hi
        show mt (red12 p m r).m i j = _
        rw [this]; unfold dlt dlz
        split
        · rw [fp_one hp.1]
        · rw [fp_zero]
    rw [e, fp_one hp.1]; grind
end
end Go.Proofs.YtonmlmdnjjafhaaGreat

/- Sa12 -/
namespace Go.Proofs.YtonmlmdnjjafhaaGreat
open Go.RowKit
set_option linter.unusedVariables false

theorem flat_ent {n : Nat} : ∀ {ls : List (List Int)} {i j : Nat}, WidE n ls → i < ls.length → j < n → ls.flatten.getD (i * n + j) 0 = ent ls i j
  | [], i, j, _, hi, _ => by simp at hi
  | l :: ls, 0, j, hw, _, hj => by
    have hl : l.length = n := hw l (by simp)
    have e : (l :: ls).flatten = l ++ ls.flatten := rfl
    rw [e, Nat.zero_mul, Nat.zero_add]
    simp [ent, rowE, List.getElem?_append_left (show j < l.length by omega)]
  | l :: ls, i + 1, j, hw, hi, hj => by
    have hl : l.length = n := hw l (by simp)
    have e : (l :: ls).flatten = l ++ ls.flatten := rfl
    have ih := flat_ent (ls := ls) (i := i) (j := j) (fun x hx => hw x (by simp [hx])) (by simpa using hi) hj
    have e2 : ent (l :: ls) (i + 1) j = ent ls i j := by simp [ent, rowE]
    rw [e2, ← ih, e]
    simp only [List.getD_eq_getElem?_getD]
    rw [List.getElem?_append_right (by rw [hl, Nat.succ_mul]; omega)]
    congr 2
    rw [hl, Nat.succ_mul]; omega
theorem ent_lines {p r c i j : Nat} {zs : List Int} (hl : zs.length = r * c) (hi : i < r) (hj : j < c) : ent (linesL p r c zs) i j = zs.getD (i * c + j) 0 % (p : Int) := by
  have h1 := flat_ent (n := c) (i := i) (j := j) (linesL_wide (p := p) hl) (by rw [linesL_len]; exact hi) hj
  rw [← h1, linesL_flat hl]
  have hlt : i * c + j < zs.length := by rw [hl]; exact place12 hi hj
  simp [resL, hlt]
section
variable {p : Nat} [NeZero p]
theorem fp_su : ∀ (n : Nat) (f : Nat → Int), (fp (su n f) : Fin p) = sm n fun k => fp (f k)
  | 0, f => fp_zero
  | n + 1, f => by
    show fp (su n f + f n) = sm n _ + fp (f n)
    rw [fp_add, fp_su n f]
def mz (c : Nat) (zs : List Int) (i j : Nat) : Fin p := fp (zs.getD (i * c + j) 0)
theorem mt_lines {r c i j : Nat} {zs : List Int} (hl : zs.length = r * c) (hi : i < r) (hj : j < c) : (mt (linesL p r c zs) i j : Fin p) = mz c zs i j := by
  unfold mt mz
  rw [ent_lines hl hi hj, fp_mod]
theorem mulL_len (r m c : Nat) (xs ys : List Int) : (mulL r m c xs ys).length = r * c := by simp [mulL]
theorem mulL_at {r m c i j : Nat} {xs ys : List Int} (hi : i < r) (hj : j < c) : (mulL r m c xs ys).getD (i * c + j) 0 = mulF m c xs ys i j m := by
  have hlt := place12 hi hj
  rw [← mulE_at hj]
  simp [mulL, hlt]
theorem mz_mul {r m c i j : Nat} {xs ys : List Int} (hi : i < r) (hj : j < c) : (mz c (mulL r m c xs ys) i j : Fin p) = vm m (mz m xs i) (mz c ys) j := by
  unfold mz
  rw [mulL_at hi hj]
  unfold mulF
  rw [fp_su]
  exact sm_congr fun k _ => fp_mul _ _
/-- A sheet's form. -/
theorem form12 (hp : IsPr p) {r c : Nat} {zs : List Int} (hl : zs.length = r * c) : Rref r c (mt (p := p) (red12 p (linesL p r c zs) c).m) (red12 p (linesL p r c zs) c).pv ∧ Eqv c r (mt (p := p) (red12 p (linesL p r c zs) c).m) (mz c zs) := by
  have hp2 := hp.1
  obtain ⟨h1, h2⟩ := red_rref hp (linesL_wide (p := p) hl) (linesL_res (by omega)) (linesL_len _ _ _ _) c (Nat.le_refl _)
  refine ⟨h1, h2.trans ?_⟩
  refine ⟨⟨dlt, fun i j hi hj => ?_⟩, ⟨dlt, fun i j hi hj => ?_⟩⟩
  · rw [mt_lines hl hi hj, vm_dlt hi]
  · rw [vm_dlt hi, mt_lines hl hi hj]
/-- A matrix of full rank has an inverse from the left. -/
theorem left_inv (hp : IsPr p) {r : Nat} {us : List Int} (hl : us.length = r * r) (hd : detN p r us ≠ 0) : ∃ V : Nat → Nat → Fin p, ∀ i j, i < r → j < r → dlt i j = vm r (V i) (mz r us) j := by
  obtain ⟨h1, h2⟩ := form12 hp hl
  have hlen : (red12 p (linesL p r r us) r).pv.length = r := by
    have := h1.len
    unfold detN at hd
    by_cases q : (red12 p (linesL p r r us) r).pv.length < r
    · rw [if_pos q] at hd; exact absurd rfl hd
    · omega
  have hpv := inc_full hlen h1.inc h1.lt
  obtain ⟨V, hV⟩ := h2.1
  exact ⟨V, fun i j hi hj => by rw [← hV i j hi hj]; exact (h1.one j j i (hpv j hj) hi).symm⟩
theorem eqv_left (hp : IsPr p) {r c : Nat} {us zs : List Int} (hu : us.length = r * r) (hz : zs.length = r * c) (hd : detN p r us ≠ 0) : Eqv c r (mz (p := p) c (mulL r r c us zs)) (mz c zs) := by
  obtain ⟨V, hV⟩ := left_inv hp hu hd
  refine ⟨⟨mz r us, fun i j hi hj => mz_mul hi hj⟩, ⟨V, fun i j hi hj => ?_⟩⟩
  have e1 : vm r (V i) (mz c (mulL r r c us zs)) j = vm r (V i) (fun t => vm r (mz r us t) (mz c zs)) j := vm_congr (fun _ _ => rfl) fun t ht => mz_mul ht hj
  rw [e1, ← vm_assoc, ← vm_dlt hi (mz c zs) j]
  exact vm_congr (fun k hk => hV i k hi hk) fun _ _ => rfl
/-- A sheet of residues is told by its entries. -/
theorem sheet_eq {r c : Nat} {M N : List (List Int)} (hp : 0 < p) (hM : WidE c M) (hN : WidE c N) (rM : ResM p M) (rN : ResM p N) (lM : M.length = r) (lN : N.length = r) (h : ∀ i j, i < r → j < c → (mt M i j : Fin p) = mt N i j) : M = N := by
  refine ext_rowE (by omega) fun i hi => ?_
  have h1 := hM.at hi
  have h2 := hN.at (i := i) (by omega)
  apply List.ext_getElem (by omega)
  intro j hj1 hj2
  have e := h i j (by omega) (by omega)
  have e2 : ent M i j = ent N i j := fp_inj (p := p) ((rM.at i).getD hp j) ((rN.at i).getD hp j) e
  unfold ent at e2
  simpa [hj1, hj2] using e2
theorem same_form (hp : IsPr p) {r c : Nat} {us zs : List Int} (hu : us.length = r * r) (hz : zs.length = r * c) (hd : detN p r us ≠ 0) : (red12 p (linesL p r c (mulL r r c us zs)) c).m = (red12 p (linesL p r c zs) c).m := by
  have hp2 := hp.1
  obtain ⟨a1, a2⟩ := form12 hp (mulL_len r r c us zs)
  obtain ⟨b1, b2⟩ := form12 hp hz
  obtain ⟨-, q⟩ := a1.unique (fld_of hp) b1 (a2.trans ((eqv_left hp hu hz hd).trans b2.symm))
  have oa := Ok12.red hp2 (linesL_wide (p := p) (mulL_len r r c us zs)) (linesL_res (by omega)) (linesL_len _ _ _ _) c
  have ob := Ok12.red hp2 (linesL_wide (p := p) hz) (linesL_res (by omega)) (linesL_len _ _ _ _) c
  exact sheet_eq (p := p) (by omega) oa.wid ob.wid oa.res ob.res oa.len ob.len q
theorem cnt_sorted {x : Nat} : ∀ {l : List Nat} {i a : Nat}, l.Pairwise (· < ·) → l[i]? = some a → cntB l x ≤ i → x ≤ a
  | [], i, a, _, h, _ => by simp at h
  | b :: l, 0, a, hp, h, hc => by
    simp at h; subst h
    unfold cntB at hc
    rw [List.countP_cons] at hc
    by_cases q : b < x
    · simp [q] at hc
    · omega
  | b :: l, i + 1, a, hp, h, hc => by
    obtain ⟨h1, h2⟩ := List.pairwise_cons.1 hp
    have h' : l[i]? = some a := by simpa using h
    by_cases q : b < x
    · refine cnt_sorted h2 h' ?_
      unfold cntB at hc ⊢
      rw [List.countP_cons] at hc
      simp [q] at hc
      exact hc
    · have := h1 a (List.mem_of_getElem? h')
      omega
/-- The kernel's rows times the matrix are 0. -/
theorem ker_zero (hp : IsPr p) {r c : Nat} {zs : List Int} (hl : zs.length = r * c) {i j : Nat} (hi : i < r - wkR p r c zs) (hj : j < c) : vm r (fun t => fp (ent (kerL p r c zs) i t)) (mz (p := p) c zs) j = 0 := by
  have hp2 := hp.1
  have hwd := wideL_wide (r := r) (linesL_wide (p := p) hl) (linesL_len _ _ _ _)
  have hrs := wideL_res (r := r) hp2 (linesL_res (p := p) (r := r) (c := c) (zs := zs) (by omega))
  obtain ⟨h1, h2⟩ := red_rref hp hwd hrs (wideL_len _ _) (c + r) (Nat.le_refl _)
  have ho := wk_ok (p := p) (c := c) (r := r) hp2 hl
  have hst := wk_sorted hp hl
  change Rref r (c + r) (mt (p := p) (wkS p r c zs).m) (wkS p r c zs).pv at h1
  change Eqv (c + r) r (mt (p := p) (wkS p r c zs).m) (mt (p := p) (wideL r (linesL p r c zs))) at h2
  obtain ⟨X, hX⟩ := h2.1
  obtain ⟨I, hI⟩ : ∃ I, wkR p r c zs + i = I := ⟨_, rfl⟩
  have hIr : I < r := by omega
  have wl : ∀ k j, k < r → j < c → (mt (wideL r (linesL p r c zs)) k j : Fin p) = mz c zs k j := fun k j hk hj => by
    rw [← mt_lines hl hk hj]
    unfold mt ent
    congr 1
    have e : rowE (wideL r (linesL p r c zs)) k = rowE (linesL p r c zs) k ++ uniR r k := by unfold rowE; rw [List.getD_eq_getElem?_getD, wideL_at hk]; rfl
    rw [e]
    have hlen := (linesL_wide (p := p) hl).at (i := k) (by rw [linesL_len]; exact hk)
    simp [List.getElem?_append_left (show j < (rowE (linesL p r c zs) k).length by omega)]
  have wr_ : ∀ k t, k < r → t < r → (mt (wideL r (linesL p r c zs)) k (c + t) : Fin p) = dlt k t := fun k t hk ht => by
    unfold mt ent
    have e : rowE (wideL r (linesL p r c zs)) k = rowE (linesL p r c zs) k ++ uniR r k := by unfold rowE; rw [List.getD_eq_getElem?_getD, wideL_at hk]; rfl
    have hlen := (linesL_wide (p := p) hl).at (i := k) (by rw [linesL_len]; exact hk)
    have e2 : (rowE (linesL p r c zs) k ++ uniR r k).getD (c + t) 0 = if k = t then 1 else 0 := by
      rw [List.getD_eq_getElem?_getD, List.getElem?_append_right (by omega), hlen, Nat.add_sub_cancel_left]
      simp [uniR, ht]
    rw [e, e2]
    unfold dlt
    split
    · exact fp_one hp2
    · exact fp_zero
  have hright : ∀ t, t < r → (fp (ent (kerL p r c zs) i t) : Fin p) = X I t := fun t ht => by
    have e : ent (kerL p r c zs) i t = ent (wkS p r c zs).m I (c + t) := by
      unfold kerL cornL ent rowE
      rw [← hI]
      simp only [List.getD_eq_getElem?_getD, List.getElem?_map, List.getElem?_drop]
      have hb : wkR p r c zs + i < (wkS p r c zs).m.length := by rw [ho.len]; omega
      rw [List.getElem?_eq_getElem hb]
      simp [List.getElem?_drop]
    rw [e]
    have := hX I (c + t) hIr (by omega)
    change (fp (ent (wkS p r c zs).m I (c + t)) : Fin p) = _ at this
    rw [this]
    unfold vm
    rw [sm_congr (g := fun k => X I k * dlt k t) fun k hk => by rw [wr_ k t hk ht], sm_one (i := t) ht fun k _ hne => by unfold dlt; rw [if_neg hne]; grind]
    unfold dlt; grind
  have hleft : (mt (wkS p r c zs).m I j : Fin p) = 0 := by
    by_cases q : I < (wkS p r c zs).pv.length
    · have e : (wkS p r c zs).pv[I]? = some ((wkS p r c zs).pv[I]) := List.getElem?_eq_getElem q
      have := cnt_sorted (x := c) hst e (by show wkR p r c zs ≤ I; omega)
      exact h1.low I _ j e (by omega)
    · exact h1.zer I j (by omega) hIr (by omega)
  rw [vm_congr (y := X I) (B := mt (wideL r (linesL p r c zs))) hright fun k hk => (wl k j hk hj).symm, ← hX I j hIr (by omega)]
  exact hleft
/-- What ModpSame asks of the kernel. -/
theorem same_ker (hp : IsPr p) {r c : Nat} {us zs : List Int} (hu : us.length = r * r) (hz : zs.length = r * c) {i j : Nat} (hi : i < r - wkR p r c (mulL r r c us zs)) (hj : j < c) :
    (p : Int) ∣ (mulL (r - wkR p r c (mulL r r c us zs)) r c (mulL (r - wkR p r c (mulL r r c us zs)) r r (kerL p r c (mulL r r c us zs)).flatten us) zs).getD (i * c + j) 0 := by
  have hp2 := hp.1
  have hk := ker_zero hp (mulL_len r r c us zs) hi hj
  have ho := wk_ok (p := p) (c := c) (r := r) hp2 (mulL_len r r c us zs)
  have hkw : WidE r (kerL p r c (mulL r r c us zs)) := by
    have := cornL_wide (top := wkR p r c (mulL r r c us zs)) (left := c) ho.wid
    rwa [Nat.add_sub_cancel_left] at this
  have hkl : (kerL p r c (mulL r r c us zs)).length = r - wkR p r c (mulL r r c us zs) := cornL_len ho.len
  generalize hR : r - wkR p r c (mulL r r c us zs) = R at *
  have e : (mz (p := p) c (mulL R r c (mulL R r r (kerL p r c (mulL r r c us zs)).flatten us) zs) i j) = 0 := by
    rw [mz_mul hi hj, vm_congr (y := vm r (mz r (kerL p r c (mulL r r c us zs)).flatten i) (mz r us)) (B := mz c zs) (fun k hk => mz_mul hi hk) (fun _ _ => rfl), vm_assoc, ← hk]
    refine vm_congr (fun t ht => ?_) (fun t ht => (mz_mul ht hj).symm)
    unfold mz
    rw [flat_ent hkw (by omega) ht]
  have := dvd_fp (p := p) (x := (mulL R r c (mulL R r r (kerL p r c (mulL r r c us zs)).flatten us) zs).getD (i * c + j) 0) (y := 0) (by rw [fp_zero]; exact e)
  rwa [Int.sub_zero] at this
end
end Go.Proofs.YtonmlmdnjjafhaaGreat

/- Same12 -/
namespace Go.Proofs.YtonmlmdnjjafhaaGreat
open Go.RowKit
set_option linter.unusedVariables false

set_option maxHeartbeats 6400000 in
set_option maxRecDepth 100000 in
theorem modpSame_out0 {w : World} {r c r' c' : Int} {a a' : Option Addr} {l cap l' cap' p : Nat} (hl : l ≤ 1048576) (hl' : l' ≤ 1048576) (hs : ¬ Snd r c l) :
    Calls Tryz.prog 6 #[mrV r c a l cap, mrV r' c' a' l' cap', .int .u64 (p : Int)] w fun e w' => e = .returned (.bool true) ∧ Below w.heap.size w w' := by
  have HSA : Hid (∀ w', Calls Tryz.prog 9 #[mrV r c a l cap] w' fun e w'' => e = .returned (.bool false) ∧ Below w'.heap.size w' w'') := fun w' => soundB (s := false) hl ⟨(fun h => by cases h), fun h => absurd h hs⟩
  obtain ⟨W0, hW⟩ : ∃ W0, (w.alloc (mrO r c a l cap)).alloc (mrO r' c' a' l' cap') = W0 := ⟨_, rfl⟩
  have b0 : Below w.heap.size w W0 := by rw [← hW]; exact ((Below.refl _ _).alloc (Nat.le_refl _) _).alloc (by simp) _
  have PA : Hid (Cel W0 w.heap.size 24 (mrC r c a l cap)) := by unfold Hid; rw [← hW]; exact (Cel.new w _ _).step (alo12 _ _).1
  have PU : Hid (Cel W0 (w.heap.size + 1) 24 (mrC r' c' a' l' cap')) := by
    unfold Hid; rw [← hW]
    have := Cel.new (w.alloc (mrO r c a l cap)) 24 (mrC r' c' a' l' cap')
    simpa using this
  have HW := hid (wakes12 W0)
  have G0 := hid b0
  have EW := hid hW
  clear b0 hW hs
  go_enter Tryz.func6, Tryz.ntmps6
  go_wp2_with fail
  rw [EW.out]
  refine HW.out.mono ?_
  rintro e w1 ⟨rfl, b1⟩
  replace PA := hid (PA.out.step b1)
  replace PU := hid (PU.out.step b1)
  have G := hid (below_step G0.out b1)
  clear HW EW b1 G0
  have x0 := PA.out.at (i := 0) rfl
  have x1 := PA.out.at (i := 1) rfl
  have x2 := PA.out.at (i := 2) rfl
  have y0 := PU.out.at (i := 0) rfl
  have y1 := PU.out.at (i := 1) rfl
  have y2 := PU.out.at (i := 2) rfl
  go_wp2_with fail
  refine (HSA.out w1).mono ?_
  rintro e w2 ⟨rfl, b⟩
  replace PA := hid (PA.out.step b)
  replace PU := hid (PU.out.step b)
  replace G := hid (below_step G.out b)
  clear b
  clear x0 x1 x2 y0 y1 y2
  have x0 := PA.out.at (i := 0) rfl
  have x1 := PA.out.at (i := 1) rfl
  have x2 := PA.out.at (i := 2) rfl
  have y0 := PU.out.at (i := 0) rfl
  have y1 := PU.out.at (i := 1) rfl
  have y2 := PU.out.at (i := 2) rfl
  go_wp2
  go_ret
  exact ⟨rfl, G.out⟩

set_option maxHeartbeats 6400000 in
set_option maxRecDepth 100000 in
theorem modpSame_out1 {w : World} {r c r' c' : Int} {a a' : Option Addr} {l cap l' cap' p : Nat} (hl : l ≤ 1048576) (hl' : l' ≤ 1048576) (hs : Snd r c l) (ht : ¬ Snd r' c' l') :
    Calls Tryz.prog 6 #[mrV r c a l cap, mrV r' c' a' l' cap', .int .u64 (p : Int)] w fun e w' => e = .returned (.bool true) ∧ Below w.heap.size w w' := by
  have HSA : Hid (∀ w', Calls Tryz.prog 9 #[mrV r c a l cap] w' fun e w'' => e = .returned (.bool true) ∧ Below w'.heap.size w' w'') := fun w' => soundB (s := true) hl ⟨fun _ => hs, fun _ => rfl⟩
  have HSU : Hid (∀ w', Calls Tryz.prog 9 #[mrV r' c' a' l' cap'] w' fun e w'' => e = .returned (.bool false) ∧ Below w'.heap.size w' w'') := fun w' => soundB (s := false) hl' ⟨(fun h => by cases h), fun h => absurd h ht⟩
  obtain ⟨W0, hW⟩ : ∃ W0, (w.alloc (mrO r c a l cap)).alloc (mrO r' c' a' l' cap') = W0 := ⟨_, rfl⟩
  have b0 : Below w.heap.size w W0 := by rw [← hW]; exact ((Below.refl _ _).alloc (Nat.le_refl _) _).alloc (by simp) _
  have PA : Hid (Cel W0 w.heap.size 24 (mrC r c a l cap)) := by unfold Hid; rw [← hW]; exact (Cel.new w _ _).step (alo12 _ _).1
  have PU : Hid (Cel W0 (w.heap.size + 1) 24 (mrC r' c' a' l' cap')) := by
    unfold Hid; rw [← hW]
    have := Cel.new (w.alloc (mrO r c a l cap)) 24 (mrC r' c' a' l' cap')
    simpa using this
  have HW := hid (wakes12 W0)
  have G0 := hid b0
  have EW := hid hW
  clear b0 hW hs ht
  go_enter Tryz.func6, Tryz.ntmps6
  go_wp2_with fail
  rw [EW.out]
  refine HW.out.mono ?_
  rintro e w1 ⟨rfl, b1⟩
  replace PA := hid (PA.out.step b1)
  replace PU := hid (PU.out.step b1)
  have G := hid (below_step G0.out b1)
  clear HW EW b1 G0
  have x0 := PA.out.at (i := 0) rfl
  have x1 := PA.out.at (i := 1) rfl
  have x2 := PA.out.at (i := 2) rfl
  have y0 := PU.out.at (i := 0) rfl
  have y1 := PU.out.at (i := 1) rfl
  have y2 := PU.out.at (i := 2) rfl
  go_wp2_with fail
  refine (HSA.out w1).mono ?_
  rintro e w2 ⟨rfl, b⟩
  replace PA := hid (PA.out.step b)
  replace PU := hid (PU.out.step b)
  replace G := hid (below_step G.out b)
  clear b
  clear x0 x1 x2 y0 y1 y2
  have x0 := PA.out.at (i := 0) rfl
  have x1 := PA.out.at (i := 1) rfl
  have x2 := PA.out.at (i := 2) rfl
  have y0 := PU.out.at (i := 0) rfl
  have y1 := PU.out.at (i := 1) rfl
  have y2 := PU.out.at (i := 2) rfl
  go_wp2_with fail
  refine (HSU.out w2).mono ?_
  rintro e w3 ⟨rfl, b⟩
  replace PA := hid (PA.out.step b)
  replace PU := hid (PU.out.step b)
  replace G := hid (below_step G.out b)
  clear b
  clear x0 x1 x2 y0 y1 y2
  have x0 := PA.out.at (i := 0) rfl
  have x1 := PA.out.at (i := 1) rfl
  have x2 := PA.out.at (i := 2) rfl
  have y0 := PU.out.at (i := 0) rfl
  have y1 := PU.out.at (i := 1) rfl
  have y2 := PU.out.at (i := 2) rfl
  go_wp2
  go_ret
  exact ⟨rfl, G.out⟩

set_option maxHeartbeats 6400000 in
set_option maxRecDepth 100000 in
theorem modpSame_out2 {w : World} {r c r' c' : Int} {a a' : Option Addr} {l cap l' cap' p : Nat} (hl : l ≤ 1048576) (hl' : l' ≤ 1048576) (hs : Snd r c l) (ht : Snd r' c' l') (hg : gdB p = false) :
    Calls Tryz.prog 6 #[mrV r c a l cap, mrV r' c' a' l' cap', .int .u64 (p : Int)] w fun e w' => e = .returned (.bool true) ∧ Below w.heap.size w w' := by
  have HSA : Hid (∀ w', Calls Tryz.prog 9 #[mrV r c a l cap] w' fun e w'' => e = .returned (.bool true) ∧ Below w'.heap.size w' w'') := fun w' => soundB (s := true) hl ⟨fun _ => hs, fun _ => rfl⟩
  have HSU : Hid (∀ w', Calls Tryz.prog 9 #[mrV r' c' a' l' cap'] w' fun e w'' => e = .returned (.bool true) ∧ Below w'.heap.size w' w'') := fun w' => soundB (s := true) hl' ⟨fun _ => ht, fun _ => rfl⟩
  have HLP : Hid (∀ w', Calls Tryz.prog 10 #[.int .u64 (p : Int)] w' fun e w'' => e = .returned (.bool false) ∧ w'' = w') := fun w' => by have := lawPrimeB (w := w') (p := p); rw [hg] at this; exact this
  obtain ⟨W0, hW⟩ : ∃ W0, (w.alloc (mrO r c a l cap)).alloc (mrO r' c' a' l' cap') = W0 := ⟨_, rfl⟩
  have b0 : Below w.heap.size w W0 := by rw [← hW]; exact ((Below.refl _ _).alloc (Nat.le_refl _) _).alloc (by simp) _
  have PA : Hid (Cel W0 w.heap.size 24 (mrC r c a l cap)) := by unfold Hid; rw [← hW]; exact (Cel.new w _ _).step (alo12 _ _).1
  have PU : Hid (Cel W0 (w.heap.size + 1) 24 (mrC r' c' a' l' cap')) := by
    unfold Hid; rw [← hW]
    have := Cel.new (w.alloc (mrO r c a l cap)) 24 (mrC r' c' a' l' cap')
    simpa using this
  have HW := hid (wakes12 W0)
  have G0 := hid b0
  have EW := hid hW
  clear b0 hW hs ht hg
  go_enter Tryz.func6, Tryz.ntmps6
  go_wp2_with fail
  rw [EW.out]
  refine HW.out.mono ?_
  rintro e w1 ⟨rfl, b1⟩
  replace PA := hid (PA.out.step b1)
  replace PU := hid (PU.out.step b1)
  have G := hid (below_step G0.out b1)
  clear HW EW b1 G0
  have x0 := PA.out.at (i := 0) rfl
  have x1 := PA.out.at (i := 1) rfl
  have x2 := PA.out.at (i := 2) rfl
  have y0 := PU.out.at (i := 0) rfl
  have y1 := PU.out.at (i := 1) rfl
  have y2 := PU.out.at (i := 2) rfl
  go_wp2_with fail
  refine (HSA.out w1).mono ?_
  rintro e w2 ⟨rfl, b⟩
  replace PA := hid (PA.out.step b)
  replace PU := hid (PU.out.step b)
  replace G := hid (below_step G.out b)
  clear b
  clear x0 x1 x2 y0 y1 y2
  have x0 := PA.out.at (i := 0) rfl
  have x1 := PA.out.at (i := 1) rfl
  have x2 := PA.out.at (i := 2) rfl
  have y0 := PU.out.at (i := 0) rfl
  have y1 := PU.out.at (i := 1) rfl
  have y2 := PU.out.at (i := 2) rfl
  go_wp2_with fail
  refine (HSU.out w2).mono ?_
  rintro e w3 ⟨rfl, b⟩
  replace PA := hid (PA.out.step b)
  replace PU := hid (PU.out.step b)
  replace G := hid (below_step G.out b)
  clear b
  clear x0 x1 x2 y0 y1 y2
  have x0 := PA.out.at (i := 0) rfl
  have x1 := PA.out.at (i := 1) rfl
  have x2 := PA.out.at (i := 2) rfl
  have y0 := PU.out.at (i := 0) rfl
  have y1 := PU.out.at (i := 1) rfl
  have y2 := PU.out.at (i := 2) rfl
  go_wp2_with fail
  refine (HLP.out w3).mono ?_
  rintro e w4 ⟨rfl, rfl⟩
  go_wp2
  go_ret
  exact ⟨rfl, G.out⟩

set_option maxHeartbeats 6400000 in
set_option maxRecDepth 100000 in
theorem modpSame_out3 {w : World} {r c r' c' : Int} {a a' : Option Addr} {l cap l' cap' p : Nat} (hl : l ≤ 1048576) (hl' : l' ≤ 1048576) (hs : Snd r c l) (ht : Snd r' c' l') (hg : gdB p = true) (hne : r' ≠ c') :
    Calls Tryz.prog 6 #[mrV r c a l cap, mrV r' c' a' l' cap', .int .u64 (p : Int)] w fun e w' => e = .returned (.bool true) ∧ Below w.heap.size w w' := by
  have HSA : Hid (∀ w', Calls Tryz.prog 9 #[mrV r c a l cap] w' fun e w'' => e = .returned (.bool true) ∧ Below w'.heap.size w' w'') := fun w' => soundB (s := true) hl ⟨fun _ => hs, fun _ => rfl⟩
  have HSU : Hid (∀ w', Calls Tryz.prog 9 #[mrV r' c' a' l' cap'] w' fun e w'' => e = .returned (.bool true) ∧ Below w'.heap.size w' w'') := fun w' => soundB (s := true) hl' ⟨fun _ => ht, fun _ => rfl⟩
  have HLP : Hid (∀ w', Calls Tryz.prog 10 #[.int .u64 (p : Int)] w' fun e w'' => e = .returned (.bool true) ∧ w'' = w') := fun w' => by have := lawPrimeB (w := w') (p := p); rw [hg] at this; exact this
  obtain ⟨W0, hW⟩ : ∃ W0, (w.alloc (mrO r c a l cap)).alloc (mrO r' c' a' l' cap') = W0 := ⟨_, rfl⟩
  have b0 : Below w.heap.size w W0 := by rw [← hW]; exact ((Below.refl _ _).alloc (Nat.le_refl _) _).alloc (by simp) _
  have PA : Hid (Cel W0 w.heap.size 24 (mrC r c a l cap)) := by unfold Hid; rw [← hW]; exact (Cel.new w _ _).step (alo12 _ _).1
  have PU : Hid (Cel W0 (w.heap.size + 1) 24 (mrC r' c' a' l' cap')) := by
    unfold Hid; rw [← hW]
    have := Cel.new (w.alloc (mrO r c a l cap)) 24 (mrC r' c' a' l' cap')
    simpa using this
  have HW := hid (wakes12 W0)
  have G0 := hid b0
  have EW := hid hW
  have q1 : (r' != c') = true := by simpa using hne
  clear b0 hW hs ht hg hne
  go_enter Tryz.func6, Tryz.ntmps6
  go_wp2_with fail
  rw [EW.out]
  refine HW.out.mono ?_
  rintro e w1 ⟨rfl, b1⟩
  replace PA := hid (PA.out.step b1)
  replace PU := hid (PU.out.step b1)
  have G := hid (below_step G0.out b1)
  clear HW EW b1 G0
  have x0 := PA.out.at (i := 0) rfl
  have x1 := PA.out.at (i := 1) rfl
  have x2 := PA.out.at (i := 2) rfl
  have y0 := PU.out.at (i := 0) rfl
  have y1 := PU.out.at (i := 1) rfl
  have y2 := PU.out.at (i := 2) rfl
  go_wp2_with fail
  refine (HSA.out w1).mono ?_
  rintro e w2 ⟨rfl, b⟩
  replace PA := hid (PA.out.step b)
  replace PU := hid (PU.out.step b)
  replace G := hid (below_step G.out b)
  clear b
  clear x0 x1 x2 y0 y1 y2
  have x0 := PA.out.at (i := 0) rfl
  have x1 := PA.out.at (i := 1) rfl
  have x2 := PA.out.at (i := 2) rfl
  have y0 := PU.out.at (i := 0) rfl
  have y1 := PU.out.at (i := 1) rfl
  have y2 := PU.out.at (i := 2) rfl
  go_wp2_with fail
  refine (HSU.out w2).mono ?_
  rintro e w3 ⟨rfl, b⟩
  replace PA := hid (PA.out.step b)
  replace PU := hid (PU.out.step b)
  replace G := hid (below_step G.out b)
  clear b
  clear x0 x1 x2 y0 y1 y2
  have x0 := PA.out.at (i := 0) rfl
  have x1 := PA.out.at (i := 1) rfl
  have x2 := PA.out.at (i := 2) rfl
  have y0 := PU.out.at (i := 0) rfl
  have y1 := PU.out.at (i := 1) rfl
  have y2 := PU.out.at (i := 2) rfl
  go_wp2_with fail
  refine (HLP.out w3).mono ?_
  rintro e w4 ⟨rfl, rfl⟩
  go_wp2
  go_ret
  exact ⟨rfl, G.out⟩

set_option maxHeartbeats 6400000 in
set_option maxRecDepth 100000 in
theorem modpSame_out4 {w : World} {r c r' c' : Int} {a a' : Option Addr} {l cap l' cap' p : Nat} (hl : l ≤ 1048576) (hl' : l' ≤ 1048576) (hs : Snd r c l) (ht : Snd r' c' l') (hg : gdB p = true) (he : r' = c') (hne : c' ≠ r) :
    Calls Tryz.prog 6 #[mrV r c a l cap, mrV r' c' a' l' cap', .int .u64 (p : Int)] w fun e w' => e = .returned (.bool true) ∧ Below w.heap.size w w' := by
  have HSA : Hid (∀ w', Calls Tryz.prog 9 #[mrV r c a l cap] w' fun e w'' => e = .returned (.bool true) ∧ Below w'.heap.size w' w'') := fun w' => soundB (s := true) hl ⟨fun _ => hs, fun _ => rfl⟩
  have HSU : Hid (∀ w', Calls Tryz.prog 9 #[mrV r' c' a' l' cap'] w' fun e w'' => e = .returned (.bool true) ∧ Below w'.heap.size w' w'') := fun w' => soundB (s := true) hl' ⟨fun _ => ht, fun _ => rfl⟩
  have HLP : Hid (∀ w', Calls Tryz.prog 10 #[.int .u64 (p : Int)] w' fun e w'' => e = .returned (.bool true) ∧ w'' = w') := fun w' => by have := lawPrimeB (w := w') (p := p); rw [hg] at this; exact this
  subst he
  obtain ⟨W0, hW⟩ : ∃ W0, (w.alloc (mrO r c a l cap)).alloc (mrO r' r' a' l' cap') = W0 := ⟨_, rfl⟩
  have b0 : Below w.heap.size w W0 := by rw [← hW]; exact ((Below.refl _ _).alloc (Nat.le_refl _) _).alloc (by simp) _
  have PA : Hid (Cel W0 w.heap.size 24 (mrC r c a l cap)) := by unfold Hid; rw [← hW]; exact (Cel.new w _ _).step (alo12 _ _).1
  have PU : Hid (Cel W0 (w.heap.size + 1) 24 (mrC r' r' a' l' cap')) := by
    unfold Hid; rw [← hW]
    have := Cel.new (w.alloc (mrO r c a l cap)) 24 (mrC r' r' a' l' cap')
    simpa using this
  have HW := hid (wakes12 W0)
  have G0 := hid b0
  have EW := hid hW
  have q1 : (r' != r') = false := by simp
  have q2 : (r' != r) = true := by simpa using hne
  clear b0 hW hs ht hg hne
  go_enter Tryz.func6, Tryz.ntmps6
  go_wp2_with fail
  rw [EW.out]
  refine HW.out.mono ?_
  rintro e w1 ⟨rfl, b1⟩
  replace PA := hid (PA.out.step b1)
  replace PU := hid (PU.out.step b1)
  have G := hid (below_step G0.out b1)
  clear HW EW b1 G0
  have x0 := PA.out.at (i := 0) rfl
  have x1 := PA.out.at (i := 1) rfl
  have x2 := PA.out.at (i := 2) rfl
  have y0 := PU.out.at (i := 0) rfl
  have y1 := PU.out.at (i := 1) rfl
  have y2 := PU.out.at (i := 2) rfl
  go_wp2_with fail
  refine (HSA.out w1).mono ?_
  rintro e w2 ⟨rfl, b⟩
  replace PA := hid (PA.out.step b)
  replace PU := hid (PU.out.step b)
  replace G := hid (below_step G.out b)
  clear b
  clear x0 x1 x2 y0 y1 y2
  have x0 := PA.out.at (i := 0) rfl
  have x1 := PA.out.at (i := 1) rfl
  have x2 := PA.out.at (i := 2) rfl
  have y0 := PU.out.at (i := 0) rfl
  have y1 := PU.out.at (i := 1) rfl
  have y2 := PU.out.at (i := 2) rfl
  go_wp2_with fail
  refine (HSU.out w2).mono ?_
  rintro e w3 ⟨rfl, b⟩
  replace PA := hid (PA.out.step b)
  replace PU := hid (PU.out.step b)
  replace G := hid (below_step G.out b)
  clear b
  clear x0 x1 x2 y0 y1 y2
  have x0 := PA.out.at (i := 0) rfl
  have x1 := PA.out.at (i := 1) rfl
  have x2 := PA.out.at (i := 2) rfl
  have y0 := PU.out.at (i := 0) rfl
  have y1 := PU.out.at (i := 1) rfl
  have y2 := PU.out.at (i := 2) rfl
  go_wp2_with fail
  refine (HLP.out w3).mono ?_
  rintro e w4 ⟨rfl, rfl⟩
  go_wp2
  go_ret
  exact ⟨rfl, G.out⟩

theorem Mc.zl12 {w : World} {x y v : Value} {r c : Nat} {zs : List Int} {k : Nat} (h : Mc w (.agg #[x, y, v]) r c zs k) : Zl w v zs k := by
  obtain ⟨at_, ps, e1, e2, e3, -⟩ := h
  simp only [Value.agg.injEq, Array.mk.injEq, List.cons.injEq, and_true] at e1
  rw [e1.2.2]
  exact zl_of e2 e3.zis
theorem same_zero {p r c : Nat} {us zs : List Int} (hp : IsPr p) (hu : us.length = r * r) (hz : zs.length = r * c) : ∀ z ∈ mulL (r - wkR p r c (mulL r r c us zs)) r c (mulL (r - wkR p r c (mulL r r c us zs)) r r (kerL p r c (mulL r r c us zs)).flatten us) zs, z % (p : Int) = 0 := fun z hz' => by
  have hp2 := hp.1
  haveI : NeZero p := ⟨by omega⟩
  obtain ⟨t, ht, e⟩ := List.mem_iff_getElem.1 hz'
  rw [mulL_len] at ht
  have hc : 0 < c := Nat.pos_of_ne_zero fun q => by rw [q] at ht; simp at ht
  have h1 : t / c < r - wkR p r c (mulL r r c us zs) := (Nat.div_lt_iff_lt_mul hc).2 ht
  have h2 : t % c < c := Nat.mod_lt _ hc
  have h3 := same_ker hp hu hz h1 h2
  rw [show t / c * c + t % c = t by rw [Nat.mul_comm]; exact Nat.div_add_mod t c] at h3
  rw [List.getD_eq_getElem?_getD, List.getElem?_eq_getElem (by rw [mulL_len]; exact ht)] at h3
  rw [← e]
  exact Int.emod_eq_zero_of_dvd h3

set_option maxHeartbeats 6400000 in
set_option maxRecDepth 100000 in
theorem modpSame_ok {w : World} {va vu : Value} {r c p : Nat} {zs us : List Int} (hp : gdB p = true) (ha : Mx w va r c zs 1048576) (hu : Mx w vu r r us 1048576) :
    Calls Tryz.prog 6 #[va, vu, .int .u64 (p : Int)] w fun e w' => e = .returned (.bool true) ∧ Below w.heap.size w w' := by
  obtain ⟨hpr, hp2⟩ := gd_parts hp
  have hp1 := hpr.1
  have MA := hid ha
  have MU := hid hu
  have hzl : zs.length = r * c := by obtain ⟨_, _, _, _, _, q, _⟩ := ha; exact q
  have hul : us.length = r * r := by obtain ⟨_, _, _, _, _, q, _⟩ := hu; exact q
  obtain ⟨a, cap, rfl, hr, hc⟩ := ha.form
  obtain ⟨a', cap', rfl, -, -⟩ := hu.form
  have SNA : Snd (r : Int) (c : Int) (r * c) := ⟨by omega, by omega, by omega, by omega, by simp⟩
  have SNU : Snd (r : Int) (r : Int) (r * r) := ⟨by omega, by omega, by omega, by omega, by simp⟩
  have hb1 : r * c ≤ 64 * 64 := Nat.mul_le_mul hr hc
  have hb2 : r * r ≤ 64 * 64 := Nat.mul_le_mul hr hr
  have SZE := hid (same_zero (c := c) hpr hul hzl)
  have SFM : Hid (detN p r us ≠ 0 → (red12 p (linesL p r c (mulL r r c us zs)) c).m = (red12 p (linesL p r c zs) c).m) := fun hd => by
    haveI : NeZero p := ⟨by omega⟩
    exact same_form hpr hul hzl hd
  have HRKL : Hid (wkR p r c (mulL r r c us zs) ≤ r) := Nat.le_trans (cntB_le _ _) (wk_ok (p := p) (c := c) (r := r) hp1 (mulL_len r r c us zs)).piv
  obtain ⟨rk, hrk⟩ : ∃ rk, r - wkR p r c (mulL r r c us zs) = rk := ⟨_, rfl⟩
  have HRK := hid hrk
  have hrk2 : rk ≤ 64 := by omega
  have hb3 : rk * r ≤ 64 * 64 := Nat.mul_le_mul hrk2 hr
  have SNK : Snd (rk : Int) (r : Int) (rk * r) := ⟨by omega, by omega, by omega, by omega, by simp⟩
  rw [hrk] at SZE
  obtain ⟨l, hl⟩ : ∃ l, r * c = l := ⟨_, rfl⟩
  obtain ⟨l', hl'⟩ : ∃ l', r * r = l' := ⟨_, rfl⟩
  obtain ⟨l3, hl3⟩ : ∃ l3, rk * r = l3 := ⟨_, rfl⟩
  obtain ⟨l4, hl4⟩ : ∃ l4, rk * c = l4 := ⟨_, rfl⟩
  have HL := hid hl
  have HL3 := hid hl3
  have HL4 := hid hl4
  rw [hl] at MA hb1 SNA ⊢
  rw [hl'] at MU hb2 SNU ⊢
  rw [hl3] at hb3 SNK
  have HSA : Hid (∀ w', Calls Tryz.prog 9 #[mrV (r : Int) (c : Int) a l cap] w' fun e w'' => e = .returned (.bool true) ∧ Below w'.heap.size w' w'') := fun w' => soundB (s := true) (by omega) ⟨fun _ => SNA, fun _ => rfl⟩
  have HSU : Hid (∀ w', Calls Tryz.prog 9 #[mrV (r : Int) (r : Int) a' l' cap'] w' fun e w'' => e = .returned (.bool true) ∧ Below w'.heap.size w' w'') := fun w' => soundB (s := true) (by omega) ⟨fun _ => SNU, fun _ => rfl⟩
  have HLP : Hid (∀ w', Calls Tryz.prog 10 #[.int .u64 (p : Int)] w' fun e w'' => e = .returned (.bool true) ∧ w'' = w') := fun w' => by have := lawPrimeB (w := w') (p := p); rw [hp] at this; exact this
  have HSK : Hid (∀ w' a cap, Calls Tryz.prog 9 #[mrV (rk : Int) (r : Int) a l3 cap] w' fun e w'' => e = .returned (.bool true) ∧ Below w'.heap.size w' w'') := fun w' a cap => soundB (s := true) (by omega) ⟨fun _ => SNK, fun _ => rfl⟩
  obtain ⟨W0, hW⟩ : ∃ W0, (w.alloc (mrO (r : Int) (c : Int) a l cap)).alloc (mrO (r : Int) (r : Int) a' l' cap') = W0 := ⟨_, rfl⟩
  have b0 : Below w.heap.size w W0 := by rw [← hW]; exact ((Below.refl _ _).alloc (Nat.le_refl _) _).alloc (by simp) _
  have PA : Hid (Cel W0 w.heap.size 24 (mrC (r : Int) (c : Int) a l cap)) := by unfold Hid; rw [← hW]; exact (Cel.new w _ _).step (alo12 _ _).1
  have PU : Hid (Cel W0 (w.heap.size + 1) 24 (mrC (r : Int) (r : Int) a' l' cap')) := by
    unfold Hid; rw [← hW]
    have := Cel.new (w.alloc (mrO (r : Int) (c : Int) a l cap)) 24 (mrC (r : Int) (r : Int) a' l' cap')
    simpa using this
  have HW := hid (wakes12 W0)
  have G0 := hid b0
  have EW := hid hW
  have HDT : Hid (∀ w', Below w.heap.size w w' → Calls Tryz.prog 18 #[matv r r (.slice a' l' cap'), .int .u64 (p : Int)] w' (Det12 w' (detN p r us) 0)) := fun w' h => det12 hp (MU.out.now h) (by omega)
  have HMU : Hid (∀ w', Below w.heap.size w w' → Calls Tryz.prog 16 #[matv r r (.slice a' l' cap'), matv r c (.slice a l cap)] w' (GivesMO w' r c (mulL r r c us zs) 2097216)) := fun w' h => rmul12 (MU.out.now h) (MA.out.now h) (by omega)
  have HEA : Hid (∀ w', Below w.heap.size w w' → Calls Tryz.prog 24 #[matv r c (.slice a l cap), .int .u64 (p : Int)] w' (GivesMO w' r c (red12 p (linesL p r c zs) c).m.flatten 1)) := fun w' h => echelon12 hp (MA.out.now h) (by omega)
  have HPR := hid hp
  obtain ⟨d, hd⟩ : ∃ d, detN p r us = d := ⟨_, rfl⟩
  rw [hd] at HDT SFM
  have q1 : ((r : Int) != (r : Int)) = false := by simp
  clear b0 hW ha hu hpr hp hzl hul hl hl' hl3 hl4 SNA SNU SNK hrk hd
  go_enter Tryz.func6, Tryz.ntmps6
  go_wp2_with fail
  rw [EW.out]
  refine HW.out.mono ?_
  rintro e w1 ⟨rfl, b1⟩
  replace PA := hid (PA.out.step b1)
  replace PU := hid (PU.out.step b1)
  have G := hid (below_step G0.out b1)
  clear HW EW b1 G0
  have x0 := PA.out.at (i := 0) rfl
  have x1 := PA.out.at (i := 1) rfl
  have x2 := PA.out.at (i := 2) rfl
  have y0 := PU.out.at (i := 0) rfl
  have y1 := PU.out.at (i := 1) rfl
  have y2 := PU.out.at (i := 2) rfl
  go_wp2_with fail
  refine (HSA.out w1).mono ?_
  rintro e w2 ⟨rfl, b⟩
  replace PA := hid (PA.out.step b)
  replace PU := hid (PU.out.step b)
  replace G := hid (below_step G.out b)
  clear b
  clear x0 x1 x2 y0 y1 y2
  have x0 := PA.out.at (i := 0) rfl
  have x1 := PA.out.at (i := 1) rfl
  have x2 := PA.out.at (i := 2) rfl
  have y0 := PU.out.at (i := 0) rfl
  have y1 := PU.out.at (i := 1) rfl
  have y2 := PU.out.at (i := 2) rfl
  go_wp2_with fail
  refine (HSU.out w2).mono ?_
  rintro e w3 ⟨rfl, b⟩
  replace PA := hid (PA.out.step b)
  replace PU := hid (PU.out.step b)
  replace G := hid (below_step G.out b)
  clear b
  clear x0 x1 x2 y0 y1 y2
  have x0 := PA.out.at (i := 0) rfl
  have x1 := PA.out.at (i := 1) rfl
  have x2 := PA.out.at (i := 2) rfl
  have y0 := PU.out.at (i := 0) rfl
  have y1 := PU.out.at (i := 1) rfl
  have y2 := PU.out.at (i := 2) rfl
  go_wp2_with fail
  refine (HLP.out w3).mono ?_
  rintro e w4 ⟨rfl, rfl⟩
  go_wp2_with fail
  refine (HDT.out _ G.out).mono ?_
  rintro e w5 ⟨rfl, b⟩
  replace PA := hid (PA.out.step b)
  replace PU := hid (PU.out.step b)
  replace G := hid (below_step G.out b)
  clear b HSA HSU HLP HDT x0 x1 x2 y0 y1 y2 q1
  have q0 : ((0 : Int) != 0) = false := rfl
  by_cases hd : d = 0
  · subst hd
    go_wp2
    go_ret
    exact ⟨rfl, G.out⟩
  have q2 : (d == 0) = false := by simpa using hd
  have SF := hid (SFM.out hd)
  clear SFM hd
  have x0 := PA.out.at (i := 0) rfl
  have x1 := PA.out.at (i := 1) rfl
  have x2 := PA.out.at (i := 2) rfl
  have y0 := PU.out.at (i := 0) rfl
  have y1 := PU.out.at (i := 1) rfl
  have y2 := PU.out.at (i := 2) rfl
  go_wp2_with fail
  refine (HMU.out _ G.out).mono ?_
  rintro e w6 ⟨v_, rfl, hm, b⟩
  obtain ⟨a_ua, q_ua, rfl, -, -⟩ := hm.mx.form
  rw [HL.out] at hm ⊢
  obtain ⟨V6, hV⟩ : ∃ V, w6.alloc (matO r c (.slice a_ua l q_ua)) = V := ⟨_, rfl⟩
  obtain ⟨bV, szV⟩ := alo12 w6 (matO r c (.slice a_ua l q_ua))
  rw [hV] at bV szV
  have b2 := below_step b bV
  replace G := hid (below_step G.out b2)
  replace PA := hid (PA.out.step b2)
  replace PU := hid (PU.out.step b2)
  have Pua : Hid (Cel V6 w6.heap.size 24 (matc r c (.slice a_ua l q_ua))) := by unfold Hid; rw [← hV]; exact Cel.new _ _ _
  have Mua := hid (hm.now bV)
  have EV := hid hV
  clear x0 x1 x2 y0 y1 y2 hm b bV szV b2 HMU hV
  have x0 := PA.out.at (i := 0) rfl
  have x1 := PA.out.at (i := 1) rfl
  have x2 := PA.out.at (i := 2) rfl
  rw [← EV.out] at x0 x1 x2
  go_wp2_with fail
  rw [EV.out]
  clear EV x0 x1 x2
  skip
  refine (HEA.out _ G.out).mono ?_
  rintro e w7 ⟨v_, rfl, hm, b⟩
  obtain ⟨a_x, q_x, rfl, -, -⟩ := hm.mx.form
  rw [HL.out] at hm ⊢
  obtain ⟨V7, hV⟩ : ∃ V, w7.alloc (matO r c (.slice a_x l q_x)) = V := ⟨_, rfl⟩
  obtain ⟨bV, szV⟩ := alo12 w7 (matO r c (.slice a_x l q_x))
  rw [hV] at bV szV
  have b2 := below_step b bV
  replace G := hid (below_step G.out b2)
  replace PA := hid (PA.out.step b2)
  replace PU := hid (PU.out.step b2)
  replace Pua := hid (Pua.out.step b2)
  have Px : Hid (Cel V7 w7.heap.size 24 (matc r c (.slice a_x l q_x))) := by unfold Hid; rw [← hV]; exact Cel.new _ _ _
  replace Mua := hid ((Mua.out.now b).now bV)
  have Mxx := hid (hm.now bV)
  have EV := hid hV
  clear hm b bV szV b2 HEA hV
  have x0 := Pua.out.at (i := 0) rfl
  have x1 := Pua.out.at (i := 1) rfl
  have x2 := Pua.out.at (i := 2) rfl
  rw [← EV.out] at x0 x1 x2
  go_wp2_with fail
  rw [EV.out]
  clear EV x0 x1 x2
  refine (echelon12 HPR.out Mua.out.mx (by omega)).mono ?_
  rintro e w8 ⟨v_, rfl, hm, b⟩
  obtain ⟨a_y, q_y, rfl, -, -⟩ := hm.mx.form
  rw [HL.out] at hm ⊢
  obtain ⟨V8, hV⟩ : ∃ V, w8.alloc (matO r c (.slice a_y l q_y)) = V := ⟨_, rfl⟩
  obtain ⟨bV, szV⟩ := alo12 w8 (matO r c (.slice a_y l q_y))
  rw [hV] at bV szV
  have b2 := below_step b bV
  replace G := hid (below_step G.out b2)
  replace PA := hid (PA.out.step b2)
  replace PU := hid (PU.out.step b2)
  replace Pua := hid (Pua.out.step b2)
  replace Px := hid (Px.out.step b2)
  have Py : Hid (Cel V8 w8.heap.size 24 (matc r c (.slice a_y l q_y))) := by unfold Hid; rw [← hV]; exact Cel.new _ _ _
  replace Mua := hid ((Mua.out.now b).now bV)
  replace Mxx := hid ((Mxx.out.now b).now bV)
  have My := hid (hm.now bV)
  have EV := hid hV
  clear hm b bV szV b2 hV
  have x0 := Pua.out.at (i := 0) rfl
  have x1 := Pua.out.at (i := 1) rfl
  have x2 := Pua.out.at (i := 2) rfl
  rw [← EV.out] at x0 x1 x2
  go_wp2_with fail
  rw [EV.out]
  clear EV x0 x1 x2
  refine (kernel12 HPR.out Mua.out.mx (by omega)).mono ?_
  rintro e w9 ⟨v_, rfl, hm, b⟩
  obtain ⟨a_k, q_k, rfl, -, -⟩ := hm.mx.form
  rw [HRK.out, HL3.out] at hm ⊢
  obtain ⟨V9, hV⟩ : ∃ V, w9.alloc (matO rk r (.slice a_k l3 q_k)) = V := ⟨_, rfl⟩
  obtain ⟨bV, szV⟩ := alo12 w9 (matO rk r (.slice a_k l3 q_k))
  rw [hV] at bV szV
  have b2 := below_step b bV
  replace G := hid (below_step G.out b2)
  replace PA := hid (PA.out.step b2)
  replace PU := hid (PU.out.step b2)
  replace Pua := hid (Pua.out.step b2)
  replace Px := hid (Px.out.step b2)
  replace Py := hid (Py.out.step b2)
  have Pk : Hid (Cel V9 w9.heap.size 24 (matc rk r (.slice a_k l3 q_k))) := by unfold Hid; rw [← hV]; exact Cel.new _ _ _
  replace Mxx := hid ((Mxx.out.now b).now bV)
  replace My := hid ((My.out.now b).now bV)
  have Mk := hid (hm.now bV)
  have EV := hid hV
  clear hm b bV szV b2 hV Mua Pua
  have x0 := Pk.out.at (i := 0) rfl
  have x1 := Pk.out.at (i := 1) rfl
  have x2 := Pk.out.at (i := 2) rfl
  rw [← EV.out] at x0 x1 x2
  go_wp2_with fail
  rw [EV.out]
  refine (HSK.out _ _ _).mono ?_
  rintro e w10 ⟨rfl, b⟩
  replace G := hid (below_step G.out b)
  replace PA := hid (PA.out.step b)
  replace PU := hid (PU.out.step b)
  replace Px := hid (Px.out.step b)
  replace Py := hid (Py.out.step b)
  replace Pk := hid (Pk.out.step b)
  replace Mxx := hid (Mxx.out.now b)
  replace My := hid (My.out.now b)
  replace Mk := hid (Mk.out.now b)
  clear b EV x0 x1 x2 HSK
  have x1 := Pk.out.at (i := 1) rfl
  have y0 := PA.out.at (i := 0) rfl
  have q3 : ((r : Int) != (r : Int)) = false := by simp
  have s0 := Px.out.at (i := 0) rfl
  have s1 := Px.out.at (i := 1) rfl
  have s2 := Px.out.at (i := 2) rfl
  have t0 := Py.out.at (i := 0) rfl
  have t1 := Py.out.at (i := 1) rfl
  have t2 := Py.out.at (i := 2) rfl
  go_wp2_with fail
  refine (alikeMats12_yes Mxx.out My.out (by rw [SF.out])).mono ?_
  rintro e w11 ⟨rfl, b⟩
  replace G := hid (below_step G.out b)
  replace PA := hid (PA.out.step b)
  replace PU := hid (PU.out.step b)
  replace Pk := hid (Pk.out.step b)
  replace Mk := hid (Mk.out.now b)
  clear b Mxx My Px Py s0 s1 s2 t0 t1 t2 x1 y0 q3
  have x0 := Pk.out.at (i := 0) rfl
  have x1 := Pk.out.at (i := 1) rfl
  have x2 := Pk.out.at (i := 2) rfl
  have y0 := PU.out.at (i := 0) rfl
  have y1 := PU.out.at (i := 1) rfl
  have y2 := PU.out.at (i := 2) rfl
  go_wp2_with fail
  refine (rmul12 Mk.out.mx (MU.out.now G.out) (by omega)).mono ?_
  rintro e w12 ⟨v_, rfl, hm, b⟩
  obtain ⟨a_ku, q_ku, rfl, -, -⟩ := hm.mx.form
  rw [HL3.out] at hm ⊢
  obtain ⟨V12, hV⟩ : ∃ V, w12.alloc (matO rk r (.slice a_ku l3 q_ku)) = V := ⟨_, rfl⟩
  obtain ⟨bV, szV⟩ := alo12 w12 (matO rk r (.slice a_ku l3 q_ku))
  rw [hV] at bV szV
  have b2 := below_step b bV
  replace G := hid (below_step G.out b2)
  replace PA := hid (PA.out.step b2)
  replace PU := hid (PU.out.step b2)
  replace Pk := hid (Pk.out.step b2)
  have Pku : Hid (Cel V12 w12.heap.size 24 (matc rk r (.slice a_ku l3 q_ku))) := by unfold Hid; rw [← hV]; exact Cel.new _ _ _
  have Mku := hid (hm.now bV)
  have EV := hid hV
  clear hm b bV szV b2 hV Mk Pk x0 x1 x2 y0 y1 y2
  have x0 := Pku.out.at (i := 0) rfl
  have x1 := Pku.out.at (i := 1) rfl
  have x2 := Pku.out.at (i := 2) rfl
  rw [← EV.out] at x0 x1 x2
  have y0 := PA.out.at (i := 0) rfl
  have y1 := PA.out.at (i := 1) rfl
  have y2 := PA.out.at (i := 2) rfl
  rw [← EV.out] at y0 y1 y2
  go_wp2_with fail
  rw [EV.out]
  clear EV x0 x1 x2 y0 y1 y2
  refine (rmul12 Mku.out.mx (MA.out.now G.out) (by omega)).mono ?_
  rintro e w13 ⟨v_, rfl, hm, b⟩
  obtain ⟨a_z, q_z, rfl, -, -⟩ := hm.mx.form
  rw [HL4.out] at hm ⊢
  obtain ⟨V13, hV⟩ : ∃ V, w13.alloc (matO rk c (.slice a_z l4 q_z)) = V := ⟨_, rfl⟩
  obtain ⟨bV, szV⟩ := alo12 w13 (matO rk c (.slice a_z l4 q_z))
  rw [hV] at bV szV
  have b2 := below_step b bV
  replace G := hid (below_step G.out b2)
  replace PA := hid (PA.out.step b2)
  replace PU := hid (PU.out.step b2)
  replace Pku := hid (Pku.out.step b2)
  have Pz : Hid (Cel V13 w13.heap.size 24 (matc rk c (.slice a_z l4 q_z))) := by unfold Hid; rw [← hV]; exact Cel.new _ _ _
  have Mz := hid (hm.now bV)
  have EV := hid hV
  have ZL := hid Mz.out.zl12
  have HZZ := hid (zero12_yes (p := p) ZL.out (by omega) (by omega) hp2 SZE.out)
  clear hm b bV szV b2 hV Mku Pku ZL
  have x0 := Pz.out.at (i := 0) rfl
  have x1 := Pz.out.at (i := 1) rfl
  have x2 := Pz.out.at (i := 2) rfl
  rw [← EV.out] at x0 x1 x2
  go_wp2_with fail
  rw [EV.out]
  refine HZZ.out.mono ?_
  rintro e w14 ⟨rfl, b⟩
  replace G := hid (below_step G.out b)
  clear b EV x0 x1 x2 HZZ Mz Pz
  go_wp2
  go_ret
  exact ⟨rfl, G.out⟩

theorem modpSame_any {w : World} {v u : Value} {r c r' c' : Int} {l l' p : Nat} {zs us : List Int} (h : Raw w v r c l zs) (h' : Raw w u r' c' l' us) :
    Calls Tryz.prog 6 #[v, u, .int .u64 (p : Int)] w fun e w' => e = .returned (.bool true) ∧ Below w.heap.size w w' := by
  have h0 := h
  have h0' := h'
  obtain ⟨a, cap, ps, rfl, h2, h3, h4, h5⟩ := h
  obtain ⟨a', cap', ps', rfl, h2', h3', h4', h5'⟩ := h'
  by_cases hs : Snd r c l
  · by_cases ht : Snd r' c' l'
    · rcases Bool.eq_false_or_eq_true (gdB p) with q | q
      · by_cases e1 : r' = c'
        · by_cases e2 : c' = r
          · subst e1
            subst e2
            obtain ⟨R, rfl⟩ : ∃ R : Nat, r' = (R : Int) := ⟨r'.toNat, by have := ht.1; omega⟩
            obtain ⟨C, rfl⟩ : ∃ C : Nat, c = (C : Int) := ⟨c.toNat, by have := hs.2.2.1; omega⟩
            exact modpSame_ok q (h0.mx hs) (h0'.mx ht)
          · exact modpSame_out4 h5 h5' hs ht q e1 e2
        · exact modpSame_out3 h5 h5' hs ht q e1
      · exact modpSame_out2 h5 h5' hs ht q
    · exact modpSame_out1 h5 h5' hs ht
  · exact modpSame_out0 h5 h5' hs
end Go.Proofs.YtonmlmdnjjafhaaGreat
