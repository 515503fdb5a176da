/-
  QDe12ToSa12: De12, Sa12, joined.
-/
import Derived.Test.YtiedmlfiboalhaaGreatQDim12ToBr12
import Derived.Test.YtiedmlfiboalhaaGreatQKe12ToZDivs
import Derived.Test.YtiedmlfiboalhaaGreatQRm12

/- De12 -/
namespace Go.Proofs.YtiedmlfiboalhaaGreat
set_option linter.unusedVariables false

/-- To all rows but one, that one is added as often as one likes. -/
theorem Alt.rows {n : Nat} {F : (Nat → Nat → Int) → Int} (h : Alt n F) {top : Nat} (ht : top < n) (A : Nat → Nat → Int) (t : Nat → Int) : F (fun i j => if i = top then A i j else A i j + t i * A top j) = F A := by
  have key : ∀ k, k ≤ n → F (fun i j => if i = top ∨ k ≤ i then A i j else A i j + t i * A top j) = F A := by
    intro k
    induction k with
    | zero => intro _; exact h.congr _ _ fun i j _ _ => by rw [if_pos (.inr (Nat.zero_le i))]
    | succ k ih =>
      intro hk
      rw [← ih (by omega)]
      by_cases hkt : k = top
      · exact h.congr _ _ fun i j _ _ => by grind
      · rw [← h.plus (A := fun i j => if i = top ∨ k ≤ i then A i j else A i j + t i * A top j) (i := k) (k := top) (by omega) ht hkt (t k)]
        refine h.congr _ _ fun i j _ _ => ?_
        by_cases hik : i = k
        · subst hik
          rw [stR_at]; grind
        · rw [stR_off _ hik]; grind
  rw [← key n (Nat.le_refl n)]
  exact h.congr _ _ fun i j hi _ => by grind

section
variable {p : Nat} [NeZero p]
theorem fp_neg (x : Int) : (fp (-x) : Fin p) = - fp x := by
  have h := fp_sub (p := p) 0 x
  rw [fp_zero] at h
  rw [show (-x : Int) = 0 - x by omega, h]; grind
theorem fp_dvd {x y : Int} (h : (p : Int) ∣ x - y) : (fp x : Fin p) = fp y := fp_eq.2 (by
  obtain ⟨k, hk⟩ := h
  have : x = y + (p : Int) * k := by omega
  rw [this, Int.add_mul_emod_self_left])
theorem dvd_fp {x y : Int} (h : (fp x : Fin p) = fp y) : (p : Int) ∣ x - y := Int.dvd_of_emod_eq_zero (by
  have := fp_eq.1 h
  rw [Int.sub_emod, this]; simp)
theorem fp_det {n : Nat} {A B : Nat → Nat → Int} (h : ∀ i j, i < n → j < n → (fp (A i j) : Fin p) = fp (B i j)) : (fp (det n A) : Fin p) = fp (det n B) :=
  fp_dvd (det_dvd fun i j hi hj => dvd_fp (h i j hi hj))

/-- One column's step keeps the determinant times the factor. -/
theorem step_det (hp : IsPr p) {c r : Nat} {s : St12} (ho : Ok12 p r c r s) (hc : c < r) :
    (fp (det r (ent (step12 p c s).m)) : Fin p) * fp (step12 p c s).f = fp (det r (ent s.m)) * fp s.f := by
  have hp2 := hp.1
  have hl := ho.len
  unfold step12
  split
  · rfl
  · rename_i k hf
    obtain ⟨hk1, hk2, -⟩ := List.findIdx?_eq_some_iff_getElem.1 hf
    rw [List.length_drop] at hk1
    have hkn : ent s.m (s.pv.length + k) c ≠ 0 := by
      unfold ent
      rw [rowE_at (by omega)]
      rw [List.getElem_drop] at hk2
      simpa using hk2
    have hm1 : ∃ m1 f1, (if 0 < k then swE s.m s.pv.length (s.pv.length + k) else s.m) = m1 ∧ (if 0 < k then ((p : Int) - s.f) % (p : Int) else s.f) = f1 ∧ WidE r m1 ∧ ResM p m1 ∧ m1.length = r ∧ ent m1 s.pv.length c = ent s.m (s.pv.length + k) c ∧ (fp (det r (ent m1)) : Fin p) * fp f1 = fp (det r (ent s.m)) * fp s.f := by
      refine ⟨_, _, rfl, rfl, ?_, ?_, ?_, ?_, ?_⟩
      · split
        · exact swE_wide ho.wid (by omega) (by omega)
        · exact ho.wid
      · split
        · exact swE_res ho.res
        · exact ho.res
      · split
        · simp [swE, hl]
        · exact hl
      · split
        · rw [ent_sw (by omega) (by omega) (by omega), if_pos rfl]
        · obtain rfl : k = 0 := by omega
          rfl
      · split
        · next hk =>
          have e := (det_alt r).swap (A := ent s.m) (i := s.pv.length) (k := s.pv.length + k) (by omega) (by omega) (by omega)
          have e' : det r (ent (swE s.m s.pv.length (s.pv.length + k))) = - det r (ent s.m) := by
            rw [← e]
            refine det_congr fun i j hi hj => ?_
            rw [ent_sw (by omega) (by omega) (by omega)]
            by_cases h2 : i = s.pv.length + k
            · subst h2
              rw [stR_at, if_neg (by omega), if_pos rfl]
            · rw [stR_off _ h2]
              by_cases h1 : i = s.pv.length
              · subst h1
                rw [stR_at, if_pos rfl]
              · rw [stR_off _ h1, if_neg h1, if_neg h2]
          rw [e', fp_neg, fp_mod, fp_sub, fp_p]
          grind
        · rfl
    obtain ⟨m1, f1, em, ef, w1, r1, l1, ex, e1⟩ := hm1
    simp only [em, ef]
    have ht : s.pv.length < r := by omega
    have hx : ent m1 s.pv.length c ≠ 0 := by rw [ex]; exact hkn
    have rx : IsR p (ent m1 s.pv.length c) := (r1.at s.pv.length).getD (by omega) c
    obtain ⟨x, hxx⟩ : ∃ x, ent m1 s.pv.length c = x := ⟨_, rfl⟩
    rw [hxx] at hx rx
    simp only [hxx]
    have hy := inv_right hp rx hx
    obtain ⟨rt, hrt⟩ : ∃ rt, dvL p x (rowE m1 s.pv.length) = rt := ⟨_, rfl⟩
    simp only [hrt]
    have lrt : rt.length = r := by rw [← hrt, dvL_len]; exact w1.at (by omega)
    have hrtj : ∀ j, j < r → (fp (rt.getD j 0) : Fin p) = fp (ent m1 s.pv.length j) * fp (invP p x) := fun j hj => by
      rw [← hrt, dvL_at (q := p) (by rw [w1.at (by omega)]; exact hj)]
      rfl
    have key : ∀ i j, i < r → j < r → (fp (ent (clr p c s.pv.length rt (m1.set s.pv.length rt) m1.length) i j) : Fin p) = fp (if i = s.pv.length then stR (ent m1) s.pv.length (fun j => invP p x * ent m1 s.pv.length j) i j else stR (ent m1) s.pv.length (fun j => invP p x * ent m1 s.pv.length j) i j + (- ent m1 i c) * stR (ent m1) s.pv.length (fun j => invP p x * ent m1 s.pv.length j) s.pv.length j) := fun i j hi hj => by
      have hset : rowE (m1.set s.pv.length rt) i = if s.pv.length = i then rt else rowE m1 i := rowE_set (by omega)
      show fp ((rowE (clr p c s.pv.length rt (m1.set s.pv.length rt) m1.length) i).getD j 0) = _
      rw [clr_at (by rw [List.length_set]; omega), stR_at]
      by_cases e : i = s.pv.length
      · rw [if_pos (.inl e), if_pos e, hset, if_pos e.symm, hrtj j hj, e, stR_at, fp_mul]
        grind
      · rw [if_neg (by omega), if_neg e, stR_off _ e]
        have he : ent (m1.set s.pv.length rt) i c = ent m1 i c := by
          unfold ent
          rw [hset, if_neg (fun q => e q.symm)]
        rw [hset, if_neg (fun q => e q.symm), he, tkL_at (by rw [w1.at (by omega)]; exact hj) (by rw [lrt, w1.at (by omega)]), hrtj j hj, fp_add, fp_mul, fp_neg, fp_mul]
        show fp (ent m1 i j) - _ = _
        grind
    rw [fp_det key, (det_alt r).rows ht _ (fun i => - ent m1 i c), (det_alt r).mul ht, stR_self, fp_mul, fp_mod, fp_mul, ← e1]
    grind

theorem red_det0 (hp : IsPr p) {r : Nat} {m : List (List Int)} (hw : WidE r m) (hr : ResM p m) (hl : m.length = r) : ∀ c, c ≤ r → (fp (det r (ent (red12 p m c).m)) : Fin p) * fp (red12 p m c).f = fp (det r (ent m))
  | 0, _ => by
    show fp (det r (ent m)) * fp 1 = _
    rw [fp_one hp.1]; grind
  | c + 1, h => by
    rw [← red_det0 hp hw hr hl c (by omega)]
    exact step_det hp (Ok12.red hp.1 hw hr hl c) (by omega)

theorem inc_full : ∀ {l : List Nat} {r : Nat}, l.length = r → (∀ (s t a b : Nat), s < t → l[s]? = some a → l[t]? = some b → a < b) → (∀ (t a : Nat), l[t]? = some a → a < r) → ∀ t, t < r → l[t]? = some t := by
  intro l r hl hi hr t ht
  have up : ∀ t, t < r → ∀ a, l[t]? = some a → t ≤ a := by
    intro t
    induction t with
    | zero => intros; omega
    | succ t ih =>
      intro h a ha
      have e : l[t]? = some (l[t]'(by omega)) := by simp; 
      have h1 := ih (by omega) _ e
      have h2 := hi t (t + 1) _ a (by omega) e ha
      omega
  have dn : ∀ d, d < r → ∀ a, l[r - 1 - d]? = some a → a ≤ r - 1 - d := by
    intro d
    induction d with
    | zero => intro h a ha; have := hr _ a ha; omega
    | succ d ih =>
      intro h a ha
      have e : l[r - 1 - d]? = some (l[r - 1 - d]'(by omega)) := by simp
      have h1 := ih (by omega) _ e
      have h2 := hi (r - 1 - (d + 1)) (r - 1 - d) a _ (by omega) ha e
      omega
  have e : l[t]? = some (l[t]'(by omega)) := by simp
  have h1 := up t ht _ e
  have h2 := dn (r - 1 - t) (by omega) (l[t]'(by omega)) (by rw [show r - 1 - (r - 1 - t) = t by omega]; exact e)
  rw [e]; congr 1; omega

/-- What Det answers is the determinant's least residue. -/
theorem red_det (hp : IsPr p) {r : Nat} {m : List (List Int)} (hw : WidE r m) (hr : ResM p m) (hl : m.length = r) : (if (red12 p m r).pv.length < r then 0 else (red12 p m r).f) = det r (ent m) % (p : Int) := by
  have h0 := red_det0 hp hw hr hl r (Nat.le_refl r)
  have h1 := (red_rref hp hw hr hl r (Nat.le_refl r)).1
  have ho := Ok12.red hp.1 hw hr hl r
  have hp0 : 0 < p := by have := hp.1; omega
  refine fp_inj (p := p) ?_ (emod_isR hp0 _) ?_
  · split
    · exact ⟨by omega, by omega⟩
    · exact ho.fac
  rw [fp_mod, ← h0]
  split
  · next hlt =>
    have e : det r (ent (red12 p m r).m) = 0 := (det_alt r).nul (i := (red12 p m r).pv.length) hlt fun j hj => (fp_is_zero ((ho.res.at _).getD hp0 j)).1 (h1.zer _ j (Nat.le_refl _) hlt hj)
    rw [e, fp_zero]; grind
  · next hge =>
    have hlen : (red12 p m r).pv.length = r := by have := h1.len; omega
    have hpv := inc_full hlen h1.inc h1.lt
    have e : det r (ent (red12 p m r).m) = 1 := by
      rw [← det_unit r]
      refine det_congr fun i j hi hj => fp_inj (p := p) ((ho.res.at _).getD hp0 j) ?_ ?_
      · unfold dlz; have := hp.1; split <;> exact ⟨by omega, by omega⟩
      · have := h1.one j j i (hpv j hj) hi
        show mt (red12 p m r).m i j = _
        rw [this]; unfold dlt dlz
        split
        · rw [fp_one hp.1]
        · rw [fp_zero]
    rw [e, fp_one hp.1]; grind
end
end Go.Proofs.YtiedmlfiboalhaaGreat

/- Sa12 -/
namespace Go.Proofs.YtiedmlfiboalhaaGreat
open Go.RowKit
set_option linter.unusedVariables false

theorem flat_ent {n : Nat} : ∀ {ls : List (List Int)} {i j : Nat}, WidE n ls → i < ls.length → j < n → ls.flatten.getD (i * n + j) 0 = ent ls i j
  | [], i, j, _, hi, _ => by simp at hi
  | l :: ls, 0, j, hw, _, hj => by
    have hl : l.length = n := hw l (by simp)
    have e : (l :: ls).flatten = l ++ ls.flatten := rfl
    rw [e, Nat.zero_mul, Nat.zero_add]
    simp [ent, rowE, List.getElem?_append_left (show j < l.length by omega)]
  | l :: ls, i + 1, j, hw, hi, hj => by
    have hl : l.length = n := hw l (by simp)
    have e : (l :: ls).flatten = l ++ ls.flatten := rfl
    have ih := flat_ent (ls := ls) (i := i) (j := j) (fun x hx => hw x (by simp [hx])) (by simpa using hi) hj
    have e2 : ent (l :: ls) (i + 1) j = ent ls i j := by simp [ent, rowE]
    rw [e2, ← ih, e]
    simp only [List.getD_eq_getElem?_getD]
    rw [List.getElem?_append_right (by rw [hl, Nat.succ_mul]; omega)]
    congr 2
    rw [hl, Nat.succ_mul]; omega
theorem ent_lines {p r c i j : Nat} {zs : List Int} (hl : zs.length = r * c) (hi : i < r) (hj : j < c) : ent (linesL p r c zs) i j = zs.getD (i * c + j) 0 % (p : Int) := by
  have h1 := flat_ent (n := c) (i := i) (j := j) (linesL_wide (p := p) hl) (by rw [linesL_len]; exact hi) hj
  rw [← h1, linesL_flat hl]
  have hlt : i * c + j < zs.length := by rw [hl]; exact place12 hi hj
  simp [resL, hlt]
section
variable {p : Nat} [NeZero p]
theorem fp_su : ∀ (n : Nat) (f : Nat → Int), (fp (su n f) : Fin p) = sm n fun k => fp (f k)
  | 0, f => fp_zero
  | n + 1, f => by
    show fp (su n f + f n) = sm n _ + fp (f n)
    rw [fp_add, fp_su n f]
def mz (c : Nat) (zs : List Int) (i j : Nat) : Fin p := fp (zs.getD (i * c + j) 0)
theorem mt_lines {r c i j : Nat} {zs : List Int} (hl : zs.length = r * c) (hi : i < r) (hj : j < c) : (mt (linesL p r c zs) i j : Fin p) = mz c zs i j := by
  unfold mt mz
  rw [ent_lines hl hi hj, fp_mod]
theorem mulL_len (r m c : Nat) (xs ys : List Int) : (mulL r m c xs ys).length = r * c := by simp [mulL]
theorem mulL_at {r m c i j : Nat} {xs ys : List Int} (hi : i < r) (hj : j < c) : (mulL r m c xs ys).getD (i * c + j) 0 = mulF m c xs ys i j m := by
  have hlt := place12 hi hj
  rw [← mulE_at hj]
  simp [mulL, hlt]
theorem mz_mul {r m c i j : Nat} {xs ys : List Int} (hi : i < r) (hj : j < c) : (mz c (mulL r m c xs ys) i j : Fin p) = vm m (mz m xs i) (mz c ys) j := by
  unfold mz
  rw [mulL_at hi hj]
  unfold mulF
  rw [fp_su]
  exact sm_congr fun k _ => fp_mul _ _
/-- A sheet's form. -/
theorem form12 (hp : IsPr p) {r c : Nat} {zs : List Int} (hl : zs.length = r * c) : Rref r c (mt (p := p) (red12 p (linesL p r c zs) c).m) (red12 p (linesL p r c zs) c).pv ∧ Eqv c r (mt (p := p) (red12 p (linesL p r c zs) c).m) (mz c zs) := by
  have hp2 := hp.1
  obtain ⟨h1, h2⟩ := red_rref hp (linesL_wide (p := p) hl) (linesL_res (by omega)) (linesL_len _ _ _ _) c (Nat.le_refl _)
  refine ⟨h1, h2.trans ?_⟩
  refine ⟨⟨dlt, fun i j hi hj => ?_⟩, ⟨dlt, fun i j hi hj => ?_⟩⟩
  · rw [mt_lines hl hi hj, vm_dlt hi]
  · rw [vm_dlt hi, mt_lines hl hi hj]
end
end Go.Proofs.YtiedmlfiboalhaaGreat
