/-
  To14: determinants of columns by a table: what the open places leave; the sign of an order; ranks. Plain mathematics: nothing of the program.
-/
import Derived.Test.YtplldfnldaehiaaQSp13ToTb14
namespace Go.Proofs.Ytplldfnldaehiaa
set_option linter.unusedVariables false

/-- How an order is told odd: each number against those behind it. -/
def odA (x : Nat) : Bool → List Nat → Bool
  | o, [] => o
  | o, y :: l => odA x (o != decide (y < x)) l
def odl : Bool → List Nat → Bool
  | o, [] => o
  | o, x :: l => odl (odA x o l) l
theorem odA_acc (x : Nat) : ∀ (l : List Nat) (o : Bool), odA x o l = (o ^^ odA x false l)
  | [], o => by simp [odA]
  | y :: l, o => by
    show odA x (o != decide (y < x)) l = (o ^^ odA x (false != decide (y < x)) l)
    rw [odA_acc x l (o != _), odA_acc x l (false != _)]
    cases o <;> cases decide (y < x) <;> cases odA x false l <;> rfl
theorem odl_acc : ∀ (l : List Nat) (o : Bool), odl o l = (o ^^ odl false l)
  | [], o => by simp [odl]
  | x :: l, o => by
    show odl (odA x o l) l = (o ^^ odl (odA x false l) l)
    rw [odl_acc l (odA x o l), odl_acc l (odA x false l), odA_acc x l o]
    cases o <;> cases odA x false l <;> cases odl false l <;> rfl
theorem odA_ins (x c : Nat) : ∀ (l : List Nat) (o : Bool), odA x o (ins c l) = odA x o (c :: l)
  | [], o => rfl
  | y :: l, o => by
    unfold ins
    by_cases q : c < y
    · rw [if_pos q]
    · rw [if_neg q]
      show odA x (o != decide (y < x)) (ins c l) = odA x ((o != decide (c < x)) != decide (y < x)) l
      rw [odA_ins x c l]
      show odA x ((o != decide (y < x)) != decide (c < x)) l = _
      congr 1
      cases o <;> cases decide (y < x) <;> cases decide (c < x) <;> rfl
def srtR : List Nat → List Nat
  | [] => []
  | x :: l => ins x (srtR l)
theorem odA_srt (x : Nat) : ∀ (l : List Nat) (o : Bool), odA x o (srtR l) = odA x o l
  | [], o => rfl
  | c :: l, o => by
    show odA x o (ins c (srtR l)) = _
    rw [odA_ins]
    show odA x (o != decide (c < x)) (srtR l) = odA x (o != decide (c < x)) l
    exact odA_srt x l _
theorem odA_none (x : Nat) : ∀ {l : List Nat}, (∀ y ∈ l, x < y) → odA x false l = false
  | [], _ => rfl
  | y :: l, h => by
    show odA x (false != decide (y < x)) l = false
    have : decide (y < x) = false := decide_eq_false (by have := h y (by simp); omega)
    rw [this]
    exact odA_none x fun z hz => h z (by simp [hz])
theorem Mv.insF (x : Nat) : ∀ {l : List Nat}, l.Pairwise (· < ·) → x ∉ l → Mv (x :: l) (Proofs.Ytplldfnldaehiaa.ins x l) (odA x false l)
  | [], _, _ => Mv.refl _
  | y :: l, h, hx => by
    have h' := List.pairwise_cons.1 h
    unfold Proofs.Ytplldfnldaehiaa.ins
    by_cases q : x < y
    · rw [if_pos q, odA_none x fun z hz => by
        rcases List.mem_cons.1 hz with rfl | hz
        · exact q
        · have := h'.1 z hz; omega]
      exact Mv.refl _
    · have hne : x ≠ y := fun e => hx (by simp [e])
      rw [if_neg q]
      have e : odA x false (y :: l) = (true ^^ odA x false l) := by
        show odA x (false != decide (y < x)) l = _
        rw [odA_acc, decide_eq_true (show y < x by omega)]
        rfl
      rw [e]
      exact ((Mv.two x y).app l).trans ((Mv.insF x h'.2 fun q => hx (by simp [q])).cons y)
theorem sorted14 : ∀ {l : List Nat}, l.Nodup → Mv l (srtR l) (odl false l) ∧ (srtR l).Pairwise (· < ·) ∧ (srtR l).length = l.length ∧ ∀ c, c ∈ srtR l ↔ c ∈ l
  | [], _ => ⟨Mv.refl _, by simp [srtR], rfl, fun c => by simp [srtR]⟩
  | x :: l, h => by
    have h' := List.nodup_cons.1 h
    obtain ⟨h1, h2, h3, h4⟩ := sorted14 h'.2
    have hx : x ∉ srtR l := fun q => h'.1 ((h4 x).1 q)
    refine ⟨?_, ins_up h2 hx, by show (ins x (srtR l)).length = _; rw [ins_len, h3]; rfl, fun c => by show c ∈ ins x (srtR l) ↔ _; rw [ins_mem, h4 c]; simp⟩
    have e : odl false (x :: l) = (odl false l ^^ odA x false (srtR l)) := by
      show odl (odA x false l) l = _
      rw [odl_acc, odA_srt]
      cases odA x false l <;> cases odl false l <;> rfl
    rw [e]
    exact (h1.cons x).trans (Mv.insF x h2 hx)
/-- An order of the places 0 to m - 1. -/
theorem order14 {l : List Nat} {m : Nat} (h : l.Nodup) (hl : l.length = m) (hm : ∀ x ∈ l, x < m) : Mv l (List.range m) (odl false l) := by
  obtain ⟨h1, h2, h3, h4⟩ := sorted14 h
  have e : srtR l = List.range m := by
    refine List.ext_getElem (by rw [h3, hl, List.length_range]) fun i a b => ?_
    have hi : i < m := by rw [h3, hl] at a; exact a
    have := up_all h2 (n := m) (fun x hx => hm x ((h4 x).1 hx)) (by rw [h3, hl]) hi
    rw [List.getElem_range]
    simpa [List.getD_eq_getElem?_getD, List.getElem?_eq_getElem a] using this
  rw [← e]
  exact h1
theorem sgb_sq (s : Bool) : sgb s * sgb s = 1 := by cases s <;> rfl
theorem dl_order {l : List Nat} {m : Nat} (h : l.Nodup) (hl : l.length = m) (hm : ∀ x ∈ l, x < m) (M : Nat → Nat → Int) : det m (fun a b => M a (l.getD b 0)) = sgb (odl false l) * det m M := by
  have e := order14 h hl hm M [] []
  simp only [List.nil_append, List.append_nil] at e
  unfold dl at e
  rw [hl, List.length_range] at e
  rw [e]
  congr 1
  exact det_congr fun a b _ hb => by simp [hb]
theorem nd_idx {l : List Nat} (h : l.Nodup) {i j : Nat} (hi : i < l.length) (hj : j < l.length) (e : l.getD i 0 = l.getD j 0) : i = j := by
  have h' := List.pairwise_iff_getElem.1 h
  rcases Nat.lt_trichotomy i j with q | q | q
  · exact absurd (by simpa [hi, hj] using e) (h' i j hi hj q)
  · exact q
  · exact absurd (by simpa [hi, hj] using e.symm) (h' j i hj hi q)
theorem dvd_pow14 (d : Int) : ∀ (t s : Nat) (Y : Nat → Nat → Int), (∀ a k, s ≤ a → a < s + t → k < s + t → Y a k = d * dlz a k) → det (s + t) Y = d ^ t * det s Y
  | 0, s, Y, _ => by simp
  | t + 1, s, Y, h => by
    have e : det (s + (t + 1)) Y = d * det (s + t) Y := by
      show det (s + t + 1) Y = _
      rw [← det_corner (s + t) Y, ← (det_alt (s + t + 1)).mul (A := Y) (i := s + t) (by omega) d (dlz (s + t))]
      refine det_congr fun a k ha hk => ?_
      unfold stR
      by_cases q : a = s + t
      · rw [if_pos q]; show Y a k = d * dlz (s + t) k; rw [h a k (by omega) (by omega) (by omega), q]
      · rw [if_neg q]
    rw [e, dvd_pow14 d t s Y fun a k h1 h2 h3 => h a k h1 (by omega) (by omega), Int.pow_succ]
    grind
/-- Units in the places that S leaves out drop. -/
theorem det_units {m : Nat} {X : Nat → Nat → Int} {d : Int} {S : List Nat} (hS : S.Nodup) (hl : ∀ p ∈ S, p < m) (h : ∀ p k, p < m → k < m → p ∉ S → X p k = d * dlz p k) :
    ∃ t, t + S.length = m ∧ det m X = d ^ t * det S.length fun a b => X (S.getD a 0) (S.getD b 0) := by
  obtain ⟨R, hR⟩ : ∃ R, (List.range m).filter (fun x => decide (x ∉ S)) = R := ⟨_, rfl⟩
  have mR : ∀ x, x ∈ R ↔ x < m ∧ x ∉ S := fun x => by rw [← hR]; simp
  have nR : R.Nodup := by rw [← hR]; exact List.Pairwise.filter _ List.nodup_range
  have nL : (S ++ R).Nodup := List.nodup_append.2 ⟨hS, nR, fun a ha b hb e => ((mR b).1 hb).2 (e ▸ ha)⟩
  have pL : (S ++ R).Perm (List.range m) := (List.perm_ext_iff_of_nodup nL List.nodup_range).2 fun a => by
    rw [List.mem_append, mR, List.mem_range]
    constructor
    · rintro (q | q)
      · exact hl a q
      · exact q.1
    · intro q
      by_cases e : a ∈ S
      · exact .inl e
      · exact .inr ⟨q, e⟩
  have lL : (S ++ R).length = m := by rw [pL.length_eq, List.length_range]
  have bL : ∀ x ∈ S ++ R, x < m := fun x hx => by simpa using pL.mem_iff.1 hx
  have lt : S.length + R.length = m := by rw [← lL, List.length_append]
  refine ⟨R.length, by omega, ?_⟩
  have e1 := dl_order nL lL bL X
  have e2 := dl_order nL lL bL (fun a b => X ((S ++ R).getD b 0) ((S ++ R).getD a 0))
  have e3 : det m (fun a b => X ((S ++ R).getD a 0) b) = sgb (odl false (S ++ R)) * det m X := by
    have := dl_order nL lL bL (fun a b => X b a)
    rw [det_turn m X] at this
    rw [← this, ← det_turn]
  have e4 : det m (fun a b => X ((S ++ R).getD a 0) ((S ++ R).getD b 0)) = det m X := by
    rw [dl_order nL lL bL (fun a b => X ((S ++ R).getD a 0) b), e3, ← Int.mul_assoc, sgb_sq, Int.one_mul]
  rw [← e4]
  have hd := dvd_pow14 d R.length S.length (fun a b => X ((S ++ R).getD a 0) ((S ++ R).getD b 0)) fun a k h1 h2 h3 => by
    have ea : (S ++ R).getD a 0 = R.getD (a - S.length) 0 := by simp [List.getElem?_append_right h1]
    have hin : (S ++ R).getD a 0 ∈ R := by
      rw [ea, List.getD_eq_getElem?_getD, List.getElem?_eq_getElem (show a - S.length < R.length by omega)]
      exact List.getElem_mem _
    have hk : (S ++ R).getD k 0 ∈ S ++ R := by
      rw [List.getD_eq_getElem?_getD, List.getElem?_eq_getElem (show k < (S ++ R).length by omega)]
      exact List.getElem_mem _
    show X ((S ++ R).getD a 0) ((S ++ R).getD k 0) = _
    rw [h _ _ ((mR _).1 hin).1 (bL _ hk) ((mR _).1 hin).2]
    unfold dlz
    by_cases q : a = k
    · subst q; rw [if_pos rfl, if_pos rfl]
    · rw [if_neg q, if_neg fun e => q (nd_idx nL (by omega) (by omega) e)]
  rw [lt] at hd
  rw [hd]
  congr 1
  exact det_congr fun a b ha hb => by simp [List.getElem?_append_left ha, List.getElem?_append_left hb]
theorem prn_pow (d : Int) : ∀ n, prn n (fun _ => d) = d ^ n
  | 0 => by simp [prn]
  | n + 1 => by
    show d * prn n (fun _ => d) = _
    rw [prn_pow d n, Int.pow_succ, Int.mul_comm]
/-- A determinant of columns by a table. -/
theorem Tbl.detOf {A : Nat → Nat → Int} {m n : Nat} {f g : Nat → Nat} {by_ : Nat → Nat → Int} {d : Int} (h : Tbl A m n f g by_ d) {w : Nat → Nat} {ord opn fre slt : List Nat}
    (lo : ord.length = m) (no : ord.Nodup) (mo : ∀ x ∈ ord, x < m) (o1 : opn.Nodup) (o2 : ∀ p ∈ opn, p < m) (hin : ∀ p, p < m → p ∉ opn → f (ord.getD p 0) = w p)
    (hop : ∀ t, t < opn.length → ord.getD (opn.getD t 0) 0 = fre.getD t 0 ∧ slt.getD t 0 < n ∧ g (slt.getD t 0) = w (opn.getD t 0)) :
    dcl A m n w * d ^ opn.length = sgb (odl false ord) * (det opn.length (fun a b => by_ (fre.getD a 0) (slt.getD b 0)) * d) := by
  have hod : ∀ p, p < m → ord.getD p 0 < m := fun p hp => mo _ (by
    rw [List.getD_eq_getElem?_getD, List.getElem?_eq_getElem (show p < ord.length by omega)]
    exact List.getElem_mem _)
  obtain ⟨B, hB⟩ : ∃ B, (fun r => vcl A n (f r)) = B := ⟨_, rfl⟩
  have dB : det m B = d := by rw [← hB]; exact h.de
  obtain ⟨T, hT⟩ : ∃ T : Nat → Nat → Int, (fun p i => det m (stR B i (vcl A n (w p)))) = T := ⟨_, rfl⟩
  have T1 : ∀ p i, p < m → i < m → p ∉ opn → T p i = d * dlz (ord.getD p 0) i := fun p i hp hi hx => by
    rw [← hT]
    show det m (stR B i (vcl A n (w p))) = _
    rw [← hin p hp hx, show vcl A n (f (ord.getD p 0)) = B (ord.getD p 0) by rw [← hB]]
    unfold dlz
    by_cases q : ord.getD p 0 = i
    · rw [if_pos q, q, stR_self, dB, Int.mul_one]
    · rw [if_neg q, Int.mul_zero]
      exact (det_alt m).same (hod p hp) hi q fun k _ => by rw [stR_at, stR_off _ q]
  have T2 : ∀ t i, t < opn.length → i < m → T (opn.getD t 0) i = by_ i (slt.getD t 0) := fun t i ht hi => by
    rw [← hT]
    show det m (stR B i (vcl A n (w (opn.getD t 0)))) = _
    rw [h.be i _ hi (hop t ht).2.1, dcl_st, hB, (hop t ht).2.2]
  have e1 : det m (fun p k => d * vcl A n (w p) k) = det m T * d := by
    rw [← dB, ← det_mul]
    refine det_congr fun p k hp hk => ?_
    unfold muz
    rw [dB, ← dB, ← hT, ← cramer14 B (vcl A n (w p)) hk]
  rw [det_scale m (fun _ => d), prn_pow] at e1
  have e2 := dl_order no lo mo T
  obtain ⟨t, ht, e3⟩ := det_units (X := fun p k => T p (ord.getD k 0)) (d := d) o1 o2 fun p k hp hk hx => by
    show T p (ord.getD k 0) = _
    rw [T1 p _ hp (hod k hk) hx]
    unfold dlz
    by_cases q : p = k
    · subst q; rw [if_pos rfl, if_pos rfl]
    · rw [if_neg q, if_neg fun e => q (nd_idx no (by omega) (by omega) e)]
  have e4 : det opn.length (fun a b => T (opn.getD a 0) (ord.getD (opn.getD b 0) 0)) = det opn.length (fun a b => by_ (fre.getD a 0) (slt.getD b 0)) := by
    rw [← det_turn]
    exact det_congr fun a b ha hb => by
      have hm := hod _ (o2 _ (show opn.getD a 0 ∈ opn by
        rw [List.getD_eq_getElem?_getD, List.getElem?_eq_getElem ha]; exact List.getElem_mem _))
      show T (opn.getD b 0) (ord.getD (opn.getD a 0) 0) = _
      rw [T2 b _ hb hm, (hop a ha).1]
  have e5 : det m T = sgb (odl false ord) * (d ^ t * det opn.length (fun a b => by_ (fre.getD a 0) (slt.getD b 0))) := by
    rw [← e4]
    have := e3
    rw [e2] at this
    rw [← this, ← Int.mul_assoc, sgb_sq, Int.one_mul]
  rw [e5, show d ^ m = d ^ t * d ^ opn.length by rw [← ht, Int.pow_add]] at e1
  have hnz : d ^ t ≠ 0 := Int.pow_ne_zero h.nz
  refine Int.eq_of_mul_eq_mul_left hnz ?_
  have e6 : dcl A m n w = det m (fun p => vcl A n (w p)) := rfl
  rw [e6]
  rw [show d ^ t * (det m (fun p => vcl A n (w p)) * d ^ opn.length) = d ^ t * d ^ opn.length * det m fun p => vcl A n (w p) by grind]
  rw [show (det m fun p => vcl A n (w p)) = det m fun a b => vcl A n (w a) b from rfl, e1]
  grind
end Go.Proofs.Ytplldfnldaehiaa
