/-
 QTo14ToPickA9: To14, Ints9, PickA9, joined.
-/
import Derived.Test.YtplldfnldaehiaaGreatQSp13ToTb14
import Derived.Test.YtplldfnldaehiaaGreatQPure9ToLeastA9

set_option maxRecDepth 100000
set_option maxHeartbeats 6400000
set_option linter.unusedVariables false
set_option linter.unusedSimpArgs false
namespace Go.Proofs.YtplldfnldaehiaaGreat
def odA (x : Nat) : Bool → List Nat → Bool
 | o, [] => o
 | o, y :: l => odA x (o != decide (y < x)) l
def odl : Bool → List Nat → Bool
 | o, [] => o
 | o, x :: l => odl (odA x o l) l
theorem zwE (x : Nat) : ∀ (l : List Nat) (o : Bool), odA x o l = (o ^^ odA x false l)
 | [], o => by simp [odA]
 | y :: l, o => by
  show odA x (o != decide (y < x)) l = (o ^^ odA x (false != decide (y < x)) l)
  rw [zwE x l (o != _), zwE x l (false != _)]; cases o <;> cases decide (y < x) <;> cases odA x false l <;> rfl
theorem zKG : ∀ (l : List Nat) (o : Bool), odl o l = (o ^^ odl false l)
 | [], o => by simp [odl]
 | x :: l, o => by
  show odl (odA x o l) l = (o ^^ odl (odA x false l) l)
  rw [zKG l (odA x o l), zKG l (odA x false l), zwE x l o]; cases o <;> cases odA x false l <;> cases odl false l <;> rfl
theorem zmH (x c : Nat) : ∀ (l : List Nat) (o : Bool), odA x o (ins c l) = odA x o (c :: l)
 | [], o => rfl
 | y :: l, o => by
  unfold ins
  by_cases q : c < y
  ·rw [if_pos q]
  ·rw [if_neg q]
   show odA x (o != decide (y < x)) (ins c l) = odA x ((o != decide (c < x)) != decide (y < x)) l
   rw [zmH x c l]
   show odA x ((o != decide (y < x)) != decide (c < x)) l = _
   congr 1
   cases o <;> cases decide (y < x) <;> cases decide (c < x) <;> rfl
def srtR : List Nat → List Nat
 | [] => []
 | x :: l => ins x (srtR l)
theorem zlH (x : Nat) : ∀ (l : List Nat) (o : Bool), odA x o (srtR l) = odA x o l
 | [], o => rfl
 | c :: l, o => by
  show odA x o (ins c (srtR l)) = _
  rw [zmH]
  show odA x (o != decide (c < x)) (srtR l) = odA x (o != decide (c < x)) l
  exact zlH x l _
theorem znG (x : Nat) : ∀ {l : List Nat}, (∀ y ∈ l, x < y) → odA x false l = false
 | [], _ => rfl
 | y :: l, h => by
  show odA x (false != decide (y < x)) l = false
  have : decide (y < x) = false := decide_eq_false (by have := h y (by simp); omega); rw [this]; exact znG x fun z hz => h z (by simp [hz])
theorem Mv.insF (x : Nat) : ∀ {l : List Nat}, l.Pairwise (· < ·) → x ∉ l → Mv (x :: l) (Proofs.YtplldfnldaehiaaGreat.ins x l) (odA x false l)
 | [], _, _ => Mv.refl _
 | y :: l, h, hx => by
  have h' := List.pairwise_cons.1 h; unfold Proofs.YtplldfnldaehiaaGreat.ins
  by_cases q : x < y
  ·rw [if_pos q, znG x fun z hz => by
    rcases List.mem_cons.1 hz with rfl | hz
    ·exact q
    ·have := h'.1 z hz; omega]
   exact Mv.refl _
  ·have hne : x ≠ y := fun e => hx (by simp [e])
   rw [if_neg q]; have e : odA x false (y :: l) = (true ^^ odA x false l) := by
    show odA x (false != decide (y < x)) l = _
    rw [zwE, decide_eq_true (show y < x by omega)]
    rfl
   rw [e]; exact ((Mv.two x y).app l).trans ((Mv.insF x h'.2 fun q => hx (by simp [q])).cons y)
theorem zeG : ∀ {l : List Nat}, l.Nodup → Mv l (srtR l) (odl false l) ∧ (srtR l).Pairwise (· < ·) ∧ (srtR l).length = l.length ∧ ∀ c, c ∈ srtR l ↔ c ∈ l
 | [], _ => ⟨Mv.refl _, by simp [srtR], rfl, fun c => by simp [srtR]⟩
 | x :: l, h => by
  have h' := List.nodup_cons.1 h; obtain ⟨h1, h2, h3, h4⟩ := zeG h'.2; have hx : x ∉ srtR l := fun q => h'.1 ((h4 x).1 q)
  refine ⟨?_, zuG h2 hx, by show (ins x (srtR l)).length = _; rw [zBF, h3]; rfl, fun c => by show c ∈ ins x (srtR l) ↔ _; rw [ins_mem, h4 c]; simp⟩; have e : odl false (x :: l) = (odl false l ^^ odA x false (srtR l)) := by
   show odl (odA x false l) l = _
   rw [zKG, zlH]; cases odA x false l <;> cases odl false l <;> rfl
  rw [e]; exact (h1.cons x).trans (Mv.insF x h2 hx)
theorem order14 {l : List Nat} {m : Nat} (h : l.Nodup) (hl : l.length = m) (hm : ∀ x ∈ l, x < m) : Mv l (List.range m) (odl false l) := by
 obtain ⟨h1, h2, h3, h4⟩ := zeG h; have e : srtR l = List.range m := by
  refine List.ext_getElem (by rw [h3, hl, List.length_range]) fun i a b => ?_
  have hi : i < m := by rw [h3, hl] at a; exact a
  have := zVH h2 (n := m) (fun x hx => hm x ((h4 x).1 hx)) (by rw [h3, hl]) hi; rw [List.getElem_range]
  simpa [List.getD_eq_getElem?_getD, List.getElem?_eq_getElem a] using this
 rw [← e]; exact h1
theorem zfH (s : Bool) : sgb s * sgb s = 1 := by cases s <;> rfl
theorem znC {l : List Nat} {m : Nat} (h : l.Nodup) (hl : l.length = m) (hm : ∀ x ∈ l, x < m) (M : Nat → Nat → Int) : det m (fun a b => M a (l.getD b 0)) = sgb (odl false l) * det m M := by
 have e := order14 h hl hm M [] []; simp only [List.nil_append, List.append_nil] at e; unfold dl at e; rw [hl, List.length_range] at e; rw [e]
 congr 1
 exact zHA fun a b _ hb => by simp [hb]
theorem zxD {l : List Nat} (h : l.Nodup) {i j : Nat} (hi : i < l.length) (hj : j < l.length) (e : l.getD i 0 = l.getD j 0) : i = j := by
 have h' := List.pairwise_iff_getElem.1 h; rcases Nat.lt_trichotomy i j with q | q | q
 ·exact absurd (by simpa [hi, hj] using e) (h' i j hi hj q)
 ·exact q
 ·exact absurd (by simpa [hi, hj] using e.symm) (h' j i hj hi q)
theorem zrF (d : Int) : ∀ (t s : Nat) (Y : Nat → Nat → Int), (∀ a k, s ≤ a → a < s + t → k < s + t → Y a k = d * dlz a k) → det (s + t) Y = d ^ t * det s Y
 | 0, s, Y, _ => by simp
 | t + 1, s, Y, h => by
  have e : det (s + (t + 1)) Y = d * det (s + t) Y := by
   show det (s + t + 1) Y = _
   rw [← zdB (s + t) Y, ← (zaA (s + t + 1)).mul (A := Y) (i := s + t) (by omega) d (dlz (s + t))]; refine zHA fun a k ha hk => ?_
   unfold stR
   by_cases q : a = s + t
   ·rw [if_pos q]; show Y a k = d * dlz (s + t) k; rw [h a k (by omega) (by omega) (by omega), q]
   ·rw [if_neg q]
  rw [e, zrF d t s Y fun a k h1 h2 h3 => h a k h1 (by omega) (by omega), Int.pow_succ]
  grind
theorem ztF {m : Nat} {X : Nat → Nat → Int} {d : Int} {S : List Nat} (hS : S.Nodup) (hl : ∀ p ∈ S, p < m) (h : ∀ p k, p < m → k < m → p ∉ S → X p k = d * dlz p k) :
  ∃ t, t + S.length = m ∧ det m X = d ^ t * det S.length fun a b => X (S.getD a 0) (S.getD b 0) := by
 obtain ⟨R, hR⟩ : ∃ R, (List.range m).filter (fun x => decide (x ∉ S)) = R := ⟨_, rfl⟩
 have mR : ∀ x, x ∈ R ↔ x < m ∧ x ∉ S := fun x => by rw [← hR]; simp
 have nR : R.Nodup := by rw [← hR]; exact List.Pairwise.filter _ List.nodup_range
 have nL : (S ++ R).Nodup := List.nodup_append.2 ⟨hS, nR, fun a ha b hb e => ((mR b).1 hb).2 (e ▸ ha)⟩; have pL : (S ++ R).Perm (List.range m) := (List.perm_ext_iff_of_nodup nL List.nodup_range).2 fun a => by
  rw [List.mem_append, mR, List.mem_range]
  constructor
  ·rintro (q | q)
   ·exact hl a q
   ·exact q.1
  ·intro q
   by_cases e : a ∈ S
   ·exact .inl e
   ·exact .inr ⟨q, e⟩
 have lL : (S ++ R).length = m := by rw [pL.length_eq, List.length_range]
 have bL : ∀ x ∈ S ++ R, x < m := fun x hx => by simpa using pL.mem_iff.1 hx
 have lt : S.length + R.length = m := by rw [← lL, List.length_append]
 refine ⟨R.length, by omega, ?_⟩; have e1 := znC nL lL bL X; have e2 := znC nL lL bL (fun a b => X ((S ++ R).getD b 0) ((S ++ R).getD a 0)); have e3 : det m (fun a b => X ((S ++ R).getD a 0) b) = sgb (odl false (S ++ R)) * det m X := by
  have := znC nL lL bL (fun a b => X b a); rw [zgA m X] at this; rw [← this, ← zgA]
 have e4 : det m (fun a b => X ((S ++ R).getD a 0) ((S ++ R).getD b 0)) = det m X := by
  rw [znC nL lL bL (fun a b => X ((S ++ R).getD a 0) b), e3, ← Int.mul_assoc, zfH, Int.one_mul]
 rw [← e4]; have hd := zrF d R.length S.length (fun a b => X ((S ++ R).getD a 0) ((S ++ R).getD b 0)) fun a k h1 h2 h3 => by
  have ea : (S ++ R).getD a 0 = R.getD (a - S.length) 0 := by simp [List.getElem?_append_right h1]
  have hin : (S ++ R).getD a 0 ∈ R := by
   rw [ea, List.getD_eq_getElem?_getD, List.getElem?_eq_getElem (show a - S.length < R.length by omega)]; exact List.getElem_mem _
  have hk : (S ++ R).getD k 0 ∈ S ++ R := by
   rw [List.getD_eq_getElem?_getD, List.getElem?_eq_getElem (show k < (S ++ R).length by omega)]; exact List.getElem_mem _
  show X ((S ++ R).getD a 0) ((S ++ R).getD k 0) = _
  rw [h _ _ ((mR _).1 hin).1 (bL _ hk) ((mR _).1 hin).2]; unfold dlz
  by_cases q : a = k
  ·subst q; rw [if_pos rfl, if_pos rfl]
  ·rw [if_neg q, if_neg fun e => q (zxD nL (by omega) (by omega) e)]
 rw [lt] at hd; rw [hd]
 congr 1
 exact zHA fun a b ha hb => by simp [List.getElem?_append_left ha, List.getElem?_append_left hb]
theorem minor14 {A : Nat → Nat → Int} {m n : Nat} {w : Nat → Nat} {rows cols : List Nat} (hr : rows.Nodup) (hm : ∀ p ∈ rows, p < m) (hc : cols.length = rows.length) (hn : ∀ c ∈ cols, c < n) (h1 : ∀ a, a < rows.length → w (rows.getD a 0) = cols.getD a 0) (h2 : ∀ p, p < m → p ∉ rows → w p = n + p) :
  dcl A m n w = det rows.length fun a b => A (rows.getD a 0) (cols.getD b 0) := by
 obtain ⟨t, _, e⟩ := ztF (X := fun p => vcl A n (w p)) (d := 1) hr hm fun p k hp hk hx => by
  show vcl A n (w p) k = _
  unfold vcl; rw [h2 p hp hx, if_neg (by omega), Nat.add_sub_cancel_left, Int.one_mul]
 unfold dcl; rw [e, Int.one_pow, Int.one_mul, ← zgA]; exact zHA fun a b ha hb => by
  show vcl A n (w (rows.getD b 0)) (rows.getD a 0) = _
  unfold vcl; rw [h1 b hb, if_pos (hn _ (by
   rw [List.getD_eq_getElem?_getD, List.getElem?_eq_getElem (show b < cols.length by omega)]; exact List.getElem_mem _))]
theorem ziH (d : Int) : ∀ n, prn n (fun _ => d) = d ^ n
 | 0 => by simp [prn]
 | n + 1 => by
  show d * prn n (fun _ => d) = _
  rw [ziH d n, Int.pow_succ, Int.mul_comm]
theorem Tbl.detOf {A : Nat → Nat → Int} {m n : Nat} {f g : Nat → Nat} {by_ : Nat → Nat → Int} {d : Int} (h : Tbl A m n f g by_ d) {w : Nat → Nat} {ord opn fre slt : List Nat}
  (lo : ord.length = m) (no : ord.Nodup) (mo : ∀ x ∈ ord, x < m) (o1 : opn.Nodup) (o2 : ∀ p ∈ opn, p < m) (hin : ∀ p, p < m → p ∉ opn → f (ord.getD p 0) = w p)
  (hop : ∀ t, t < opn.length → ord.getD (opn.getD t 0) 0 = fre.getD t 0 ∧ slt.getD t 0 < n ∧ g (slt.getD t 0) = w (opn.getD t 0)) :
  dcl A m n w * d ^ opn.length = sgb (odl false ord) * (det opn.length (fun a b => by_ (fre.getD a 0) (slt.getD b 0)) * d) := by
 have hod : ∀ p, p < m → ord.getD p 0 < m := fun p hp => mo _ (by
  rw [List.getD_eq_getElem?_getD, List.getElem?_eq_getElem (show p < ord.length by omega)]; exact List.getElem_mem _)
 obtain ⟨B, hB⟩ : ∃ B, (fun r => vcl A n (f r)) = B := ⟨_, rfl⟩
 have dB : det m B = d := by rw [← hB]; exact h.de
 obtain ⟨T, hT⟩ : ∃ T : Nat → Nat → Int, (fun p i => det m (stR B i (vcl A n (w p)))) = T := ⟨_, rfl⟩
 have T1 : ∀ p i, p < m → i < m → p ∉ opn → T p i = d * dlz (ord.getD p 0) i := fun p i hp hi hx => by
  rw [← hT]
  show det m (stR B i (vcl A n (w p))) = _
  rw [← hin p hp hx, show vcl A n (f (ord.getD p 0)) = B (ord.getD p 0) by rw [← hB]]; unfold dlz
  by_cases q : ord.getD p 0 = i
  ·rw [if_pos q, q, ziB, dB, Int.mul_one]
  ·rw [if_neg q, Int.mul_zero]
   exact (zaA m).same (hod p hp) hi q fun k _ => by rw [zTA, zMA _ q]
 have T2 : ∀ t i, t < opn.length → i < m → T (opn.getD t 0) i = by_ i (slt.getD t 0) := fun t i ht hi => by
  rw [← hT]
  show det m (stR B i (vcl A n (w (opn.getD t 0)))) = _
  rw [h.be i _ hi (hop t ht).2.1, zRD, hB, (hop t ht).2.2]
 have e1 : det m (fun p k => d * vcl A n (w p) k) = det m T * d := by
  rw [← dB, ← zGI]; refine zHA fun p k hp hk => ?_
  unfold muz; rw [dB, ← dB, ← hT, ← zFH B (vcl A n (w p)) hk]
 rw [zRE m (fun _ => d), ziH] at e1; have e2 := znC no lo mo T; obtain ⟨t, ht, e3⟩ := ztF (X := fun p k => T p (ord.getD k 0)) (d := d) o1 o2 fun p k hp hk hx => by
  show T p (ord.getD k 0) = _
  rw [T1 p _ hp (hod k hk) hx]; unfold dlz
  by_cases q : p = k
  ·subst q; rw [if_pos rfl, if_pos rfl]
  ·rw [if_neg q, if_neg fun e => q (zxD no (by omega) (by omega) e)]
 have e4 : det opn.length (fun a b => T (opn.getD a 0) (ord.getD (opn.getD b 0) 0)) = det opn.length (fun a b => by_ (fre.getD a 0) (slt.getD b 0)) := by
  rw [← zgA]; exact zHA fun a b ha hb => by
   have hm := hod _ (o2 _ (show opn.getD a 0 ∈ opn by
    rw [List.getD_eq_getElem?_getD, List.getElem?_eq_getElem ha]; exact List.getElem_mem _))
   show T (opn.getD b 0) (ord.getD (opn.getD a 0) 0) = _
   rw [T2 b _ hb hm, (hop a ha).1]
 have e5 : det m T = sgb (odl false ord) * (d ^ t * det opn.length (fun a b => by_ (fre.getD a 0) (slt.getD b 0))) := by
  rw [← e4]; have := e3; rw [e2] at this; rw [← this, ← Int.mul_assoc, zfH, Int.one_mul]
 rw [e5, show d ^ m = d ^ t * d ^ opn.length by rw [← ht, Int.pow_add]] at e1; have hnz : d ^ t ≠ 0 := Int.pow_ne_zero h.nz; refine Int.eq_of_mul_eq_mul_left hnz ?_; have e6 : dcl A m n w = det m (fun p => vcl A n (w p)) := rfl; rw [e6]; rw [show d ^ t * (det m (fun p => vcl A n (w p)) * d ^ opn.length) = d ^ t * d ^ opn.length * det m fun p => vcl A n (w p) by grind]; rw [show (det m fun p => vcl A n (w p)) = det m fun a b => vcl A n (w a) b from rfl, e1]
 grind
theorem Tbl.rank0 {A : Nat → Nat → Int} {m n : Nat} {f g : Nat → Nat} {by_ : Nat → Nat → Int} {d : Int} (h : Tbl A m n f g by_ d) {P : List Nat} (hP : ∀ i, i < m → f i < n → i ∈ P) (hz : ∀ i j, i < m → j < n → n ≤ f i → g j < n → by_ i j = 0)
  {rows cols : Nat → Nat} {s : Nat} (hr : ∀ a, a < s → rows a < m) (hc : ∀ a, a < s → cols a < n) (hs : P.length < s) : det s (fun a b => A (rows a) (cols b)) = 0 := by
 obtain ⟨L, hL⟩ : ∃ L : Nat → Nat → Int, (fun a => vcl A n (f (P.getD a 0))) = L := ⟨_, rfl⟩
 have one : ∀ i, i < m → f i < n → Sp m P.length L (vcl A n (f i)) := fun i hi hf => by
  obtain ⟨a, ha, e⟩ := List.getElem_of_mem (hP i hi hf); exact Sp.one ha fun j _ => by
   rw [← hL]
   show _ = vcl A n (f (P.getD a 0)) j
   rw [List.getD_eq_getElem?_getD, List.getElem?_eq_getElem ha, Option.getD_some, e]
 have all : ∀ c, c < n → Sp m P.length L (vcl A n c) := fun c hc => by
  rcases h.cov c (by omega) with ⟨i, hi, e⟩ | ⟨j, hj, e⟩
  ·rw [← e]; exact one i hi (by omega)
  ·refine Sp.div h.nz (Sp.congr (u := fun k => su m fun i => by_ i j * vcl A n (f i) k) ?_ fun k hk => by rw [← e]; exact h.comb hj hk)
   rw [show (fun k => su m fun i => by_ i j * vcl A n (f i) k) = fun k => su m fun i => (fun _ : Nat => (1 : Int)) i * (fun i k => by_ i j * vcl A n (f i) k) i k by funext k; exact zQA fun i _ => by show _ = 1 * _; rw [Int.one_mul]]; refine Sp.sum _ fun i hi => ?_
   by_cases q : f i < n
   ·exact Sp.mul _ (one i hi q)
   ·exact Sp.zero fun k _ => by rw [hz i j hi hj (by omega) (by omega), Int.zero_mul]
 have := Sp.det0 (n := m) (X := fun a => vcl A n (cols a)) (fun a ha => all _ (hc a ha)) hs (M := rows) hr; rw [← zgA, ← this]; exact zHA fun a b ha hb => by
  show A (rows b) (cols a) = vcl A n (cols a) (rows b)
  unfold vcl; rw [if_pos (hc a ha)]
theorem dcl_abs {A : Nat → Nat → Int} {m n X : Nat} {f : Nat → Nat} (hm : m ≤ 64) (hX : 1 ≤ X) (h : ∀ i j, (A i j).natAbs ≤ X) : (dcl A m n f).natAbs ≤ (64 * X) ^ m := zQG hm fun i j _ _ => by
 unfold vcl
 split
 ·exact h _ _
 ·unfold dlz; split <;> simp <;> omega
open Go.RowKit
def In9 (w : World) (v : Value) (is : List Int) : Prop :=
 ∃ a c, v = .slice a is.length c ∧ is.length ≤ c ∧ is.length ≤ 1048576 ∧ (is = [] ∨ ∃ b off, a = some ⟨b, off, none⟩ ∧ b < w.heap.size ∧ ∀ j (h : j < is.length), w.cell? ⟨b, off + j, none⟩ = some (.int .i64 is[j]))
theorem In9.now {w w' : World} {v : Value} {is : List Int} (h : In9 w v is) (hb : Below w.heap.size w w') : In9 w' v is := by
 obtain ⟨a, c, h1, h2, h3, h4⟩ := h; refine ⟨a, c, h1, h2, h3, ?_⟩; rcases h4 with h4 | ⟨b, off, h5, h6, h7⟩
 ·exact .inl h4
 ·exact .inr ⟨b, off, h5, Nat.lt_of_lt_of_le h6 hb.size, fun j hj => (hb.cell (p := ⟨b, off + j, none⟩) h6).trans (h7 j hj)⟩
theorem In9.form {w : World} {v : Value} {is : List Int} (h : In9 w v is) : ∃ a c, v = .slice a is.length c ∧ is.length ≤ c ∧ is.length ≤ 1048576 ∧ (is ≠ [] → ∃ b off, a = some ⟨b, off, none⟩) := by
 obtain ⟨a, c, h1, h2, h3, h4⟩ := h; refine ⟨a, c, h1, h2, h3, fun hn => ?_⟩; rcases h4 with h4 | ⟨b, off, h5, _⟩
 ·exact absurd h4 hn
 ·exact ⟨b, off, h5⟩
theorem In9.at {w : World} {b off l c : Nat} {is : List Int} (h : In9 w (.slice (some ⟨b, off, none⟩) l c) is) {i : Nat} (hi : i < is.length) : w.cell? ⟨b, off + i, none⟩ = some (.int .i64 is[i]) := by
 obtain ⟨a, c, h1, h2, h3, h4⟩ := h; rcases h4 with h4 | ⟨b', off', h5, h6, h7⟩
 ·subst h4; simp at hi
 ·subst h5
  injection h1 with e1 e2 e3
  injection e1 with e1
  injection e1 with e1 e4
  subst e1 e4; exact h7 i hi
abbrev zDI (pb : Nat) : Value := .func (.func 80) #[] #[.pointer (some ⟨pb, 0, none⟩)]
theorem below1_no {w : World} {x n : Int} {pb : Nat} (hp : w.cell? ⟨pb, 0, none⟩ = some (.int .i64 n)) (h0 : 0 ≤ x) (h1 : x < n) : Calls Tryz.prog 80 #[.int .i64 x, .pointer (some ⟨pb, 0, none⟩)] w fun e w' => e = .returned (.bool false) ∧ w' = w := by
 have q0 : ¬ x < 0 := by omega
 have q1 : ¬ n ≤ x := by omega
 go_enter Tryz.func80, Tryz.ntmps80; go_wp2; go_ret; exact ⟨rfl, rfl⟩
def Idx9 (w : World) (n g : Nat) (s : Value) (wx : World) : Prop := ∃ i : Nat, s = .int .i64 (i : Int) ∧ i ≤ n ∧ g = n - i ∧ Below w.heap.size w wx
theorem index9 {w : World} {v : Value} {is : List Int} {b : Int} {pb : Nat} (hv : In9 w v is) (hp : w.cell? ⟨pb, 0, none⟩ = some (.int .i64 b)) (ha : ∀ x ∈ is, 0 ≤ x ∧ x < b) :
  Calls Tryz.prog 103 #[v, zDI pb] w fun e w' => e = .returned (.int .i64 (-1)) ∧ Below w.heap.size w w' := by
 have V0 := hid hv; have P0 := hid hp; have HA : Hid (∀ i (h : i < is.length), 0 ≤ is[i] ∧ is[i] < b) := fun i h => ha _ (List.getElem_mem h)
 obtain ⟨a0, c0, rfl, hc0, hn0, hf0⟩ := hv.form; obtain ⟨n, hn⟩ : ∃ n, is.length = n := ⟨_, rfl⟩
 rw [hn] at V0 hc0 hn0 ⊢; have HN := hid hn; have F0 := hid hf0; clear hv hf0 hn hp ha; have H0 : Hid (Idx9 w n n (.int .i64 0) w) := ⟨0, rfl, Nat.zero_le _, rfl, Below.refl _ _⟩
 go_enter Tryz.func103, Tryz.ntmps103; go_wp2_with fail
 go_loopg [8] n (fun g s8 wx => Idx9 w n g s8 wx)
 case atStart => exact H0.out
 case round =>
  clear H0; obtain ⟨i, rfl, hin, hg, hG⟩ := hrel; have G := hid hG; have HG := hid hg; clear hG hg
  by_cases hlt : i < n
  ·have hlt' : (i : Int) < (n : Int) := by omega
   obtain ⟨b1, o1, rfl⟩ := F0.out (fun e => by have := HN.out; rw [e] at this; simp at this; omega); have k0 := (V0.out.now G.out).at (i := i) (by rw [HN.out]; exact hlt); have hx := HA.out i (by rw [HN.out]; exact hlt); have HS := hid (below1_no (cnow G.out P0.out) hx.1 hx.2); have hw := zSA (i := i) (by omega); generalize is[i]'(by rw [HN.out]; exact hlt) = x at *; clear hx; go_wp2_with fail; refine HS.out.mono ?_; rintro e w1 ⟨rfl, q⟩; rw [q]; have HN1 : Hid (Idx9 w n (n - (i + 1)) (.int .i64 ((i + 1 : Nat) : Int)) wr) := ⟨i + 1, rfl, by omega, rfl, G.out⟩
   have HMM : Hid (n - (i + 1) < gk) := by unfold Hid; rw [HG.out]; omega
   clear HS G HG k0 q; go_wp2_with fail; go_roundg (n - (i + 1))
   case rel => exact HN1.out
   case measure => exact HMM.out
  ·have hlt' : ¬ (i : Int) < (n : Int) := by omega
   clear HG; go_wp2; go_ret; exact ⟨rfl, G.out⟩
theorem contains9 {w : World} {v : Value} {is : List Int} {b : Int} {pb : Nat} (hv : In9 w v is) (hp : w.cell? ⟨pb, 0, none⟩ = some (.int .i64 b)) (ha : ∀ x ∈ is, 0 ≤ x ∧ x < b) :
  Calls Tryz.prog 79 #[v, zDI pb] w fun e w' => e = .returned (.bool false) ∧ Below w.heap.size w w' := by
 have HI := hid (index9 hv hp ha); obtain ⟨a0, c0, rfl, -, -, -⟩ := hv.form; clear hv hp ha; go_enter Tryz.func79, Tryz.ntmps79; go_wp2_with fail; refine HI.out.mono ?_; rintro e w1 ⟨rfl, b⟩; have G := hid b; clear HI b; go_wp2; go_ret; exact ⟨rfl, G.out⟩
theorem zUD {w : World} {v : Value} {is : List Int} {b : Int} (hv : In9 w v is) (ha : ∀ x ∈ is, 0 ≤ x ∧ x < b) :
  Calls Tryz.prog 48 #[v, .int .i64 b] w fun e w' => e = .returned (.bool true) ∧ Below w.heap.size w w' := by
 obtain ⟨W0, hW⟩ : ∃ W0, w.alloc (.cells #[.int .i64 b] 3) = W0 := ⟨_, rfl⟩
 obtain ⟨b0, sz0⟩ := alo1 w (.cells #[.int .i64 b] 3); rw [hW] at b0 sz0; have hp : W0.cell? ⟨w.heap.size, 0, none⟩ = some (.int .i64 b) := by rw [← hW]; exact (Cel.new w 3 [.int .i64 b]).at (i := 0) rfl
 have HC := hid (contains9 (hv.now b0) hp ha); obtain ⟨a0, c0, rfl, -, -, -⟩ := hv.form; have G0 := hid b0; have EW := hid hW; clear hv ha b0 hW sz0 hp; go_enter Tryz.func48, Tryz.ntmps48; go_wp2_with fail; rw [EW.out]; refine HC.out.mono ?_; rintro e w1 ⟨rfl, b⟩; have G := hid (below_step G0.out b); clear HC G0 EW b; go_wp2; go_ret; exact ⟨rfl, G.out⟩
def ent9 (zss : List (List Int)) (i j : Nat) : Int := (zss.getD i []).getD j 0
theorem pick11_any {w : World} {B pb ib k i j : Nat} {v : Value} {pss : List (List (Value × Value))} {zss : List (List Int)} (hp : w.cell? ⟨pb, 0, none⟩ = some v) (hv : Prr B w v pss) (hz : Ziss w pss zss k) (hi : w.cell? ⟨ib, 0, none⟩ = some (.int .i64 (i : Int))) (hil : i < pss.length) (hjl : j < (zss.getD i []).length) :
  Calls Tryz.prog 53 #[.int .i64 (j : Int), .pointer (some ⟨pb, 0, none⟩), .pointer (some ⟨ib, 0, none⟩)] w (zbA w (ent9 zss i j) k) := by
 obtain ⟨W0, hW⟩ : ∃ W0, w.alloc zbox = W0 := ⟨_, rfl⟩
 obtain ⟨b0, sz0⟩ := alo1 w zbox; rw [hW] at b0 sz0; have P3 : Hid (Duo W0 w.heap.size (.bool false) (.slice none 0 0)) := by unfold Hid; rw [← hW]; exact Duo.new w _ _
 obtain ⟨a0, c0, rfl, hc0, hn0, hf0⟩ := hv.form; obtain ⟨b1, o1, rfl⟩ := hf0 (fun e => by rw [e] at hil; simp at hil); have hpi : pss[i]? = some pss[i] := List.getElem?_eq_getElem hil; obtain ⟨u, k0, pu⟩ := hv.at (i := i) hpi; have hzl := zQH pu (hz.2 i _ hpi); obtain ⟨a1, c1, rfl, hc1, hn1, hf1⟩ := hzl.form9; obtain ⟨b2, o2, rfl⟩ := hf1 (fun e => by rw [e] at hjl; simp at hjl); obtain ⟨nf, xf, adf, qf, e0, e1, zf⟩ := hzl.at9 (i := j) hjl; rw [zGF] at zf; have HS := hid (zCE (zf.now b0)); have k1 : (w.alloc zbox).cell? ⟨pb, 0, none⟩ = some (.slice (some ⟨b1, o1, none⟩) pss.length c0) := by rw [hW]; exact cnow b0 hp
 have k2 : (w.alloc zbox).cell? ⟨ib, 0, none⟩ = some (.int .i64 (i : Int)) := by rw [hW]; exact cnow b0 hi
 have k3 : (w.alloc zbox).cell? ⟨b1, o1 + i, none⟩ = some (.slice (some ⟨b2, o2, none⟩) (zss.getD i []).length c1) := by rw [hW]; exact cnow b0 k0
 have k4 : (w.alloc zbox).cell? ⟨b2, o2 + j * 2, none⟩ = some (.bool nf) := by rw [hW]; exact cnow b0 e0
 have k5 : (w.alloc zbox).cell? ⟨b2, o2 + j * 2 + 1, none⟩ = some (.slice adf xf.length qf) := by rw [hW]; exact cnow b0 e1
 have hi' : (i : Int) < (pss.length : Int) := by omega
 have hj' : (j : Int) < ((zss.getD i []).length : Int) := by omega
 have G0 := hid b0; have EW := hid hW; have SZ := hid sz0; have EE : Hid (ent9 zss i j = (zss.getD i []).getD j 0) := rfl; rw [EE.out]; clear b0 hW sz0 hp hv hz hi hf0 hf1 hpi k0 pu hzl e0 e1 zf EE; generalize (zss.getD i []).getD j 0 = dd at *; generalize (zss.getD i []).length = ln at *; generalize pss.length = lp at *; go_enter Tryz.func53, Tryz.ntmps53; go_wp2_with fail; rw [EW.out]; refine HS.out.mono ?_; rintro e w1 ⟨r, rfl, m1, b⟩; obtain ⟨nr, xr, ar, cr, rfl⟩ := m1.parts; have P31 := hid (P3.out.step b); have G1 := hid (below_step G0.out b); have HM := hid m1; have HB : Hid (w.heap.size < W0.heap.size) := by unfold Hid; rw [SZ.out]; omega
 have r0 := P31.out.c0; have r1 := P31.out.c1; have f0 := P31.out.fz 0; have f1 := P31.out.fz 1; clear HS P3 G0 EW m1 b SZ k1 k2 k3 k4 k5; go_wp2; exact bodyPost_ret (zlA Tryz.results53 (P31.out.set _ _) _ (by rfl)) rfl ⟨_, rfl, (HM.out.mono (Nat.le_of_lt HB.out)).box P31.out _ _, bset (bset G1.out (Nat.le_refl _)) (Nat.le_refl _)⟩
abbrev fnPick2 (pb ib : Nat) : Value := .func (.func 53) #[] #[.pointer (some ⟨pb, 0, none⟩), .pointer (some ⟨ib, 0, none⟩)]
theorem eachPick2_any {w : World} {B pb ib k i : Nat} {v jv : Value} {pss : List (List (Value × Value))} {zss : List (List Int)} {js : List Nat} (hj : In9 w jv (js.map (fun n : Nat => (n : Int)))) (hp : w.cell? ⟨pb, 0, none⟩ = some v) (hv : Prr B w v pss) (hz : Ziss w pss zss k) (hi : w.cell? ⟨ib, 0, none⟩ = some (.int .i64 (i : Int))) (hil : i < pss.length) (hjl : ∀ j ∈ js, j < (zss.getD i []).length) :
  Calls Tryz.prog 52 #[jv, fnPick2 pb ib] w (zJH w (js.map (ent9 zss i)) k) := by
 have J0 := hid hj; have V0 := hid hv; have Z0 := hid hz; have P0 := hid hp; have I0 := hid hi; have HIL := hid hil; have HJL : Hid (∀ j (h : j < js.length), js[j] < (zss.getD i []).length) := fun j h => hjl _ (List.getElem_mem h)
 have HMP : Hid (js.map (ent9 zss i) = (List.range js.length).map fun j => ent9 zss i (js.getD j 0)) := by
  unfold Hid
  apply List.ext_getElem
  ·simp
  ·intro j h1 h2
   simp at h1; simp [h1]
 obtain ⟨a0, c0, rfl, hc0, hn0, hf0⟩ := hj.form; obtain ⟨n, hn⟩ : ∃ n, js.length = n := ⟨_, rfl⟩
 rw [List.length_map, hn] at J0 hc0 hn0 ⊢; rw [hn] at HMP; have HN := hid hn; have F0 := hid hf0; clear hj hv hz hp hi hil hjl hf0 hn; generalize js.map (ent9 zss i) = RS at *; go_enter Tryz.func52, Tryz.ntmps52; go_wp2_with (at_make; refine zkA _ rfl _ _ rfl _ _ n n rfl rfl rfl rfl (Nat.le_refl _) (by omega) ?_)
 intro w1 hrow hb1 hsz1; have H0 : Hid (zNH w w.heap.size n (fun j => ent9 zss i (js.getD j 0)) k n (.int .i64 0) w1) := ⟨0, rfl, Nat.zero_le _, by omega, Fil.start hrow _ _, hb1⟩
 clear hrow hb1 hsz1; go_wp2_with fail
 go_loopg [13] n (fun gk s13 wx => zNH w w.heap.size n (fun j => ent9 zss i (js.getD j 0)) k gk s13 wx)
 case atStart => exact H0.out
 case round =>
  clear H0; obtain ⟨t, rfl, hin, hg, hfil, hG⟩ := hrel; have FI := hid hfil; have G := hid hG; have HG := hid hg; clear hfil hG hg
  by_cases hlt : t < n
  ·have hlt' : (t : Int) < (n : Int) := by omega
   obtain ⟨b1, o1, rfl⟩ := F0.out (fun e => by have := HN.out; simp at e; rw [e] at this; simp at this; omega); have ht : t < js.length := by rw [HN.out]; exact hlt
   have k0 := (J0.out.now G.out).at (i := t) (by rw [List.length_map]; exact ht); rw [List.getElem_map] at k0; have HS := hid (pick11_any (cnow G.out P0.out) (V0.out.now G.out) (Z0.out.now G.out) (cnow G.out I0.out) HIL.out (HJL.out t ht)); have ej : js[t] = js.getD t 0 := by simp [ht]
   rw [ej] at k0 HS; have hw := zSA (i := t) (by omega); clear ej ht; generalize hjt : js.getD t 0 = jt at *; have HJT := hid hjt; clear hjt; go_wp2_with fail; refine HS.out.mono ?_; rintro e w1 ⟨r, rfl, m1, b⟩; have FI1 := hid (FI.out.step b); have G1 := hid (below_step G.out b); have M1 := hid m1.zc; obtain ⟨nr, xr, ar, cr, rfl⟩ := m1.parts; obtain ⟨m0, am, lm, cm, e0, e1, e2, e3⟩ := FI1.out.cells hlt; have HN1 : Hid (zNH w w.heap.size n (fun j => ent9 zss i (js.getD j 0)) k (n - (t + 1)) (.int .i64 ((t + 1 : Nat) : Int)) ((w1.setCell ⟨w.heap.size, t * 2, none⟩ (.bool nr)).setCell ⟨w.heap.size, t * 2 + 1, none⟩ (.slice ar xr.length cr))) :=
    ⟨t + 1, rfl, by omega, rfl, FI1.out.put hlt (by rw [HJT.out]; exact M1.out), bset (bset G1.out (Nat.le_refl _)) (Nat.le_refl _)⟩
   have HMM : Hid (n - (t + 1) < gk) := by unfold Hid; rw [HG.out]; omega
   clear HS FI G HG FI1 G1 M1 m1 b k0 HJT; go_wp2_with fail; go_roundg (n - (t + 1))
   case rel => exact HN1.out
   case measure => exact HMM.out
  ·have hlt' : ¬ (t : Int) < (n : Int) := by omega
   obtain rfl : t = n := by omega
   obtain ⟨ps, p1, p2⟩ := FI.out.done (B := w.heap.size) (Nat.le_refl _) (by omega); rw [← HMP.out] at p2; have FIN : Hid (zJH w RS k (.returned (.slice (some ⟨w.heap.size, 0, none⟩) t t)) wr) := ⟨_, ps, rfl, p1, p2, G.out⟩
   clear FI G HG p1 p2; go_wp2; go_ret; exact FIN.out
theorem pick1_any {w : World} {B pb cb k i : Nat} {v jv : Value} {pss : List (List (Value × Value))} {zss : List (List Int)} {js : List Nat} (hc : w.cell? ⟨cb, 0, none⟩ = some jv) (hj : In9 w jv (js.map (fun n : Nat => (n : Int)))) (hp : w.cell? ⟨pb, 0, none⟩ = some v) (hv : Prr B w v pss) (hz : Ziss w pss zss k) (hil : i < pss.length) (hjl : ∀ j ∈ js, j < (zss.getD i []).length) :
  Calls Tryz.prog 51 #[.int .i64 (i : Int), .pointer (some ⟨cb, 0, none⟩), .pointer (some ⟨pb, 0, none⟩)] w (zJH w (js.map (ent9 zss i)) k) := by
 obtain ⟨W0, hW⟩ : ∃ W0, w.alloc (.cells #[.int .i64 (i : Int)] 3) = W0 := ⟨_, rfl⟩
 obtain ⟨b0, sz0⟩ := alo1 w (.cells #[.int .i64 (i : Int)] 3); rw [hW] at b0 sz0; have hi : W0.cell? ⟨w.heap.size, 0, none⟩ = some (.int .i64 (i : Int)) := by rw [← hW]; exact (Cel.new w 3 [.int .i64 (i : Int)]).at (i := 0) rfl
 have HC := hid (eachPick2_any (hj.now b0) (cnow b0 hp) (hv.now b0) (hz.now b0) hi hil hjl); obtain ⟨a0, c0, rfl, -, -, -⟩ := hj.form; have k0 : (w.alloc (.cells #[.int .i64 (i : Int)] 3)).cell? ⟨cb, 0, none⟩ = some (.slice a0 (js.map (fun n : Nat => (n : Int))).length c0) := by rw [hW]; exact cnow b0 hc
 have G0 := hid b0; have EW := hid hW; clear hc hj hp hv hz hil hjl b0 hW sz0 hi; generalize js.map (ent9 zss i) = RS at *; generalize (js.map (fun n : Nat => (n : Int))).length = lj at *; go_enter Tryz.func51, Tryz.ntmps51; go_wp2_with fail; rw [EW.out]; refine HC.out.mono ?_; rintro e w1 ⟨u, ps, rfl, p1, p2, b⟩; have FIN : Hid (zJH w RS k (.returned u) w1) := ⟨u, ps, rfl, p1.mono G0.out.size, p2, below_step G0.out b⟩
 clear HC G0 EW p1 p2 b k0; go_wp2; go_ret; exact FIN.out
end Go.Proofs.YtplldfnldaehiaaGreat
