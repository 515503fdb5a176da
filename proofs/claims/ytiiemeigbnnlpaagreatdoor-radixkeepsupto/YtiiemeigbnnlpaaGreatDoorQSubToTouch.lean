/-
  QSubToTouch: Sub, Now, Digs, Touch, joined.
-/
import Derived.Test.YtiiemeigbnnlpaaGreatDoorQCarryToMade
import Derived.Test.YtiiemeigbnnlpaaGreatDoorQLitsToCmp

/- Sub -/
namespace Go.Proofs.YtiiemeigbnnlpaaGreatDoor
open Go.RowKit

theorem cmpI_neg {a b : Int} (h : a < b) : cmpI a b < 0 := by rw [cmpI_lt h]; omega
theorem cmpI_nonneg {a b : Int} (h : b ≤ a) : ¬ cmpI a b < 0 := by
  rcases Int.lt_or_eq_of_le h with q | q
  · rw [cmpI_gt q]; omega
  · rw [q, cmpI_self]; omega

set_option maxHeartbeats 800000 in
theorem sub_no {w : World} {v u : Value} {xs ys : List Int} (h : Sl w.heap.size w v xs) (h' : Sl w.heap.size w u ys) (hlt : val xs < val ys) :
    Calls Tryz.prog 91 #[v, u] w fun e w' => e = .returned (.tuple #[.slice none 0 0, .int .i64 3]) ∧ ∃ n, w' = w.drewN n := by
  have HC := cmp_any h h'
  have hn := cmpI_neg hlt
  generalize cmpI (val xs) (val ys) = C at *
  clear h h' hlt
  go_enter Tryz.func91, Tryz.ntmps91
  go_wp2_with fail
  refine HC.mono ?_
  rintro e w1 ⟨rfl, n, rfl⟩
  clear HC
  go_wp2
  go_ret2
  exact ⟨rfl, n, rfl⟩

/-- What Sub answers where there is something to take off. -/
def Taken (w : World) (s : Int) (k : Nat) (e : Ending) (w' : World) : Prop :=
  ∃ zs cap r, e = .returned (.tuple #[.slice (some ⟨w.heap.size, 0, none⟩) zs.length cap, .int .i64 0]) ∧ Canon zs ∧ val zs = s ∧ zs.length ≤ k ∧ cap = zs.length + r.length ∧ cap ≤ 35184372088832 ∧
    Row w' w.heap.size (ws zs ++ r) ∧ Below w.heap.size w w' ∧ w.heap.size < w'.heap.size

set_option maxHeartbeats 800000 in
theorem sub_yes {w : World} {v u : Value} {xs ys : List Int} (h : Sl w.heap.size w v xs) (h' : Sl w.heap.size w u ys) (hge : val ys ≤ val xs) :
    Calls Tryz.prog 91 #[v, u] w (Taken w (val xs - val ys) (wid xs)) := by
  have hs := h
  have hs' := h'
  obtain ⟨hw, a, cap, rfl, hlc, hcm, hm⟩ := h
  obtain ⟨hw', a', cap', rfl, hlc', hcm', hm'⟩ := h'
  have HC := cmp_any hs hs'
  have hn := cmpI_nonneg hge
  generalize cmpI (val xs) (val ys) = C at *
  have l1 := wid_le xs
  have l2 := wid_le ys
  have HWW : Hid (wid ys ≤ wid xs) := by
    unfold Hid
    by_cases q : wid xs < wid ys
    · have := val_wid_lt hw hw' q; omega
    · omega
  have HL1 : Hid ((lst xs).length = wid xs) := length_lst xs
  have HL2 : Hid ((lst ys).length = wid ys) := length_lst ys
  have HC1 := hid (canon_lst hw)
  have HC2 := hid (canon_lst hw')
  have HV1 := hid (val_lst xs)
  have HV2 := hid (val_lst ys)
  have HS1 := hid hs
  have HS2 := hid hs'
  have hsrc' := Sl.source (n := wid ys) hm'
  change lst ys = [] ∨ ∃ b off, a' = some ⟨b, off, none⟩ ∧ b < w.heap.size ∧ ∀ j (h : j < (lst ys).length), w.cell? ⟨b, off + j, none⟩ = some (.int .u64 (lst ys)[j]) at hsrc'
  have HSR := hid hsrc'
  have HGE := hid hge
  clear hm hm' hw hw' hs hs' hsrc' hge
  go_enter Tryz.func91, Tryz.ntmps91
  go_wp2_with fail
  refine HC.mono ?_
  rintro e w1 ⟨rfl, n, rfl⟩
  clear HC
  go_wp2_with fail
  refine (least_any (w := w.drewN n) (HS1.out.drewN n)).mono ?_
  rintro e w2 ⟨rfl, hrow, hb2, hsz2⟩
  change Row w2 w.heap.size _ at hrow
  change Below w.heap.size _ w2 at hb2
  change w.heap.size < w2.heap.size at hsz2
  have hb02 : Below w.heap.size w w2 := (below_drewN (Below.refl _ _) n).trans hb2
  go_wp2_with fail
  have HW2 := width_any (HS2.out.below hb02 (Nat.le_refl _))
  refine HW2.mono ?_
  rintro e w3 ⟨rfl, rfl⟩
  clear HW2
  have hsl := Sl.sourceB HSR.out hb02 (Nat.le_refl _)
  have hsl2 : Sl w.heap.size w3 (.slice a' (wid ys) cap') (lst ys) := ⟨HC2.out.1, _, cap', by rw [HL2.out], by rw [HL2.out]; omega, by rw [HL2.out]; omega, hsl⟩
  have hT := takeFrom_any (r := []) (cap := wid xs) HC1.out.1 (by simpa using hrow) (by rw [HL1.out]; omega) hsl2 (by rw [HL1.out, HL2.out]; exact HWW.out) (by rw [HV1.out, HV2.out]; exact HGE.out)
  rw [HL1.out] at hT
  have HT := hid hT
  clear hT hsl hsl2
  have HB := hid hb02
  clear hb02 hb2 hrow
  go_wp2_with fail
  refine HT.out.mono ?_
  rintro e w4 ⟨zs, rfl, hzl, hwz, hv, hr4, hb4⟩
  have hb04 := hid (HB.out.trans hb4)
  have hhs4 : w.heap.size < w4.heap.size := Nat.lt_of_lt_of_le hsz2 hb4.size
  have HV4 := hid hv
  have HZL := hid hzl
  clear hv hzl hb4 HB HT hsz2
  go_wp2_with fail
  have hsz := hr4.sl hwz (cap := wid xs) (by rw [HZL.out]; exact Nat.le_refl _) (by omega) hhs4
  rw [HZL.out] at hsz
  have HW4 := hid (width_any hsz)
  clear hsz
  refine HW4.out.mono ?_
  rintro e w5 ⟨rfl, rfl⟩
  clear HW4
  have l5 := wid_le zs
  have l6 : wid zs ≤ wid xs := by have := HZL.out; omega
  go_wp2
  go_ret2
  refine ⟨lst zs, wid xs, ws (zs.drop (wid zs)), by rw [length_lst]; rfl, canon_lst hwz, ?_, ?_, ?_, by omega, ?_, hb04.out, hhs4⟩
  · rw [val_lst, HV4.out, HV1.out, HV2.out]
  · rw [length_lst]; exact l6
  · rw [length_lst, length_ws, List.length_drop, HZL.out]; omega
  · have e : ws (lst zs) ++ ws (zs.drop (wid zs)) = ws zs ++ [] := by
      unfold lst ws
      rw [← List.map_append, List.take_append_drop, List.append_nil]
    rw [e]; exact hr4
end Go.Proofs.YtiiemeigbnnlpaaGreatDoor

/- Now -/
namespace Go.Proofs.YtiiemeigbnnlpaaGreatDoor
open Go.RowKit

theorem below_step {w0 w w' : World} (h : Below w0.heap.size w0 w) (k : Below w.heap.size w w') : Below w0.heap.size w0 w' := h.trans (k.mono h.size)

theorem add_now {w : World} {v u : Value} {xs ys : List Int} (h : Sl w.heap.size w v xs) (h' : Sl w.heap.size w u ys) (hl : xs.length < 35184372088832) (hl' : ys.length < 35184372088832) :
    Calls Tryz.prog 86 #[v, u] w fun e w' => ∃ zs r, e = .returned r ∧ Sl w'.heap.size w' r zs ∧ Canon zs ∧ val zs = val xs + val ys ∧ (zs.length ≤ xs.length + 1 ∨ zs.length ≤ ys.length + 1) ∧ Below w.heap.size w w' :=
  (add_any h h' hl hl').mono fun e w' hadd => by
    obtain ⟨zs, r, h1, h2, h3, h4, h5, h6⟩ := added_sl hadd
    exact ⟨zs, r, h1, h2, h3, h4, by have := wid_le xs; have := wid_le ys; omega, h6⟩
theorem least_now {w : World} {v : Value} {xs : List Int} (h : Sl w.heap.size w v xs) :
    Calls Tryz.prog 63 #[v] w fun e w' => ∃ r, e = .returned r ∧ Sl w'.heap.size w' r (lst xs) ∧ Below w.heap.size w w' :=
  (least_any h).mono fun e w' ⟨h1, h2, h3, h4⟩ => by
    have hx := h.1
    obtain ⟨_, a, cap, _, h6, h7, _⟩ := h
    have := wid_le xs
    have hs := Row.sl (r := []) (xs := lst xs) (by simpa using h2) (canon_lst hx).1 (cap := wid xs) (by rw [length_lst]; exact Nat.le_refl _) (by omega) h4
    rw [length_lst] at hs
    exact ⟨_, h1, hs, h3⟩
theorem same_now {w : World} {v u : Value} {xs ys : List Int} (h : Sl w.heap.size w v xs) (h' : Sl w.heap.size w u ys) :
    Calls Tryz.prog 7 #[v, u] w fun e w' => e = .returned (.bool (same xs ys)) ∧ Below w.heap.size w w' :=
  (same_any h h').mono fun e w' ⟨h1, n, h2⟩ => ⟨h1, by subst h2; exact below_drewN (Below.refl _ _) n⟩
theorem same_yes {w : World} {v u : Value} {xs ys : List Int} (h : Sl w.heap.size w v xs) (h' : Sl w.heap.size w u ys) (he : xs = ys) :
    Calls Tryz.prog 7 #[v, u] w fun e w' => e = .returned (.bool true) ∧ Below w.heap.size w w' := by
  have := same_now h h'
  subst he
  rwa [same_self] at this
theorem cmp_now {w : World} {v u : Value} {xs ys : List Int} (h : Sl w.heap.size w v xs) (h' : Sl w.heap.size w u ys) :
    Calls Tryz.prog 46 #[v, u] w fun e w' => e = .returned (.int .i64 (cmpI (val xs) (val ys))) ∧ Below w.heap.size w w' :=
  (cmp_any h h').mono fun e w' ⟨h1, n, h2⟩ => ⟨h1, by subst h2; exact below_drewN (Below.refl _ _) n⟩
theorem sub_now {w : World} {v u : Value} {xs ys : List Int} (h : Sl w.heap.size w v xs) (h' : Sl w.heap.size w u ys) (hge : val ys ≤ val xs) :
    Calls Tryz.prog 91 #[v, u] w fun e w' => ∃ zs a cap, e = .returned (.tuple #[.slice a zs.length cap, .int .i64 0]) ∧ Sl w'.heap.size w' (.slice a zs.length cap) zs ∧ Canon zs ∧ val zs = val xs - val ys ∧ zs.length ≤ xs.length ∧ Below w.heap.size w w' :=
  (sub_yes h h' hge).mono fun e w' ht => by
    obtain ⟨zs, cap, r, h1, h2, h3, h4, h5, h6, h7, h8, h9⟩ := ht
    exact ⟨zs, _, cap, h1, h7.sl h2.1 (by omega) h6 h9, h2, h3, by have := wid_le xs; omega, h8⟩
theorem sub_not {w : World} {v u : Value} {xs ys : List Int} (h : Sl w.heap.size w v xs) (h' : Sl w.heap.size w u ys) (hlt : val xs < val ys) :
    Calls Tryz.prog 91 #[v, u] w fun e w' => e = .returned (.tuple #[.slice none 0 0, .int .i64 3]) ∧ Below w.heap.size w w' :=
  (sub_no h h' hlt).mono fun e w' ⟨h1, n, h2⟩ => ⟨h1, by subst h2; exact below_drewN (Below.refl _ _) n⟩
theorem Sl.nil (w : World) : Sl w.heap.size w (.slice Option.none 0 0) [] := Sl.nilAt w
end Go.Proofs.YtiiemeigbnnlpaaGreatDoor

/- Digs -/
namespace Go.Proofs.YtiiemeigbnnlpaaGreatDoor
open Go.RowKit
set_option linter.unusedVariables false

/-- m digits of n to the base B, the highest first. -/
def digF (B : Nat) : Nat → Nat → List Nat
  | 0, _ => []
  | m + 1, n => digF B m (n / B) ++ [n % B]
theorem digF_len (B : Nat) : ∀ m n, (digF B m n).length = m
  | 0, _ => rfl
  | m + 1, n => by simp [digF, digF_len B m]
theorem digF_lt {B : Nat} (hB : 0 < B) : ∀ (m n : Nat), ∀ d ∈ digF B m n, d < B
  | 0, _, d, h => by simp [digF] at h
  | m + 1, n, d, h => by
    rcases List.mem_append.1 h with h | h
    · exact digF_lt hB m _ d h
    · have e : d = n % B := by simpa using h
      rw [e]; exact Nat.mod_lt _ hB
theorem digF_split (B a : Nat) : ∀ (b n : Nat), digF B (a + b) n = digF B a (n / B ^ b) ++ digF B b (n % B ^ b)
  | 0, n => by simp [digF]
  | b + 1, n => by
    have e1 : n / B / B ^ b = n / B ^ (b + 1) := by rw [Nat.div_div_eq_div_mul, Nat.pow_succ, Nat.mul_comm]
    have e2 : n % B ^ (b + 1) / B = n / B % B ^ b := by rw [Nat.pow_succ, Nat.mul_comm, Nat.mod_mul_right_div_self]
    have e3 : n % B ^ (b + 1) % B = n % B := by rw [Nat.pow_succ, Nat.mul_comm]; exact Nat.mod_mul_right_mod n B _
    rw [← Nat.add_assoc, digF, digF, digF_split B a b, e1, e2, e3, List.append_assoc]
theorem digF_zero {B : Nat} : ∀ m, digF B m 0 = List.replicate m 0
  | 0 => rfl
  | m + 1 => by rw [digF, Nat.zero_div, Nat.zero_mod, digF_zero m, List.replicate_succ']
theorem digF_pad {B a b n : Nat} (h : n < B ^ b) : digF B (a + b) n = List.replicate a 0 ++ digF B b n := by
  rw [digF_split, Nat.div_eq_of_lt h, Nat.mod_eq_of_lt h, digF_zero]
/-- The number that a list of digits writes, the highest first. -/
def ofD (B : Nat) (ds : List Nat) : Nat := ds.foldl (fun a d => a * B + d) 0
theorem ofD_foldl (B : Nat) : ∀ (ds : List Nat) (a : Nat), ds.foldl (fun a d => a * B + d) a = a * B ^ ds.length + ofD B ds
  | [], a => by simp [ofD]
  | d :: t, a => by
    have h1 := ofD_foldl B t (a * B + d)
    have h2 := ofD_foldl B t (0 * B + d)
    unfold ofD at h1 h2 ⊢
    simp only [List.foldl_cons, List.length_cons] at h1 h2 ⊢
    rw [h1, h2, Nat.pow_succ]
    simp only [Nat.zero_mul, Nat.zero_add, Nat.add_mul]
    rw [Nat.mul_assoc a B, Nat.mul_comm B]
    omega
theorem ofD_append (B : Nat) (a b : List Nat) : ofD B (a ++ b) = ofD B a * B ^ b.length + ofD B b := by
  unfold ofD
  rw [List.foldl_append, ofD_foldl]
  rfl
theorem ofD_nil (B : Nat) : ofD B [] = 0 := rfl
theorem ofD_one (B d : Nat) : ofD B [d] = d := by simp [ofD]
theorem ofD_snoc (B : Nat) (a : List Nat) (d : Nat) : ofD B (a ++ [d]) = ofD B a * B + d := by rw [ofD_append, ofD_one]; simp
theorem ofD_cons (B d : Nat) (t : List Nat) : ofD B (d :: t) = d * B ^ t.length + ofD B t := by
  have := ofD_append B [d] t
  rw [ofD_one] at this
  simpa using this
theorem ofD_lt {B : Nat} (hB : 0 < B) : ∀ (ds : List Nat), (∀ d ∈ ds, d < B) → ofD B ds < B ^ ds.length
  | [], _ => by simp [ofD]
  | d :: t, h => by
    have h1 := ofD_lt hB t (fun x hx => h x (List.mem_cons_of_mem _ hx))
    have h2 := h d (List.mem_cons_self ..)
    rw [ofD_cons, List.length_cons, Nat.pow_succ]
    have h3 : (d + 1) * B ^ t.length ≤ B * B ^ t.length := Nat.mul_le_mul_right _ h2
    rw [Nat.add_mul, Nat.one_mul] at h3
    rw [Nat.mul_comm (B ^ t.length)]
    omega
theorem ofD_digF (B : Nat) : ∀ m n, ofD B (digF B m n) = n % B ^ m
  | 0, n => by simp [digF, ofD, Nat.mod_one]
  | m + 1, n => by
    rw [digF, ofD_snoc, ofD_digF B m, Nat.pow_succ, Nat.mul_comm (B ^ m), Nat.mod_mul, Nat.mul_comm]
    omega
/-- Zeros at the beginning left out. -/
def lead (ds : List Nat) : List Nat := ds.dropWhile (· == 0)
theorem lead_zeros (a : Nat) (ds : List Nat) : lead (List.replicate a 0 ++ ds) = lead ds := by
  induction a with
  | zero => rfl
  | succ a ih => rw [List.replicate_succ, List.cons_append]; unfold lead at ih ⊢; rw [List.dropWhile_cons]; simp
theorem leadD_any {B m k n : Nat} (hm : n < B ^ m) (hk : n < B ^ k) : lead (digF B m n) = lead (digF B k n) := by
  have h1 : digF B (k + m) n = List.replicate k 0 ++ digF B m n := digF_pad hm
  have h2 : digF B (m + k) n = List.replicate m 0 ++ digF B k n := digF_pad hk
  rw [Nat.add_comm] at h2
  rw [← lead_zeros k, ← h1, h2, lead_zeros]
theorem ofD_lead (B : Nat) : ∀ ds : List Nat, ofD B (lead ds) = ofD B ds
  | [] => rfl
  | d :: t => by
    unfold lead
    rw [List.dropWhile_cons]
    by_cases h : d = 0
    · subst h
      have := ofD_lead B t
      unfold lead at this
      simp only [beq_self_eq_true, if_true]
      rw [this, ofD_cons]
      simp
    · have e : (d == 0) = false := by simpa using h
      rw [e]
      rfl
theorem lead_head {ds : List Nat} {d : Nat} {t : List Nat} (h : lead ds = d :: t) : d ≠ 0 := by
  intro e
  have := List.head?_dropWhile_not (· == 0) ds
  unfold lead at h
  rw [h] at this
  simp [e] at this
/-- Digits without a zero ahead are those of their number. -/
theorem digF_ofD {B : Nat} (hB : 0 < B) : ∀ (k : Nat) (ds : List Nat), ds.length = k → (∀ d ∈ ds, d < B) → digF B k (ofD B ds) = ds
  | 0, ds, hl, _ => by rw [List.eq_nil_of_length_eq_zero hl]; rfl
  | k + 1, ds, hl, h => by
    rcases List.eq_nil_or_concat ds with e | ⟨t, d, e⟩
    · subst e; simp at hl
    · rw [List.concat_eq_append] at e
      subst e
      have hd := h d (by simp)
      have ht := digF_ofD hB k t (by simpa using hl) (fun x hx => h x (by simp [hx]))
      rw [digF, ofD_snoc]
      have e1 : (ofD B t * B + d) / B = ofD B t := by rw [Nat.mul_comm, Nat.mul_add_div hB, Nat.div_eq_of_lt hd, Nat.add_zero]
      have e2 : (ofD B t * B + d) % B = d := by rw [Nat.mul_comm, Nat.mul_add_mod, Nat.mod_eq_of_lt hd]
      rw [e1, e2, ht]
/-- The sign of a digit. -/
def sgn (d : Nat) : Int := if d < 10 then 48 + (d : Int) else 87 + (d : Int)
end Go.Proofs.YtiiemeigbnnlpaaGreatDoor

/- Touch -/
namespace Go.Proofs.YtiiemeigbnnlpaaGreatDoor
open Go.RowKit

/-- Only blocks of S have turned; new ones may be there. -/
structure Touch (S : Nat → Prop) (w w' : World) : Prop where
  os : w'.os = w.os
  tape : w'.tape = w.tape
  output : w'.output = w.output
  size : w.heap.size ≤ w'.heap.size
  block : ∀ k, k < w.heap.size → ¬ S k → w'.heap[k]? = w.heap[k]?
theorem Touch.refl (S : Nat → Prop) (w : World) : Touch S w w := ⟨rfl, rfl, rfl, Nat.le_refl _, fun _ _ _ => rfl⟩
theorem Touch.trans {S : Nat → Prop} {a b c : World} (h : Touch S a b) (k : Touch S b c) : Touch S a c :=
  ⟨k.os.trans h.os, k.tape.trans h.tape, k.output.trans h.output, Nat.le_trans h.size k.size, fun i hi hS => (k.block i (Nat.lt_of_lt_of_le hi h.size) hS).trans (h.block i hi hS)⟩
theorem Touch.ofBelow {S : Nat → Prop} {w w' : World} (h : Below w.heap.size w w') : Touch S w w' := ⟨h.os, h.tape, h.output, h.size, fun k hk _ => h.block k hk⟩
theorem Touch.alloc {S : Nat → Prop} {w0 w : World} (h : Touch S w0 w) (o : Obj) : Touch S w0 (w.alloc o) :=
  h.trans (.ofBelow ((Below.refl _ _).alloc (Nat.le_refl _) o))
theorem Touch.drewN {S : Nat → Prop} {w0 w : World} (h : Touch S w0 w) (n : Nat) : Touch S w0 (w.drewN n) := ⟨h.os, h.tape, h.output, h.size, h.block⟩
theorem Touch.setCell {S : Nat → Prop} {w0 w : World} (h : Touch S w0 w) {g : Nat} (hg : w0.heap.size ≤ g ∨ S g) (j : Nat) (x : Value) : Touch S w0 (w.setCell ⟨g, j, none⟩ x) := by
  have b := (Below.refl g w).setCell (p := ⟨g, j, none⟩) (Nat.le_refl _) x
  refine ⟨b.os.trans h.os, b.tape.trans h.tape, b.output.trans h.output, Nat.le_trans h.size b.size, fun k hk hS => ?_⟩
  rw [Below.heap_setCell w _ x k (fun e => by subst e; rcases hg with q | q; (· exact absurd hk (by omega)); exact hS q)]
  exact h.block k hk hS
theorem Touch.grown {S : Nat → Prop} {w0 w w' : World} {row : Option Nat} (h : Touch S w0 w) (hg : w.grownBy w' row) (hr : ∀ k, row = some k → w0.heap.size ≤ k ∨ S k) : Touch S w0 w' :=
  ⟨hg.os.trans h.os, hg.tape.trans h.tape, hg.output.trans h.output, Nat.le_trans h.size hg.size, fun k hk hS => by
    rw [hg.block k (Nat.lt_of_lt_of_le hk h.size) (fun e => by rcases hr k e.symm with q | q; (· omega); exact hS q)]
    exact h.block k hk hS⟩
theorem Touch.cell {S : Nat → Prop} {w w' : World} (h : Touch S w w') {b : Nat} (hb : b < w.heap.size) (hS : ¬ S b) (j : Nat) : w'.cell? ⟨b, j, none⟩ = w.cell? ⟨b, j, none⟩ :=
  World.cell?_of_block (h.block b hb hS)
theorem Touch.row {S : Nat → Prop} {w w' : World} (h : Touch S w w') {g : Nat} {L : List Value} (hr : Row w g L) (hS : ¬ S g) : Row w' g L := (h.block g hr.lt hS).trans hr
end Go.Proofs.YtiiemeigbnnlpaaGreatDoor
