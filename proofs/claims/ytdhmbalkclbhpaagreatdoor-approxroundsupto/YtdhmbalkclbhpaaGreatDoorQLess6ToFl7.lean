/-
  QLess6ToFl7: Less6, Wr70, Wtw7, Fl7, joined.
-/
import Derived.Test.YtdhmbalkclbhpaaGreatDoorQFx7ToCells6
import Derived.Test.YtdhmbalkclbhpaaGreatDoorQTailToZMet
import Derived.Test.YtdhmbalkclbhpaaGreatDoorQWy7
import Derived.Test.YtdhmbalkclbhpaaGreatDoorQWyn7
import Derived.Test.YtdhmbalkclbhpaaGreatDoorQZWrittenToWx7
import Derived.Test.YtdhmbalkclbhpaaGreatDoorQZAdd
import Derived.Laws.MathBits

/- Less6 -/
namespace Go.Proofs.YtdhmbalkclbhpaaGreatDoor
open Go.RowKit
set_option linter.unusedVariables false

theorem pair_eq {x0 x1 y0 y1 : Value} (h : #[x0, x1] = #[y0, y1]) : x0 = y0 ∧ x1 = y1 := by simpa using h
theorem int_as6 {F : FuncId} {args : Array Value} {w : World} {X Y : Int} (h : Calls Tryz.prog F args w fun e w' => e = .returned (.int .i64 X) ∧ Below w.heap.size w w') (e : X = Y) : Calls Tryz.prog F args w fun e w' => e = .returned (.int .i64 Y) ∧ Below w.heap.size w w' := by subst e; exact h
theorem Zi.comp {w : World} {v0 v1 : Value} {z : Int} {k : Nat} (h : Zi w (.agg #[v0, v1]) z k) : ∃ n, ∃ xs : List Int, ∃ a c, v0 = .bool n ∧ v1 = .slice a xs.length c := by
  obtain ⟨n, xs, a, c, e, _⟩ := h
  obtain ⟨e1, e2⟩ := pair_eq (show #[v0, v1] = _ by simpa using e)
  exact ⟨n, xs, a, c, e1, e2⟩
theorem cel_at {w : World} {b : Nat} {T : TypeId} {L : List Value} (hb : w.heap.size = b) : Cel (w.alloc (.cells L.toArray T)) b T L := by subst hb; exact Cel.new w T L
theorem cel_late {w : World} {b : Nat} {T : TypeId} {L : List Value} (h : Cel w b T L) (o : Obj) : Cel (w.alloc o) b T L := h.step ((Below.refl _ _).alloc (Nat.le_refl _) o)
/-- A row is no list of words. -/
theorem Row.cel {w : World} {g b i : Nat} {L : List Value} {T : TypeId} {M : List Value} {u : Value} (h : Row w g L) (d : Cel w b T M) (hT : T ≠ 37) : Row (w.setCell ⟨b, i, none⟩ u) g L := by
  have hne : g ≠ b := fun e => by
    subst e
    have := (show w.heap[g]? = _ from h).symm.trans (show w.heap[g]? = _ from d)
    simp at this
    exact hT this.2.symm
  exact (Below.heap_setCell w _ u g (fun e => hne (by simpa using e))).trans h
theorem Mine.cel {B : Nat} {w : World} {v : Value} {zs : List Int} (h : Mine B w v zs) {b i : Nat} {T : TypeId} {M : List Value} {u : Value} (d : Cel w b T M) (hT : T ≠ 37) : Mine B (w.setCell ⟨b, i, none⟩ u) v zs := by
  obtain ⟨hw, h | ⟨g, r, cap, h1, h2, h3, h4, h5, h6⟩⟩ := h
  · exact ⟨hw, .inl h⟩
  · exact ⟨hw, .inr ⟨g, r, cap, h1, h2, h3, h4, h5, h6.cel d hT⟩⟩
theorem Zm.cel {B : Nat} {w : World} {v : Value} {z : Int} {k : Nat} (h : Zm B w v z k) {b i : Nat} {T : TypeId} {M : List Value} {u : Value} (d : Cel w b T M) (hT : T ≠ 37) : Zm B (w.setCell ⟨b, i, none⟩ u) v z k := by
  obtain ⟨n, xs, a, c, h1, h2, h3⟩ := h
  exact ⟨n, xs, a, c, h1, h2.cel d hT, h3⟩
end Go.Proofs.YtdhmbalkclbhpaaGreatDoor

/- Wr70 -/
namespace Go.Proofs.YtdhmbalkclbhpaaGreatDoor
open Go.RowKit
set_option linter.unusedVariables false

theorem written_any {w : World} {A : Int} {d : List UInt8} {n x Q : Nat} (hT : Sg w) (hn : 1 ≤ n) (hn2 : n ≤ 40) (hd : d.length = n) (hg : Good 10 d) (hQ : ofD 10 (dsL d) = Q) (hlow : 10 ^ (n - 1) ≤ Q) (hx : x ≤ 100000000) :
    Calls Tryz.prog 7 #[.string ⟨(sciT (decide (A < 0)) d n x).toArray⟩, .int .i64 (n : Int)] w fun e w' => ∃ r, e = .returned (.tuple #[r, .int .i64 (x : Int), .bool true]) ∧ Zm 0 w' r (sgd A Q) 3 ∧ Below w.heap.size w w' := by
  subst hQ
  have hs : (((ofD 10 (dsL d) : Nat) : Int).natAbs : Int) < pw 3 := by
    have h1 := good_lt hg
    rw [hd] at h1
    have h2 := ten_small hn2
    omega
  by_cases h : A < 0
  · rw [show decide (A < 0) = true from by simp [h], sciT_neg]
    refine (written_neg hT hn hn2 hd hg hlow hx).mono ?_
    rintro e w' ⟨r, rfl, m, b⟩
    refine ⟨r, rfl, ?_, b⟩
    unfold sgd
    rw [if_pos h]
    exact m.fit (by rw [Int.natAbs_neg]; exact hs)
  · rw [show decide (A < 0) = false from by simp [h], sciT_pos]
    refine (written_pos hT hn hn2 hd hg hlow hx).mono ?_
    rintro e w' ⟨r, rfl, m, b⟩
    refine ⟨r, rfl, ?_, b⟩
    unfold sgd
    rw [if_neg h]
    exact m.fit hs
theorem ten_fit {w : World} {j l : Nat} (hT : Sg w) (hj : j ≤ 100000000) (hl : ((10 ^ j : Nat) : Int) < pw l) {i : Int} (hi : i = (j : Int)) : Calls Tryz.prog 12 #[.int .i64 i] w fun e w' => ∃ r, e = .returned r ∧ Zm 0 w' r ((10 ^ j : Nat) : Int) l ∧ Below w.heap.size w w' := by
  subst hi
  refine (ten_z hT hj).mono ?_
  rintro e w' ⟨r, rfl, m, b⟩
  exact ⟨r, rfl, m.fit (by rw [Int.natAbs_natCast]; exact hl), b⟩
/-- The first word of an integer, and its parity. -/
theorem word0 {w : World} {n : Bool} {a : Option Addr} {l c k : Nat} {z : Int} (h : Zi w (.agg #[.bool n, .slice a l c]) z k) (hz : z ≠ 0) : ∃ b off x, 0 < l ∧ a = some ⟨b, off, none⟩ ∧ w.cell? ⟨b, off, none⟩ = some (.int .u64 x) ∧ 0 ≤ x ∧ x % 2 = ((z.natAbs % 2 : Nat) : Int) := by
  obtain ⟨n', xs, a', c', e, s, v, lk⟩ := h
  simp only [Value.agg.injEq] at e
  obtain ⟨e1, e2⟩ := pair_eq e
  simp only [Value.slice.injEq] at e2
  obtain ⟨rfl, rfl, rfl⟩ := e2
  have h1 := iv_abs s.1 v
  have h2 := val_vn s.1
  obtain ⟨hw, a2, c2, e3, _, _, hm⟩ := s
  simp only [Value.slice.injEq] at e3
  obtain ⟨rfl, _, rfl⟩ := e3
  match xs, hw, hm, h1, h2 with
  | [], _, _, h1, h2 => simp [val] at h1; omega
  | x :: t, hw, hm, h1, h2 =>
    rcases hm with e | ⟨b, off, rfl, _, hc⟩
    · simp at e
    · have hx := hw x (List.mem_cons_self ..)
      unfold IsW wB at hx
      refine ⟨b, off, x, by simp, rfl, hc 0 (by simp), hx.1, ?_⟩
      simp only [val, wB] at h1
      generalize val t = u at h1
      omega
end Go.Proofs.YtdhmbalkclbhpaaGreatDoor

/- Wtw7 -/
namespace Go.Proofs.YtdhmbalkclbhpaaGreatDoor
open Go.RowKit
set_option linter.unusedVariables false

set_option maxHeartbeats 3200000 in
set_option maxRecDepth 100000 in
theorem twice_z {w : World} {va : Value} {A : Int} {k : Nat} (ha : Zi w va A k) (hk : k < 35184372088832) : Calls Tryz.prog 14 #[va] w (GivesZ w (A + A) (max k k + 1)) := by
  have za0 := ha
  obtain ⟨na, xa, ada, ca, rfl, -, -, -⟩ := ha
  obtain ⟨W0, hW⟩ : ∃ W0, (w.alloc (duo (.bool na) (.slice ada xa.length ca))).alloc zbox = W0 := ⟨_, rfl⟩
  obtain ⟨b0, sz0⟩ := alloc2 w (duo (.bool na) (.slice ada xa.length ca)) zbox
  rw [hW] at b0 sz0
  have Pa : Hid (Duo W0 (w.heap.size) (.bool na) (.slice ada xa.length ca)) := by unfold Hid; rw [← hW]; exact duo_late (duo_at (by simp)) _
  have PRP : Hid (Duo W0 (w.heap.size + 1) (.bool false) (.slice none 0 0)) := by unfold Hid; rw [← hW]; exact duo_at (by simp)
  have Za := hid (za0.now b0)
  clear za0
  have G := hid b0
  clear b0
  have EW := hid hW
  clear hW
  go_enter Tryz.func14, Tryz.ntmps14
  have ca0 := Pa.out.c0
  have ca1 := Pa.out.c1
  rw [← EW.out] at ca0 ca1
  go_wp2_with fail
  rw [EW.out]
  clear EW
  clear ca0 ca1
  refine (add_z Za.out Za.out hk hk).mono ?_
  rintro e w1 ⟨r0, rfl, m0, b⟩
  obtain ⟨nu, xu, adu, qu, rfl, -, -, -, -, -⟩ := id m0
  replace Za := hid (Za.out.now b)
  replace Pa := hid (Pa.out.step b)
  replace PRP := hid (PRP.out.step b)
  replace G := hid (below_step G.out b)
  have lz2 := (show Below _ _ _ from b).size
  have Zu := hid m0
  clear b m0
  have cRP0 := PRP.out.c0
  have cRP1 := PRP.out.c1
  have fRP0 := PRP.out.fz 0
  have fRP1 := PRP.out.fz 1
  go_wp2
  exact bodyPost_ret (zback Tryz.results14 (PRP.out.set _ _) _ (by rfl)) rfl ⟨_, rfl, (Zu.out.box PRP.out _ _).mono (by omega), bset (bset G.out (by omega)) (by omega)⟩
end Go.Proofs.YtdhmbalkclbhpaaGreatDoor

/- Fl7 -/
namespace Go.Proofs.YtdhmbalkclbhpaaGreatDoor
set_option linter.unusedVariables false

/-- The value of a rung, in steps of 2^-1074. -/
def fv (r : Nat) : Nat := if r < 2 ^ 52 then r else (2 ^ 52 + r % 2 ^ 52) * 2 ^ (r / 2 ^ 52 - 1)

theorem fv_at (e c : Nat) (hc : c ≤ 2 ^ 53) (h : e = 0 ∨ 2 ^ 52 ≤ c) : fv (e * 2 ^ 52 + c) = c * 2 ^ e := by
  unfold fv
  by_cases c1 : c < 2 ^ 52
  · have e0 : e = 0 := by omega
    subst e0; simp; omega
  · rw [if_neg (by omega)]
    by_cases c2 : c < 2 ^ 53
    · have d : (e * 2 ^ 52 + c) / 2 ^ 52 = e + 1 := by omega
      have m : (e * 2 ^ 52 + c) % 2 ^ 52 = c - 2 ^ 52 := by omega
      rw [d, m, show 2 ^ 52 + (c - 2 ^ 52) = c by omega, Nat.add_sub_cancel]
    · have ec : c = 2 ^ 53 := by omega
      subst ec
      have d : (e * 2 ^ 52 + 2 ^ 53) / 2 ^ 52 = e + 2 := by omega
      have m : (e * 2 ^ 52 + 2 ^ 53) % 2 ^ 52 = 0 := by omega
      rw [d, m, show e + 2 - 1 = e + 1 by omega, Nat.pow_succ 2 e, Nat.mul_comm (2 ^ e) 2, ← Nat.mul_assoc]
/-- Every rung is so many steps of one length. -/
theorem rung_form (r : Nat) : ∃ e c, r = e * 2 ^ 52 + c ∧ c < 2 ^ 53 ∧ (e = 0 ∨ 2 ^ 52 ≤ c) ∧ fv r = c * 2 ^ e := by
  by_cases h : r < 2 ^ 52
  · exact ⟨0, r, by omega, by omega, .inl rfl, by simpa using fv_at 0 r (by omega) (.inl rfl)⟩
  · refine ⟨r / 2 ^ 52 - 1, 2 ^ 52 + r % 2 ^ 52, by omega, by omega, .inr (by omega), ?_⟩
    unfold fv; rw [if_neg h]
theorem fv_zero : fv 0 = 0 := rfl
/-- The next rung is higher. -/
theorem fv_succ (r : Nat) : fv r < fv (r + 1) := by
  obtain ⟨e, c, h1, h2, h3, h4⟩ := rung_form r
  rw [h4, h1, Nat.add_assoc, fv_at e (c + 1) (by omega) (by omega)]
  exact Nat.mul_lt_mul_of_pos_right (by omega) (Nat.two_pow_pos _)
theorem fv_mono {r s : Nat} (h : r ≤ s) : fv r ≤ fv s := by
  induction s with
  | zero => rw [show r = 0 by omega]; exact Nat.le_refl _
  | succ s ih =>
    by_cases e : r = s + 1
    · rw [e]; exact Nat.le_refl _
    · exact Nat.le_trans (ih (by omega)) (Nat.le_of_lt (fv_succ s))
theorem fv_lt {r s : Nat} (h : r < s) : fv r < fv s := Nat.lt_of_lt_of_le (fv_succ r) (fv_mono h)
theorem fv_inj {r s : Nat} (h : fv r = fv s) : r = s := by
  rcases Nat.lt_trichotomy r s with q | q | q
  · have := fv_lt q; omega
  · exact q
  · have := fv_lt q; omega
theorem fv_eq_zero {r : Nat} : fv r = 0 ↔ r = 0 := ⟨fun h => fv_inj (h.trans fv_zero.symm), fun h => by rw [h]; rfl⟩

/-- So many steps, 2^p times as long, rounded to the even one in the middle. -/
def rnd (S : Nat) (p : Int) : Nat :=
  if p ≤ 0 then S * 2 ^ (-p).toNat
  else S / 2 ^ p.toNat + (if 2 ^ p.toNat < 2 * (S % 2 ^ p.toNat) ∨ (2 ^ p.toNat = 2 * (S % 2 ^ p.toNat) ∧ S / 2 ^ p.toNat % 2 = 1) then 1 else 0)
def unitOf (S : Nat) (n : Int) : Int := max ((bitLen S : Int) + n - 53) (-1074)
/-- The bits of the float64 nearest to S * 2^n. -/
def nbits (S : Nat) (n : Int) : Nat :=
  if S = 0 then 0 else if 1024 < (bitLen S : Int) + n then 2047 * 2 ^ 52
  else (unitOf S n + 1074).toNat * 2 ^ 52 + rnd S (unitOf S n - n)

theorem nbits_zero (n : Int) : nbits 0 n = 0 := by unfold nbits; rw [if_pos rfl]
theorem bl_bounds {v : Nat} (h : v ≠ 0) : v < 2 ^ bitLen v ∧ 2 ^ (bitLen v - 1) ≤ v ∧ 0 < bitLen v := by
  unfold bitLen
  rw [if_neg h]
  exact ⟨Nat.lt_log2_self, by rw [Nat.add_sub_cancel]; exact Nat.log2_self_le h, by omega⟩
theorem bl_of {v k : Nat} (h1 : 2 ^ k ≤ v) (h2 : v < 2 ^ (k + 1)) : bitLen v = k + 1 := by
  have h0 : v ≠ 0 := by have := Nat.two_pow_pos k; omega
  obtain ⟨b1, b2, b3⟩ := bl_bounds h0
  have i1 : k < bitLen v := (Nat.pow_lt_pow_iff_right (a := 2) (by omega)).1 (Nat.lt_of_le_of_lt h1 b1)
  have i2 : bitLen v - 1 < k + 1 := (Nat.pow_lt_pow_iff_right (a := 2) (by omega)).1 (Nat.lt_of_le_of_lt b2 h2)
  omega
theorem bl_shift {v : Nat} (h : v ≠ 0) (k : Nat) : bitLen (v * 2 ^ k) = bitLen v + k := by
  obtain ⟨b1, b2, b3⟩ := bl_bounds h
  have e : bitLen v + k = (bitLen v - 1 + k) + 1 := by omega
  rw [e]
  refine bl_of ?_ ?_
  · rw [Nat.pow_add]; exact Nat.mul_le_mul_right _ b2
  · rw [show bitLen v - 1 + k + 1 = bitLen v + k by omega, Nat.pow_add]; exact Nat.mul_lt_mul_of_pos_right b1 (Nat.two_pow_pos _)
/-- Rounding is the same for a number told in shorter steps. -/
theorem rnd_shift (S k : Nat) (p : Int) : rnd (S * 2 ^ k) (p + k) = rnd S p := by
  have hk : 0 < 2 ^ k := Nat.two_pow_pos k
  unfold rnd
  by_cases h1 : p ≤ 0
  · rw [if_pos h1]
    by_cases h2 : p + k ≤ 0
    · rw [if_pos h2, Nat.mul_assoc, ← Nat.pow_add, show k + (-(p + k)).toNat = (-p).toNat by omega]
    · rw [if_neg h2]
      have e : S * 2 ^ k = 2 ^ (p + (k : Int)).toNat * (S * 2 ^ (-p).toNat) := by
        rw [Nat.mul_left_comm, ← Nat.pow_add, show (p + (k : Int)).toNat + (-p).toNat = k by omega]
      rw [e, Nat.mul_div_cancel_left _ (Nat.two_pow_pos _), Nat.mul_mod_right]
      have := Nat.two_pow_pos (p + (k : Int)).toNat
      rw [if_neg (by omega)]; omega
  · rw [if_neg h1, if_neg (by omega)]
    have e : (p + (k : Int)).toNat = p.toNat + k := by omega
    rw [e, Nat.pow_add, Nat.mul_div_mul_right _ _ hk, Nat.mul_mod_mul_right]
    have e1 : (2 ^ p.toNat * 2 ^ k < 2 * (S % 2 ^ p.toNat * 2 ^ k)) ↔ (2 ^ p.toNat < 2 * (S % 2 ^ p.toNat)) := by
      rw [← Nat.mul_assoc]; exact Nat.mul_lt_mul_right hk
    have e2 : (2 ^ p.toNat * 2 ^ k = 2 * (S % 2 ^ p.toNat * 2 ^ k)) ↔ (2 ^ p.toNat = 2 * (S % 2 ^ p.toNat)) := by
      rw [← Nat.mul_assoc]
      exact ⟨fun q => Nat.eq_of_mul_eq_mul_right hk q, fun q => congrArg (· * 2 ^ k) q⟩
    simp only [e1, e2]
theorem nbits_shift (S k : Nat) (n : Int) : nbits (S * 2 ^ k) (n - k) = nbits S n := by
  have hk : 0 < 2 ^ k := Nat.two_pow_pos k
  by_cases h0 : S = 0
  · subst h0; rw [Nat.zero_mul, nbits_zero, nbits_zero]
  · have h1 : S * 2 ^ k ≠ 0 := Nat.mul_ne_zero h0 (by omega)
    have hu : unitOf (S * 2 ^ k) (n - k) = unitOf S n := by
      unfold unitOf; rw [bl_shift h0]; congr 1; omega
    unfold nbits
    rw [if_neg h0, if_neg h1, hu, bl_shift h0]
    rw [show ((bitLen S + k : Nat) : Int) + (n - k) = (bitLen S : Int) + n by omega, show unitOf S n - (n - k) = unitOf S n - n + k by omega, rnd_shift]
/-- What is kept of a number has at most 53 digits, and just so many but in the shortest steps. -/
theorem kept {S : Nat} {p : Int} {L : Nat} (hS : S ≠ 0) (hL : bitLen S = L) (hp : (L : Int) - 53 ≤ p) :
    (p ≤ 0 → S * 2 ^ (-p).toNat < 2 ^ 53 ∧ (p = (L : Int) - 53 → 2 ^ 52 ≤ S * 2 ^ (-p).toNat)) ∧
    (0 < p → S / 2 ^ p.toNat < 2 ^ 53 ∧ (p = (L : Int) - 53 → 2 ^ 52 ≤ S / 2 ^ p.toNat)) := by
  obtain ⟨b1, b2, b3⟩ := bl_bounds hS
  rw [hL] at b1 b2 b3
  constructor
  · intro h
    refine ⟨Nat.lt_of_lt_of_le (Nat.mul_lt_mul_of_pos_right b1 (Nat.two_pow_pos _)) ?_, fun q => Nat.le_trans ?_ (Nat.mul_le_mul_right _ b2)⟩
    · rw [← Nat.pow_add]; exact Nat.pow_le_pow_right (by omega) (by omega)
    · rw [← Nat.pow_add]; exact Nat.pow_le_pow_right (by omega) (by omega)
  · intro h
    refine ⟨(Nat.div_lt_iff_lt_mul (Nat.two_pow_pos _)).2 (Nat.lt_of_lt_of_le b1 ?_), fun q => (Nat.le_div_iff_mul_le (Nat.two_pow_pos _)).2 (Nat.le_trans ?_ b2)⟩
    · rw [← Nat.pow_add]; exact Nat.pow_le_pow_right (by omega) (by omega)
    · rw [← Nat.pow_add]; exact Nat.pow_le_pow_right (by omega) (by omega)
/-- What the nearest is, where it is not out of reach. -/
theorem nbits_form {S : Nat} {n : Int} (hS : S ≠ 0) (h : (bitLen S : Int) + n ≤ 1024) :
    ∃ e c : Nat, nbits S n = e * 2 ^ 52 + c ∧ c = rnd S ((e : Int) - 1074 - n) ∧ c ≤ 2 ^ 53 ∧ (e = 0 ∨ 2 ^ 52 ≤ c) ∧ fv (nbits S n) = c * 2 ^ e ∧ (e : Int) - 1074 = unitOf S n ∧ e ≤ 2045 := by
  have hu1 : (bitLen S : Int) + n - 53 ≤ unitOf S n := by unfold unitOf; omega
  have hu2 : -1074 ≤ unitOf S n := by unfold unitOf; omega
  have hu3 : unitOf S n = (bitLen S : Int) + n - 53 ∨ unitOf S n = -1074 := by unfold unitOf; omega
  have hu4 : unitOf S n ≤ 971 := by omega
  obtain ⟨k1, k2⟩ := kept hS rfl (show (bitLen S : Int) - 53 ≤ unitOf S n - n by omega)
  have hr : rnd S (unitOf S n - n) ≤ 2 ^ 53 ∧ (unitOf S n = -1074 ∨ 2 ^ 52 ≤ rnd S (unitOf S n - n)) := by
    unfold rnd
    by_cases hp : unitOf S n - n ≤ 0
    · rw [if_pos hp]
      obtain ⟨a1, a2⟩ := k1 hp
      exact ⟨by omega, by rcases hu3 with q | q
                          · exact .inr (a2 (by omega))
                          · exact .inl q⟩
    · rw [if_neg hp]
      obtain ⟨a1, a2⟩ := k2 (by omega)
      refine ⟨by split <;> omega, ?_⟩
      rcases hu3 with q | q
      · exact .inr (Nat.le_trans (a2 (by omega)) (Nat.le_add_right _ _))
      · exact .inl q
  have he : (((unitOf S n + 1074).toNat : Nat) : Int) = unitOf S n + 1074 := by omega
  have hn : nbits S n = (unitOf S n + 1074).toNat * 2 ^ 52 + rnd S (unitOf S n - n) := by
    unfold nbits; rw [if_neg hS, if_neg (by omega)]
  have hz : (unitOf S n + 1074).toNat = 0 ∨ 2 ^ 52 ≤ rnd S (unitOf S n - n) := by
    rcases hr.2 with q | q
    · exact .inl (by omega)
    · exact .inr q
  refine ⟨(unitOf S n + 1074).toNat, rnd S (unitOf S n - n), hn, by rw [he]; congr 1; omega, hr.1, hz, ?_, by omega, by omega⟩
  rw [hn]
  exact fv_at _ _ hr.1 hz
theorem nbits_le (S : Nat) (n : Int) : nbits S n ≤ 2047 * 2 ^ 52 := by
  by_cases hS : S = 0
  · subst hS; rw [nbits_zero]; omega
  by_cases h : 1024 < (bitLen S : Int) + n
  · unfold nbits; rw [if_neg hS, if_pos h]; exact Nat.le_refl _
  · obtain ⟨e, c, h1, _, h2, _, _, _, h3⟩ := nbits_form hS (show (bitLen S : Int) + n ≤ 1024 by omega)
    omega
/-- A number that is a rung is its own nearest. -/
theorem nbits_fv {r : Nat} (h : r < 2047 * 2 ^ 52) : nbits (fv r) (-1074) = r := by
  by_cases h0 : r = 0
  · subst h0; rw [fv_zero, nbits_zero]
  obtain ⟨e, c, h1, h2, h3, h4⟩ := rung_form r
  have hc0 : c ≠ 0 := by
    rintro rfl
    rcases h3 with q | q <;> omega
  have he : e ≤ 2045 := by omega
  rw [h4]
  have hs := nbits_shift c e (-1074 + e)
  rw [show -1074 + (e : Int) - e = -1074 by omega] at hs
  rw [hs]
  have hl : bitLen c ≤ 53 := by
    obtain ⟨b1, b2, b3⟩ := bl_bounds hc0
    have := (Nat.pow_lt_pow_iff_right (a := 2) (by omega)).1 (Nat.lt_of_le_of_lt b2 h2)
    omega
  have hu : unitOf c (-1074 + e) = -1074 + e := by
    unfold unitOf
    rcases h3 with q | q
    · subst q; omega
    · rw [bl_of (k := 52) q h2]; omega
  unfold nbits
  rw [if_neg hc0, if_neg (by omega), hu, show -1074 + (e : Int) - (-1074 + e) = 0 by omega]
  unfold rnd
  rw [if_pos (by omega), h1]
  simp
  omega
end Go.Proofs.YtdhmbalkclbhpaaGreatDoor
