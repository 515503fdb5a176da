/-
  QSp7ToWt7: Sp7, Wt7, joined.
-/
import Derived.Test.YtdhmbalkclbhpaaGreatDoorQJoinedToTxtBack
import Derived.Lib.TrimByte
import Derived.Test.YtdhmbalkclbhpaaGreatDoorQLib7
import Derived.Test.YtdhmbalkclbhpaaGreatDoorQTextToValueOf
import Derived.WalkLawsBesides

/- Sp7 -/
namespace Go.Proofs.YtdhmbalkclbhpaaGreatDoor
open Go.RowKit
set_option linter.unusedVariables false

theorem mem_tw : ∀ (l : List UInt8) (b : UInt8), b ∈ l.takeWhile (fun c : UInt8 => c == 48) → b = 48
  | [], b, h => by cases h
  | c :: l, b, h => by
    rw [List.takeWhile_cons] at h
    by_cases q : (c == 48) = true
    · rw [if_pos q] at h
      rcases List.mem_cons.1 h with rfl | h
      · simpa using q
      · exact mem_tw l b h
    · rw [if_neg q] at h; cases h
theorem trim_parts (l : List UInt8) : ∃ z, l = Lib.trimRightB l 48 ++ List.replicate z 48 ∧ ∀ u d, Lib.trimRightB l 48 = u ++ [d] → d ≠ 48 := by
  have h := List.takeWhile_append_dropWhile (p := fun c : UInt8 => c == 48) (l := l.reverse)
  have ht : l.reverse.takeWhile (fun c : UInt8 => c == 48) = List.replicate (l.reverse.takeWhile (fun c : UInt8 => c == 48)).length 48 := by
    apply List.eq_replicate_of_mem
    intro b hb
    exact mem_tw _ _ hb
  refine ⟨(l.reverse.takeWhile (fun c : UInt8 => c == 48)).length, ?_, ?_⟩
  · have e : l = (l.reverse.takeWhile (fun c : UInt8 => c == 48) ++ l.reverse.dropWhile (fun c : UInt8 => c == 48)).reverse := by rw [h]; simp
    rw [List.reverse_append, ht, List.reverse_replicate] at e
    exact e
  · intro u d hu
    unfold Lib.trimRightB at hu
    have h2 : l.reverse.dropWhile (fun c : UInt8 => c == 48) = d :: u.reverse := by
      have := congrArg List.reverse hu
      simpa using this
    have := List.head_dropWhile_not (p := fun c : UInt8 => c == 48) (l := l.reverse) (by rw [h2]; simp)
    simp only [h2, List.head_cons] at this
    simpa using this
theorem dig_of {c : UInt8} (h : dv c.toNat < 10) : 48 ≤ c.toNat ∧ c.toNat ≤ 57 ∧ dv c.toNat = c.toNat - 48 := by
  unfold dv at h ⊢
  by_cases q : 48 ≤ c.toNat ∧ c.toNat ≤ 57
  · rw [if_pos q]; omega
  · rw [if_neg q] at h
    (repeat' split at h) <;> omega
theorem ofD_zeros : ∀ (ds : List Nat) (z : Nat), ofD 10 (ds ++ List.replicate z 0) = ofD 10 ds * 10 ^ z := by
  intro ds z
  rw [ofD_append, List.length_replicate]
  have : ∀ z, ofD 10 (List.replicate z 0) = 0 := fun z => by
    have h := ofD_digF 10 z 0
    rw [digF_zero] at h
    simpa using h
  rw [this]; omega
theorem ofD_pos {ds : List Nat} {d : Nat} (h : d ≠ 0) (u : List Nat) (e : ds = u ++ [d]) : 0 < ofD 10 ds := by
  rw [e, ofD_snoc]; omega
theorem less_five (c : UInt8) (u : List UInt8) : Op.bytesLess (c :: u) [53] = decide (c.toNat < 53) := by
  have h1 : Op.bytesLess u [] = false := by cases u <;> rfl
  unfold Op.bytesLess
  rw [h1, Bool.and_false, Bool.or_false]
  rw [decide_eq_decide]
  exact UInt8.lt_iff_toNat_lt
/-- A text of digits behind a point, against one half. -/
theorem half_text {l : List UInt8} (hg : Good 10 l) (hl : l ≠ []) :
    (Lib.trimRightB l 48 = [53] ↔ 2 * ofD 10 (dsL l) = 10 ^ l.length) ∧
    (Lib.trimRightB l 48 ≠ [53] → ((!(Op.bytesLess (Lib.trimRightB l 48) [53] || Lib.trimRightB l 48 == [53])) = true ↔ 10 ^ l.length < 2 * ofD 10 (dsL l))) := by
  obtain ⟨z, h1, h2⟩ := trim_parts l
  generalize Lib.trimRightB l 48 = t at *
  subst h1
  have hz0 : 0 < 10 ^ z := Nat.pow_pos (by omega)
  have hd : dsL (t ++ List.replicate z 48) = dsL t ++ List.replicate z 0 := by
    unfold dsL
    rw [List.map_append, List.map_replicate]
    rfl
  rw [hd, ofD_zeros, List.length_append, List.length_replicate, Nat.pow_add]
  have hgt : ∀ b ∈ t, dv b.toNat < 10 := fun b hb => hg b (List.mem_append_left _ hb)
  match t, h2, hgt with
  | [], _, _ =>
    simp [dsL, ofD_nil]
    constructor
    · intro e; omega
    · unfold Op.bytesLess; simp
  | c :: u, h2, hgt =>
    have hc := dig_of (hgt c (by simp))
    have hds : dsL (c :: u) = dv c.toNat :: dsL u := rfl
    have hlen : (dsL u).length = u.length := by simp [dsL]
    rw [hds, ofD_cons, hlen, List.length_cons, Nat.pow_succ, hc.2.2]
    have hU : ofD 10 (dsL u) < 10 ^ u.length := by
      have := ofD_lt (B := 10) (by omega) (dsL u) (fun d hd => by
        obtain ⟨b, hb, rfl⟩ := List.mem_map.1 hd
        exact hgt b (by simp [hb]))
      rw [hlen] at this; exact this
    have hpos : u ≠ [] → 0 < ofD 10 (dsL u) := fun hu => by
      obtain ⟨v, d, rfl⟩ : ∃ v d, u = v ++ [d] := ⟨u.dropLast, u.getLast hu, (List.dropLast_concat_getLast hu).symm⟩
      have hd := h2 (c :: v) d (by simp)
      have hd2 := dig_of (hgt d (by simp))
      refine ofD_pos (d := dv d.toNat) ?_ (dsL v) (by simp [dsL])
      rw [hd2.2.2]
      intro e
      exact hd (UInt8.toNat_inj.1 (show d.toNat = (48 : UInt8).toNat by show d.toNat = 48; omega))
    rw [less_five]
    generalize ofD 10 (dsL u) = U at *
    have key : ∀ a b : Nat, (a * 10 ^ z = b * 10 ^ z ↔ a = b) ∧ (a * 10 ^ z < b * 10 ^ z ↔ a < b) := fun a b => ⟨⟨fun e => Nat.eq_of_mul_eq_mul_right hz0 e, fun e => by rw [e]⟩, Nat.mul_lt_mul_right hz0⟩
    rw [← Nat.mul_assoc, (key _ _).1, (key _ _).2]
    have hc53 : c = 53 ↔ c.toNat = 53 := ⟨fun e => by rw [e]; rfl, fun e => UInt8.toNat_inj.1 e⟩
    by_cases hu : u = []
    · subst hu
      simp only [List.length_nil, Nat.pow_zero, Nat.lt_one_iff] at hU ⊢
      subst hU
      constructor
      · constructor
        · intro e
          have : c = 53 := by simpa using e
          have := hc53.1 this
          omega
        · intro e
          rw [hc53.2 (by omega)]
      · intro ne
        have n53 : ¬ c.toNat = 53 := fun e => ne (by rw [hc53.2 e])
        have nb : ([c] == [(53 : UInt8)]) = false := by rw [beq_eq_false_iff_ne]; exact ne
        rw [nb, Bool.or_false]
        simp
        omega
    · have hp := hpos hu
      have ne : ¬ c :: u = [53] := fun e => hu (by simpa using (List.cons.inj e).2)
      have nb : (c :: u == [(53 : UInt8)]) = false := by rw [beq_eq_false_iff_ne]; exact ne
      generalize 10 ^ u.length = P at *
      obtain ⟨d, hd⟩ : ∃ d, c.toNat - 48 = d := ⟨_, rfl⟩
      have hd9 : d ≤ 9 := by omega
      rw [hd]
      constructor
      · constructor
        · intro e; exact absurd e ne
        · intro e
          exfalso
          rcases (show d = 0 ∨ d = 1 ∨ d = 2 ∨ d = 3 ∨ d = 4 ∨ d = 5 ∨ d = 6 ∨ d = 7 ∨ d = 8 ∨ d = 9 by omega) with rfl | rfl | rfl | rfl | rfl | rfl | rfl | rfl | rfl | rfl <;> omega
      · intro _
        rw [nb, Bool.or_false]
        simp only [Bool.not_eq_true', decide_eq_false_iff_not]
        rcases (show d = 0 ∨ d = 1 ∨ d = 2 ∨ d = 3 ∨ d = 4 ∨ d = 5 ∨ d = 6 ∨ d = 7 ∨ d = 8 ∨ d = 9 by omega) with rfl | rfl | rfl | rfl | rfl | rfl | rfl | rfl | rfl | rfl <;> omega
end Go.Proofs.YtdhmbalkclbhpaaGreatDoor

/- Wt7 -/
namespace Go.Proofs.YtdhmbalkclbhpaaGreatDoor
open Go.RowKit
set_option linter.unusedVariables false

theorem rep_zeros : ∀ c : Nat, Lib.repeatL [(48 : UInt8)] c = List.replicate c 48
  | 0 => rfl
  | c + 1 => by
    have := rep_zeros c
    simp [Lib.repeatL, List.replicate_succ] at this ⊢
    first | exact this | (rw [this])
set_option maxHeartbeats 1600000 in
theorem padded_any {l : List UInt8} {z : Int} (hl : l.length ≤ 100000000) (h0 : -1000000000 ≤ z) (h1 : z ≤ 1000000000) (w : World) :
    Calls Tryz.prog 32 #[.string ⟨l.toArray⟩, .int .i64 z] w fun e w' => e = .returned (.string ⟨(l ++ List.replicate z.toNat 48).toArray⟩) ∧ Below w.heap.size w w' := by
  obtain ⟨c, hc⟩ : ∃ c : Nat, max z 0 = (c : Int) := ⟨z.toNat, by omega⟩
  have ec : z.toNat = c := by omega
  rw [ec]
  have HR := hid (repeat_any ⟨#[48]⟩ c w (by omega) (show 1 * c ≤ 140737488355328 by omega))
  rw [show (⟨#[48]⟩ : ByteArray).data.toList = [48] from rfl, rep_zeros] at HR
  obtain ⟨s, hs⟩ : ∃ s, s = (⟨l.toArray⟩ : ByteArray) := ⟨_, rfl⟩
  obtain ⟨r, hr⟩ : ∃ r, r = (⟨(List.replicate c (48 : UInt8)).toArray⟩ : ByteArray) := ⟨_, rfl⟩
  have hsz : s.size = l.length := by rw [hs]; simp [ByteArray.size]
  have hrz : r.size = c := by rw [hr]; simp [ByteArray.size]
  have HE : Hid ((⟨(l ++ List.replicate c 48).toArray⟩ : ByteArray) = s ++ r) := by
    unfold Hid; rw [hs, hr]
    apply ByteArray.ext
    simp
  rw [← hr] at HR
  rw [← hs, HE.out]
  have hb1 : s.size ≤ 100000000 := by omega
  have hb2 : r.size ≤ 1000000000 := by omega
  clear hs hr HE hsz hrz ec
  go_enter Tryz.func32, Tryz.ntmps32
  go_wp2_with fail
  refine HR.out.mono ?_
  rintro e w1 ⟨rfl, b⟩
  have B1 := hid b
  clear b
  go_wp2
  go_ret
  exact ⟨rfl, B1.out⟩
theorem trimRight_any (s : ByteArray) (w : World) (hs : s.size ≤ 9223372036854775807) : Calls Tryz.prog 52 #[.string s, .string ⟨#[48]⟩] w fun e w' => e = .returned (.string ⟨(Lib.trimRightB s.data.toList 48).toArray⟩) ∧ w' = w :=
  Any.strings_TrimRight_one lays162 s 48 (by decide) w hs
/-- What nextIsNearer answers. -/
def upL (k r : List UInt8) : Bool := if Lib.trimRightB r 48 = [53] then decide ((k.getLastD 48).toNat % 2 = 1) else !(Op.bytesLess (Lib.trimRightB r 48) [53] || Lib.trimRightB r 48 == [53])
set_option maxHeartbeats 1600000 in
theorem nextIsNearer_any {k r : List UInt8} (hk : k ≠ []) (hg : Good 10 k) (hl : k.length ≤ 100000000) (hr : r.length ≤ 100000000) (w : World) :
    Calls Tryz.prog 33 #[.string ⟨k.toArray⟩, .string ⟨r.toArray⟩] w fun e w' => e = .returned (.bool (upL k r)) ∧ Below w.heap.size w w' := by
  have HT := hid (trimRight_any ⟨r.toArray⟩ w (by rw [mk_size]; omega))
  rw [show (⟨r.toArray⟩ : ByteArray).data.toList = r by simp] at HT
  obtain ⟨v, d, hvd⟩ : ∃ v d, k = v ++ [d] := ⟨k.dropLast, k.getLast hk, (List.dropLast_concat_getLast hk).symm⟩
  have hdd := dig_of (hg d (by rw [hvd]; simp))
  have HU : Hid (upL k r = if Lib.trimRightB r 48 = [53] then decide (d.toNat % 2 = 1) else !(Op.bytesLess (Lib.trimRightB r 48) [53] || Lib.trimRightB r 48 == [53])) := by
    unfold Hid upL; rw [hvd]; simp
  generalize upL k r = U at *
  generalize Lib.trimRightB r 48 = t at *
  obtain ⟨s, hs⟩ : ∃ s, s = (⟨k.toArray⟩ : ByteArray) := ⟨_, rfl⟩
  have hsz : s.size = v.length + 1 := by rw [hs, mk_size, hvd]; simp
  have hb : s.size ≤ 100000000 := by rw [hs, mk_size]; exact hl
  have hlast : ∀ h : v.length < s.size, s[v.length]'h = d := by
    subst hs
    intro h
    show (k.toArray)[v.length] = d
    subst hvd
    simp
  rw [← hs]
  clear hs hvd hg hk hl
  by_cases h5 : t = [53]
  · subst h5
    have e5 : (⟨[(53 : UInt8)].toArray⟩ : ByteArray) = ⟨#[53]⟩ := rfl
    rw [e5] at HT
    rw [if_pos rfl] at HU
    go_enter Tryz.func33, Tryz.ntmps33
    go_wp2_with fail
    refine HT.out.mono ?_
    rintro e w1 ⟨rfl, rfl⟩
    go_wp2
    go_ret
    refine ⟨congrArg Ending.returned (congrArg Value.bool ?_), Below.refl _ _⟩
    rw [HU.out]
    by_cases q : d.toNat % 2 = 1
    · rw [decide_eq_true q, beq_iff_eq]; omega
    · rw [decide_eq_false q, beq_eq_false_iff_ne]; omega
  · rw [if_neg h5] at HU
    have h5' : (t == [(53 : UInt8)]) = false := by rw [beq_eq_false_iff_ne]; exact h5
    rw [h5', Bool.or_false] at HU
    clear h5
    go_enter Tryz.func33, Tryz.ntmps33
    go_wp2_with fail
    refine HT.out.mono ?_
    rintro e w1 ⟨rfl, rfl⟩
    go_wp2
    go_ret
    exact ⟨by rw [HU.out]; rfl, Below.refl _ _⟩
end Go.Proofs.YtdhmbalkclbhpaaGreatDoor
