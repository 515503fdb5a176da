/-
  QTextToValueOf: Text, ValueOf, joined.
-/
import Derived.Test.YtaflidiokhaljaaDoorQSquaresToTrimL
import Derived.Laws.BytesArg

/- Text -/
namespace Go.Proofs.YtaflidiokhaljaaDoor
open Go.RowKit
set_option linter.unusedVariables false

/-- The sign of a digit, as a byte. -/
def sgnB (d : Nat) : UInt8 := UInt8.ofNat (sgn d).toNat
theorem sgnB_nat {d : Nat} (h : d < 36) : (sgnB d).toNat = (sgn d).toNat := by
  unfold sgnB
  have : (sgn d).toNat < 256 := by unfold sgn; split <;> omega
  rw [UInt8.toNat_ofNat', Nat.mod_eq_of_lt this]
theorem sgnB_zero {d : Nat} (h : d < 36) : (sgnB d == 48) = (d == 0) := by
  have h1 := sgnB_nat h
  by_cases e : d = 0
  · subst e; rfl
  · have : sgnB d ≠ 48 := by
      intro q
      rw [q] at h1
      have h2 : (48 : UInt8).toNat = 48 := rfl
      rw [h2] at h1
      unfold sgn at h1
      split at h1 <;> omega
    rw [beq_eq_false_iff_ne.2 this, beq_eq_false_iff_ne.2 e]
theorem drop_signs : ∀ (ds : List Nat), (∀ d ∈ ds, d < 36) → (ds.map sgnB).dropWhile (· == 48) = (lead ds).map sgnB
  | [], _ => rfl
  | d :: t, h => by
    have hd := sgnB_zero (h d (List.mem_cons_self ..))
    unfold lead
    rw [List.map_cons, List.dropWhile_cons, List.dropWhile_cons, hd]
    split
    · exact drop_signs t (fun x hx => h x (List.mem_cons_of_mem _ hx))
    · rfl
/-- The text of n to the base B, as bytes. -/
def txtL (B n : Nat) : List UInt8 := if n = 0 then [48] else (lead (digF B n n)).map sgnB
def txt (B n : Nat) : ByteArray := ⟨(txtL B n).toArray⟩
theorem lt_pow_self {B : Nat} (hB : 2 ≤ B) (n : Nat) : n < B ^ n := Nat.lt_of_lt_of_le (Nat.lt_two_pow_self) (Nat.pow_le_pow_left hB n)
theorem lead_nil {B m n : Nat} (h : lead (digF B m n) = []) (hn : n < B ^ m) : n = 0 := by
  have h1 := ofD_lead B (digF B m n)
  rw [h, ofD_digF, Nat.mod_eq_of_lt hn] at h1
  exact h1.symm
theorem lead_zero (B m : Nat) : lead (digF B m 0) = [] := by
  rw [digF_zero]
  have := lead_zeros m []
  rw [List.append_nil] at this
  rw [this]
  rfl
theorem strOfNums_signs (ds : List Nat) : strOfNums (ds.map sgn) = ⟨(ds.map sgnB).toArray⟩ := by
  unfold strOfNums
  rw [List.map_map]
  rfl
/-- What Text is to answer, by its digits in a room of m places. -/
theorem txt_room {B m n : Nat} (hB : 2 ≤ B) (hB2 : B ≤ 36) (hn : n < B ^ m) : ((digF B m n).map sgnB).dropWhile (· == 48) = if n = 0 then [] else txtL B n := by
  rw [drop_signs _ (fun d hd => Nat.lt_of_lt_of_le (digF_lt (by omega) m n d hd) hB2)]
  by_cases h : n = 0
  · subst h
    rw [if_pos rfl, lead_zero]
    rfl
  · rw [if_neg h, txtL, if_neg h, leadD_any hn (lt_pow_self hB n)]
theorem txtL_ne {B n : Nat} (hB : 2 ≤ B) (h : n ≠ 0) : txtL B n ≠ [] := by
  unfold txtL
  rw [if_neg h]
  intro e
  exact h (lead_nil (List.map_eq_nil_iff.1 e) (lt_pow_self hB n))
theorem room_small {B D k : Nat} {xs : List Int} (hB : 2 ≤ B) (hD : D ≤ 64) (hx : WF xs) (lx : xs.length ≤ 1048576) (h : ∀ i, i < k → (B ^ D) ^ 2 ^ i ≤ vn xs) : D * 2 ^ k ≤ 134217728 := by
  cases k with
  | zero => simp; omega
  | succ k =>
    have h1 := h k (Nat.lt_succ_self k)
    have h2 := Nat.lt_of_le_of_lt h1 (vn_lt_two hx)
    rw [← Nat.pow_mul] at h2
    have h3 : 2 ^ (D * 2 ^ k) ≤ B ^ (D * 2 ^ k) := Nat.pow_le_pow_left hB _
    have h4 := (Nat.pow_lt_pow_iff_right (by omega : 1 < 2)).1 (Nat.lt_of_le_of_lt h3 h2)
    rw [Nat.pow_succ, ← Nat.mul_assoc]
    omega
theorem below_touch {B : Nat} {w w1 w2 : World} {S : Nat → Prop} (h : Below B w w1) (ht : Touch S w1 w2) (hS : ∀ g, S g → B ≤ g) (hB : B ≤ w1.heap.size) : Below B w w2 :=
  ⟨ht.os.trans h.os, ht.tape.trans h.tape, ht.output.trans h.output, Nat.le_trans h.size ht.size, fun k hk => (ht.block k (by omega) (fun q => by have := hS k q; omega)).trans (h.block k hk)⟩
theorem canon_one {x : Nat} (h0 : 0 < x) (h1 : x < 18446744073709551616) : Canon [(x : Int)] ∧ vn [(x : Int)] = x := by
  have hw : WF [(x : Int)] := wf_word (by omega) WF.nil
  refine ⟨⟨hw, ?_⟩, ?_⟩
  · simp [wid]
    omega
  · have := val_vn hw
    simp [val] at this
    omega
set_option maxRecDepth 100000 in
set_option maxHeartbeats 6400000 in
theorem text_any {w : World} {va : Value} {xs : List Int} {B : Nat} (ha : Sl w.heap.size w va xs) (lx : xs.length ≤ 1048576) (hB : 2 ≤ B) (hB2 : B ≤ 36) (hT : Sg w) :
    Calls Tryd.prog 10 #[va, .int .i64 (B : Int)] w fun e w' => e = .returned (.tuple #[.string (txt B (vn xs)), .int .i64 0]) ∧ Below w.heap.size w w' := by
  have HA := hid ha
  have HT := hid hT
  have HIB := hid (isBase_any (B : Int) (by omega) (by omega) w)
  rw [decide_eq_true (show (2 : Int) ≤ (B : Int) ∧ (B : Int) ≤ 36 by omega)] at HIB
  have HWF := hid (wordful_any hB hB2 w)
  obtain ⟨aa, ca, hva⟩ : ∃ a c, va = .slice a xs.length c := by obtain ⟨_, a, c, e, _⟩ := ha; exact ⟨a, c, e⟩
  subst hva
  clear ha hT
  go_enter Tryd.func10, Tryd.ntmps10
  go_wp2_with fail
  refine HIB.out.mono ?_
  rintro e w0 ⟨rfl, rfl⟩
  clear HIB
  go_wp2_with fail
  refine HWF.out.mono ?_
  rintro e w1 ⟨D, hD, rfl, mP, k1⟩
  have HD := hid hD
  have K1 := hid k1
  obtain ⟨hd1, hd2, hd3, hd4⟩ := hD
  have hpp : 2 ≤ B ^ D := Nat.le_trans hB (Nat.le_self_pow (by omega) B)
  have hco := canon_one (by omega) hd3
  have HSQ := hid (squares_any (P := B ^ D) (xs := xs) mP hco.1 hco.2 hpp (HA.out.now k1) (by simp) lx)
  clear HWF mP k1 hco
  go_wp2_with fail
  refine HSQ.out.mono ?_
  rintro e w2 ⟨Ps, pa, pc, rfl, hpc, hpl, hBu, hE, hLo, hHi, k2⟩
  have K2 := hid (below_step K1.out k2)
  have HLW := hid hBu.lw
  have HE : Hid (∀ i (h : i < Ps.length), vn Ps[i] = B ^ (D * 2 ^ i) ∧ Ps[i].length ≤ 1099511627776) := fun i h => ⟨by rw [(hE i h).1, ← Nat.pow_mul], by have := (hE i h).2; omega⟩
  have HHI : Hid (vn xs < B ^ (D * 2 ^ Ps.length)) := by unfold Hid; rw [Nat.pow_mul]; exact hHi
  have hsm := room_small hB hd2 HA.out.1 lx hLo
  obtain ⟨m, hm⟩ : ∃ m, m = D * 2 ^ Ps.length := ⟨_, rfl⟩
  have hm1 : 0 < m := by rw [hm]; exact Nat.mul_pos (by omega) (Nat.pow_pos (by omega))
  have HM := hid hm
  rw [← hm] at HHI hsm
  have HWR : Hid (wrap64 ((D : Int) * 2 ^ Ps.length) = (m : Int)) := by
    unfold Hid
    have e1 : (D : Int) * 2 ^ Ps.length = ((D * 2 ^ Ps.length : Nat) : Int) := by simp
    rw [e1, ← hm]
    unfold wrap64
    omega
  have hm35 : m ≤ 35184372088832 := by omega
  clear HSQ hBu hE hLo hHi k2 K1 hm
  go_wp2_with (at_make; refine wpList_make_bytes _ rfl (.tmp 25) (.tmp 25) rfl _ _ m rfl rfl HWR.out HWR.out hm35 ?_)
  intro w3 hR hB3
  have K3 := hid (below_step K2.out hB3.out)
  have HLW3 := hid (HLW.out.now hB3.out)
  have HGE : Hid (w0.heap.size ≤ w2.heap.size) := K2.out.size
  have HSZ : Hid (0 < w2.heap.size) := Nat.lt_of_lt_of_le HT.out.pos K2.out.size
  have HWO := hid (write_any (B := B) (M := fun k => D * 2 ^ k) hB hB2 (by simp; omega) (by simp; omega) (fun k => by simp only [Nat.pow_succ, ← Nat.mul_assoc]; omega) Ps.length w3 w2.heap.size 0 m pc (List.replicate m 0) (.slice aa xs.length ca) xs pa Ps hR.out (by simp [HM.out]) (HT.out.now K3.out) (by have := HSZ.out; omega) (by show D * 2 ^ Ps.length ≤ _; rw [← HM.out]; omega) (by show D * 2 ^ Ps.length ≤ _; rw [← HM.out]; exact Nat.le_refl _) (HA.out.now K3.out) (by omega) (by show _ < B ^ (D * 2 ^ Ps.length); rw [← HM.out]; exact HHI.out) rfl (by omega) hpc HLW3.out HE.out)
  simp only [] at HWO
  rw [← HM.out] at HWO
  clear HLW hR hB3 HLW3 HWR HE
  generalize w2.heap.size = g at *
  go_wp2_with fail
  refine HWO.out.mono ?_
  rintro e w4 ⟨rfl, r4, t4⟩
  have ew : wrote (List.replicate m 0) 0 m B (vn xs) = (digF B m (vn xs)).map sgn := by
    unfold wrote
    rw [List.take_zero, List.nil_append, List.drop_of_length_le (by simp), List.append_nil]
  rw [ew] at r4
  have hlen : ((digF B m (vn xs)).map sgn).length = m := by simp [digF_len]
  have hcv := run_convert_bytes_arg (P := Tryd.prog) w4 45 5 Tryd.underlying45 Tryd.underlying5 g 0 m m ((digF B m (vn xs)).map sgn) hlen (fun i hi => by
    rw [Nat.zero_add, r4.cell (by rw [hlen]; exact hi)]
    have hi' : i < ((digF B m (vn xs)).map sgn).length := by rw [hlen]; exact hi
    rw [List.getD_eq_getElem?_getD, List.getElem?_eq_getElem hi']
    rfl) 9 Tryd.underlying9
  rw [strOfNums_signs] at hcv
  have K4 : Hid (Below w0.heap.size w0 w4) := below_touch K3.out t4 (fun q e => by have e' : q = g := e; rw [e']; exact HGE.out) K3.out.size
  have HTR := hid (trimLeft_any ((digF B m (vn xs)).map sgnB) w4 (by simp [digF_len]; omega) (by intro q; have := congrArg List.length q; simp [digF_len] at this; omega))
  have HR := hid (txt_room hB hB2 HHI.out)
  clear HWO r4 t4 ew hlen
  generalize ((digF B m (vn xs)).map sgnB).dropWhile (· == 48) = res at *
  generalize (digF B m (vn xs)).map sgnB = src at *
  go_wp2_with fail
  refine HTR.out.mono ?_
  rintro e w5 ⟨rfl, rfl⟩
  clear HTR hcv
  by_cases hn : vn xs = 0
  · have hr : res = [] := by have := HR.out; rw [if_pos hn] at this; exact this
    have HX : Hid (txt B (vn xs) = ⟨#[48]⟩) := by unfold Hid txt txtL; rw [if_pos hn]
    subst hr
    clear HR hn
    go_wp2
    go_ret2
    exact ⟨by rw [HX.out]; rfl, K4.out⟩
  · have hr : res = txtL B (vn xs) := by have := HR.out; rw [if_neg hn] at this; exact this
    have HX : Hid (txt B (vn xs) = ⟨res.toArray⟩) := by unfold Hid txt; rw [hr]
    have hE : res.isEmpty = false := by rw [hr]; simpa using txtL_ne hB hn
    clear HR hn hr
    go_wp2
    go_ret2
    exact ⟨by rw [HX.out]; rfl, K4.out⟩
end Go.Proofs.YtaflidiokhaljaaDoor

/- ValueOf -/
namespace Go.Proofs.YtaflidiokhaljaaDoor
open Go.RowKit
set_option linter.unusedVariables false

/-- The value of a sign, 99 of what is none. -/
def dv (c : Nat) : Nat := if 48 ≤ c ∧ c ≤ 57 then c - 48 else if 97 ≤ c ∧ c ≤ 122 then c - 87 else if 65 ≤ c ∧ c ≤ 90 then c - 55 else 99
def lw (c : Nat) : Nat := if 65 ≤ c ∧ c ≤ 90 then c + 32 else c
/-- What valueOf answers. -/
def vo (B c : Nat) : Nat := if dv c < B then dv c else B
theorem dv_of {d c : Nat} (hd : d < 36) (h : sgn d = (lw c : Int)) : dv c = d := by
  unfold sgn lw at h
  unfold dv
  split at h <;> split at h <;> (repeat' split) <;> omega
theorem sgn_dv {c : Nat} (h : dv c < 36) : sgn (dv c) = (lw c : Int) := by
  unfold dv at h ⊢
  unfold sgn lw
  (repeat' split at h) <;> (repeat' split) <;> omega
theorem vo_hit {B d c : Nat} (hB : B ≤ 36) (hd : d < B) (h : sgn d = (lw c : Int)) : vo B c = d := by
  unfold vo
  rw [dv_of (by omega) h, if_pos hd]
theorem vo_miss {B c : Nat} (hB : B ≤ 36) (h : ∀ e, e < B → sgn e ≠ (lw c : Int)) : vo B c = B := by
  unfold vo
  split
  · rename_i q
    exact absurd (sgn_dv (by omega)) (h _ q)
  · rfl
theorem sgn_range {d : Nat} (h : d < 36) : 48 ≤ sgn d ∧ sgn d ≤ 122 := by unfold sgn; split <;> omega
set_option maxRecDepth 100000 in
set_option maxHeartbeats 1600000 in
theorem valueOf_any {w : World} (hT : Sg w) {B : Nat} (hB : 2 ≤ B) (hB2 : B ≤ 36) {r : Nat} (hr : r ≤ 2147483647) :
    Calls Tryd.prog 51 #[.int .i32 (r : Int), .int .i64 (B : Int)] w fun e w' => e = .returned (.int .i64 (vo B r : Int)) ∧ w' = w := by
  have HT := hid hT
  have hl : lw r ≤ 2147483647 := by unfold lw; split <;> omega
  by_cases hu : 65 ≤ r ∧ r ≤ 90
  · have u1 : (65 : Int) ≤ (r : Int) := by omega
    have u2 : (r : Int) ≤ 90 := by omega
    have el : (r : Int) + 32 = (lw r : Int) := by unfold lw; rw [if_pos hu]; simp
    obtain ⟨V, hV⟩ : ∃ V, vo B r = V := ⟨_, rfl⟩
    have HV : Hid ((∀ d, d < B → sgn d = (lw r : Int) → V = d) ∧ ((∀ e, e < B → sgn e ≠ (lw r : Int)) → V = B)) := ⟨fun d h1 h2 => by rw [← hV]; exact vo_hit hB2 h1 h2, fun h => by rw [← hV]; exact vo_miss hB2 h⟩
    rw [hV]
    generalize lw r = q at *
    clear hT hV hu

    go_enter Tryd.func51, Tryd.ntmps51
    go_wp2_with fail
    go_loop [15] (fun i => ∃ d : Nat, d ≤ B ∧ i = .int .i64 (d : Int) ∧ Hid (∀ e, e < d → sgn e ≠ (q : Int))) (fun i => B - (intOf i).toNat)
    case atStart => exact ⟨0, Nat.zero_le _, rfl, fun e h => absurd h (Nat.not_lt_zero _)⟩
    case round =>
      obtain ⟨d, hd, rfl, HN⟩ := hrel
      by_cases hlt : d < B
      · have hd36 : d < 36 := by omega
        have c1 := HT.out d hd36
        have hr2 := sgn_range hd36
        by_cases hq : sgn d = (q : Int)
        · have hv := HV.out.1 d hlt hq
          subst hv
          generalize sgn V = x at *
          go_wp2
          go_ret
          exact ⟨rfl, rfl⟩
        · have hq2 : (sgn d == (q : Int)) = false := by simpa using hq
          have HN2 : Hid (∀ e, e < d + 1 → sgn e ≠ (q : Int)) := fun e he => by
            rcases Nat.lt_or_ge e d with h | h
            · exact HN.out e h
            · obtain rfl : e = d := by omega
              exact hq
          generalize sgn d = x at *
          clear HN
          go_wp2
          go_round
          case rel => exact ⟨d + 1, by omega, by go_num, HN2⟩
          case measure => first | (simp [intOf]; done) | (simp [intOf]; omega)
      · obtain rfl : d = B := by omega
        have hv := HV.out.2 HN.out
        subst hv
        go_wp2
        go_ret
        exact ⟨rfl, rfl⟩
  · have el : lw r = r := by unfold lw; rw [if_neg hu]
    obtain ⟨V, hV⟩ : ∃ V, vo B r = V := ⟨_, rfl⟩
    have HV : Hid ((∀ d, d < B → sgn d = (lw r : Int) → V = d) ∧ ((∀ e, e < B → sgn e ≠ (lw r : Int)) → V = B)) := ⟨fun d h1 h2 => by rw [← hV]; exact vo_hit hB2 h1 h2, fun h => by rw [← hV]; exact vo_miss hB2 h⟩
    rw [hV]
    rw [el] at HV hl
    obtain ⟨q, hq0⟩ : ∃ q, q = r := ⟨_, rfl⟩
    rw [← hq0] at HV hl hu hr ⊢
    clear hT hV el hq0
    by_cases u1 : (65 : Int) ≤ (q : Int)
    · have u2 : ¬ (q : Int) ≤ 90 := by omega

      go_enter Tryd.func51, Tryd.ntmps51
      go_wp2_with fail
      go_loop [15] (fun i => ∃ d : Nat, d ≤ B ∧ i = .int .i64 (d : Int) ∧ Hid (∀ e, e < d → sgn e ≠ (q : Int))) (fun i => B - (intOf i).toNat)
      case atStart => exact ⟨0, Nat.zero_le _, rfl, fun e h => absurd h (Nat.not_lt_zero _)⟩
      case round =>
        obtain ⟨d, hd, rfl, HN⟩ := hrel
        by_cases hlt : d < B
        · have hd36 : d < 36 := by omega
          have c1 := HT.out d hd36
          have hr2 := sgn_range hd36
          by_cases hq : sgn d = (q : Int)
          · have hv := HV.out.1 d hlt hq
            subst hv
            generalize sgn V = x at *
            go_wp2
            go_ret
            exact ⟨rfl, rfl⟩
          · have hq2 : (sgn d == (q : Int)) = false := by simpa using hq
            have HN2 : Hid (∀ e, e < d + 1 → sgn e ≠ (q : Int)) := fun e he => by
              rcases Nat.lt_or_ge e d with h | h
              · exact HN.out e h
              · obtain rfl : e = d := by omega
                exact hq
            generalize sgn d = x at *
            clear HN
            go_wp2
            go_round
            case rel => exact ⟨d + 1, by omega, by go_num, HN2⟩
            case measure => first | (simp [intOf]; done) | (simp [intOf]; omega)
        · obtain rfl : d = B := by omega
          have hv := HV.out.2 HN.out
          subst hv
          go_wp2
          go_ret
          exact ⟨rfl, rfl⟩
    · skip

      go_enter Tryd.func51, Tryd.ntmps51
      go_wp2_with fail
      go_loop [15] (fun i => ∃ d : Nat, d ≤ B ∧ i = .int .i64 (d : Int) ∧ Hid (∀ e, e < d → sgn e ≠ (q : Int))) (fun i => B - (intOf i).toNat)
      case atStart => exact ⟨0, Nat.zero_le _, rfl, fun e h => absurd h (Nat.not_lt_zero _)⟩
      case round =>
        obtain ⟨d, hd, rfl, HN⟩ := hrel
        by_cases hlt : d < B
        · have hd36 : d < 36 := by omega
          have c1 := HT.out d hd36
          have hr2 := sgn_range hd36
          by_cases hq : sgn d = (q : Int)
          · have hv := HV.out.1 d hlt hq
            subst hv
            generalize sgn V = x at *
            go_wp2
            go_ret
            exact ⟨rfl, rfl⟩
          · have hq2 : (sgn d == (q : Int)) = false := by simpa using hq
            have HN2 : Hid (∀ e, e < d + 1 → sgn e ≠ (q : Int)) := fun e he => by
              rcases Nat.lt_or_ge e d with h | h
              · exact HN.out e h
              · obtain rfl : e = d := by omega
                exact hq
            generalize sgn d = x at *
            clear HN
            go_wp2
            go_round
            case rel => exact ⟨d + 1, by omega, by go_num, HN2⟩
            case measure => first | (simp [intOf]; done) | (simp [intOf]; omega)
        · obtain rfl : d = B := by omega
          have hv := HV.out.2 HN.out
          subst hv
          go_wp2
          go_ret
          exact ⟨rfl, rfl⟩
end Go.Proofs.YtaflidiokhaljaaDoor
