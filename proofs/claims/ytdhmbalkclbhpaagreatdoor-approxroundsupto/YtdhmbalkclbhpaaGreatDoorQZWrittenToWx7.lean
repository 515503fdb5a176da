/-
  QZWrittenToWx7: ZWritten, Fw7, Wx7, joined.
-/
import Derived.Test.YtdhmbalkclbhpaaGreatDoorQZRead
import Derived.Test.YtdhmbalkclbhpaaGreatDoorQTailToZMet
import Derived.Test.YtdhmbalkclbhpaaGreatDoorQTailX
import Derived.Deep.LoopGhost
import Derived.Test.YtdhmbalkclbhpaaGreatDoorQOpenU7ToFr7
import Derived.Test.YtdhmbalkclbhpaaGreatDoorQWv7
import Derived.Test.YtdhmbalkclbhpaaGreatDoorQSign4ToTherePure
import Derived.Test.YtdhmbalkclbhpaaGreatDoorQSp7ToWt7

/- ZWritten -/
namespace Go.Proofs.YtdhmbalkclbhpaaGreatDoor
open Go.RowKit
set_option linter.unusedVariables false

theorem Zi.parts {w : World} {v0 v1 : Value} {z : Int} {k : Nat} (h : Zi w (.agg #[v0, v1]) z k) : ∃ n, ∃ xs : List Int, ∃ a c, v0 = .bool n ∧ v1 = .slice a xs.length c := by
  obtain ⟨n, xs, a, c, e, _⟩ := h
  simp only [Value.agg.injEq, Array.mk.injEq, List.cons.injEq, and_true] at e
  exact ⟨n, xs, a, c, e.1, e.2⟩
theorem ten_pw : ∀ j : Nat, ((10 ^ j : Nat) : Int) ≤ pw j
  | 0 => by simp [pw]
  | j + 1 => by
    have h := ten_pw j
    have h0 : (0 : Int) ≤ ((10 ^ j : Nat) : Int) := Int.natCast_nonneg _
    have e : ((10 ^ (j + 1) : Nat) : Int) = ((10 ^ j : Nat) : Int) * 10 := by rw [Nat.pow_succ, Int.natCast_mul]; rfl
    rw [e]
    show _ ≤ wB * pw j
    unfold wB
    generalize ((10 ^ j : Nat) : Int) = x at *
    generalize pw j = y at *
    omega
theorem dgt_good {c : UInt8} (h : dv c.toNat < 10) : dgt c = (dv c.toNat : Int) := by
  unfold dgt
  unfold dv at h ⊢
  (repeat' split) <;> (repeat' split at h) <;> omega
theorem dgt_bad {c : UInt8} (h : ¬ dv c.toNat < 10) : dgt c = -1 := by
  unfold dgt
  unfold dv at h
  (repeat' split) <;> (repeat' split at h) <;> omega
/-- The number of the first j digits. -/
def hv (d : List UInt8) (j : Nat) : Int := ((ofD 10 (dsL (d.take j)) : Nat) : Int)
theorem hv_step {d : List UInt8} {j : Nat} (h : j < d.length) (hg : Good 10 (d.take j)) (hc : dv d[j].toNat < 10) : Good 10 (d.take (j + 1)) ∧ hv d j * 10 + dgt d[j] = hv d (j + 1) := by
  have e : d.take (j + 1) = d.take j ++ [d[j]] := by rw [List.take_add_one, List.getElem?_eq_getElem h]; rfl
  unfold hv
  rw [e]
  refine ⟨fun b hb => ?_, ?_⟩
  · rcases List.mem_append.1 hb with q | q
    · exact hg b q
    · rw [List.mem_singleton.1 q]; exact hc
  · have e2 : dsL (d.take j ++ [d[j]]) = dsL (d.take j) ++ [dv d[j].toNat] := by unfold dsL; rw [List.map_append]; rfl
    rw [e2, ofD_snoc, dgt_good hc]
    omega
theorem hv_fit {d : List UInt8} {j : Nat} (h : j ≤ d.length) (hg : Good 10 (d.take j)) : ((hv d j).natAbs : Int) < pw (j + 1) := by
  have h1 := ofD_lt (B := 10) (by omega) (dsL (d.take j)) (fun x hx => by obtain ⟨b, hb, rfl⟩ := List.mem_map.1 hx; exact hg b hb)
  have h2 : (dsL (d.take j)).length = j := by simp [dsL]; omega
  rw [h2] at h1
  have h3 := ten_pw j
  have h4 := pw_up (show j ≤ j + 1 by omega)
  unfold hv
  generalize 10 ^ j = x at *
  generalize ofD 10 (dsL (d.take j)) = y at *
  generalize pw j = u at *
  generalize pw (j + 1) = v at *
  omega
theorem hv_bad {d : List UInt8} {j : Nat} (h : j < d.length) (hc : ¬ dv d[j].toNat < 10) : ¬ Good 10 d := fun q => hc (q _ (List.getElem_mem h))
/-- What written answers. -/
def WrPost (w : World) (l : List UInt8) (t : Nat) (e : Ending) (w' : World) : Prop :=
  (Good 10 (l.drop t) ∧ ∃ r, e = .returned (.tuple #[r, .bool (decide (t < l.length))]) ∧ Zm w.heap.size w' r ((ofD 10 (dsL (l.drop t)) : Nat) : Int) (l.length + 1) ∧ Below w.heap.size w w') ∨
  (¬ Good 10 (l.drop t) ∧ ∃ r z k, e = .returned (.tuple #[r, .bool false]) ∧ Zm w.heap.size w' r z k ∧ Below w.heap.size w w')
def WrH (w : World) (d : List UInt8) (n t br bv bt : Nat) (t0 t1 : Value) (g : Nat) (s : Value) (wx : World) : Prop :=
  ∃ i j : Nat, ∃ p0 p1 : Value, s = .int .i64 (i : Int) ∧ i = t + j ∧ j ≤ n ∧ g = n - j ∧ Good 10 (d.take j) ∧ Zm w.heap.size wx (.agg #[p0, p1]) (hv d j) (j + 1) ∧ Duo wx bv p0 p1 ∧ Duo wx bt t0 t1 ∧ Zi wx (.agg #[t0, t1]) 10 1 ∧ Duo wx br (.bool false) (.slice none 0 0) ∧ Below w.heap.size w wx

end Go.Proofs.YtdhmbalkclbhpaaGreatDoor

/- Fw7 -/
namespace Go.Proofs.YtdhmbalkclbhpaaGreatDoor
open Go.RowKit
set_option linter.unusedVariables false

theorem dg_nat {u : Nat} (h : u < 10) : (UInt8.ofNat (48 + u)).toNat = 48 + u := by
  rw [UInt8.toNat_ofNat']
  exact Nat.mod_eq_of_lt (by omega)
theorem dg_dv {u : Nat} (h : u < 10) : dv (UInt8.ofNat (48 + u)).toNat = u := by
  rw [dg_nat h]
  unfold dv
  (repeat' split) <;> omega
/-- The digits that Itoa writes. -/
theorem dec_facts (u : Nat) : Good 10 (Lib.decDigits u) ∧ ofD 10 (dsL (Lib.decDigits u)) = u ∧ ∃ c t, Lib.decDigits u = c :: t ∧ (c = 48 → t = []) := by
  induction u using Nat.strongRecOn with
  | ind u ih =>
    by_cases h : u < 10
    · rw [Lib.decDigits_one h]
      have e : dsL [UInt8.ofNat (48 + u)] = [u] := by simp only [dsL, List.map_cons, List.map_nil, dg_dv h]
      refine ⟨fun b hb => ?_, by rw [e, ofD_one], _, _, rfl, fun _ => rfl⟩
      rw [List.mem_singleton.1 hb, dg_dv h]
      exact h
    · have e : Lib.decDigits u = Lib.decDigits (u / 10) ++ [UInt8.ofNat (48 + u % 10)] := by rw [Lib.decDigits, dif_neg h]
      obtain ⟨h1, h2, c, t, h3, h4⟩ := ih (u / 10) (by omega)
      have h10 : u % 10 < 10 := Nat.mod_lt _ (by omega)
      have e2 : dsL [UInt8.ofNat (48 + u % 10)] = [u % 10] := by simp only [dsL, List.map_cons, List.map_nil, dg_dv h10]
      rw [e]
      refine ⟨fun b hb => ?_, by rw [dsL_app, e2, ofD_snoc, h2]; omega, c, t ++ [UInt8.ofNat (48 + u % 10)], by rw [h3]; rfl, fun q => ?_⟩
      · rcases List.mem_append.1 hb with q | q
        · exact h1 b q
        · rw [List.mem_singleton.1 q, dg_dv h10]
          exact h10
      · have ht := h4 q
        rw [h3, ht, q] at h2
        have : ofD 10 (dsL [(48 : UInt8)]) = 0 := rfl
        omega
theorem itoa_facts (x : Nat) : Good 10 (Lib.itoa (x : Int)) ∧ ofD 10 (dsL (Lib.itoa (x : Int))) = x ∧ ∃ c t, Lib.itoa (x : Int) = c :: t ∧ (c = 48 → t = []) := by
  have e : Lib.itoa (x : Int) = Lib.decDigits x := by unfold Lib.itoa; rw [if_neg (by omega)]; simp
  rw [e]
  exact dec_facts x
/-- Where the digit j stands, where the law looks at the start of round j, where the e stands. -/
def ps7 (j : Nat) : Nat := if j = 0 then 0 else j + 1
def ip7 (j : Nat) : Nat := if j ≤ 1 then j else j + 1
/-- The text without its sign. -/
def bodyT (d : List UInt8) (n x : Nat) : List UInt8 := d.take 1 ++ (if 1 < n then 46 :: d.drop 1 else []) ++ [101] ++ Lib.itoa (x : Int)
theorem sciT_pos (d : List UInt8) (n x : Nat) : sciT false d n x = bodyT d n x := by
  unfold sciT bodyT
  rw [if_neg (by simp), List.nil_append]
theorem sciT_neg (d : List UInt8) (n x : Nat) : sciT true d n x = 45 :: bodyT d n x := by
  unfold sciT bodyT
  rw [if_pos rfl]
  simp only [List.cons_append, List.nil_append]
theorem body_facts {d : List UInt8} {n x : Nat} (hn : 1 ≤ n) (hd : d.length = n) :
    (bodyT d n x).length = ip7 n + 1 + (Lib.itoa (x : Int)).length ∧ (∀ j, j < n → (bodyT d n x)[ps7 j]? = d[j]?) ∧ (1 < n → (bodyT d n x)[1]? = some 46) ∧ (bodyT d n x)[ip7 n]? = some 101 ∧
    ∀ q, (bodyT d n x)[ip7 n + 1 + q]? = (Lib.itoa (x : Int))[q]? := by
  unfold bodyT
  generalize Lib.itoa (x : Int) = I
  match d, hd with
  | [], h => simp at h; omega
  | c :: r, h =>
    simp only [List.length_cons] at h
    by_cases h1 : 1 < n
    · have e : (c :: r).take 1 ++ (if 1 < n then 46 :: (c :: r).drop 1 else []) ++ [101] ++ I = c :: 46 :: (r ++ 101 :: I) := by rw [if_pos h1]; simp
      have e2 : ip7 n = r.length + 2 := by unfold ip7; rw [if_neg (by omega)]; omega
      rw [e, e2]
      refine ⟨by simp; omega, fun j hj => ?_, fun _ => rfl, ?_, fun q => ?_⟩
      · match j with
        | 0 => rfl
        | j + 1 =>
          have : ps7 (j + 1) = j + 2 := by unfold ps7; rw [if_neg (by omega)]
          rw [this]
          simp only [List.getElem?_cons_succ]
          rw [List.getElem?_append_left (by omega)]
      · simp
      · rw [show r.length + 2 + 1 + q = (r.length + 1 + q) + 1 + 1 by omega]
        simp only [List.getElem?_cons_succ]
        rw [List.getElem?_append_right (by omega), show r.length + 1 + q - r.length = q + 1 by omega]
        simp
    · have hr : r = [] := List.length_eq_zero_iff.1 (by omega)
      subst hr
      obtain rfl : n = 1 := by omega
      refine ⟨by simp [ip7]; omega, fun j hj => ?_, fun q => absurd q h1, rfl, fun q => ?_⟩
      · obtain rfl : j = 0 := by omega
        rfl
      · simp only [ip7, if_pos (Nat.le_refl 1)]
        rw [if_neg (by omega), show 1 + 1 + q = q + 1 + 1 by omega]
        rfl
end Go.Proofs.YtdhmbalkclbhpaaGreatDoor

/- Wx7 -/
namespace Go.Proofs.YtdhmbalkclbhpaaGreatDoor
open Go.RowKit
set_option linter.unusedVariables false

/-- The text of 10 to the power k. -/
def tenL (k : Nat) : List UInt8 := 49 :: List.replicate k 48
def tenI (k : Nat) : List Int := 49 :: List.replicate k 48
theorem tenI_len (k : Nat) : (tenI k).length = k + 1 := by simp [tenI]
theorem tenI_next (k : Nat) : tenI k ++ [48] = tenI (k + 1) := by
  unfold tenI
  rw [List.cons_append, ← List.replicate_succ']
theorem tenI_str (k : Nat) : strOfNums (tenI k) = ⟨(tenL k).toArray⟩ := by
  rw [← str_of_txt]
  congr 1
  simp [tenI, tenL]
theorem tenL_cut (k : Nat) : cutS (tenL k) = (false, tenL k) := by
  unfold cutS tenL
  rw [if_neg (by simp), if_neg (by simp), if_neg (by simp)]
theorem tenL_good (k : Nat) : Good 10 (tenL k) := fun b hb => by
  unfold tenL at hb
  rcases List.mem_cons.1 hb with rfl | q
  · decide
  · rw [List.eq_of_mem_replicate q]; decide
theorem tenL_takes (k : Nat) : Takes (tenL k) := by
  unfold Takes
  rw [tenL_cut]
  exact ⟨by simp [tenL], tenL_good k⟩
theorem tenL_val (k : Nat) : sval (tenL k) = ((10 ^ k : Nat) : Int) := by
  unfold sval
  rw [tenL_cut, if_neg (by simp)]
  have e : dsL (tenL k) = [1] ++ List.replicate k 0 := by
    unfold dsL tenL
    rw [List.map_cons, List.map_replicate]
    rfl
  rw [e, ofD_zeros]
  simp [ofD]
theorem Bys.one (w : World) (c : Int) : Bys w.heap.size (w.alloc (.cells #[.int .u8 c] 5)) (.slice (some ⟨w.heap.size, 0, none⟩) 1 1) [c] :=
  ⟨rfl, .inr ⟨w.heap.size, 1, #[.int .u8 c], rfl, Nat.le_refl _, heap_alloc_new w _, Nat.le_refl _, by unfold maxLen; omega, rfl, rfl⟩⟩
theorem ten_read {w : World} {k : Nat} (hT : Sg w) (hk : k ≤ 100000000) : Calls Tryz.prog 24 #[.string ⟨(tenL k).toArray⟩] w fun e w' => ∃ r, e = .returned (.tuple #[r, .int .i64 0]) ∧ Zm 0 w' r ((10 ^ k : Nat) : Int) 35184372088832 ∧ Below w.heap.size w w' := by
  rw [← tenL_val]
  refine (read_z hT (by simp [tenL]; omega)).mono fun e w' q => ?_
  rcases q with ⟨_, q⟩ | ⟨g, _⟩
  · exact q
  · exact absurd (tenL_takes k) g
set_option maxRecDepth 100000 in
set_option maxHeartbeats 6400000 in
theorem ten_z {w : World} {k : Nat} (hT : Sg w) (hk : k ≤ 100000000) : Calls Tryz.prog 12 #[.int .i64 (k : Int)] w fun e w' => ∃ r, e = .returned r ∧ Zm 0 w' r ((10 ^ k : Nat) : Int) 35184372088832 ∧ Below w.heap.size w w' := by
  have HR : Hid (∀ w, Sg w → Calls Tryz.prog 24 #[.string ⟨(tenL k).toArray⟩] w fun e w' => ∃ r, e = .returned (.tuple #[r, .int .i64 0]) ∧ Zm 0 w' r ((10 ^ k : Nat) : Int) 35184372088832 ∧ Below w.heap.size w w') := fun w h => ten_read h hk
  generalize ((10 ^ k : Nat) : Int) = V at *
  have b0 := (Below.refl w.heap.size w).alloc (Nat.le_refl _) zbox
  have p0 := duo_at (w := w) (x := .bool false) (y := .slice none 0 0) rfl
  obtain ⟨W0, hW0⟩ : ∃ W0, w.alloc zbox = W0 := ⟨_, rfl⟩
  have sz0 : W0.heap.size = w.heap.size + 1 := by rw [← hW0]; simp
  change Duo (w.alloc zbox) _ _ _ at p0
  rw [hW0] at b0 p0
  have EW := hid hW0
  have G := hid b0
  have PR := hid p0
  have HT := hid (hT.now b0)
  have ka := (Below.refl W0.heap.size W0).alloc (Nat.le_refl _) (.cells #[.int .u8 49] 5)
  have HB0 : Hid (Bys W0.heap.size (W0.alloc (.cells #[.int .u8 49] 5)) (.slice (some ⟨w.heap.size + 1, 0, none⟩) 1 1) (tenI 0)) := by unfold Hid; rw [← sz0]; exact Bys.one W0 49
  have HS0 := hid sz0
  have K0 := hid ka
  clear hW0 b0 p0 hT ka sz0
  go_enter Tryz.func12, Tryz.ntmps12
  go_wp2_with fail
  rw [EW.out]
  clear EW
  go_loopw [3, 4] (fun s3 i wr => ∃ (j : Nat), j ≤ k ∧ i = .int .i64 (j : Int) ∧ Hid (Bys W0.heap.size wr s3 (tenI j)) ∧ Hid (Below W0.heap.size W0 wr)) (fun _ i _ => k - (intOf i).toNat)
  case atStart => exact ⟨0, Nat.zero_le _, rfl, HB0, K0⟩
  case round =>
    clear HB0 K0
    obtain ⟨j, hj, rfl, HBY, KK⟩ := hrel
    obtain ⟨xa, xc, hx⟩ := HBY.out.form
    subst hx
    have HLJ := hid (tenI_len j)
    by_cases hlt : j < k
    · have ka := (Below.refl wr.heap.size wr).alloc (Nat.le_refl _) (.cells #[.int .u8 48] 5)
      have HB1 := hid (HBY.out.now ka)
      have HE1 := hid (below_step KK.out ka)
      have HCC : Hid ((wr.alloc (.cells #[.int .u8 48] 5)).cell? ⟨wr.heap.size, 0, none⟩ = some (.int .u8 48)) := by unfold Hid; simp
      have HPL : Hid ((tenI j).length ≤ 1000000000) := by unfold Hid; rw [HLJ.out]; omega
      have HSZ : Hid (W0.heap.size ≤ (wr.alloc (.cells #[.int .u8 48] 5)).heap.size) := HE1.out.size
      clear HBY KK ka
      go_wp2_with (at_builtin; refine wpList_append_byte _ rfl (.tmp 13) (.tmp 14) rfl W0.heap.size _ (tenI j) 48 rfl HB1.out wr.heap.size rfl HCC.out HPL.out HSZ.out ?_)
      intro a' cap' w4 hB4 hK4 hE4
      have HB4 : Hid (Bys W0.heap.size w4 (.slice a' ((tenI j).length + 1) cap') (tenI (j + 1))) := by unfold Hid; rw [← tenI_next]; exact hB4.out
      have HE4 : Hid (Below W0.heap.size W0 w4) := HE1.out.trans hE4.out
      clear hB4 hK4 hE4 HB1 HE1 HCC HPL HSZ
      go_wp2
      go_roundw
      case rel => exact ⟨j + 1, by omega, by go_num, HB4, HE4⟩
      case measure => first | (simp [intOf]; done) | (simp [intOf]; omega)
    · obtain rfl : j = k := by omega
      obtain ⟨g, hga, hn, hce⟩ := HBY.out.cells (by rw [HLJ.out]; omega)
      subst hga
      have PR1 := hid (PR.out.below KK.out (by rw [HS0.out]; omega))
      have G1 := hid (below_step G.out KK.out)
      have HT1 := hid (HT.out.now KK.out)
      have hcv := run_convert_bytes_arg (P := Tryz.prog) wr 45 5 Tryz.underlying45 Tryz.underlying5 g 0 (tenI j).length xc (tenI j) rfl hce 9 Tryz.underlying9
      rw [tenI_str] at hcv
      have HRR := hid (HR.out wr HT1.out)
      generalize (⟨(tenL j).toArray⟩ : ByteArray) = s at *
      generalize (tenI j).length = m at *
      clear HBY hce HR PR G HT
      go_wp2_with fail
      refine HRR.out.mono ?_
      rintro e w1 ⟨r, rfl, m1, b1⟩
      obtain ⟨n1, x1, a1, c1, rfl, -⟩ := m1.zi
      obtain ⟨V1, hW⟩ : ∃ V1, w1.alloc (duo (.bool n1) (.slice a1 x1.length c1)) = V1 := ⟨_, rfl⟩
      have kW : Below w1.heap.size w1 V1 := by rw [← hW]; exact (Below.refl _ _).alloc (Nat.le_refl _) _
      have pn : Duo V1 w1.heap.size (.bool n1) (.slice a1 x1.length c1) := by rw [← hW]; exact duo_at rfl
      have PR2 := hid ((PR1.out.step b1).step kW)
      have G2 := hid (below_step (below_step G1.out b1) kW)
      have Z := hid (m1.now kW)
      have cn0 := pn.c0
      have cn1 := pn.c1
      have r0 := PR2.out.c0
      have r1 := PR2.out.c1
      have f0 := PR2.out.fz 0
      have f1 := PR2.out.fz 1
      rw [← hW] at cn0 cn1 r0 r1 f0 f1
      have EW := hid hW
      clear hW kW pn m1 b1 HRR PR1 G1 hcv
      go_wp2
      rw [EW.out]
      exact bodyPost_ret (zback Tryz.results12 (PR2.out.set _ _) _ (by rfl)) rfl ⟨_, rfl, Z.out.box PR2.out _ _, bset (bset G2.out (by omega)) (by omega)⟩
end Go.Proofs.YtdhmbalkclbhpaaGreatDoor
