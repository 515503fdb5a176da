/-
  QTextToBuild4: Text, Dec4, Build4, joined.
-/
import Derived.Test.YtiiemeigbnnlpaaGreatDoorQSquaresToTrimL
import Derived.Laws.BytesArg
import Derived.Shelf.Strings.BuilderK
import Derived.Shelf.Strings.BuilderRune
import Derived.WalkKit
import Derived.BigCall

/- Text -/
namespace Go.Proofs.YtiiemeigbnnlpaaGreatDoor
open Go.RowKit
set_option linter.unusedVariables false

/-- The sign of a digit, as a byte. -/
def sgnB (d : Nat) : UInt8 := UInt8.ofNat (sgn d).toNat
theorem sgnB_nat {d : Nat} (h : d < 36) : (sgnB d).toNat = (sgn d).toNat := by
  unfold sgnB
  have : (sgn d).toNat < 256 := by unfold sgn; split <;> omega
  rw [UInt8.toNat_ofNat', Nat.mod_eq_of_lt this]
theorem sgnB_zero {d : Nat} (h : d < 36) : (sgnB d == 48) = (d == 0) := by
  have h1 := sgnB_nat h
  by_cases e : d = 0
  · subst e; rfl
  · have : sgnB d ≠ 48 := by
      intro q
      rw [q] at h1
      have h2 : (48 : UInt8).toNat = 48 := rfl
      rw [h2] at h1
      unfold sgn at h1
      split at h1 <;> omega
    rw [beq_eq_false_iff_ne.2 this, beq_eq_false_iff_ne.2 e]
theorem drop_signs : ∀ (ds : List Nat), (∀ d ∈ ds, d < 36) → (ds.map sgnB).dropWhile (· == 48) = (lead ds).map sgnB
  | [], _ => rfl
  | d :: t, h => by
    have hd := sgnB_zero (h d (List.mem_cons_self ..))
    unfold lead
    rw [List.map_cons, List.dropWhile_cons, List.dropWhile_cons, hd]
    split
    · exact drop_signs t (fun x hx => h x (List.mem_cons_of_mem _ hx))
    · rfl
/-- The text of n to the base B, as bytes. -/
def txtL (B n : Nat) : List UInt8 := if n = 0 then [48] else (lead (digF B n n)).map sgnB
def txt (B n : Nat) : ByteArray := ⟨(txtL B n).toArray⟩
theorem lt_pow_self {B : Nat} (hB : 2 ≤ B) (n : Nat) : n < B ^ n := Nat.lt_of_lt_of_le (Nat.lt_two_pow_self) (Nat.pow_le_pow_left hB n)
theorem lead_nil {B m n : Nat} (h : lead (digF B m n) = []) (hn : n < B ^ m) : n = 0 := by
  have h1 := ofD_lead B (digF B m n)
  rw [h, ofD_digF, Nat.mod_eq_of_lt hn] at h1
  exact h1.symm
theorem lead_zero (B m : Nat) : lead (digF B m 0) = [] := by
  rw [digF_zero]
  have := lead_zeros m []
  rw [List.append_nil] at this
  rw [this]
  rfl
theorem strOfNums_signs (ds : List Nat) : strOfNums (ds.map sgn) = ⟨(ds.map sgnB).toArray⟩ := by
  unfold strOfNums
  rw [List.map_map]
  rfl
/-- What Text is to answer, by its digits in a room of m places. -/
theorem txt_room {B m n : Nat} (hB : 2 ≤ B) (hB2 : B ≤ 36) (hn : n < B ^ m) : ((digF B m n).map sgnB).dropWhile (· == 48) = if n = 0 then [] else txtL B n := by
  rw [drop_signs _ (fun d hd => Nat.lt_of_lt_of_le (digF_lt (by omega) m n d hd) hB2)]
  by_cases h : n = 0
  · subst h
    rw [if_pos rfl, lead_zero]
    rfl
  · rw [if_neg h, txtL, if_neg h, leadD_any hn (lt_pow_self hB n)]
theorem txtL_ne {B n : Nat} (hB : 2 ≤ B) (h : n ≠ 0) : txtL B n ≠ [] := by
  unfold txtL
  rw [if_neg h]
  intro e
  exact h (lead_nil (List.map_eq_nil_iff.1 e) (lt_pow_self hB n))
theorem room_small {B D k : Nat} {xs : List Int} (hB : 2 ≤ B) (hD : D ≤ 64) (hx : WF xs) (lx : xs.length ≤ 1048576) (h : ∀ i, i < k → (B ^ D) ^ 2 ^ i ≤ vn xs) : D * 2 ^ k ≤ 134217728 := by
  cases k with
  | zero => simp; omega
  | succ k =>
    have h1 := h k (Nat.lt_succ_self k)
    have h2 := Nat.lt_of_le_of_lt h1 (vn_lt_two hx)
    rw [← Nat.pow_mul] at h2
    have h3 : 2 ^ (D * 2 ^ k) ≤ B ^ (D * 2 ^ k) := Nat.pow_le_pow_left hB _
    have h4 := (Nat.pow_lt_pow_iff_right (by omega : 1 < 2)).1 (Nat.lt_of_le_of_lt h3 h2)
    rw [Nat.pow_succ, ← Nat.mul_assoc]
    omega
theorem below_touch {B : Nat} {w w1 w2 : World} {S : Nat → Prop} (h : Below B w w1) (ht : Touch S w1 w2) (hS : ∀ g, S g → B ≤ g) (hB : B ≤ w1.heap.size) : Below B w w2 :=
  ⟨ht.os.trans h.os, ht.tape.trans h.tape, ht.output.trans h.output, Nat.le_trans h.size ht.size, fun k hk => (ht.block k (by omega) (fun q => by have := hS k q; omega)).trans (h.block k hk)⟩
theorem canon_one {x : Nat} (h0 : 0 < x) (h1 : x < 18446744073709551616) : Canon [(x : Int)] ∧ vn [(x : Int)] = x := by
  have hw : WF [(x : Int)] := wf_word (by omega) WF.nil
  refine ⟨⟨hw, ?_⟩, ?_⟩
  · simp [wid]
    omega
  · have := val_vn hw
    simp [val] at this
    omega
set_option maxRecDepth 100000 in
set_option maxHeartbeats 6400000 in
theorem text_any {w : World} {va : Value} {xs : List Int} {B : Nat} (ha : Sl w.heap.size w va xs) (lx : xs.length ≤ 1048576) (hB : 2 ≤ B) (hB2 : B ≤ 36) (hT : Sg w) :
    Calls Tryz.prog 12 #[va, .int .i64 (B : Int)] w fun e w' => e = .returned (.tuple #[.string (txt B (vn xs)), .int .i64 0]) ∧ Below w.heap.size w w' := by
  have HA := hid ha
  have HT := hid hT
  have HIB := hid (isBase_any (B : Int) (by omega) (by omega) w)
  rw [decide_eq_true (show (2 : Int) ≤ (B : Int) ∧ (B : Int) ≤ 36 by omega)] at HIB
  have HWF := hid (wordful_any hB hB2 w)
  obtain ⟨aa, ca, hva⟩ : ∃ a c, va = .slice a xs.length c := by obtain ⟨_, a, c, e, _⟩ := ha; exact ⟨a, c, e⟩
  subst hva
  clear ha hT
  go_enter Tryz.func12, Tryz.ntmps12
  go_wp2_with fail
  refine HIB.out.mono ?_
  rintro e w0 ⟨rfl, rfl⟩
  clear HIB
  go_wp2_with fail
  refine HWF.out.mono ?_
  rintro e w1 ⟨D, hD, rfl, mP, k1⟩
  have HD := hid hD
  have K1 := hid k1
  obtain ⟨hd1, hd2, hd3, hd4⟩ := hD
  have hpp : 2 ≤ B ^ D := Nat.le_trans hB (Nat.le_self_pow (by omega) B)
  have hco := canon_one (by omega) hd3
  have HSQ := hid (squares_any (P := B ^ D) (xs := xs) mP hco.1 hco.2 hpp (HA.out.now k1) (by simp) lx)
  clear HWF mP k1 hco
  go_wp2_with fail
  refine HSQ.out.mono ?_
  rintro e w2 ⟨Ps, pa, pc, rfl, hpc, hpl, hBu, hE, hLo, hHi, k2⟩
  have K2 := hid (below_step K1.out k2)
  have HLW := hid hBu.lw
  have HE : Hid (∀ i (h : i < Ps.length), vn Ps[i] = B ^ (D * 2 ^ i) ∧ Ps[i].length ≤ 1099511627776) := fun i h => ⟨by rw [(hE i h).1, ← Nat.pow_mul], by have := (hE i h).2; omega⟩
  have HHI : Hid (vn xs < B ^ (D * 2 ^ Ps.length)) := by unfold Hid; rw [Nat.pow_mul]; exact hHi
  have hsm := room_small hB hd2 HA.out.1 lx hLo
  obtain ⟨m, hm⟩ : ∃ m, m = D * 2 ^ Ps.length := ⟨_, rfl⟩
  have hm1 : 0 < m := by rw [hm]; exact Nat.mul_pos (by omega) (Nat.pow_pos (by omega))
  have HM := hid hm
  rw [← hm] at HHI hsm
  have HWR : Hid (wrap64 ((D : Int) * 2 ^ Ps.length) = (m : Int)) := by
    unfold Hid
    have e1 : (D : Int) * 2 ^ Ps.length = ((D * 2 ^ Ps.length : Nat) : Int) := by simp
    rw [e1, ← hm]
    unfold wrap64
    omega
  have hm35 : m ≤ 35184372088832 := by omega
  clear HSQ hBu hE hLo hHi k2 K1 hm
  go_wp2_with (at_make; refine wpList_make_bytes _ rfl (.tmp 25) (.tmp 25) rfl _ _ m rfl rfl HWR.out HWR.out hm35 ?_)
  intro w3 hR hB3
  have K3 := hid (below_step K2.out hB3.out)
  have HLW3 := hid (HLW.out.now hB3.out)
  have HGE : Hid (w0.heap.size ≤ w2.heap.size) := K2.out.size
  have HSZ : Hid (0 < w2.heap.size) := Nat.lt_of_lt_of_le HT.out.pos K2.out.size
  have HWO := hid (write_any (B := B) (M := fun k => D * 2 ^ k) hB hB2 (by simp; omega) (by simp; omega) (fun k => by simp only [Nat.pow_succ, ← Nat.mul_assoc]; omega) Ps.length w3 w2.heap.size 0 m pc (List.replicate m 0) (.slice aa xs.length ca) xs pa Ps hR.out (by simp [HM.out]) (HT.out.now K3.out) (by have := HSZ.out; omega) (by show D * 2 ^ Ps.length ≤ _; rw [← HM.out]; omega) (by show D * 2 ^ Ps.length ≤ _; rw [← HM.out]; exact Nat.le_refl _) (HA.out.now K3.out) (by omega) (by show _ < B ^ (D * 2 ^ Ps.length); rw [← HM.out]; exact HHI.out) rfl (by omega) hpc HLW3.out HE.out)
  simp only [] at HWO
  rw [← HM.out] at HWO
  clear HLW hR hB3 HLW3 HWR HE
  generalize w2.heap.size = g at *
  go_wp2_with fail
  refine HWO.out.mono ?_
  rintro e w4 ⟨rfl, r4, t4⟩
  have ew : wrote (List.replicate m 0) 0 m B (vn xs) = (digF B m (vn xs)).map sgn := by
    unfold wrote
    rw [List.take_zero, List.nil_append, List.drop_of_length_le (by simp), List.append_nil]
  rw [ew] at r4
  have hlen : ((digF B m (vn xs)).map sgn).length = m := by simp [digF_len]
  have hcv := run_convert_bytes_arg (P := Tryz.prog) w4 51 5 Tryz.underlying51 Tryz.underlying5 g 0 m m ((digF B m (vn xs)).map sgn) hlen (fun i hi => by
    rw [Nat.zero_add, r4.cell (by rw [hlen]; exact hi)]
    have hi' : i < ((digF B m (vn xs)).map sgn).length := by rw [hlen]; exact hi
    rw [List.getD_eq_getElem?_getD, List.getElem?_eq_getElem hi']
    rfl) 9 Tryz.underlying9
  rw [strOfNums_signs] at hcv
  have K4 : Hid (Below w0.heap.size w0 w4) := below_touch K3.out t4 (fun q e => by have e' : q = g := e; rw [e']; exact HGE.out) K3.out.size
  have HTR := hid (trimLeft_any ((digF B m (vn xs)).map sgnB) w4 (by simp [digF_len]; omega) (by intro q; have := congrArg List.length q; simp [digF_len] at this; omega))
  have HR := hid (txt_room hB hB2 HHI.out)
  clear HWO r4 t4 ew hlen
  generalize ((digF B m (vn xs)).map sgnB).dropWhile (· == 48) = res at *
  generalize (digF B m (vn xs)).map sgnB = src at *
  go_wp2_with fail
  refine HTR.out.mono ?_
  rintro e w5 ⟨rfl, rfl⟩
  clear HTR hcv
  by_cases hn : vn xs = 0
  · have hr : res = [] := by have := HR.out; rw [if_pos hn] at this; exact this
    have HX : Hid (txt B (vn xs) = ⟨#[48]⟩) := by unfold Hid txt txtL; rw [if_pos hn]
    subst hr
    clear HR hn
    go_wp2
    go_ret2
    exact ⟨by rw [HX.out]; rfl, K4.out⟩
  · have hr : res = txtL B (vn xs) := by have := HR.out; rw [if_neg hn] at this; exact this
    have HX : Hid (txt B (vn xs) = ⟨res.toArray⟩) := by unfold Hid txt; rw [hr]
    have hE : res.isEmpty = false := by rw [hr]; simpa using txtL_ne hB hn
    clear HR hn hr
    go_wp2
    go_ret2
    exact ⟨by rw [HX.out]; rfl, K4.out⟩
end Go.Proofs.YtiiemeigbnnlpaaGreatDoor

/- Dec4 -/
namespace Go.Proofs.YtiiemeigbnnlpaaGreatDoor
open Go.RowKit
set_option linter.unusedVariables false

/-- A list of one word that is written down. -/
theorem lit_one (w : World) (x : Int) (hx : IsW x) : Sl (w.alloc (.cells #[.int .u64 x] 38)).heap.size (w.alloc (.cells #[.int .u64 x] 38)) (.slice (some ⟨w.heap.size, 0, none⟩) 1 1) [x] :=
  lit_last w [x] #[.int .u64 x] rfl (wf_word (by unfold IsW wB at hx; omega) WF.nil) (by simp) 1 rfl
theorem dec_any {w : World} {va : Value} {xs : List Int} (ha : Sl w.heap.size w va xs) (lx : xs.length ≤ 1048576) (hT : Sg w) :
    Calls Tryz.prog 24 #[va] w fun e w' => e = .returned (.string (txt 10 (vn xs))) ∧ Below w.heap.size w w' := by
  have HT := hid (text_any (B := 10) ha lx (by omega) (by omega) hT)
  obtain ⟨a, c, rfl⟩ : ∃ a c, va = .slice a xs.length c := by obtain ⟨_, a, c, e, _⟩ := ha; exact ⟨a, c, e⟩
  clear ha hT
  generalize txt 10 (vn xs) = t at *
  go_enter Tryz.func24, Tryz.ntmps24
  go_wp2_with fail
  refine HT.out.mono ?_
  rintro e w1 ⟨rfl, k1⟩
  have K1 := hid k1
  clear k1 HT
  go_wp2
  go_ret
  exact ⟨rfl, K1.out⟩
theorem txtL_le {B n k : Nat} (hB : 2 ≤ B) (h : n < B ^ k) (hk : 1 ≤ k) : (txtL B n).length ≤ k := by
  unfold txtL
  split
  · simpa using hk
  · rw [List.length_map, leadD_any (lt_pow_self hB n) h]
    unfold lead
    exact Nat.le_trans (List.dropWhile_suffix _).length_le (Nat.le_of_eq (digF_len B k n))
theorem txt_size {B : Nat} {xs : List Int} (hB : 2 ≤ B) (hx : WF xs) (lx : xs.length ≤ 1048576) : (txt B (vn xs)).size ≤ 67108865 := by
  have h1 := vn_lt_two hx
  have h2 : 2 ^ (64 * xs.length) ≤ B ^ (64 * xs.length + 1) := Nat.le_trans (Nat.pow_le_pow_left hB _) (Nat.pow_le_pow_right (by omega) (Nat.le_succ _))
  have h3 := txtL_le hB (Nat.lt_of_lt_of_le h1 h2) (by omega)
  have h4 : (txt B (vn xs)).size = (txtL B (vn xs)).length := mk_size _
  omega
end Go.Proofs.YtiiemeigbnnlpaaGreatDoor

/- Build4 -/
namespace Go.Proofs.YtiiemeigbnnlpaaGreatDoor
open Go.RowKit

def ren4 : Go.Shelf.Ren := ⟨fun | 167 => 45 | 168 => 37 | 169 => 38 | 240 => 55 | 242 => 56 | 276 => 72 | 278 => 73 | n => n, fun | 0 => 0 | 3 => 3 | 4 => 4 | 5 => 5 | 9 => 9 | 20 => 20 | 21 => 21 | 37 => 51 | 46 => 115 | 51 => 107 | 70 => 58 | 72 => 60 | 75 => 62 | 76 => 63 | 78 => 76 | 79 => 64 | 80 => 65 | 127 => 90 | 164 => 105 | n => n, fun | n => n⟩
theorem lays167 : Go.Proofs.Lays.n167 Tryz.prog ren4 := {
  mixed := by kernel_rfl
  f167 := Tryz.func45.trans (congrArg some (by kernel_rfl))
  f240 := Tryz.func55.trans (congrArg some (by kernel_rfl))
  f276 := Tryz.func72.trans (congrArg some (by kernel_rfl))
  t0 := Tryz.underlying0
  a0 := Tryz.isAgg0
  z0 := Tryz.sizeOf0
  v0 := Tryz.zeroValue0
  t4 := Tryz.underlying4
  a4 := Tryz.isAgg4
  z4 := Tryz.sizeOf4
  v4 := Tryz.zeroValue4
  t5 := Tryz.underlying5
  a5 := Tryz.isAgg5
  z5 := Tryz.sizeOf5
  v5 := Tryz.zeroValue5
  t9 := Tryz.underlying9
  a9 := Tryz.isAgg9
  z9 := Tryz.sizeOf9
  v9 := Tryz.zeroValue9
  t20 := Tryz.underlying20
  a20 := Tryz.isAgg20
  z20 := Tryz.sizeOf20
  v20 := Tryz.zeroValue20
  t37 := Tryz.underlying51
  a37 := Tryz.isAgg51
  z37 := Tryz.sizeOf51
  v37 := Tryz.zeroValue51
  t70 := Tryz.underlying58
  a70 := Tryz.isAgg58
  z70 := Tryz.sizeOf58
  v70 := Tryz.zeroValue58
  t72 := Tryz.underlying60
  a72 := Tryz.isAgg60
  z72 := Tryz.sizeOf60
  v72 := Tryz.zeroValue60
  t75 := Tryz.underlying62
  a75 := Tryz.isAgg62
  z75 := Tryz.sizeOf62
  v75 := Tryz.zeroValue62
  t164 := Tryz.underlying105
  a164 := Tryz.isAgg105
  z164 := Tryz.sizeOf105
  v164 := Tryz.zeroValue105 }
theorem lays168 : Go.Proofs.Lays.n168 Tryz.prog ren4 := {
  mixed := by kernel_rfl
  f168 := Tryz.func37.trans (congrArg some (by kernel_rfl))
  f240 := Tryz.func55.trans (congrArg some (by kernel_rfl))
  f242 := Tryz.func56.trans (congrArg some (by kernel_rfl))
  f276 := Tryz.func72.trans (congrArg some (by kernel_rfl))
  f278 := Tryz.func73.trans (congrArg some (by kernel_rfl))
  t0 := Tryz.underlying0
  a0 := Tryz.isAgg0
  z0 := Tryz.sizeOf0
  v0 := Tryz.zeroValue0
  t3 := Tryz.underlying3
  a3 := Tryz.isAgg3
  z3 := Tryz.sizeOf3
  v3 := Tryz.zeroValue3
  t4 := Tryz.underlying4
  a4 := Tryz.isAgg4
  z4 := Tryz.sizeOf4
  v4 := Tryz.zeroValue4
  t5 := Tryz.underlying5
  a5 := Tryz.isAgg5
  z5 := Tryz.sizeOf5
  v5 := Tryz.zeroValue5
  t9 := Tryz.underlying9
  a9 := Tryz.isAgg9
  z9 := Tryz.sizeOf9
  v9 := Tryz.zeroValue9
  t20 := Tryz.underlying20
  a20 := Tryz.isAgg20
  z20 := Tryz.sizeOf20
  v20 := Tryz.zeroValue20
  t21 := Tryz.underlying21
  a21 := Tryz.isAgg21
  z21 := Tryz.sizeOf21
  v21 := Tryz.zeroValue21
  t37 := Tryz.underlying51
  a37 := Tryz.isAgg51
  z37 := Tryz.sizeOf51
  v37 := Tryz.zeroValue51
  t46 := Tryz.underlying115
  a46 := Tryz.isAgg115
  z46 := Tryz.sizeOf115
  v46 := Tryz.zeroValue115
  t51 := Tryz.underlying107
  a51 := Tryz.isAgg107
  z51 := Tryz.sizeOf107
  v51 := Tryz.zeroValue107
  t70 := Tryz.underlying58
  a70 := Tryz.isAgg58
  z70 := Tryz.sizeOf58
  v70 := Tryz.zeroValue58
  t72 := Tryz.underlying60
  a72 := Tryz.isAgg60
  z72 := Tryz.sizeOf60
  v72 := Tryz.zeroValue60
  t75 := Tryz.underlying62
  a75 := Tryz.isAgg62
  z75 := Tryz.sizeOf62
  v75 := Tryz.zeroValue62
  t164 := Tryz.underlying105
  a164 := Tryz.isAgg105
  z164 := Tryz.sizeOf105
  v164 := Tryz.zeroValue105 }
theorem lays169 : Go.Proofs.Lays.n169 Tryz.prog ren4 := {
  mixed := by kernel_rfl
  f169 := Tryz.func38.trans (congrArg some (by kernel_rfl))
  t0 := Tryz.underlying0
  a0 := Tryz.isAgg0
  z0 := Tryz.sizeOf0
  v0 := Tryz.zeroValue0
  t3 := Tryz.underlying3
  a3 := Tryz.isAgg3
  z3 := Tryz.sizeOf3
  v3 := Tryz.zeroValue3
  t9 := Tryz.underlying9
  a9 := Tryz.isAgg9
  z9 := Tryz.sizeOf9
  v9 := Tryz.zeroValue9
  t37 := Tryz.underlying51
  a37 := Tryz.isAgg51
  z37 := Tryz.sizeOf51
  v37 := Tryz.zeroValue51
  t70 := Tryz.underlying58
  a70 := Tryz.isAgg58
  z70 := Tryz.sizeOf58
  v70 := Tryz.zeroValue58
  t72 := Tryz.underlying60
  a72 := Tryz.isAgg60
  z72 := Tryz.sizeOf60
  v72 := Tryz.zeroValue60
  t127 := Tryz.underlying90
  a127 := Tryz.isAgg90
  z127 := Tryz.sizeOf90
  v127 := Tryz.zeroValue90 }
theorem extra4 : Builder.Extra Tryz.prog ren4 where
  sizeBuilder := by kernel_rfl
  liesBuilder := by kernel_rfl
  t5 := Tryz.underlying5
  a5 := Tryz.isAgg5
  z5 := Tryz.sizeOf5
  v5 := Tryz.zeroValue5
  infoByte := by kernel_rfl
  cellsByte := by kernel_rfl
  sizeByte := by kernel_rfl
  neB5 := by decide
theorem writeByte_any (B b : Nat) (bs : List Value) (c : Int) (w : World) (h : Lib.IsBuilderF 60 5 B b bs w) (hlen : bs.length + 1 ≤ 140737488355328) (hBw : B ≤ w.heap.size) :
    Calls Tryz.prog 45 #[.pointer (some ⟨b, 0, none⟩), .int .u8 c] w fun e w' => e = .returned .nilIface ∧ (Lib.BuilderAtF 60 5 B b (.pointer (some ⟨b, 0, none⟩)) (bs ++ [.int .u8 c]) w' ∧ Below B w w' ∧ Lib.OthersKept 5 (some b) w w') := Any.Builder_WriteByte_k lays167 extra4 B b bs c w h hlen hBw
theorem writeRune_any (B b : Nat) (bs : List Value) (r : Int) (hr0 : -2147483648 ≤ r) (hr1 : r ≤ 2147483647) (w : World) (h : Lib.IsBuilderF 60 5 B b bs w) (hlen : bs.length + 4 ≤ 140737488355328) (hBw : B ≤ w.heap.size) :
    Calls Tryz.prog 37 #[.pointer (some ⟨b, 0, none⟩), .int .i32 r] w fun e w' => e = .returned (.tuple #[.int .i64 (Lib.runeCells r).length, .nilIface]) ∧ (Lib.BuilderAtF 60 5 B b (.pointer (some ⟨b, 0, none⟩)) (bs ++ Lib.runeCells r) w' ∧ Below B w w' ∧ Lib.OthersKept 5 (some b) w w') := Any.Builder_WriteRune_k lays168 extra4 B b bs r hr0 hr1 w h hlen hBw
theorem string_any (B b : Nat) (l : List UInt8) (w : World) (h : Lib.IsBuilderF 60 5 B b (Lib.byteCells l) w) (hBw : B ≤ w.heap.size) :
    Calls Tryz.prog 38 #[.pointer (some ⟨b, 0, none⟩)] w fun e w' => e = .returned (.string ⟨l.toArray⟩) ∧ (Lib.IsBuilderF 60 5 B b (Lib.byteCells l) w' ∧ Below B w w' ∧ Lib.OthersKept 5 (some b) w w') := Any.Builder_String_any_k lays169 extra4 B b l w h hBw
end Go.Proofs.YtiiemeigbnnlpaaGreatDoor
