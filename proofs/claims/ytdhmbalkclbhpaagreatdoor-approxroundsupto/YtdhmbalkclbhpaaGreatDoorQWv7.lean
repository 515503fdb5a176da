/-
  Wv7: Sci.
-/
import Derived.Test.YtdhmbalkclbhpaaGreatDoorQZedToWu7
import Derived.Test.YtdhmbalkclbhpaaGreatDoorQZOnesToZCmp
import Derived.Lib.AppendIntMem
import Derived.Lib.ItoaLen
namespace Go.Proofs.YtdhmbalkclbhpaaGreatDoor
open Go.RowKit
set_option linter.unusedVariables false

/-- A builder that holds acc. -/
def Bd (b : Nat) (w : World) (acc : List UInt8) : Prop := Lib.IsBuilderF 47 5 b b (Lib.byteCells acc) w ∧ b ≤ w.heap.size
theorem atF_now {T e : TypeId} {B b : Nat} {p : Value} {bs : List Value} {w w' : World} (h : Lib.BuilderAtF T e B b p bs w) (hb : Below w.heap.size w w') : Lib.BuilderAtF T e B b p bs w' := by
  have hlt := h.lt
  obtain ⟨h1, v, h2, h3, h4⟩ := h
  refine ⟨h1, v, (hb.block b hlt).trans h2, ?_, h4⟩
  exact h3.kept (row := none) ⟨hb.os, hb.tape, hb.output, hb.size, fun k hk _ => hb.block k hk⟩ (Classical.em _)
theorem Bd.now {b : Nat} {w w' : World} {acc : List UInt8} (h : Bd b w acc) (hb : Below w.heap.size w w') : Bd b w' acc :=
  ⟨h.1.elim (fun x => .inl (atF_now x hb)) (fun x => .inr (atF_now x hb)), Nat.le_trans h.2 hb.size⟩
theorem wByte {b : Nat} {w : World} {acc : List UInt8} (c : UInt8) {x : Int} (hx : x = (c.toNat : Int)) (h : Bd b w acc) (hl : acc.length ≤ 1000000000) :
    Calls Tryz.prog 19 #[.pointer (some ⟨b, 0, none⟩), .int .u8 x] w fun e w' => e = .returned .nilIface ∧ Bd b w' (acc ++ [c]) ∧ Below b w w' := by
  subst hx
  refine (Any.Builder_WriteByte_k lays167 extra7 b b (Lib.byteCells acc) (c.toNat : Int) w h.1 (by rw [Lib.byteCells_length]; omega) h.2).mono ?_
  rintro e w' ⟨h1, h2, h3, _⟩
  exact ⟨h1, ⟨Or.inr (by
    have h2' : Lib.BuilderAtF 47 5 b b (.pointer (some ⟨b, 0, none⟩)) (Lib.byteCells acc ++ [.int .u8 (c.toNat : Int)]) w' := h2
    rw [Lib.byteCells_append]; simpa [Lib.byteCells] using h2'), Nat.le_trans h.2 h3.size⟩, h3⟩
theorem wStr {b : Nat} {w : World} {acc l : List UInt8} (h : Bd b w acc) (hl : acc.length + l.length ≤ 1000000000) :
    Calls Tryz.prog 20 #[.pointer (some ⟨b, 0, none⟩), .string ⟨l.toArray⟩] w fun e w' => e = .returned (.tuple #[.int .i64 (l.length : Int), .nilIface]) ∧ Bd b w' (acc ++ l) ∧ Below b w w' := by
  refine (Any.Builder_WriteString_k lays166 extra7 b b (Lib.byteCells acc) ⟨l.toArray⟩ w h.1 (by rw [Lib.byteCells_length, mk_size]; omega) h.2).mono ?_
  rintro e w' ⟨h1, h2, h3, _⟩
  refine ⟨by rw [h1, mk_size], ⟨Or.inr (by
    have h2' : Lib.BuilderAtF 47 5 b b (.pointer (some ⟨b, 0, none⟩)) (Lib.byteCells acc ++ Lib.strCells ⟨l.toArray⟩) w' := h2
    rw [Lib.byteCells_append]; simpa [Lib.byteCells, Lib.strCells] using h2'), Nat.le_trans h.2 h3.size⟩, h3⟩
theorem bStr {b : Nat} {w : World} {acc : List UInt8} (h : Bd b w acc) :
    Calls Tryz.prog 22 #[.pointer (some ⟨b, 0, none⟩)] w fun e w' => e = .returned (.string ⟨acc.toArray⟩) ∧ Below b w w' := by
  refine (Any.Builder_String_any_k lays169 extra7 b b acc w h.1 h.2).mono ?_
  rintro e w' ⟨h1, h2⟩
  exact ⟨h1, h2.2.1⟩
/-- The table of the powers of ten. -/
def Pw7 (w : World) : Prop := Lib.TabIs Tryz.prog w "internal/strconv.uint64pow10" .u64 Lib.pow10Tab
theorem Pw7.now {w w' : World} (h : Pw7 w) (hb : Below w.heap.size w w') : Pw7 w' := Lib.tabBelow_of_tabIs h w' hb
theorem itoa_any {n : Nat} (hn : n ≤ 1000000000) {w : World} (h : Pw7 w) : Calls Tryz.prog 21 #[.int .i64 (n : Int)] w fun e w' => e = .returned (.string ⟨(Lib.itoa (n : Int)).toArray⟩) ∧ Below w.heap.size w w' := by
  refine (Any.strconv_Itoa laysM171 (n : Int) (by omega) (by omega) w h).mono ?_
  rintro e w' ⟨h1, k, os, rfl⟩
  exact ⟨h1, Lib.below_grow _ w (Nat.le_refl _) k os⟩
/-- What Sci writes: digits d, exponent x. -/
def sciT (neg : Bool) (d : List UInt8) (n x : Nat) : List UInt8 := (if neg = true then [45] else []) ++ d.take 1 ++ (if 1 < n then 46 :: d.drop 1 else []) ++ [101] ++ Lib.itoa (x : Int)
set_option maxHeartbeats 3200000 in
set_option maxRecDepth 100000 in
theorem sci_bad {w : World} {v : Value} {z : Int} {k : Nat} (h : Zi w v z k) {n : Int} (hn : n < 1 ∨ 40 < n) :
    Calls Tryz.prog 5 #[v, .int .i64 n] w fun e w' => e = .returned (.tuple #[.string ⟨#[]⟩, .int .i64 3]) ∧ Below w.heap.size w w' := by
  obtain ⟨ng, xs, a, c, rfl, s0, z0, k0⟩ := h
  have b0 : Below w.heap.size w (w.alloc (duo (.bool ng) (.slice a xs.length c))) := (Below.refl _ _).alloc (Nat.le_refl _) _
  have B0 := hid b0
  clear s0 z0 b0
  by_cases h1 : n < 1
  · go_enter Tryz.func5, Tryz.ntmps5
    go_wp2
    go_ret2
    exact ⟨rfl, B0.out⟩
  · have h2 : 40 < n := by omega
    go_enter Tryz.func5, Tryz.ntmps5
    go_wp2
    go_ret2
    exact ⟨rfl, B0.out⟩
set_option maxHeartbeats 3200000 in
set_option maxRecDepth 100000 in
theorem sci_zero {w : World} {v : Value} {k n : Nat} (h : Zi w v 0 k) (h1 : 1 ≤ n) (h2 : n ≤ 40) :
    Calls Tryz.prog 5 #[v, .int .i64 (n : Int)] w fun e w' => e = .returned (.tuple #[.string ⟨#[48]⟩, .int .i64 0]) ∧ Below w.heap.size w w' := by
  have hv := h
  obtain ⟨ng, xs, a, c, rfl, s0, z0, k0⟩ := h
  obtain ⟨W0, hW0⟩ : ∃ W0, w.alloc (duo (.bool ng) (.slice a xs.length c)) = W0 := ⟨_, rfl⟩
  have b0 : Below w.heap.size w W0 := by rw [← hW0]; exact (Below.refl _ _).alloc (Nat.le_refl _) _
  have p0 : Duo W0 w.heap.size (.bool ng) (.slice a xs.length c) := by rw [← hW0]; exact Duo.new w _ _
  have HS := hid (sign_z (hv.now b0))
  rw [cmpI_self] at HS
  have i0 := p0.c0
  have i1 := p0.c1
  rw [← hW0] at i0 i1
  have EW := hid hW0
  have B0 := hid b0
  have q0 : ((0 : Int) == 0) = true := rfl
  clear s0 z0 p0 hW0 b0 hv
  go_enter Tryz.func5, Tryz.ntmps5
  go_wp2_with fail
  rw [EW.out]
  refine HS.out.mono ?_
  rintro e w1 ⟨rfl, b⟩
  have B1 := hid (below_step B0.out b)
  clear b EW i0 i1
  go_wp2
  go_ret2
  exact ⟨rfl, B1.out⟩
theorem below_weak7 {B C : Nat} {w w' : World} (h : Below B w w') (hC : C ≤ B) : Below C w w' := ⟨h.os, h.tape, h.output, h.size, fun k hk => h.block k (by omega)⟩
theorem itoa_len {x : Nat} (h : x ≤ 1000000000) : (Lib.itoa (x : Int)).length ≤ 1000000 := by
  have := Lib.itoa_length_le (x : Int) (by omega) (by omega)
  omega
set_option maxHeartbeats 12800000 in
set_option maxRecDepth 100000 in
theorem sci_some {w : World} {v : Value} {z : Int} {k n : Nat} {d : List UInt8} {x : Nat} (h : Zi w v z k) (hk : k ≤ 1048576) (hz : z ≠ 0) (h1 : 1 ≤ n) (h2 : n ≤ 40) (hT : Sg w) (hP : Pw7 w)
    (hlead : n < (txtL 10 z.natAbs).length → 10 ^ (n - 1) ≤ ofD 10 (dsL ((txtL 10 z.natAbs).take n))) (hd : rdL (txtL 10 z.natAbs) n = (d, x)) (hdl : d.length = n) (hx : x ≤ 100000000) (hlen : (txtL 10 z.natAbs).length ≤ 67108865) :
    Calls Tryz.prog 5 #[v, .int .i64 (n : Int)] w fun e w' => e = .returned (.tuple #[.string ⟨(sciT (decide (z < 0)) d n x).toArray⟩, .int .i64 0]) ∧ Below w.heap.size w w' := by
  have hv := h
  obtain ⟨ng, xs, a, c, rfl, s0, z0, k0⟩ := h
  have hvn : vn xs = z.natAbs := by have := iv_abs s0.1 z0; have := val_vn s0.1; omega
  have hng : ng = decide (z < 0) := by
    rcases iv_sign s0.1 z0 with ⟨q1, q2⟩ | ⟨q1, q2, q3⟩ | ⟨q1, q2, q3⟩
    · exact absurd q2 hz
    · rw [q2, decide_eq_true q3]
    · rw [q2, decide_eq_false (by omega)]
  rw [← hng]
  obtain ⟨W0, hW0⟩ : ∃ W0, w.alloc (duo (.bool ng) (.slice a xs.length c)) = W0 := ⟨_, rfl⟩
  have b0 : Below w.heap.size w W0 := by rw [← hW0]; exact (Below.refl _ _).alloc (Nat.le_refl _) _
  have sz0 : w.heap.size < W0.heap.size := by rw [← hW0]; simp
  have p0 : Duo W0 w.heap.size (.bool ng) (.slice a xs.length c) := by rw [← hW0]; exact Duo.new w _ _
  have HS := hid (sign_z (hv.now b0))
  have q0 : (cmpI z 0 == 0) = false := by
    rw [beq_eq_false_iff_ne]
    unfold cmpI
    split <;> (try split) <;> omega
  obtain ⟨⟨hl0, hg⟩, _⟩ := txt_back (B := 10) (n := z.natAbs) (by omega) (by omega)
  have HD : Hid (∀ w' : World, Below W0.heap.size W0 w' → Calls Tryz.prog 18 #[.slice a xs.length c] w' fun e w'' => e = .returned (.string ⟨(txtL 10 z.natAbs).toArray⟩) ∧ Below w'.heap.size w' w'') := fun w' hb => by
    have := dec_any ((s0.now b0).now hb) (by omega) ((hT.now b0).now hb)
    rw [hvn] at this
    exact this
  have HR : Hid (∀ w' : World, Below W0.heap.size W0 w' → Calls Tryz.prog 17 #[.string ⟨(txtL 10 z.natAbs).toArray⟩, .int .i64 (n : Int)] w' fun e w'' => e = .returned (.tuple #[.string ⟨d.toArray⟩, .int .i64 (x : Int)]) ∧ Below w'.heap.size w' w'') := fun w' hb => by
    have := rounded_any (n := n) h1 h2 hl0 hg hlen hlead ((hT.now b0).now hb)
    rw [hd] at this
    exact this
  have HP := hid (hP.now b0)
  have T1 := fun wx => text_lo wx d 1 (by omega)
  have T2 := fun wx => text_hi wx d 1 (by omega)
  rw [show ((1 : Nat) : Int) = 1 from rfl] at T1 T2
  have i0 := p0.c0
  have i1 := p0.c1
  rw [← hW0] at i0 i1
  have EW := hid hW0
  have B0 := hid b0
  have P0 := hid p0
  have hdl1 : (d.take 1).length = 1 := by simp; omega
  have hdl2 : (d.drop 1).length ≤ 40 := by simp; omega
  generalize txtL 10 z.natAbs = l at *
  generalize cmpI z 0 = CZ at *
  clear s0 z0 p0 hW0 b0 hv hng hvn hT hP hlead hd hl0 hg hz
  go_enter Tryz.func5, Tryz.ntmps5
  go_wp2_with fail
  rw [EW.out]
  clear EW i0 i1
  refine HS.out.mono ?_
  rintro e w1 ⟨rfl, b1⟩
  have B1 := hid b1
  have i1 := (P0.out.below b1 sz0).c1
  clear b1 HS
  go_wp2_with fail
  refine (HD.out _ B1.out).mono ?_
  rintro e w2 ⟨rfl, b2⟩
  have B2 := hid (below_step B1.out b2)
  clear b2 i1 HD B1
  go_wp2_with fail
  refine (HR.out _ B2.out).mono ?_
  rintro e w3 ⟨rfl, b3⟩
  have B3 := hid (below_step B2.out b3)
  clear b3 HR B2
  obtain ⟨W4, hW4⟩ : ∃ W4, w3.alloc (.cells #[.pointer none, .slice none 0 0] 47) = W4 := ⟨_, rfl⟩
  have b4 : Below w3.heap.size w3 W4 := by rw [← hW4]; exact (Below.refl _ _).alloc (Nat.le_refl _) _
  have bd0 : Bd w3.heap.size W4 [] := by rw [← hW4]; exact ⟨Lib.IsBuilderF.of (Lib.fresh_isBuilder 47 5 w3), by simp⟩
  have i0 := (P0.out.below (below_step B3.out b4) sz0).c0
  rw [← hW4] at i0
  have BD := hid bd0
  have B4 := hid (below_step B3.out b4)
  have EW := hid hW4
  obtain ⟨bb, hbb⟩ : ∃ bb, w3.heap.size = bb := ⟨_, rfl⟩
  have HBB := hid hbb
  have BBelow := hid b4
  rw [hbb] at BD
  have hW0b : W0.heap.size ≤ bb := by rw [← hbb]; exact B3.out.size
  clear hW4 b4 bd0
  have BK : Hid (Below bb W4 W4) := Below.refl _ _
  have hil := itoa_len (x := x) (by omega)
  cases ng
  · by_cases hn1 : 1 < n
    · have hn' : (1 : Int) < (n : Int) := by omega
      have HT : Hid (sciT false d n x = List.take 1 d ++ 46 :: (d.tail ++ 101 :: Lib.itoa (x : Int))) := by unfold Hid sciT; simp [hn1]
      go_wp2_with fail
      rw [EW.out]
      clear EW i0
      (try rw [HBB.out])
      refine (wStr BD.out (by simp; try omega)).mono ?_
      rintro e y1 ⟨rfl, bd, bi⟩
      replace BD := hid bd
      replace BK := hid (BK.out.trans bi)
      clear bd bi
      go_wp2_with fail
      refine (wByte 46 rfl BD.out (by simp; try omega)).mono ?_
      rintro e y2 ⟨rfl, bd, bi⟩
      replace BD := hid bd
      replace BK := hid (BK.out.trans bi)
      clear bd bi
      go_wp2_with fail
      refine (wStr BD.out (by simp; try omega)).mono ?_
      rintro e y3 ⟨rfl, bd, bi⟩
      replace BD := hid bd
      replace BK := hid (BK.out.trans bi)
      clear bd bi
      go_wp2_with fail
      refine (wByte 101 rfl BD.out (by simp; try omega)).mono ?_
      rintro e y4 ⟨rfl, bd, bi⟩
      replace BD := hid bd
      replace BK := hid (BK.out.trans bi)
      clear bd bi
      go_wp2_with fail
      refine (itoa_any (n := x) (by omega) (HP.out.now (B4.out.trans (below_weak7 BK.out hW0b)))).mono ?_
      rintro e yi ⟨rfl, bi⟩
      replace BK := hid (BK.out.trans (below_weak7 bi BD.out.2))
      replace BD := hid (BD.out.now bi)
      clear bi
      go_wp2_with fail
      refine (wStr BD.out (by simp; try omega)).mono ?_
      rintro e y5 ⟨rfl, bd, bi⟩
      replace BD := hid bd
      replace BK := hid (BK.out.trans bi)
      clear bd bi
      go_wp2_with fail
      refine (bStr BD.out).mono ?_
      rintro e yf ⟨rfl, bi⟩
      have GF : Hid (Below w.heap.size w yf) := below_step B0.out (B4.out.trans (below_weak7 (BK.out.trans bi) hW0b))
      clear bi BD BK
      go_wp2
      go_ret2
      refine ⟨congrArg Ending.returned (congrArg Value.tuple ?_), GF.out⟩
      rw [show sciT false d n x = _ from HT.out]
      rfl
    · have hn' : ¬ (1 : Int) < (n : Int) := by omega
      have HT : Hid (sciT false d n x = List.take 1 d ++ 101 :: Lib.itoa (x : Int)) := by unfold Hid sciT; simp [hn1]
      go_wp2_with fail
      rw [EW.out]
      clear EW i0
      (try rw [HBB.out])
      refine (wStr BD.out (by simp; try omega)).mono ?_
      rintro e y1 ⟨rfl, bd, bi⟩
      replace BD := hid bd
      replace BK := hid (BK.out.trans bi)
      clear bd bi
      go_wp2_with fail
      refine (wByte 101 rfl BD.out (by simp; try omega)).mono ?_
      rintro e y2 ⟨rfl, bd, bi⟩
      replace BD := hid bd
      replace BK := hid (BK.out.trans bi)
      clear bd bi
      go_wp2_with fail
      refine (itoa_any (n := x) (by omega) (HP.out.now (B4.out.trans (below_weak7 BK.out hW0b)))).mono ?_
      rintro e yi ⟨rfl, bi⟩
      replace BK := hid (BK.out.trans (below_weak7 bi BD.out.2))
      replace BD := hid (BD.out.now bi)
      clear bi
      go_wp2_with fail
      refine (wStr BD.out (by simp; try omega)).mono ?_
      rintro e y3 ⟨rfl, bd, bi⟩
      replace BD := hid bd
      replace BK := hid (BK.out.trans bi)
      clear bd bi
      go_wp2_with fail
      refine (bStr BD.out).mono ?_
      rintro e yf ⟨rfl, bi⟩
      have GF : Hid (Below w.heap.size w yf) := below_step B0.out (B4.out.trans (below_weak7 (BK.out.trans bi) hW0b))
      clear bi BD BK
      go_wp2
      go_ret2
      refine ⟨congrArg Ending.returned (congrArg Value.tuple ?_), GF.out⟩
      rw [show sciT false d n x = _ from HT.out]
      rfl
  · by_cases hn1 : 1 < n
    · have hn' : (1 : Int) < (n : Int) := by omega
      have HT : Hid (sciT true d n x = 45 :: (List.take 1 d ++ 46 :: (d.tail ++ 101 :: Lib.itoa (x : Int)))) := by unfold Hid sciT; simp [hn1]
      go_wp2_with fail
      rw [EW.out]
      clear EW i0
      (try rw [HBB.out])
      refine (wByte 45 rfl BD.out (by simp; try omega)).mono ?_
      rintro e y1 ⟨rfl, bd, bi⟩
      replace BD := hid bd
      replace BK := hid (BK.out.trans bi)
      clear bd bi
      go_wp2_with fail
      refine (wStr BD.out (by simp; try omega)).mono ?_
      rintro e y2 ⟨rfl, bd, bi⟩
      replace BD := hid bd
      replace BK := hid (BK.out.trans bi)
      clear bd bi
      go_wp2_with fail
      refine (wByte 46 rfl BD.out (by simp; try omega)).mono ?_
      rintro e y3 ⟨rfl, bd, bi⟩
      replace BD := hid bd
      replace BK := hid (BK.out.trans bi)
      clear bd bi
      go_wp2_with fail
      refine (wStr BD.out (by simp; try omega)).mono ?_
      rintro e y4 ⟨rfl, bd, bi⟩
      replace BD := hid bd
      replace BK := hid (BK.out.trans bi)
      clear bd bi
      go_wp2_with fail
      refine (wByte 101 rfl BD.out (by simp; try omega)).mono ?_
      rintro e y5 ⟨rfl, bd, bi⟩
      replace BD := hid bd
      replace BK := hid (BK.out.trans bi)
      clear bd bi
      go_wp2_with fail
      refine (itoa_any (n := x) (by omega) (HP.out.now (B4.out.trans (below_weak7 BK.out hW0b)))).mono ?_
      rintro e yi ⟨rfl, bi⟩
      replace BK := hid (BK.out.trans (below_weak7 bi BD.out.2))
      replace BD := hid (BD.out.now bi)
      clear bi
      go_wp2_with fail
      refine (wStr BD.out (by simp; try omega)).mono ?_
      rintro e y6 ⟨rfl, bd, bi⟩
      replace BD := hid bd
      replace BK := hid (BK.out.trans bi)
      clear bd bi
      go_wp2_with fail
      refine (bStr BD.out).mono ?_
      rintro e yf ⟨rfl, bi⟩
      have GF : Hid (Below w.heap.size w yf) := below_step B0.out (B4.out.trans (below_weak7 (BK.out.trans bi) hW0b))
      clear bi BD BK
      go_wp2
      go_ret2
      refine ⟨congrArg Ending.returned (congrArg Value.tuple ?_), GF.out⟩
      rw [show sciT true d n x = _ from HT.out]
      rfl
    · have hn' : ¬ (1 : Int) < (n : Int) := by omega
      have HT : Hid (sciT true d n x = 45 :: (List.take 1 d ++ 101 :: Lib.itoa (x : Int))) := by unfold Hid sciT; simp [hn1]
      go_wp2_with fail
      rw [EW.out]
      clear EW i0
      (try rw [HBB.out])
      refine (wByte 45 rfl BD.out (by simp; try omega)).mono ?_
      rintro e y1 ⟨rfl, bd, bi⟩
      replace BD := hid bd
      replace BK := hid (BK.out.trans bi)
      clear bd bi
      go_wp2_with fail
      refine (wStr BD.out (by simp; try omega)).mono ?_
      rintro e y2 ⟨rfl, bd, bi⟩
      replace BD := hid bd
      replace BK := hid (BK.out.trans bi)
      clear bd bi
      go_wp2_with fail
      refine (wByte 101 rfl BD.out (by simp; try omega)).mono ?_
      rintro e y3 ⟨rfl, bd, bi⟩
      replace BD := hid bd
      replace BK := hid (BK.out.trans bi)
      clear bd bi
      go_wp2_with fail
      refine (itoa_any (n := x) (by omega) (HP.out.now (B4.out.trans (below_weak7 BK.out hW0b)))).mono ?_
      rintro e yi ⟨rfl, bi⟩
      replace BK := hid (BK.out.trans (below_weak7 bi BD.out.2))
      replace BD := hid (BD.out.now bi)
      clear bi
      go_wp2_with fail
      refine (wStr BD.out (by simp; try omega)).mono ?_
      rintro e y4 ⟨rfl, bd, bi⟩
      replace BD := hid bd
      replace BK := hid (BK.out.trans bi)
      clear bd bi
      go_wp2_with fail
      refine (bStr BD.out).mono ?_
      rintro e yf ⟨rfl, bi⟩
      have GF : Hid (Below w.heap.size w yf) := below_step B0.out (B4.out.trans (below_weak7 (BK.out.trans bi) hW0b))
      clear bi BD BK
      go_wp2
      go_ret2
      refine ⟨congrArg Ending.returned (congrArg Value.tuple ?_), GF.out⟩
      rw [show sciT true d n x = _ from HT.out]
      rfl
end Go.Proofs.YtdhmbalkclbhpaaGreatDoor
