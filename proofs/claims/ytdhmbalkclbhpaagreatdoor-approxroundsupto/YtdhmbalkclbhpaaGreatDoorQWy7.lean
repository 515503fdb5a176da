/-
  Wy7: the laws' written, at the texts of Sci.
-/
import Derived.Test.YtdhmbalkclbhpaaGreatDoorQZWrittenToWx7
namespace Go.Proofs.YtdhmbalkclbhpaaGreatDoor
open Go.RowKit
set_option linter.unusedVariables false

theorem byte_at {t : List UInt8} {i : Nat} {b : UInt8} (h : t[i]? = some b) : ∃ h' : i < (⟨t.toArray⟩ : ByteArray).size, (⟨t.toArray⟩ : ByteArray)[i]'h' = b := by
  obtain ⟨h1, h2⟩ := List.getElem?_eq_some_iff.1 h
  exact ⟨by rw [mk_size]; exact h1, h2⟩
/-- The bytes as numbers. -/
def nb (l : List UInt8) : List Int := l.map fun b => (b.toNat : Int)
theorem nb_len (l : List UInt8) : (nb l).length = l.length := by simp [nb]
theorem nb_next {p d : List UInt8} {j : Nat} (h : j < d.length) : nb (p ++ d.take j) ++ [(d[j].toNat : Int)] = nb (p ++ d.take (j + 1)) := by
  unfold nb
  rw [List.take_succ_eq_append_getElem h, ← List.append_assoc, List.map_append (l₂ := [d[j]])]
  rfl
/-- The number of the first q digits. -/
def xq (I : List UInt8) (q : Nat) : Nat := ofD 10 (dsL (I.take q))
theorem xq_next {I : List UInt8} {q : Nat} (hg : Good 10 I) (h : q < I.length) : ((xq I (q + 1) : Nat) : Int) = 10 * (xq I q : Int) + ((I[q].toNat : Int) - 48) := by
  have hd := dig_of (hg I[q] (List.getElem_mem h))
  have e : dsL [I[q]] = [dv I[q].toNat] := rfl
  unfold xq
  rw [List.take_succ_eq_append_getElem h, dsL_app, e, ofD_snoc, hd.2.2]
  omega
theorem xq_le {I : List UInt8} {q x : Nat} (hI : ofD 10 (dsL I) = x) : xq I q ≤ x := by
  have h := ofD_cut I q
  rw [hI] at h
  have h1 : 1 ≤ 10 ^ (I.length - q) := Nat.pow_pos (by omega)
  have h2 : xq I q * 1 ≤ xq I q * 10 ^ (I.length - q) := Nat.mul_le_mul_left _ h1
  unfold xq at *
  omega
theorem zback4 {f : Func} {s1 s2 s3 : Nat} (hr : f.results = #[ResultVar.cell s1 24, ResultVar.tmp s2, ResultVar.tmp s3]) {W : World} {b : Nat} {x y e1 e2 : Value} (h : Duo W b x y) (tmps : Array Value) (ht : tmps[s1]? = some (.pointer (some ⟨b, 0, none⟩))) (h1 : tmps[s2]? = some e1) (h2 : tmps[s3]? = some e2) :
    (results f tmps).run Tryz.prog W = .ok (.tuple #[.agg #[x, y], e1, e2]) W := by
  simp [results, hr, go_sem, ht, h1, h2, h.c0, h.c1]
theorem sval_pos {d : List UInt8} (h0 : d ≠ []) (hg : Good 10 d) : Takes ([] ++ d) ∧ sval ([] ++ d) = ((ofD 10 (dsL d) : Nat) : Int) := by
  match d, h0 with
  | c :: t, _ =>
    have hc := dig_of (hg c (by simp))
    have e : cutS (c :: t) = (false, c :: t) := by
      unfold cutS
      rw [if_neg, if_neg, if_neg]
      · intro q
        simp at q
        rw [q.1] at hc
        simp at hc
      · intro q
        simp at q
        rw [q] at hc
        simp at hc
      · intro q
        simp at q
        rw [q] at hc
        simp at hc
    unfold Takes sval
    rw [List.nil_append, e]
    exact ⟨⟨by simp, hg⟩, if_neg (by simp)⟩
theorem sval_neg {d : List UInt8} (h0 : d ≠ []) (hg : Good 10 d) : Takes ([45] ++ d) ∧ sval ([45] ++ d) = -((ofD 10 (dsL d) : Nat) : Int) := by
  have e : cutS ([45] ++ d) = (true, d) := rfl
  unfold Takes sval
  rw [e]
  exact ⟨⟨h0, hg⟩, if_pos rfl⟩

set_option maxRecDepth 100000 in
set_option maxHeartbeats 12800000 in
theorem written_pos {w : World} {d : List UInt8} {n x : Nat} (hT : Sg w) (hn : 1 ≤ n) (hn2 : n ≤ 40) (hd : d.length = n) (hg : Good 10 d) (hlow : 10 ^ (n - 1) ≤ ofD 10 (dsL d)) (hx : x ≤ 100000000) :
    Calls Tryz.prog 7 #[.string ⟨((bodyT d n x)).toArray⟩, .int .i64 (n : Int)] w fun e w' => ∃ r, e = .returned (.tuple #[r, .int .i64 (x : Int), .bool true]) ∧ Zm 0 w' r (((ofD 10 (dsL d) : Nat) : Int)) 35184372088832 ∧ Below w.heap.size w w' := by
  obtain ⟨f1, f2, f3, f4, f5⟩ := body_facts (x := x) hn hd
  obtain ⟨i1, i2, ic, it, i3, i4⟩ := itoa_facts x
  have i5 := Lib.itoa_length_le (x : Int) (by omega) (by omega)
  have hd0 : d ≠ [] := fun e => by rw [e] at hd; simp at hd; omega
  have HHD : Hid (∀ j (h : j < d.length), j = 0 → d[j].toNat ≠ 48) := fun j h e => by
    subst e
    match d, h with
    | c :: t, _ =>
      have h1 := head_ne hg (by rw [show t.length = n - 1 by simp at hd; omega]; exact hlow)
      intro q
      exact h1 (UInt8.toNat_inj.1 q)
  have HSV := hid (sval_pos hd0 hg)
  have HR : Hid (∀ w, Sg w → Calls Tryz.prog 24 #[.string ⟨([] ++ d).toArray⟩] w fun e w' => ∃ r, e = .returned (.tuple #[r, .int .i64 0]) ∧ Zm 0 w' r (((ofD 10 (dsL d) : Nat) : Int)) 35184372088832 ∧ Below w.heap.size w w') := fun w h => by
    rw [← HSV.out.2]
    refine (read_z h (by simp; omega)).mono fun e w' q => ?_
    rcases q with ⟨_, q⟩ | ⟨g, _⟩
    · exact q
    · exact absurd HSV.out.1 g
  generalize ((ofD 10 (dsL d) : Nat) : Int) = V at *
  have HDG : Hid (∀ j (h : j < d.length), 48 ≤ d[j].toNat ∧ d[j].toNat ≤ 57) := fun j h => ⟨(dig_of (hg d[j] (List.getElem_mem h))).1, (dig_of (hg d[j] (List.getElem_mem h))).2.1⟩
  generalize hI : Lib.itoa (x : Int) = I at *
  have HIG : Hid (∀ q (h : q < I.length), 48 ≤ I[q].toNat ∧ I[q].toNat ≤ 57) := fun j h => ⟨(dig_of (i1 I[j] (List.getElem_mem h))).1, (dig_of (i1 I[j] (List.getElem_mem h))).2.1⟩
  have HXN : Hid (∀ q (h : q < I.length), ((xq I (q + 1) : Nat) : Int) = 10 * (xq I q : Int) + ((I[q].toNat : Int) - 48)) := fun q h => xq_next i1 h
  have HXL : Hid (∀ q, xq I q ≤ 100000000) := fun q => Nat.le_trans (xq_le i2) hx
  have HX0 : Hid (xq I 0 = 0) := rfl
  have HXE : Hid (xq I I.length = x) := by unfold Hid xq; rw [List.take_length]; exact i2
  have HI0 : Hid (∀ q (h : q < I.length), I[q].toNat = 48 → q = 0 → I.length = 1) := fun q h e e0 => by
    subst e0
    subst i3
    have h1 : ic = 48 := UInt8.toNat_inj.1 e
    rw [i4 h1]
    rfl
  have hIp : 1 ≤ I.length := by rw [i3]; simp
  have hsz : (⟨(bodyT d n x).toArray⟩ : ByteArray).size = ip7 n + 1 + I.length := by rw [mk_size, f1]
  have HD : Hid (∀ j (h : j < d.length), ∃ h' : ps7 j < (⟨(bodyT d n x).toArray⟩ : ByteArray).size, (⟨(bodyT d n x).toArray⟩ : ByteArray)[ps7 j]'h' = d[j]) := fun j h => byte_at ((f2 j (by omega)).trans (List.getElem?_eq_getElem h))
  have HDT : Hid (1 < n → ∃ h' : 1 < (⟨(bodyT d n x).toArray⟩ : ByteArray).size, (⟨(bodyT d n x).toArray⟩ : ByteArray)[1]'h' = 46) := fun h => byte_at (f3 h)
  have HE : Hid (∃ h' : ip7 n < (⟨(bodyT d n x).toArray⟩ : ByteArray).size, (⟨(bodyT d n x).toArray⟩ : ByteArray)[ip7 n]'h' = 101) := byte_at f4
  have HQ : Hid (∀ q (h : q < I.length), ∃ h' : ip7 n + 1 + q < (⟨(bodyT d n x).toArray⟩ : ByteArray).size, (⟨(bodyT d n x).toArray⟩ : ByteArray)[ip7 n + 1 + q]'h' = I[q]) := fun q h => byte_at ((f5 q).trans (List.getElem?_eq_getElem h))
  have HTX : Hid (strOfNums (nb ([] ++ d)) = ⟨([] ++ d).toArray⟩) := str_of_txt _
  obtain ⟨z0, z1⟩ := HD.out 0 (by omega)
  have z2 := HDG.out 0 (by omega)
  change 0 < _ at z0
  have zix : (((⟨(bodyT d n x).toArray⟩ : ByteArray)[0]'z0).toNat : Int) = (d[0].toNat : Int) := by rw [← z1]; rfl
  have zne : (⟨(bodyT d n x).toArray⟩ : ByteArray).toList.isEmpty = false := by
    rw [Lib.toList_data]
    cases hb : bodyT d n x with
    | nil => rw [hb] at f1; simp at f1; omega
    | cons => rfl
  clear z1
  have z45 : ((d[0].toNat : Int) == 45) = false := by rw [beq_eq_false_iff_ne]; omega
  generalize d[0].toNat = c0 at *
  generalize (⟨(bodyT d n x).toArray⟩ : ByteArray) = s at *
  have hM : ip7 n ≤ 41 := by unfold ip7; split <;> omega
  have hs : s.size ≤ 1000 := by omega
  have HSZ := hid hsz
  have HDL := hid hd
  have hIl : I.length ≤ 21 := i5
  have b0 := (Below.refl w.heap.size w).alloc (Nat.le_refl _) zbox
  have p0 := duo_at (w := w) (x := .bool false) (y := .slice none 0 0) rfl
  obtain ⟨W0, hW0⟩ : ∃ W0, w.alloc zbox = W0 := ⟨_, rfl⟩
  have HS0 : Hid (W0.heap.size = w.heap.size + 1) := by unfold Hid; rw [← hW0]; simp
  change Duo (w.alloc zbox) _ _ _ at p0
  rw [hW0] at b0 p0
  have EW := hid hW0
  have G := hid b0
  have PR := hid p0
  have HT := hid (hT.now b0)
  clear hW0 b0 p0 hT i1 i2 i3 i4 i5 f1 f2 f3 f4 f5 hI hg hlow hd hsz hd0 HSV hx
  go_enter Tryz.func7, Tryz.ntmps7
  go_wp2_with fail
  rw [EW.out]
  have HBS : Hid (Bys W0.heap.size W0 (.slice none 0 0) (nb ([] ++ d.take 0))) := Bys.nil _ _
  have KS : Hid (Below W0.heap.size W0 W0) := Below.refl _ _
  clear EW z0 z2 zix zne z45
  go_loopw [8, 9, 10] (fun s8 iv7 jv7 wr => ∃ (j : Nat), j ≤ n ∧ jv7 = .int .i64 (j : Int) ∧ iv7 = .int .i64 ((ip7 j : Nat) : Int) ∧ Hid (Bys W0.heap.size wr s8 (nb ([] ++ d.take j))) ∧ Hid (Below W0.heap.size W0 wr)) (fun _ _ jv7 _ => n - (intOf jv7).toNat)
  case atStart => exact ⟨0, Nat.zero_le _, rfl, rfl, HBS, KS⟩
  case round =>
    clear HBS KS
    obtain ⟨j, hj, rfl, rfl, HBY, KK⟩ := hrel
    obtain ⟨xa, xc, hx8⟩ := HBY.out.form
    generalize hmm : (nb ([] ++ d.take j)).length = m at hx8
    have hm44 : m ≤ 44 := by rw [← hmm, nb_len]; simp; omega
    clear hmm
    subst hx8
    by_cases hlt : j < n
    · have hjd : j < d.length := by rw [HDL.out]; exact hlt
      obtain ⟨hP, hPe⟩ := HD.out j hjd
      obtain ⟨c1, c2⟩ := HDG.out j hjd
      have hne := HHD.out j hjd
      have HNX := hid (nb_next (p := []) hjd)
      obtain ⟨cv, hcv⟩ : ∃ cv, cv = d[j].toNat := ⟨_, rfl⟩
      rw [← hcv] at c1 c2 hne HNX
      have hix : ((s[ps7 j]'hP).toNat : Int) = (cv : Int) := by rw [hPe, hcv]
      have t1 : ¬ (cv : Int) < 48 := by omega
      have t2 : ¬ (57 : Int) < (cv : Int) := by omega
      have ka := (Below.refl wr.heap.size wr).alloc (Nat.le_refl _) (.cells #[.int .u8 (cv : Int)] 5)
      have HB1 := hid (HBY.out.now ka)
      have HE1 := hid (below_step KK.out ka)
      have HCC : Hid ((wr.alloc (.cells #[.int .u8 (cv : Int)] 5)).cell? ⟨wr.heap.size, 0, none⟩ = some (.int .u8 (cv : Int))) := by unfold Hid; simp
      have HPL : Hid ((nb ([] ++ d.take j)).length ≤ 1000000000) := by unfold Hid; rw [nb_len]; simp; omega
      have HZ1 : Hid (W0.heap.size ≤ (wr.alloc (.cells #[.int .u8 (cv : Int)] 5)).heap.size) := HE1.out.size
      have q0 : (1 : Nat) = 1 := rfl
      clear HBY KK ka hPe hcv
      rcases (show j = 1 ∨ j = 0 ∨ 2 ≤ j by omega) with h1 | h1 | h1
      · obtain ⟨hdt, hde⟩ := HDT.out (by omega)
        have e1 : ip7 j = 1 := by rw [h1]; rfl
        have e2 : ps7 j = 2 := by rw [h1]; rfl
        have HIP : Hid (ip7 (j + 1) = 3) := by unfold Hid; rw [h1]; rfl
        have hdx : ((s[1]'hdt).toNat : Int) = 46 := by rw [hde]; rfl
        have k1 : ((j : Int) == 1) = true := by rw [h1]; rfl
        have k0 : ((j : Int) == 0) = false := by rw [h1]; rfl
        have g1 : ¬ (s.size : Int) ≤ 1 := by omega
        have hP2 : 2 < s.size := by omega
        have hix2 : ((s[2]'hP2).toNat : Int) = (cv : Int) := by rw [← hix]; congr 2; simp only [e2]
        have g2 : ¬ (s.size : Int) ≤ 2 := by omega
        rw [e1]
        clear hix hP e1 e2 hde hne h1 HD
        go_wp2_with (at_builtin; refine wpList_append_byte_m _ rfl (.tmp 76) (.tmp 80) rfl W0.heap.size _ (nb ([] ++ d.take j)) (cv : Int) rfl HB1.out wr.heap.size rfl HCC.out HPL.out HZ1.out ?_)
        intro m4 a' cap' w4 hm4 hB4 hK4 hE4
        have HB4 : Hid (Bys W0.heap.size w4 (.slice a' m4 cap') (nb ([] ++ d.take (j + 1)))) := by unfold Hid; rw [← HNX.out]; exact hB4.out
        have HE4 : Hid (Below W0.heap.size W0 w4) := HE1.out.trans hE4.out
        clear hm4 hB4 hK4 hE4 HB1 HE1 HCC HPL HZ1 HNX
        go_wp2
        go_roundw
        case rel => exact ⟨j + 1, by omega, by go_num, by rw [HIP.out]; go_num, HB4, HE4⟩
        case measure => first | (simp [intOf]; done) | (simp [intOf]; omega)
      · have e1 : ip7 j = ps7 j := by unfold ip7 ps7; (repeat' split) <;> omega
        have HIP : Hid (ip7 (j + 1) = ps7 j + 1) := by unfold Hid ip7 ps7; (repeat' split) <;> omega
        have k1 : ((j : Int) == 1) = false := by rw [beq_eq_false_iff_ne]; omega
        have k0 : ((j : Int) == 0) = true := by rw [beq_iff_eq]; omega
        have k48 : ((cv : Int) == 48) = false := by rw [beq_eq_false_iff_ne]; have := hne h1; omega
        rw [e1]
        generalize ps7 j = P at *
        have g1 : ¬ (s.size : Int) ≤ (P : Int) := by omega
        clear e1 hne h1 HD
        go_wp2_with (at_builtin; refine wpList_append_byte_m _ rfl (.tmp 76) (.tmp 80) rfl W0.heap.size _ (nb ([] ++ d.take j)) (cv : Int) rfl HB1.out wr.heap.size rfl HCC.out HPL.out HZ1.out ?_)
        intro m4 a' cap' w4 hm4 hB4 hK4 hE4
        have HB4 : Hid (Bys W0.heap.size w4 (.slice a' m4 cap') (nb ([] ++ d.take (j + 1)))) := by unfold Hid; rw [← HNX.out]; exact hB4.out
        have HE4 : Hid (Below W0.heap.size W0 w4) := HE1.out.trans hE4.out
        clear hm4 hB4 hK4 hE4 HB1 HE1 HCC HPL HZ1 HNX
        go_wp2
        go_roundw
        case rel => exact ⟨j + 1, by omega, by go_num, by rw [HIP.out]; go_num, HB4, HE4⟩
        case measure => first | (simp [intOf]; done) | (simp [intOf]; omega)
      · have e1 : ip7 j = ps7 j := by unfold ip7 ps7; (repeat' split) <;> omega
        have HIP : Hid (ip7 (j + 1) = ps7 j + 1) := by unfold Hid ip7 ps7; (repeat' split) <;> omega
        have k1 : ((j : Int) == 1) = false := by rw [beq_eq_false_iff_ne]; omega
        have k0 : ((j : Int) == 0) = false := by rw [beq_eq_false_iff_ne]; omega
        rw [e1]
        generalize ps7 j = P at *
        have g1 : ¬ (s.size : Int) ≤ (P : Int) := by omega
        clear e1 hne h1 HD
        go_wp2_with (at_builtin; refine wpList_append_byte_m _ rfl (.tmp 76) (.tmp 80) rfl W0.heap.size _ (nb ([] ++ d.take j)) (cv : Int) rfl HB1.out wr.heap.size rfl HCC.out HPL.out HZ1.out ?_)
        intro m4 a' cap' w4 hm4 hB4 hK4 hE4
        have HB4 : Hid (Bys W0.heap.size w4 (.slice a' m4 cap') (nb ([] ++ d.take (j + 1)))) := by unfold Hid; rw [← HNX.out]; exact hB4.out
        have HE4 : Hid (Below W0.heap.size W0 w4) := HE1.out.trans hE4.out
        clear hm4 hB4 hK4 hE4 HB1 HE1 HCC HPL HZ1 HNX
        go_wp2
        go_roundw
        case rel => exact ⟨j + 1, by omega, by go_num, by rw [HIP.out]; go_num, HB4, HE4⟩
        case measure => first | (simp [intOf]; done) | (simp [intOf]; omega)
    · obtain rfl : j = n := by omega
      rw [show d.take j = d from List.take_of_length_le (by rw [HDL.out]; omega)] at HBY
      obtain ⟨hE1, hE2⟩ := HE.out
      have hix : ((s[ip7 j]'hE1).toNat : Int) = 101 := by rw [hE2]; rfl
      have PR1 := hid (PR.out.below KK.out (by rw [HS0.out]; omega))
      have G1 := hid (below_step G.out KK.out)
      have HT1 := hid (HT.out.now KK.out)
      have HTXX := HTX
      generalize hMM : ip7 j = M at *
      have g1 : ¬ (s.size : Int) ≤ (M : Int) := by omega
      obtain ⟨g, hga, hmL, hce⟩ := HBY.out.cells (by rw [nb_len, List.length_append, HDL.out]; omega)
      subst hga
      have hcv := run_convert_bytes_arg (P := Tryz.prog) wr 45 5 Tryz.underlying45 Tryz.underlying5 g 0 m xc (nb ([] ++ d)) hmL.symm (fun i hi => hce i (by rw [← hmL]; exact hi)) 9 Tryz.underlying9
      rw [HTX.out] at hcv
      have HCV := hid hcv
      have HRR := hid (HR.out wr HT1.out)
      generalize (⟨([] ++ d).toArray⟩ : ByteArray) = u at *
      clear HBY hMM hmL hce HR PR G HT hE2 KK hcv HTX HTXX HD HDT HE HHD HDG HDL
      generalize wr = W5 at *
      go_wp2_with fail
      go_loopw [11, 12] (fun xv7 jv7 wr => ∃ (q J : Nat), q ≤ I.length ∧ Hid (J = M + 1 + q) ∧ jv7 = .int .i64 (J : Int) ∧ xv7 = .int .i64 ((xq I q : Nat) : Int) ∧ Hid (wr = W5)) (fun _ jv7 _ => s.size - (intOf jv7).toNat)
      case atStart => exact ⟨0, M + 1, Nat.zero_le _, hid rfl, by go_num, by rw [HX0.out]; rfl, hid rfl⟩
      case round =>
        obtain ⟨q, J, hq, HJ, rfl, rfl, HW⟩ := hrel
        have hJb : J ≤ 1000 := by have := HJ.out; have := HSZ.out; omega
        by_cases hlt : q < I.length
        · obtain ⟨hP0, hPe0⟩ := HQ.out q hlt
          have hP : J < s.size := by rw [HJ.out]; exact hP0
          have hix2 : ((s[J]'hP).toNat : Int) = (I[q].toNat : Int) := by simp only [HJ.out, hPe0]
          obtain ⟨c1, c2⟩ := HIG.out q hlt
          have HX2 := hid (HXN.out q hlt)
          have hxl := HXL.out q
          have h0 := HI0.out q hlt
          clear hP0 hPe0 HQ
          generalize I[q].toNat = cv at *
          have t1 : ¬ (cv : Int) < 48 := by omega
          have t2 : ¬ (57 : Int) < (cv : Int) := by omega
          have t3 : ¬ (1099511627776 : Int) < ((xq I q : Nat) : Int) := by omega
          generalize xq I q = X at *
          have t4 : (J : Int) < (s.size : Int) := by omega
          rcases (show cv ≠ 48 ∨ (cv = 48 ∧ q ≠ 0) ∨ (cv = 48 ∧ q = 0) by omega) with h1 | ⟨h1, h2⟩ | ⟨h1, h2⟩
          · have k48 : ((cv : Int) == 48) = false := by rw [beq_eq_false_iff_ne]; omega
            clear h0 h1 HXN HXL HX0 HI0
            go_wp2
            go_roundw
            case rel => exact ⟨q + 1, J + 1, by omega, hid (by have := HJ.out; omega), by go_num, by rw [HX2.out], HW⟩
            case measure => first | (simp [intOf]; done) | (simp [intOf]; omega)
          · have k48 : ((cv : Int) == 48) = true := by rw [beq_iff_eq]; omega
            have kJ : ((J : Int) == (M : Int) + 1) = false := by rw [beq_eq_false_iff_ne]; have := HJ.out; omega
            have H48 := hid h1
            clear h0 h1 HXN HXL HX0 HI0
            go_wp2
            go_roundw
            case rel => exact ⟨q + 1, J + 1, by omega, hid (by have := HJ.out; omega), by go_num, by rw [HX2.out], HW⟩
            case measure => first | (simp [intOf]; done) | (simp [intOf]; omega)
          · have k48 : ((cv : Int) == 48) = true := by rw [beq_iff_eq]; omega
            have kJ : ((J : Int) == (M : Int) + 1) = true := by rw [beq_iff_eq]; have := HJ.out; omega
            have H48 := hid h1
            have kS : ¬ (J : Int) + 1 < (s.size : Int) := by
              have := h0 h1 h2
              have := HSZ.out
              have := HJ.out
              omega
            clear h0 h1 HXN HXL HX0 HI0
            go_wp2
            go_roundw
            case rel => exact ⟨q + 1, J + 1, by omega, hid (by have := HJ.out; omega), by go_num, by rw [HX2.out], HW⟩
            case measure => first | (simp [intOf]; done) | (simp [intOf]; omega)
        · have hJS : ¬ (J : Int) < (s.size : Int) := by have := HSZ.out; have := HJ.out; omega
          have g2 : (M : Int) + 1 < (s.size : Int) := by have := HSZ.out; omega
          rw [show xq I q = x from by rw [show q = I.length by omega]; exact HXE.out]
          rw [HW.out]
          have hcv := HCV.out
          have HXX := HRR
          clear HQ HIG HXN HXL HX0 HXE HI0 HJ hlt hq HW HCV HRR
          have q0 : ((0 : Int) == 0) = true := rfl
          go_wp2_with fail
          refine HXX.out.mono ?_
          rintro e w1 ⟨r, rfl, m1, b1⟩
          obtain ⟨n1, x1, a1, c1, rfl, -⟩ := m1.zi
          obtain ⟨V1, hW⟩ : ∃ V1, w1.alloc (duo (.bool n1) (.slice a1 x1.length c1)) = V1 := ⟨_, rfl⟩
          have kW : Below w1.heap.size w1 V1 := by rw [← hW]; exact (Below.refl _ _).alloc (Nat.le_refl _) _
          have pn : Duo V1 w1.heap.size (.bool n1) (.slice a1 x1.length c1) := by rw [← hW]; exact duo_at rfl
          have PR2 := hid ((PR1.out.step b1).step kW)
          have G2 := hid (below_step (below_step G1.out b1) kW)
          have Z := hid (m1.now kW)
          have cn0 := pn.c0
          have cn1 := pn.c1
          have r0 := PR2.out.c0
          have r1 := PR2.out.c1
          have f0 := PR2.out.fz 0
          have f1 := PR2.out.fz 1
          rw [← hW] at cn0 cn1 r0 r1 f0 f1
          have EW := hid hW
          clear hW kW pn m1 b1 HXX PR1 G1 hcv
          go_wp2
          rw [EW.out]
          exact bodyPost_ret (zback4 Tryz.results7 (PR2.out.set _ _) _ (by rfl) (by rfl) (by rfl)) rfl ⟨_, rfl, Z.out.box PR2.out _ _, bset (bset G2.out (by omega)) (by omega)⟩
end Go.Proofs.YtdhmbalkclbhpaaGreatDoor
