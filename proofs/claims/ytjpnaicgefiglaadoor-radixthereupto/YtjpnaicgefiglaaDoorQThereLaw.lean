/-
  ThereLaw: the walk of RadixThere.
-/
import Derived.Test.YtjpnaicgefiglaaDoorQTherePure
namespace Go.Proofs.YtjpnaicgefiglaaDoor
open Go.RowKit
set_option linter.unusedVariables false

set_option maxRecDepth 100000 in
set_option maxHeartbeats 12800000 in
theorem radixThere_good {w : World} {l : List UInt8} {B : Nat} (hT : Sg w) (hB : 2 ≤ B) (hB2 : B ≤ 36) (hl : l.length ≤ 1048576) (hl0 : l ≠ []) (hg : Good B l) :
    Calls Tryd.prog 7 #[.string ⟨l.toArray⟩, .int .i64 (B : Int)] w fun e w' => e = .returned (.bool true) ∧ Below w.heap.size w w' := by
  have HT := hid hT
  obtain ⟨s, hs⟩ : ∃ s, s = (⟨l.toArray⟩ : ByteArray) := ⟨_, rfl⟩
  obtain ⟨n, hn⟩ : ∃ n, l.length = n := ⟨_, rfl⟩
  have hsz : s.size = n := by rw [hs, mk_size, hn]
  have HBT : Hid (∀ i (h : i < l.length) (h' : i < s.size), s[i]'h' = l[i]) := by unfold Hid; subst hs; intro i h h'; rfl
  have HR1 : Hid (∀ w, Sg w → Calls Tryd.prog 13 #[.string s, .int .i64 (B : Int)] w (ReadTo w 0 (ofD B (dsL l)))) := fun w h => by rw [hs]; exact read_good hB hB2 h (by omega) ⟨hl0, hg⟩
  have HSI : Hid (∀ (c : UInt8) (w : World), Calls Tryd.prog 20 #[.int .u8 (c.toNat : Int), .int .i64 (B : Int)] w fun e w' => e = .returned (.tuple #[.int .i64 (sv c.toNat), .bool (decide (dv c.toNat < B))]) ∧ w' = w) := fun c w => by
    have := sign_any c.toNat_lt (B : Int) (by omega) (by omega) w
    rw [decide_eq_decide.2 (sv_ok (c := c.toNat) hB2)] at this
    exact this
  have b1 : ¬ (B : Int) < 2 := by omega
  have b2 : ¬ (36 : Int) < (B : Int) := by omega
  have hem : s.toList.isEmpty = false := by
    have e : s.toList = l := by rw [hs, Lib.toList_data]
    rw [e]; simpa using hl0
  clear hl0
  have HN := hid hn
  rw [hn] at hl
  rw [← hs]
  clear hT hs hn
  go_enter Tryd.func7, Tryd.ntmps7
  go_wp2_with fail
  refine (awake4_any HT.out).mono ?_
  rintro e w1 ⟨rfl, k1⟩
  have T1 := hid (HT.out.now k1)
  have K1 := hid k1
  clear k1
  go_wp2_with fail
  refine (HR1.out w1 T1.out).mono ?_
  rintro e w2 ⟨za, aa, ca, rfl, mA, cA, vA, k2⟩
  have MA := hid mA
  have CA := hid cA
  have VA := hid vA
  have K2 := hid (below_step K1.out k2)
  have T2 := hid (T1.out.now k2)
  clear k2 mA cA vA K1 T1 HR1
  go_wp2_with fail
  go_loopw [7, 8, 9] (fun s7 s8 i wr => ∃ (k : Nat), k ≤ n ∧ s7 = .bool true ∧ i = .int .i64 (k : Int) ∧ Hid (Bys w2.heap.size wr s8 (wr4 l k)) ∧ Hid (KM w2 wr) ∧ Hid (Below w2.heap.size w2 wr) ∧ Hid (∀ j (h : j < l.length), j < k → dv l[j].toNat < B)) (fun _ _ i _ => n - (intOf i).toNat)
  case atStart => exact ⟨0, Nat.zero_le _, rfl, rfl, Bys.nil _ _, KM.refl _, Below.refl _ _, fun j h q => absurd q (Nat.not_lt_zero _)⟩
  case round =>
    obtain ⟨k, hk, rfl, rfl, HBY, HKM, KK, HGD⟩ := hrel
    obtain ⟨xa, xc, hx8⟩ := HBY.out.form
    subst hx8
    have hwl := wr4_len l k
    by_cases hlt : k < n
    · have hkl : k < l.length := by rw [HN.out]; exact hlt
      have hks : k < s.size := by omega
      have hbt := HBT.out k hkl hks
      have HS1 := hid (HSI.out l[k])
      have hnx := wr4_next hkl
      by_cases hd : dv l[k].toNat < B
      · rw [decide_eq_true hd] at HS1
        have HGD2 : Hid (∀ j (h : j < l.length), j < k + 1 → dv l[j].toNat < B) := fun j h q => by
          rcases Nat.lt_or_ge j k with q' | q'
          · exact HGD.out j h q'
          · obtain rfl : j = k := by omega
            exact hd
        rw [sv_dv (by omega)] at HS1
        have hix : ((s[k]'hks).toNat : Int) = (l[k].toNat : Int) := by rw [hbt]
        obtain ⟨cb, hcb⟩ : ∃ cb, cb = l[k].toNat := ⟨_, rfl⟩
        rw [← hcb] at HS1 hnx hd hix
        obtain ⟨d, hdd⟩ : ∃ d, dv cb = d := ⟨_, rfl⟩
        rw [hdd] at HS1 hnx hd
        by_cases hz : wr4 l k = [] ∧ d = 0
        · rw [if_pos hz] at hnx
          have HB2 : Hid (Bys w2.heap.size wr (.slice xa 0 xc) (wr4 l (k + 1))) := by
            unfold Hid
            have := HBY.out
            rw [hz.1] at this
            rw [hnx]
            exact this
          have hl0 : (wr4 l k).length = 0 := by rw [hz.1]; rfl
          have hd0 : d = 0 := hz.2
          rw [hl0]
          subst hd0
          clear hz hnx HBY HGD hdd hbt hcb hwl hl0
          go_wp2_with fail
          refine (HS1.out wr).mono ?_
          rintro e w3 ⟨rfl, rfl⟩
          clear HS1
          go_wp2
          go_roundw
          case rel => exact ⟨k + 1, by omega, rfl, by go_num, HB2, HKM, KK, HGD2⟩
          case measure => first | (simp [intOf]; done) | (simp [intOf]; omega)
        · rw [if_neg hz] at hnx
          have hor : d = 0 → 0 < (wr4 l k).length := fun q => List.length_pos_iff.2 (fun e => hz ⟨e, q⟩)
          have hd36 : d < 36 := by omega
          have hsr := sgn_range hd36
          have ka := (Below.refl wr.heap.size wr).alloc (Nat.le_refl _) (.cells #[.int .u8 (sgn d)] 5)
          have HB1 := hid (HBY.out.now ka)
          have HK1 : Hid (KM w2 (wr.alloc (.cells #[.int .u8 (sgn d)] 5))) := HKM.out.trans (KM.below ka)
          have HE1 := hid (below_step KK.out ka)
          have HCC : Hid ((wr.alloc (.cells #[.int .u8 (sgn d)] 5)).cell? ⟨wr.heap.size, 0, none⟩ = some (.int .u8 (sgn d))) := by unfold Hid; simp
          have HPL : Hid ((wr4 l k).length ≤ 1000000000) := by unfold Hid; omega
          have HSZ : Hid (w2.heap.size ≤ (wr.alloc (.cells #[.int .u8 (sgn d)] 5)).heap.size) := HE1.out.size
          have HNX := hid hnx
          have hxd : (¬ (9 : Int) < (d : Int) ∧ sgn d = 48 + (d : Int)) ∨ ((9 : Int) < (d : Int) ∧ sgn d = 87 + (d : Int)) := by unfold sgn; split <;> omega
          obtain ⟨x, hx⟩ : ∃ x, x = sgn d := ⟨_, rfl⟩
          rw [← hx] at HB1 HK1 HE1 HCC HSZ HNX hsr hxd
          obtain ⟨nl, hwL⟩ : ∃ nl, nl = (wr4 l k).length := ⟨_, rfl⟩
          rw [← hwL] at HB1 hwl hor ⊢
          have HWL := hid hwL
          clear hz hnx HBY HGD hdd ka hx hwL hbt hcb
          by_cases h0 : (0 : Int) < (d : Int)
          · rcases hxd with ⟨h9, hx⟩ | ⟨h9, hx⟩
            · have g1 : 48 + (d : Int) = x := hx.symm
              clear hx hor
              go_wp2_with fail
              refine (HS1.out wr).mono ?_
              rintro e w3 ⟨rfl, rfl⟩
              clear HS1
              go_wp2_with (at_builtin; refine wpList_append_byte _ rfl (.tmp 70) (.tmp 72) rfl w2.heap.size _ (wr4 l k) x rfl HB1.out w3.heap.size rfl HCC.out HPL.out HSZ.out ?_)
              intro a' cap' w4 hB4 hK4 hE4
              have HB4 : Hid (Bys w2.heap.size w4 (.slice a' ((wr4 l k).length + 1) cap') (wr4 l (k + 1))) := by unfold Hid; rw [HNX.out]; exact hB4.out
              have HK4 : Hid (KM w2 w4) := HK1.out.trans hK4.out
              have HE4 : Hid (Below w2.heap.size w2 w4) := HE1.out.trans hE4.out
              clear hB4 hK4 hE4 HB1 HK1 HE1 HCC HPL HSZ HNX
              go_wp2
              go_roundw
              case rel => exact ⟨k + 1, by omega, rfl, by go_num, HB4, HK4, HE4, HGD2⟩
              case measure => first | (simp [intOf]; done) | (simp [intOf]; omega)
            · have g1 : 48 + (d : Int) = 48 + (d : Int) := rfl
              obtain ⟨y, hy⟩ : ∃ y : Nat, (y : Int) = 48 + (d : Int) := ⟨48 + d, by omega⟩
              have g2 : 48 + (d : Int) = (y : Int) := hy.symm
              obtain ⟨z, hz⟩ : ∃ z : Nat, (z : Int) = 97 + (d : Int) := ⟨97 + d, by omega⟩
              have g3 : 97 + (d : Int) = (z : Int) := hz.symm
              have g4 : (z : Int) - 10 = x := by omega
              clear hx hor g1 hy hz
              go_wp2_with fail
              refine (HS1.out wr).mono ?_
              rintro e w3 ⟨rfl, rfl⟩
              clear HS1
              go_wp2_with (at_builtin; refine wpList_append_byte _ rfl (.tmp 70) (.tmp 72) rfl w2.heap.size _ (wr4 l k) x rfl HB1.out w3.heap.size rfl HCC.out HPL.out HSZ.out ?_)
              intro a' cap' w4 hB4 hK4 hE4
              have HB4 : Hid (Bys w2.heap.size w4 (.slice a' ((wr4 l k).length + 1) cap') (wr4 l (k + 1))) := by unfold Hid; rw [HNX.out]; exact hB4.out
              have HK4 : Hid (KM w2 w4) := HK1.out.trans hK4.out
              have HE4 : Hid (Below w2.heap.size w2 w4) := HE1.out.trans hE4.out
              clear hB4 hK4 hE4 HB1 HK1 HE1 HCC HPL HSZ HNX
              go_wp2
              go_roundw
              case rel => exact ⟨k + 1, by omega, rfl, by go_num, HB4, HK4, HE4, HGD2⟩
              case measure => first | (simp [intOf]; done) | (simp [intOf]; omega)
          · have h1 : (0 : Int) < (nl : Int) := by have := hor (by omega); omega
            rcases hxd with ⟨h9, hx⟩ | ⟨h9, hx⟩
            · have hd0 : d = 0 := by omega
              have hx48 : x = 48 := by omega
              subst hd0
              subst hx48
              clear hx hor h9 h0 hsr
              go_wp2_with fail
              refine (HS1.out wr).mono ?_
              rintro e w3 ⟨rfl, rfl⟩
              clear HS1
              go_wp2_with (at_builtin; refine wpList_append_byte _ rfl (.tmp 70) (.tmp 72) rfl w2.heap.size _ (wr4 l k) 48 rfl HB1.out w3.heap.size rfl HCC.out HPL.out HSZ.out ?_)
              intro a' cap' w4 hB4 hK4 hE4
              have HB4 : Hid (Bys w2.heap.size w4 (.slice a' ((wr4 l k).length + 1) cap') (wr4 l (k + 1))) := by unfold Hid; rw [HNX.out]; exact hB4.out
              have HK4 : Hid (KM w2 w4) := HK1.out.trans hK4.out
              have HE4 : Hid (Below w2.heap.size w2 w4) := HE1.out.trans hE4.out
              clear hB4 hK4 hE4 HB1 HK1 HE1 HCC HPL HSZ HNX
              go_wp2
              go_roundw
              case rel => exact ⟨k + 1, by omega, rfl, by go_num, HB4, HK4, HE4, HGD2⟩
              case measure => first | (simp [intOf]; done) | (simp [intOf]; omega)
            · omega
      · exact absurd (hg _ (List.getElem_mem hkl)) hd
    · have ek : k = l.length := by rw [HN.out]; omega
      have HTX := hid (there_text hB hB2 hg)
      have hdd : ∀ x ∈ dsL l, x < B := fun x hx => by
        obtain ⟨b, hb, rfl⟩ := List.mem_map.1 hx
        exact hg b hb
      have hla : za.length ≤ 1048576 := canon_lt CA.out hB2 (n := l.length) (by rw [VA.out]; have := ofD_lt (by omega : 0 < B) _ hdd; simpa [dsL] using this) (by have := HN.out; omega)
      rw [← ek] at HTX
      obtain ⟨L, hL⟩ : ∃ L, L = wr4 l k := ⟨_, rfl⟩
      rw [← hL] at HBY hwl HTX ⊢
      have MAr := hid (HKM.out _ _ MA.out)
      have Tr := hid (T2.out.now KK.out)
      have Kr := hid (below_step K2.out KK.out)
      have hkn : k ≤ 1048576 := by omega
      have HVA := hid VA.out
      clear hdd ek hL HGD hg
      by_cases hLe : L = []
      · have HT2 : Hid ((txtL B (ofD B (dsL l))).map (fun b => (b.toNat : Int)) = [48]) := by unfold Hid; rw [← HTX.out, if_pos hLe]
        subst hLe
        have ka := (Below.refl wr.heap.size wr).alloc (Nat.le_refl _) (.cells #[.int .u8 48] 5)
        have HB1 := hid (HBY.out.now ka)
        have MA1 := hid (MAr.out.below ka)
        have T1 := hid (Tr.out.now ka)
        have K1 := hid (below_step Kr.out ka)
        have HCC : Hid ((wr.alloc (.cells #[.int .u8 48] 5)).cell? ⟨wr.heap.size, 0, none⟩ = some (.int .u8 48)) := by unfold Hid; simp
        have HSZ : Hid (w2.heap.size ≤ (wr.alloc (.cells #[.int .u8 48] 5)).heap.size) := Nat.le_trans KK.out.size ka.size
        clear ka HBY MAr Tr Kr HTX
        simp only [List.length_nil] at HB1 ⊢
        go_wp2_with (at_builtin; refine wpList_append_byte_m _ rfl (.tmp 86) (.tmp 87) rfl w2.heap.size _ [] 48 rfl HB1.out wr.heap.size rfl HCC.out (by simp) HSZ.out ?_)
        intro m a' cap' w4 hm hB4 hK4 hE4
        have HB4 : Hid (Bys w2.heap.size w4 (.slice a' m cap') [48]) := hB4
        have HM : Hid (m = 1) := hm
        clear hm
        have MA4 := hid (hK4.out _ _ MA1.out)
        have T4 : Hid (Sg w4) := by
          unfold Hid
          intro d hd
          have hp := T2.out.pos
          exact ((KK.out.trans (((Below.refl _ _).alloc KK.out.size _).trans hE4.out)).cell (p := ⟨0, d, none⟩) hp).trans (T2.out d hd)
        have K4 : Hid (Below w.heap.size w w4) := K2.out.trans ((KK.out.trans (((Below.refl _ _).alloc KK.out.size _).trans hE4.out)).mono K2.out.size)
        have HTT := hid (text_any MA4.out.sl hla hB hB2 T4.out)
        rw [HVA.out] at HTT
        clear hB4 hK4 hE4 HB1 HCC HSZ MA1 T1 K1
        try simp only [List.length_nil, Nat.zero_add]
        go_wp2_with fail
        refine HTT.out.mono ?_
        rintro e w5 ⟨rfl, k5⟩
        obtain ⟨g, hga, _, hce⟩ := (HB4.out.now k5).cells (by simp)
        subst hga
        have hcv := run_convert_bytes_arg (P := Tryd.prog) w5 38 5 Tryd.underlying38 Tryd.underlying5 g 0 m cap' [48] HM.out.symm (fun i hi => hce i (by rw [HM.out] at hi; exact hi)) 9 Tryd.underlying9
        rw [← HT2.out, str_of_txt] at hcv
        have K5 := hid (below_step K4.out k5)
        have etx : (⟨(txtL B (ofD B (dsL l))).toArray⟩ : ByteArray) = txt B (ofD B (dsL l)) := rfl
        rw [etx, HM.out] at hcv
        have HCV := hid hcv
        clear hcv
        generalize txt B (ofD B (dsL l)) = tx at *
        clear hce k5 HTT HB4 MA4 T4 K4 HT2 etx
        go_wp2
        rw [HCV.out]
        go_wp2
        go_ret
        exact ⟨by simp, K5.out⟩
      · have HT2 : Hid ((txtL B (ofD B (dsL l))).map (fun b => (b.toNat : Int)) = L) := by unfold Hid; rw [← HTX.out, if_neg hLe]
        have hLp : 0 < L.length := List.length_pos_iff.2 hLe
        have HTT := hid (text_any MAr.out.sl hla hB hB2 Tr.out)
        rw [HVA.out] at HTT
        obtain ⟨nL, hnL⟩ : ∃ nL, nL = L.length := ⟨_, rfl⟩
        have HNL := hid hnL
        have hz0 : ((nL : Int) == 0) = false := by rw [beq_eq_false_iff_ne]; omega
        rw [← hnL] at hwl hLp ⊢
        clear hLe HTX hnL
        go_wp2_with fail
        refine HTT.out.mono ?_
        rintro e w5 ⟨rfl, k5⟩
        obtain ⟨g, hga, _, hce⟩ := (HBY.out.now k5).cells (by rw [← HNL.out]; exact hLp)
        subst hga
        have hcv := run_convert_bytes_arg (P := Tryd.prog) w5 38 5 Tryd.underlying38 Tryd.underlying5 g 0 nL xc L HNL.out.symm (fun i hi => hce i (by rw [← HNL.out]; exact hi)) 9 Tryd.underlying9
        rw [← HT2.out, str_of_txt] at hcv
        have K5 := hid (below_step Kr.out k5)
        have etx : (⟨(txtL B (ofD B (dsL l))).toArray⟩ : ByteArray) = txt B (ofD B (dsL l)) := rfl
        rw [etx] at hcv
        generalize txt B (ofD B (dsL l)) = tx at *
        clear hce k5 HTT HBY MAr Tr Kr HT2 etx
        go_wp2
        go_ret
        exact ⟨by simp, K5.out⟩
set_option maxRecDepth 100000 in
set_option maxHeartbeats 12800000 in
theorem radixThere_bad {w : World} {l : List UInt8} {B : Nat} (hT : Sg w) (hB : 2 ≤ B) (hB2 : B ≤ 36) (hl : l.length ≤ 1048576) (hl0 : l ≠ []) (hg : ¬ Good B l) :
    Calls Tryd.prog 7 #[.string ⟨l.toArray⟩, .int .i64 (B : Int)] w fun e w' => e = .returned (.bool true) ∧ Below w.heap.size w w' := by
  have HT := hid hT
  obtain ⟨s, hs⟩ : ∃ s, s = (⟨l.toArray⟩ : ByteArray) := ⟨_, rfl⟩
  obtain ⟨n, hn⟩ : ∃ n, l.length = n := ⟨_, rfl⟩
  have hsz : s.size = n := by rw [hs, mk_size, hn]
  have HBT : Hid (∀ i (h : i < l.length) (h' : i < s.size), s[i]'h' = l[i]) := by unfold Hid; subst hs; intro i h h'; rfl
  have HR1 : Hid (∀ w, Sg w → Calls Tryd.prog 13 #[.string s, .int .i64 (B : Int)] w (ReadTo w 7 0)) := fun w h => by rw [hs]; exact read_none hB hB2 h (by omega) (fun q => hg q.2)
  have HSI : Hid (∀ (c : UInt8) (w : World), Calls Tryd.prog 20 #[.int .u8 (c.toNat : Int), .int .i64 (B : Int)] w fun e w' => e = .returned (.tuple #[.int .i64 (sv c.toNat), .bool (decide (dv c.toNat < B))]) ∧ w' = w) := fun c w => by
    have := sign_any c.toNat_lt (B : Int) (by omega) (by omega) w
    rw [decide_eq_decide.2 (sv_ok (c := c.toNat) hB2)] at this
    exact this
  have b1 : ¬ (B : Int) < 2 := by omega
  have b2 : ¬ (36 : Int) < (B : Int) := by omega
  have hem : s.toList.isEmpty = false := by
    have e : s.toList = l := by rw [hs, Lib.toList_data]
    rw [e]; simpa using hl0
  clear hl0
  have HN := hid hn
  rw [hn] at hl
  rw [← hs]
  clear hT hs hn
  go_enter Tryd.func7, Tryd.ntmps7
  go_wp2_with fail
  refine (awake4_any HT.out).mono ?_
  rintro e w1 ⟨rfl, k1⟩
  have T1 := hid (HT.out.now k1)
  have K1 := hid k1
  clear k1
  go_wp2_with fail
  refine (HR1.out w1 T1.out).mono ?_
  rintro e w2 ⟨za, aa, ca, rfl, mA, cA, vA, k2⟩
  have MA := hid mA
  have CA := hid cA
  have VA := hid vA
  have K2 := hid (below_step K1.out k2)
  have T2 := hid (T1.out.now k2)
  clear k2 mA cA vA K1 T1 HR1
  have hz0 : za.length = 0 := by
    have h1 : val za = 0 := by rw [val_vn CA.out.1, VA.out]; rfl
    have h2 : za = [] := canon_inj CA.out canon_nil (by rw [h1]; rfl)
    rw [h2]; rfl
  rw [hz0]
  clear hz0
  go_wp2_with fail
  go_loopw [7, 8, 9] (fun s7 s8 i wr => ∃ (k : Nat), k ≤ n ∧ s7 = .bool true ∧ i = .int .i64 (k : Int) ∧ Hid (Bys w2.heap.size wr s8 (wr4 l k)) ∧ Hid (KM w2 wr) ∧ Hid (Below w2.heap.size w2 wr) ∧ Hid (∀ j (h : j < l.length), j < k → dv l[j].toNat < B)) (fun _ _ i _ => n - (intOf i).toNat)
  case atStart => exact ⟨0, Nat.zero_le _, rfl, rfl, Bys.nil _ _, KM.refl _, Below.refl _ _, fun j h q => absurd q (Nat.not_lt_zero _)⟩
  case round =>
    obtain ⟨k, hk, rfl, rfl, HBY, HKM, KK, HGD⟩ := hrel
    obtain ⟨xa, xc, hx8⟩ := HBY.out.form
    subst hx8
    have hwl := wr4_len l k
    by_cases hlt : k < n
    · have hkl : k < l.length := by rw [HN.out]; exact hlt
      have hks : k < s.size := by omega
      have hbt := HBT.out k hkl hks
      have HS1 := hid (HSI.out l[k])
      have hnx := wr4_next hkl
      by_cases hd : dv l[k].toNat < B
      · rw [decide_eq_true hd] at HS1
        have HGD2 : Hid (∀ j (h : j < l.length), j < k + 1 → dv l[j].toNat < B) := fun j h q => by
          rcases Nat.lt_or_ge j k with q' | q'
          · exact HGD.out j h q'
          · obtain rfl : j = k := by omega
            exact hd
        rw [sv_dv (by omega)] at HS1
        have hix : ((s[k]'hks).toNat : Int) = (l[k].toNat : Int) := by rw [hbt]
        obtain ⟨cb, hcb⟩ : ∃ cb, cb = l[k].toNat := ⟨_, rfl⟩
        rw [← hcb] at HS1 hnx hd hix
        obtain ⟨d, hdd⟩ : ∃ d, dv cb = d := ⟨_, rfl⟩
        rw [hdd] at HS1 hnx hd
        by_cases hz : wr4 l k = [] ∧ d = 0
        · rw [if_pos hz] at hnx
          have HB2 : Hid (Bys w2.heap.size wr (.slice xa 0 xc) (wr4 l (k + 1))) := by
            unfold Hid
            have := HBY.out
            rw [hz.1] at this
            rw [hnx]
            exact this
          have hl0 : (wr4 l k).length = 0 := by rw [hz.1]; rfl
          have hd0 : d = 0 := hz.2
          rw [hl0]
          subst hd0
          clear hz hnx HBY HGD hdd hbt hcb hwl hl0
          go_wp2_with fail
          refine (HS1.out wr).mono ?_
          rintro e w3 ⟨rfl, rfl⟩
          clear HS1
          go_wp2
          go_roundw
          case rel => exact ⟨k + 1, by omega, rfl, by go_num, HB2, HKM, KK, HGD2⟩
          case measure => first | (simp [intOf]; done) | (simp [intOf]; omega)
        · rw [if_neg hz] at hnx
          have hor : d = 0 → 0 < (wr4 l k).length := fun q => List.length_pos_iff.2 (fun e => hz ⟨e, q⟩)
          have hd36 : d < 36 := by omega
          have hsr := sgn_range hd36
          have ka := (Below.refl wr.heap.size wr).alloc (Nat.le_refl _) (.cells #[.int .u8 (sgn d)] 5)
          have HB1 := hid (HBY.out.now ka)
          have HK1 : Hid (KM w2 (wr.alloc (.cells #[.int .u8 (sgn d)] 5))) := HKM.out.trans (KM.below ka)
          have HE1 := hid (below_step KK.out ka)
          have HCC : Hid ((wr.alloc (.cells #[.int .u8 (sgn d)] 5)).cell? ⟨wr.heap.size, 0, none⟩ = some (.int .u8 (sgn d))) := by unfold Hid; simp
          have HPL : Hid ((wr4 l k).length ≤ 1000000000) := by unfold Hid; omega
          have HSZ : Hid (w2.heap.size ≤ (wr.alloc (.cells #[.int .u8 (sgn d)] 5)).heap.size) := HE1.out.size
          have HNX := hid hnx
          have hxd : (¬ (9 : Int) < (d : Int) ∧ sgn d = 48 + (d : Int)) ∨ ((9 : Int) < (d : Int) ∧ sgn d = 87 + (d : Int)) := by unfold sgn; split <;> omega
          obtain ⟨x, hx⟩ : ∃ x, x = sgn d := ⟨_, rfl⟩
          rw [← hx] at HB1 HK1 HE1 HCC HSZ HNX hsr hxd
          obtain ⟨nl, hwL⟩ : ∃ nl, nl = (wr4 l k).length := ⟨_, rfl⟩
          rw [← hwL] at HB1 hwl hor ⊢
          have HWL := hid hwL
          clear hz hnx HBY HGD hdd ka hx hwL hbt hcb
          by_cases h0 : (0 : Int) < (d : Int)
          · rcases hxd with ⟨h9, hx⟩ | ⟨h9, hx⟩
            · have g1 : 48 + (d : Int) = x := hx.symm
              clear hx hor
              go_wp2_with fail
              refine (HS1.out wr).mono ?_
              rintro e w3 ⟨rfl, rfl⟩
              clear HS1
              go_wp2_with (at_builtin; refine wpList_append_byte _ rfl (.tmp 70) (.tmp 72) rfl w2.heap.size _ (wr4 l k) x rfl HB1.out w3.heap.size rfl HCC.out HPL.out HSZ.out ?_)
              intro a' cap' w4 hB4 hK4 hE4
              have HB4 : Hid (Bys w2.heap.size w4 (.slice a' ((wr4 l k).length + 1) cap') (wr4 l (k + 1))) := by unfold Hid; rw [HNX.out]; exact hB4.out
              have HK4 : Hid (KM w2 w4) := HK1.out.trans hK4.out
              have HE4 : Hid (Below w2.heap.size w2 w4) := HE1.out.trans hE4.out
              clear hB4 hK4 hE4 HB1 HK1 HE1 HCC HPL HSZ HNX
              go_wp2
              go_roundw
              case rel => exact ⟨k + 1, by omega, rfl, by go_num, HB4, HK4, HE4, HGD2⟩
              case measure => first | (simp [intOf]; done) | (simp [intOf]; omega)
            · have g1 : 48 + (d : Int) = 48 + (d : Int) := rfl
              obtain ⟨y, hy⟩ : ∃ y : Nat, (y : Int) = 48 + (d : Int) := ⟨48 + d, by omega⟩
              have g2 : 48 + (d : Int) = (y : Int) := hy.symm
              obtain ⟨z, hz⟩ : ∃ z : Nat, (z : Int) = 97 + (d : Int) := ⟨97 + d, by omega⟩
              have g3 : 97 + (d : Int) = (z : Int) := hz.symm
              have g4 : (z : Int) - 10 = x := by omega
              clear hx hor g1 hy hz
              go_wp2_with fail
              refine (HS1.out wr).mono ?_
              rintro e w3 ⟨rfl, rfl⟩
              clear HS1
              go_wp2_with (at_builtin; refine wpList_append_byte _ rfl (.tmp 70) (.tmp 72) rfl w2.heap.size _ (wr4 l k) x rfl HB1.out w3.heap.size rfl HCC.out HPL.out HSZ.out ?_)
              intro a' cap' w4 hB4 hK4 hE4
              have HB4 : Hid (Bys w2.heap.size w4 (.slice a' ((wr4 l k).length + 1) cap') (wr4 l (k + 1))) := by unfold Hid; rw [HNX.out]; exact hB4.out
              have HK4 : Hid (KM w2 w4) := HK1.out.trans hK4.out
              have HE4 : Hid (Below w2.heap.size w2 w4) := HE1.out.trans hE4.out
              clear hB4 hK4 hE4 HB1 HK1 HE1 HCC HPL HSZ HNX
              go_wp2
              go_roundw
              case rel => exact ⟨k + 1, by omega, rfl, by go_num, HB4, HK4, HE4, HGD2⟩
              case measure => first | (simp [intOf]; done) | (simp [intOf]; omega)
          · have h1 : (0 : Int) < (nl : Int) := by have := hor (by omega); omega
            rcases hxd with ⟨h9, hx⟩ | ⟨h9, hx⟩
            · have hd0 : d = 0 := by omega
              have hx48 : x = 48 := by omega
              subst hd0
              subst hx48
              clear hx hor h9 h0 hsr
              go_wp2_with fail
              refine (HS1.out wr).mono ?_
              rintro e w3 ⟨rfl, rfl⟩
              clear HS1
              go_wp2_with (at_builtin; refine wpList_append_byte _ rfl (.tmp 70) (.tmp 72) rfl w2.heap.size _ (wr4 l k) 48 rfl HB1.out w3.heap.size rfl HCC.out HPL.out HSZ.out ?_)
              intro a' cap' w4 hB4 hK4 hE4
              have HB4 : Hid (Bys w2.heap.size w4 (.slice a' ((wr4 l k).length + 1) cap') (wr4 l (k + 1))) := by unfold Hid; rw [HNX.out]; exact hB4.out
              have HK4 : Hid (KM w2 w4) := HK1.out.trans hK4.out
              have HE4 : Hid (Below w2.heap.size w2 w4) := HE1.out.trans hE4.out
              clear hB4 hK4 hE4 HB1 HK1 HE1 HCC HPL HSZ HNX
              go_wp2
              go_roundw
              case rel => exact ⟨k + 1, by omega, rfl, by go_num, HB4, HK4, HE4, HGD2⟩
              case measure => first | (simp [intOf]; done) | (simp [intOf]; omega)
            · omega
      · rw [decide_eq_false hd] at HS1
        have hix : ((s[k]'hks).toNat : Int) = (l[k].toNat : Int) := by rw [hbt]
        have KF := hid (below_step K2.out KK.out)
        generalize l[k].toNat = cb at *
        generalize sv cb = sc at *
        clear hd hnx HBY HGD hbt hwl
        go_wp2_with fail
        refine (HS1.out wr).mono ?_
        rintro e w3 ⟨rfl, rfl⟩
        clear HS1
        go_wp2
        go_ret
        exact ⟨rfl, KF.out⟩
    · exact absurd (fun b hb => by
        obtain ⟨i, hi, rfl⟩ := List.getElem_of_mem hb
        exact HGD.out i hi (by have := HN.out; omega)) hg
set_option maxRecDepth 100000 in
set_option maxHeartbeats 12800000 in
theorem radixThere_nil {w : World} {l : List UInt8} {B : Nat} (hT : Sg w) (hB : 2 ≤ B) (hB2 : B ≤ 36) (hl : l.length ≤ 1048576) (hl0 : l = []) :
    Calls Tryd.prog 7 #[.string ⟨l.toArray⟩, .int .i64 (B : Int)] w fun e w' => e = .returned (.bool true) ∧ Below w.heap.size w w' := by
  have HT := hid hT
  obtain ⟨s, hs⟩ : ∃ s, s = (⟨l.toArray⟩ : ByteArray) := ⟨_, rfl⟩
  obtain ⟨n, hn⟩ : ∃ n, l.length = n := ⟨_, rfl⟩
  have hsz : s.size = n := by rw [hs, mk_size, hn]
  have HBT : Hid (∀ i (h : i < l.length) (h' : i < s.size), s[i]'h' = l[i]) := by unfold Hid; subst hs; intro i h h'; rfl
  have HR1 : Hid (∀ w, Sg w → Calls Tryd.prog 13 #[.string s, .int .i64 (B : Int)] w (ReadTo w 7 0)) := fun w h => by rw [hs]; exact read_none hB hB2 h (by omega) (fun q => q.1 hl0)
  have HSI : Hid (∀ (c : UInt8) (w : World), Calls Tryd.prog 20 #[.int .u8 (c.toNat : Int), .int .i64 (B : Int)] w fun e w' => e = .returned (.tuple #[.int .i64 (sv c.toNat), .bool (decide (dv c.toNat < B))]) ∧ w' = w) := fun c w => by
    have := sign_any c.toNat_lt (B : Int) (by omega) (by omega) w
    rw [decide_eq_decide.2 (sv_ok (c := c.toNat) hB2)] at this
    exact this
  have b1 : ¬ (B : Int) < 2 := by omega
  have b2 : ¬ (36 : Int) < (B : Int) := by omega
  have hem : s.toList.isEmpty = true := by rw [hs, Lib.toList_data, hl0]; rfl
  have hn0 : n = 0 := by rw [← hn, hl0]; rfl
  have HN := hid hn
  rw [hn] at hl
  rw [← hs]
  clear hT hs hn
  go_enter Tryd.func7, Tryd.ntmps7
  go_wp2_with fail
  refine (awake4_any HT.out).mono ?_
  rintro e w1 ⟨rfl, k1⟩
  have T1 := hid (HT.out.now k1)
  have K1 := hid k1
  clear k1
  go_wp2_with fail
  refine (HR1.out w1 T1.out).mono ?_
  rintro e w2 ⟨za, aa, ca, rfl, mA, cA, vA, k2⟩
  have MA := hid mA
  have CA := hid cA
  have VA := hid vA
  have K2 := hid (below_step K1.out k2)
  have T2 := hid (T1.out.now k2)
  clear k2 mA cA vA K1 T1 HR1
  have hz0 : za.length = 0 := by
    have h1 : val za = 0 := by rw [val_vn CA.out.1, VA.out]; rfl
    have h2 : za = [] := canon_inj CA.out canon_nil (by rw [h1]; rfl)
    rw [h2]; rfl
  rw [hz0]
  clear hz0
  go_wp2_with fail
  go_loopw [7, 8, 9] (fun s7 s8 i wr => ∃ (k : Nat), k ≤ n ∧ s7 = .bool false ∧ i = .int .i64 (k : Int) ∧ Hid (Bys w2.heap.size wr s8 (wr4 l k)) ∧ Hid (KM w2 wr) ∧ Hid (Below w2.heap.size w2 wr) ∧ Hid (∀ j (h : j < l.length), j < k → dv l[j].toNat < B)) (fun _ _ i _ => n - (intOf i).toNat)
  case atStart => exact ⟨0, Nat.zero_le _, rfl, rfl, Bys.nil _ _, KM.refl _, Below.refl _ _, fun j h q => absurd q (Nat.not_lt_zero _)⟩
  case round =>
    obtain ⟨k, hk, rfl, rfl, HBY, HKM, KK, HGD⟩ := hrel
    obtain ⟨xa, xc, hx8⟩ := HBY.out.form
    subst hx8
    have hwl := wr4_len l k
    by_cases hlt : k < n
    · omega
    · have KF := hid (below_step K2.out KK.out)
      go_wp2
      go_ret
      exact ⟨rfl, KF.out⟩
theorem radixThere_base {w : World} {s : ByteArray} {b : Int} (hT : Sg w) (hb0 : -9223372036854775808 ≤ b) (hb1 : b ≤ 9223372036854775807) (hb : ¬ (2 ≤ b ∧ b ≤ 36)) :
    Calls Tryd.prog 7 #[.string s, .int .i64 b] w fun e w' => e = .returned (.bool true) ∧ Below w.heap.size w w' := by
  have HT := hid hT
  have HRB : Hid (∀ (w : World), Calls Tryd.prog 13 #[.string s, .int .i64 b] w fun e w' => e = .returned (.tuple #[.slice none 0 0, .int .i64 3]) ∧ w' = w) := fun w => read_bad hb0 hb1 hb s
  clear hT
  by_cases b1 : b < 2
  · clear hb
    go_enter Tryd.func7, Tryd.ntmps7
    go_wp2_with fail
    refine (awake4_any HT.out).mono ?_
    rintro e w1 ⟨rfl, k1⟩
    have K1 := hid k1
    clear k1
    go_wp2_with fail
    refine (HRB.out w1).mono ?_
    rintro e w2 ⟨rfl, rfl⟩
    clear HRB
    go_wp2
    go_ret
    exact ⟨rfl, K1.out⟩
  · have b2 : (36 : Int) < b := by omega
    clear hb
    go_enter Tryd.func7, Tryd.ntmps7
    go_wp2_with fail
    refine (awake4_any HT.out).mono ?_
    rintro e w1 ⟨rfl, k1⟩
    have K1 := hid k1
    clear k1
    go_wp2_with fail
    refine (HRB.out w1).mono ?_
    rintro e w2 ⟨rfl, rfl⟩
    clear HRB
    go_wp2
    go_ret
    exact ⟨rfl, K1.out⟩
theorem radixThere_any {w : World} {s : ByteArray} {b : Int} (hT : Sg w) (hb0 : -9223372036854775808 ≤ b) (hb1 : b ≤ 9223372036854775807) (hl : s.size ≤ 1048576) :
    Calls Tryd.prog 7 #[.string s, .int .i64 b] w fun e w' => e = .returned (.bool true) ∧ Below w.heap.size w w' := by
  by_cases hb : 2 ≤ b ∧ b ≤ 36
  · obtain ⟨B, hB⟩ : ∃ B : Nat, (B : Int) = b := ⟨b.toNat, by omega⟩
    obtain ⟨l, hs⟩ : ∃ l : List UInt8, s = ⟨l.toArray⟩ := ⟨s.data.toList, by simp⟩
    rw [← hB, hs]
    have h1 : 2 ≤ B := by omega
    have h2 : B ≤ 36 := by omega
    have h3 : l.length ≤ 1048576 := by rw [hs, mk_size] at hl; exact hl
    by_cases hn : l = []
    · exact radixThere_nil hT h1 h2 h3 hn
    · by_cases hg : Good B l
      · exact radixThere_good hT h1 h2 h3 hn hg
      · exact radixThere_bad hT h1 h2 h3 hn hg
  · exact radixThere_base hT hb0 hb1 hb
end Go.Proofs.YtjpnaicgefiglaaDoor
