/-
  GroupsLaw: the walk of RadixGroups.
-/
import Derived.Test.YtdeamihpgdblkaaDoorQGroupsPure
import Derived.Test.YtdeamihpgdblkaaDoorQStepLawToTherePure
import Derived.Test.YtdeamihpgdblkaaDoorQLen2ToAwake
namespace Go.Proofs.YtdeamihpgdblkaaDoor
open Go.RowKit
set_option linter.unusedVariables false

theorem wide_mark {W : List UInt8} {q : Nat} (h : q ≤ W.length) : ((⟨W.toArray⟩ : ByteArray).extract 0 q ++ ⟨#[95]⟩) ++ (⟨W.toArray⟩ : ByteArray).extract q W.length = ⟨(W.take q ++ [95] ++ W.drop q).toArray⟩ := by
  rw [Lib.extract_mk, Lib.extract_mk]
  apply ByteArray.ext
  simp [List.take_of_length_le]
theorem str_lo (w : World) (s : ByteArray) (q : Nat) (h : q ≤ s.size) : (Instr.slice 9 (.string s) none (some (.int .i64 (q : Int))) none).run Tryd.prog w = .ok (.string (s.extract 0 q)) w := by
  have i3 : (q : Int) ≤ (s.size : Int) := by omega
  have i1 : (0 : Int) ≤ (q : Int) := by omega
  go_simp
theorem str_hi (w : World) (s : ByteArray) (q : Nat) (h : q ≤ s.size) : (Instr.slice 9 (.string s) (some (.int .i64 (q : Int))) none none).run Tryd.prog w = .ok (.string (s.extract q s.size)) w := by
  have i3 : (q : Int) ≤ (s.size : Int) := by omega
  have i1 : (0 : Int) ≤ (q : Int) := by omega
  go_simp
theorem mark_ahead (W : List UInt8) : (⟨#[95]⟩ : ByteArray) ++ ⟨W.toArray⟩ = ⟨(95 :: W).toArray⟩ := by apply ByteArray.ext; simp
theorem mark_behind (W : List UInt8) : (⟨W.toArray⟩ : ByteArray) ++ ⟨#[95]⟩ = ⟨(W ++ [95]).toArray⟩ := by apply ByteArray.ext; simp
set_option maxRecDepth 100000 in
set_option maxHeartbeats 12800000 in
theorem radixGroups_any {w : World} {va vp : Value} {xs ps : List Int} (ha : Sl w.heap.size w va xs) (lx : xs.length ≤ 1048576) (hp : SlI w.heap.size w vp ps) (lp : ps.length ≤ 1048576) (hT : Sg w) :
    Calls Tryd.prog 3 #[va, vp] w fun e w' => e = .returned (.bool true) ∧ Below w.heap.size w w' := by
  have HT := hid hT
  have HA := hid ha
  have HP := hid hp
  have hx := ha.1
  have z2 := txt_size (B := 10) (by omega) hx lx
  have e2 : (txt 10 (vn xs)).size = (txtL 10 (vn xs)).length := mk_size _
  have hb := txt_back (B := 10) (n := vn xs) (by omega) (by omega)
  have HDE : Hid (∀ w v, Sg w → Sl w.heap.size w v xs → Calls Tryd.prog 6 #[v] w fun e w' => e = .returned (.string (txt 10 (vn xs))) ∧ Below w.heap.size w w') := fun w v h h' => dec_any h' lx h
  have HGR : Hid (∀ w v, Sg w → Sl w.heap.size w v xs → Calls Tryd.prog 5 #[v] w fun e w' => e = .returned (.string ⟨(grpF true (txtL 10 (vn xs))).toArray⟩) ∧ Below w.heap.size w w') := fun w v h h' => grouped_any h' lx h (fun c hc => (good_ten hb.1.2 hc).1)
  have HEQ : Hid (∀ zs, Canon zs → vn zs = vn xs → zs = lst xs) := fun zs h h' => canon_inj h (canon_lst hx) (by rw [val_lst]; exact (vn_eq h.1 hx).1 h')
  have HL := hid hb
  have HCK := hid (chk_grp true (txtL 10 (vn xs)))
  have hf := chk_first hb.1.1
  have hgl := grp_len true (txtL 10 (vn xs))
  obtain ⟨s, hs⟩ : ∃ s, s = (⟨(grpF true (txtL 10 (vn xs))).toArray⟩ : ByteArray) := ⟨_, rfl⟩
  rw [← hs] at HGR
  generalize grpF true (txtL 10 (vn xs)) = G at *
  obtain ⟨n, hn⟩ : ∃ n, G.length = n := ⟨_, rfl⟩
  have hsz : s.size = n := by rw [hs, mk_size, hn]
  have HBT : Hid (∀ i (h : i < G.length) (h' : i < s.size), s[i]'h' = G[i]) := by unfold Hid; subst hs; intro i h h'; rfl
  have HN := hid hn
  rw [hn] at hf hgl
  have e3 : txt 10 (vn xs) = ⟨(txtL 10 (vn xs)).toArray⟩ := rfl
  have HE3 := hid e3
  have hem : (txt 10 (vn xs)).toList.isEmpty = false := by
    have e : (txt 10 (vn xs)).toList = txtL 10 (vn xs) := Lib.toList_data _
    rw [e]; simpa using hb.1.1
  generalize txt 10 (vn xs) = t at *
  generalize txtL 10 (vn xs) = L at *
  obtain ⟨a, c, rfl⟩ : ∃ a c, va = .slice a xs.length c := by obtain ⟨_, a, c, e, _⟩ := ha; exact ⟨a, c, e⟩
  clear hT ha hx hs hn hp hb e3
  go_enter Tryd.func3, Tryd.ntmps3
  go_wp2_with fail
  refine (awake4_any HT.out).mono ?_
  rintro e w1 ⟨rfl, k⟩
  replace HT := hid (HT.out.now k)
  replace HA := hid (HA.out.now k)
  replace HP := hid (HP.out.now k)
  have K := hid k
  clear k
  go_wp2_with fail
  refine (HGR.out _ _ HT.out HA.out).mono ?_
  rintro e w2 ⟨rfl, k⟩
  replace HT := hid (HT.out.now k)
  replace HA := hid (HA.out.now k)
  replace HP := hid (HP.out.now k)
  replace K := hid (below_step K.out k)
  clear k HGR
  go_wp2_with fail
  refine (HDE.out _ _ HT.out HA.out).mono ?_
  rintro e w3 ⟨rfl, k⟩
  replace HT := hid (HT.out.now k)
  replace HA := hid (HA.out.now k)
  replace HP := hid (HP.out.now k)
  replace K := hid (below_step K.out k)
  clear k HDE
  go_wp2_with fail
  go_loopw [7, 8] (fun sl i wr => ∃ (k : Nat) (acc X : List UInt8), k ≤ n ∧ i = .int .i64 (k : Int) ∧ Hid (Bys w3.heap.size wr sl (acc.map fun b => (b.toNat : Int))) ∧ Hid (Below w3.heap.size w3 wr) ∧ Hid (chk (G.drop k) = some X) ∧ Hid (acc ++ X = L)) (fun _ i _ => n - (intOf i).toNat)
  case atStart => exact ⟨0, [], L, Nat.zero_le _, rfl, Bys.nil _ _, Below.refl _ _, HCK.out, rfl⟩
  case round =>
    obtain ⟨k, acc, X, hk, rfl, HBY, KK, HC, HX⟩ := hrel
    obtain ⟨xa, xc, hx8⟩ := HBY.out.form
    subst hx8
    by_cases hlt : k < n
    · have hkl : k < G.length := by rw [HN.out]; exact hlt
      have hks : k < s.size := by omega
      have hbt := HBT.out k hkl hks
      have hst := chk_step hkl HC.out
      rw [HN.out] at hst
      by_cases hm : (n - k) % 4 = 0
      · rw [if_pos hm] at hst
        obtain ⟨hc, hc2⟩ := hst
        have HC2 := hid hc2
        have hix : ((s[k]'hks).toNat : Int) = 95 := by rw [hbt, hc]; rfl
        have q2 : ((((n : Nat) : Int) - (k : Int)) % 4 == 0) = true := by rw [beq_iff_eq]; omega
        have hk0 : k ≠ 0 := fun e => by subst e; exact hf (by simpa using hm)
        have q3 : ((k : Int) == 0) = false := by rw [beq_eq_false_iff_ne]; omega
        have q4 : ¬ (k : Int) = 0 := by omega
        obtain ⟨m, hml⟩ : ∃ m, (acc.map fun b => (b.toNat : Int)).length = m := ⟨_, rfl⟩
        rw [hml] at HBY ⊢
        clear hc hc2 hbt HC hm hml
        go_wp2
        go_roundw
        case rel => exact ⟨k + 1, acc, X, by omega, by go_num, HBY, KK, HC2, HX⟩
        case measure => first | (simp [intOf]; done) | (simp [intOf]; omega)
      · rw [if_neg hm] at hst
        obtain ⟨Y, hXY, hc2⟩ := hst
        have HC2 := hid hc2
        have hal : acc.length ≤ L.length := by rw [← HX.out]; simp
        have HX2 : Hid ((acc ++ [G[k]]) ++ Y = L) := by unfold Hid; rw [← HX.out, hXY]; simp
        obtain ⟨cb, hcb⟩ : ∃ cb : Nat, cb = G[k].toNat := ⟨_, rfl⟩
        have hcb2 : cb < 256 := by rw [hcb]; exact G[k].toNat_lt
        have hix : ((s[k]'hks).toNat : Int) = (cb : Int) := by rw [hbt, hcb]
        have q2 : ((((n : Nat) : Int) - (k : Int)) % 4 == 0) = false := by rw [beq_eq_false_iff_ne]; omega
        have ka := (Below.refl wr.heap.size wr).alloc (Nat.le_refl _) (.cells #[.int .u8 (cb : Int)] 5)
        have HMP : Hid ((acc ++ [G[k]]).map (fun b => (b.toNat : Int)) = (acc.map fun b => (b.toNat : Int)) ++ [(cb : Int)]) := by unfold Hid; rw [hcb]; simp
        have hbl : (acc.map fun b => (b.toNat : Int)).length ≤ 1000000000 := by rw [List.length_map]; omega
        generalize G[k] = gk at *
        generalize (acc.map fun b => (b.toNat : Int)) = B8 at *
        have HB1 := hid (HBY.out.now ka)
        have HE1 : Hid (Below w3.heap.size w3 (wr.alloc (.cells #[.int .u8 (cb : Int)] 5))) := below_step KK.out ka
        have HCC : Hid ((wr.alloc (.cells #[.int .u8 (cb : Int)] 5)).cell? ⟨wr.heap.size, 0, none⟩ = some (.int .u8 (cb : Int))) := by unfold Hid; simp
        have HPL : Hid (B8.length ≤ 1000000000) := hbl
        have HSZ : Hid (w3.heap.size ≤ (wr.alloc (.cells #[.int .u8 (cb : Int)] 5)).heap.size) := HE1.out.size
        clear hc2 hbt HC hm ka hcb hXY hbl hal HBY
        go_wp2_with (at_builtin; refine wpList_append_byte _ rfl (.tmp 46) (.tmp 50) rfl w3.heap.size _ B8 (cb : Int) rfl HB1.out wr.heap.size rfl HCC.out HPL.out HSZ.out ?_)
        intro a' cap' w4 hB4 hK4 hE4
        have HB4 : Hid (Bys w3.heap.size w4 (.slice a' (B8.length + 1) cap') ((acc ++ [gk]).map (fun b => (b.toNat : Int)))) := by unfold Hid; rw [HMP.out]; exact hB4.out
        have HE4 : Hid (Below w3.heap.size w3 w4) := HE1.out.trans hE4.out
        clear hB4 hK4 hE4 HB1 HE1 HCC HPL HSZ HMP
        go_wp2
        go_roundw
        case rel => exact ⟨k + 1, acc ++ [gk], Y, by omega, by go_num, HB4, HE4, HC2, HX2⟩
        case measure => first | (simp [intOf]; done) | (simp [intOf]; omega)
    · have hkn : k = n := by omega
      have hX : X = [] := by
        have := HC.out
        rw [hkn, ← HN.out, List.drop_length] at this
        exact (Option.some.inj this).symm
      have hacc : acc = L := by rw [← HX.out, hX]; simp
      subst hacc
      have hLp : 0 < acc.length := List.length_pos_iff.2 HL.out.1.1
      obtain ⟨g, hga, _, hce⟩ := HBY.out.cells (by rw [List.length_map]; exact hLp)
      subst hga
      obtain ⟨nL, hnL⟩ : ∃ nL, nL = (acc.map fun b => (b.toNat : Int)).length := ⟨_, rfl⟩
      have hcv := run_convert_bytes_arg (P := Tryd.prog) wr 26 5 Tryd.underlying26 Tryd.underlying5 g 0 nL xc (acc.map fun b => (b.toNat : Int)) hnL.symm (fun i hi => hce i (by rw [← hnL]; exact hi)) 9 Tryd.underlying9
      rw [str_of_txt, ← HE3.out] at hcv
      rw [← hnL]
      replace HT : Hid (Sg wr) := by
        unfold Hid
        intro d hd
        have hp := HT.out.pos
        exact (KK.out.cell (p := ⟨0, d, none⟩) hp).trans (HT.out d hd)
      replace HA := hid (HA.out.now KK.out)
      replace HP := hid (HP.out.now KK.out)
      replace K := hid (below_step K.out KK.out)
      obtain ⟨pa, pc, hvp⟩ : ∃ a c, vp = .slice a ps.length c := by obtain ⟨_, a, c, e, _⟩ := HP.out; exact ⟨a, c, e⟩
      subst hvp
      have HW := hid (Wide.start HL.out.1.1 HL.out.1.2)
      clear hce HBY KK HC HX hX hkn hnL
      generalize wr = V at *
      go_wp2_with fail
      go_loopw [9, 10] (fun wd i wr => ∃ (k : Nat) (W : List UInt8), k ≤ ps.length ∧ i = .int .i64 (k : Int) ∧ wd = .string ⟨W.toArray⟩ ∧ Hid (Wide acc W k) ∧ Hid (Below V.heap.size V wr)) (fun _ i _ => ps.length - (intOf i).toNat)
      case atStart => exact ⟨0, acc, Nat.zero_le _, rfl, congrArg Value.string HE3.out, HW.out, Below.refl _ _⟩
      case round =>
        obtain ⟨j, W, hj, rfl, rfl, HWi, KL⟩ := hrel
        have hwl := HWi.out.len
        have hsW := mk_size W
        by_cases hlt : j < ps.length
        · obtain ⟨hr, a', c', e', hlc, hcm, hcells⟩ := HP.out.now KL.out
          cases e'
          rcases hcells with e0 | ⟨pb, off, rfl, hpb, hcl⟩
          · rw [e0] at hlt; simp at hlt
          have c1 := hcl j hlt
          have hp1 := hr _ (List.getElem_mem hlt)
          clear hcl hr
          generalize ps[j] = q at *
          by_cases hin : 0 < q ∧ q < (W.length : Int)
          · obtain ⟨q, rfl⟩ : ∃ m : Nat, q = (m : Int) := ⟨q.toNat, by omega⟩
            obtain ⟨hq0, hq1⟩ := hin
            obtain ⟨s3, hs3⟩ : ∃ s3, s3 = (⟨W.toArray⟩ : ByteArray) := ⟨_, rfl⟩
            have HWM : Hid ((s3.extract 0 q ++ ⟨#[95]⟩) ++ s3.extract q W.length = ⟨(W.take q ++ [95] ++ W.drop q).toArray⟩) := by unfold Hid; rw [hs3]; exact wide_mark (by omega)
            have hs3z : s3.size = W.length := by rw [hs3]; exact hsW
            rw [← hs3]
            have L1 := fun wx => str_lo wx s3 q (by omega)
            have L2 := fun wx => str_hi wx s3 q (by omega)
            clear hs3 hsW
            go_wp2_with fail
            go_region
            all_goals go_wp2
            all_goals go_roundw
            case rel => exact ⟨j + 1, W.take q ++ [95] ++ W.drop q, by omega, by go_num, congrArg Value.string HWM.out, HWi.out.mark (by omega) (by omega), KL.out.drew⟩
            case measure => first | (simp [intOf]; done) | (simp [intOf]; omega)
          · rcases (show ¬ (0 : Int) < q ∨ ((0 : Int) < q ∧ ¬ q < (W.length : Int)) by omega) with h0 | ⟨h0, h1⟩
            · clear hin
              go_wp2
              go_roundw
              case rel => exact ⟨j + 1, W, by omega, by go_num, rfl, HWi.out.more, KL⟩
              case measure => first | (simp [intOf]; done) | (simp [intOf]; omega)
            · clear hin
              go_wp2
              go_roundw
              case rel => exact ⟨j + 1, W, by omega, by go_num, rfl, HWi.out.more, KL⟩
              case measure => first | (simp [intOf]; done) | (simp [intOf]; omega)
        · obtain ⟨hd0, rr, hW0, -⟩ := HWi.out.hd
          have hWp : 0 < W.length := by rw [hW0]; simp
          clear hW0 rr hd0
          obtain ⟨s2, hs2⟩ : ∃ s2, s2 = (⟨W.toArray⟩ : ByteArray) := ⟨_, rfl⟩
          have HS2 := hid hs2
          have hsz2 : s2.size = W.length := by rw [hs2, mk_size]
          have HB2 : Hid (∀ i (h : i < W.length) (h' : i < s2.size), s2[i]'h' = W[i]) := by unfold Hid; subst hs2; intro i h h'; rfl
          rw [← hs2]
          clear hs2 hsW
          generalize wr = V2 at *
          go_wp2_with fail
          go_loopw [12, 13] (fun tw i wr => ∃ (k : Nat) (b : Bool), k < W.length ∧ i = .int .i64 (k : Int) ∧ tw = .bool b ∧ Hid (b = true ↔ ∃ m, ∃ h : m + 1 < W.length, m < k ∧ W[m] = 95 ∧ W[m + 1] = 95) ∧ Hid (Below V2.heap.size V2 wr)) (fun _ i _ => W.length - (intOf i).toNat)
          case atStart => exact ⟨0, false, hWp, rfl, rfl, ⟨fun h => (by cases h), fun ⟨m, _, h, _⟩ => absurd h (Nat.not_lt_zero _)⟩, Below.refl _ _⟩
          case round =>
            obtain ⟨m, b, hm, rfl, rfl, HTW, KM2⟩ := hrel
            by_cases hlt2 : m + 1 < W.length
            · have hm1 : m < s2.size := by omega
              have hm2 : m + 1 < s2.size := by omega
              have b1 := HB2.out m hm hm1
              have b2 := HB2.out (m + 1) hlt2 hm2
              have hlt3 : (m : Int) + 1 < (W.length : Int) := by omega
              by_cases e1 : W[m] = 95
              · have hx1 : ((s2[m]'hm1).toNat : Int) = 95 := by rw [b1, e1]; rfl
                by_cases e2 : W[m + 1] = 95
                · have hx2 : ((s2[m + 1]'hm2).toNat : Int) = 95 := by rw [b2, e2]; rfl
                  have HTW2 : Hid (true = true ↔ ∃ m', ∃ h : m' + 1 < W.length, m' < m + 1 ∧ W[m'] = 95 ∧ W[m' + 1] = 95) := ⟨fun _ => ⟨m, hlt2, by omega, e1, e2⟩, fun _ => rfl⟩
                  clear b1 b2 e1 e2 HTW
                  go_wp2
                  go_roundw
                  case rel => exact ⟨m + 1, true, hlt2, by go_num, rfl, HTW2, KM2⟩
                  case measure => first | (simp [intOf]; done) | (simp [intOf]; omega)
                · obtain ⟨cb, hcb⟩ : ∃ cb : Nat, cb = W[m + 1].toNat := ⟨_, rfl⟩
                  have hx2 : ((s2[m + 1]'hm2).toNat : Int) = (cb : Int) := by rw [b2, hcb]
                  have hc95 : cb ≠ 95 := fun e => e2 (UInt8.toNat_inj.1 (by rw [← hcb, e]; rfl))
                  have q2 : ((cb : Int) == 95) = false := by rw [beq_eq_false_iff_ne]; omega
                  have HTW2 : Hid (b = true ↔ ∃ m', ∃ h : m' + 1 < W.length, m' < m + 1 ∧ W[m'] = 95 ∧ W[m' + 1] = 95) := by
                    unfold Hid
                    rw [HTW.out]
                    constructor
                    · rintro ⟨m', h1, h2, h3⟩; exact ⟨m', h1, by omega, h3⟩
                    · rintro ⟨m', h1, h2, h3, h4⟩
                      by_cases q : m' = m
                      · subst q; exact absurd h4 e2
                      · exact ⟨m', h1, by omega, h3, h4⟩
                  clear b1 b2 e1 e2 HTW hcb
                  go_wp2
                  go_roundw
                  case rel => exact ⟨m + 1, b, hlt2, by go_num, rfl, HTW2, KM2⟩
                  case measure => first | (simp [intOf]; done) | (simp [intOf]; omega)
              · obtain ⟨cb, hcb⟩ : ∃ cb : Nat, cb = W[m].toNat := ⟨_, rfl⟩
                have hx1 : ((s2[m]'hm1).toNat : Int) = (cb : Int) := by rw [b1, hcb]
                have hc95 : cb ≠ 95 := fun e => e1 (UInt8.toNat_inj.1 (by rw [← hcb, e]; rfl))
                have q2 : ((cb : Int) == 95) = false := by rw [beq_eq_false_iff_ne]; omega
                have HTW2 : Hid (b = true ↔ ∃ m', ∃ h : m' + 1 < W.length, m' < m + 1 ∧ W[m'] = 95 ∧ W[m' + 1] = 95) := by
                  unfold Hid
                  rw [HTW.out]
                  constructor
                  · rintro ⟨m', h1, h2, h3⟩; exact ⟨m', h1, by omega, h3⟩
                  · rintro ⟨m', h1, h2, h3, h4⟩
                    by_cases q : m' = m
                    · subst q; exact absurd h3 e1
                    · exact ⟨m', h1, by omega, h3, h4⟩
                clear b1 b2 e1 HTW hcb
                go_wp2
                go_roundw
                case rel => exact ⟨m + 1, b, hlt2, by go_num, rfl, HTW2, KM2⟩
                case measure => first | (simp [intOf]; done) | (simp [intOf]; omega)
            · have hlt3 : ¬ (m : Int) + 1 < (W.length : Int) := by omega
              have KV := hid (below_step KL.out KM2.out)
              replace HT : Hid (Sg wr) := HT.out.now KV.out
              replace HA := hid (HA.out.now KV.out)
              replace K := hid (below_step K.out KV.out)
              have hll : W.length ≤ 200000000 := by omega
              cases b with
              | true =>
                have HNL : Hid (¬ Lone W) := fun hl => by
                  obtain ⟨m', h1, _, h3⟩ := HTW.out.1 rfl
                  exact hl m' h1 h3
                have HR := hid (rg_none HT.out hll HWi.out.asc (ugL_twice W true HNL.out))
                rw [← HS2.out] at HR
                have q7 : ((7 : Int) == 7) = true := rfl
                clear HTW HNL
                go_wp2_with fail
                refine HR.out.mono ?_
                rintro e w5 ⟨rfl, k⟩
                replace K := hid (below_step K.out k)
                clear k HR
                go_wp2
                go_ret
                exact ⟨rfl, K.out⟩
              | false =>
                have HLN : Hid (Lone W) := fun j hj hp => by
                  have := HTW.out.2 ⟨j, hj, by omega, hp⟩
                  cases this
                have HR : Hid (∀ w, Sg w → Calls Tryd.prog 7 #[.string s2] w (ReadTo w 0 (vn xs))) := fun w h => by
                  have q := rg_some (n := vn xs) h hll HWi.out.asc (ugL_lone W true HLN.out (fun _ => HWi.out.hd) HWi.out.tl) (by rw [HWi.out.flt]; exact HL.out.1) (by rw [HWi.out.flt]; exact HL.out.2)
                  rw [← HS2.out] at q
                  exact q
                have HF : Hid (∀ w, Sg w → Calls Tryd.prog 7 #[.string (⟨#[95]⟩ ++ s2)] w fun e w' => e = .returned (.tuple #[.slice none 0 0, .int .i64 7]) ∧ Below w.heap.size w w') := fun w h => by
                  rw [HS2.out, mark_ahead]
                  exact rg_none h (by simp; omega) (fun c hc => by rcases List.mem_cons.1 hc with rfl | hc; · decide
                                                                   · exact HWi.out.asc c hc) (ugL_ahead W)
                have HGB : Hid (∀ w, Sg w → Calls Tryd.prog 7 #[.string (s2 ++ ⟨#[95]⟩)] w fun e w' => e = .returned (.tuple #[.slice none 0 0, .int .i64 7]) ∧ Below w.heap.size w w') := fun w h => by
                  rw [HS2.out, mark_behind]
                  exact rg_none h (by simp; omega) (fun c hc => by rcases List.mem_append.1 hc with hc | hc
                                                                   · exact HWi.out.asc c hc
                                                                   · rw [List.mem_singleton.1 hc]; decide) (ugL_behind W true)
                have q7 : ((7 : Int) == 7) = true := rfl
                have q0 : ((0 : Int) == 0) = true := rfl
                clear HTW HLN HB2
                go_wp2_with fail
                refine (HR.out _ HT.out).mono ?_
                rintro e w5 ⟨zb, ab, cb, rfl, mb, cn, vb, k⟩
                replace HT := hid (HT.out.now k)
                replace HA := hid (HA.out.now k)
                replace K := hid (below_step K.out k)
                have MB := hid mb.sl
                have CN := hid cn
                have VB := hid vb
                clear k HR mb cn vb
                go_wp2_with fail
                refine (HF.out _ HT.out).mono ?_
                rintro e w6 ⟨rfl, k⟩
                replace HT := hid (HT.out.now k)
                replace HA := hid (HA.out.now k)
                replace MB := hid (MB.out.now k)
                replace K := hid (below_step K.out k)
                clear k HF
                go_wp2_with fail
                refine (HGB.out _ HT.out).mono ?_
                rintro e w7 ⟨rfl, k⟩
                replace HT := hid (HT.out.now k)
                replace HA := hid (HA.out.now k)
                replace MB := hid (MB.out.now k)
                replace K := hid (below_step K.out k)
                clear k HGB
                go_wp2_with fail
                refine (least_now HA.out).mono ?_
                rintro e w8 ⟨r, rfl, sL, k⟩
                replace MB := hid (MB.out.now k)
                replace K := hid (below_step K.out k)
                have SL := hid sL
                obtain ⟨la, lc, rfl⟩ : ∃ a c, r = .slice a (lst xs).length c := by obtain ⟨_, a, c, e, _⟩ := sL; exact ⟨a, c, e⟩
                have EB := hid (HEQ.out _ CN.out VB.out)
                clear k sL HA HT CN VB HEQ
                go_wp2_with fail
                refine (same_yes MB.out SL.out EB.out).mono ?_
                rintro e w9 ⟨rfl, k⟩
                replace K := hid (below_step K.out k)
                clear k MB EB SL
                go_wp2
                go_ret
                exact ⟨rfl, K.out⟩
end Go.Proofs.YtdeamihpgdblkaaDoor
