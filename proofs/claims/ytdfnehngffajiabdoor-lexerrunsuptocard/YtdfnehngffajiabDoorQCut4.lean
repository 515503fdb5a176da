/-
  Cut4: the contract of cut.
-/
import Derived.Test.YtdfnehngffajiabDoorQCutPure
import Derived.Lib.OthersKept
namespace Go.Proofs.YtdfnehngffajiabDoor
open Go.RowKit
set_option linter.unusedVariables false

/-- Rows of cells stay as they are. -/
def CK (w w' : World) : Prop := ∀ (g : Nat) (cs : Array Value) (t : TypeId) (f : Nat × Nat), w.heap[g]? = some (Obj.cells cs t f) → w'.heap[g]? = some (Obj.cells cs t f)
theorem CK.iter {w : World} {k pos pos' : Nat} {s : ByteArray} (h : w.heap[k]? = some (.stringIter s pos)) : CK w (w.iterAt k s pos') := fun g cs t f hg => by
  have hne : g ≠ k := fun e => by subst e; rw [h] at hg; cases hg
  rw [Lib.iterAt_other w k g s pos' hne]
  exact hg
theorem Mine.ck {B : Nat} {w w' : World} {v : Value} {zs : List Int} (h : Mine B w v zs) (hc : CK w w') : Mine B w' v zs := by
  obtain ⟨hw, h | ⟨g, r, cap, h1, h2, h3, h4, h5, h6⟩⟩ := h
  · exact ⟨hw, .inl h⟩
  · exact ⟨hw, .inr ⟨g, r, cap, h1, h2, h3, h4, h5, hc _ _ _ _ h6⟩⟩
theorem Bunch.ck {B : Nat} {w w' : World} {v : Value} {Ps : List (List Int)} (h : Bunch B w v Ps) (hc : CK w w') : Bunch B w' v Ps := by
  obtain ⟨Us, h1, h2, h3⟩ := h
  refine ⟨Us, ?_, h2, fun j a b => (h3 j a b).ck hc⟩
  obtain ⟨q1, q2 | ⟨g, cap, cur, q2, q3, q4, q5⟩⟩ := h1
  · exact ⟨q1, .inl q2⟩
  · exact ⟨q1, .inr ⟨g, cap, cur, q2, q3, hc _ _ _ _ q4, q5⟩⟩
/-- The digits that a text's bytes write. -/
def dsL (l : List UInt8) : List Nat := l.map fun b => dv b.toNat
def Good (B : Nat) (l : List UInt8) : Prop := ∀ b ∈ l, dv b.toNat < B
def partsF (Gs : List Nat) : List (List Int) := Gs.map fun (G : Nat) => [(G : Int)]
/-- What cut answers to a text. -/
def CutPost (w : World) (B D : Nat) (l : List UInt8) (e : Ending) (w' : World) : Prop :=
  (Good B l ∧ ∃ Gs a cap, e = .returned (.tuple #[.slice a Gs.length cap, .int .i64 0]) ∧ Gs.length ≤ cap ∧ Bunch w.heap.size w' (.slice a Gs.length cap) (partsF Gs) ∧ 0 < Gs.length ∧ Gs.length ≤ l.length ∧ (∀ G ∈ Gs, G < B ^ D) ∧ ofD (B ^ D) Gs.reverse = ofD B (dsL l) ∧ Below w.heap.size w w') ∨
  (¬ Good B l ∧ e = .returned (.tuple #[.slice none 0 0, .int .i64 7]) ∧ Below w.heap.size w w')
theorem dv_ascii {c : Nat} (h : dv c < 36) : c < 128 := by
  unfold dv at h
  (repeat' split at h) <;> omega
theorem dv_high {c : Nat} (h : 128 ≤ c) : dv c = 99 := by
  unfold dv
  (repeat' split) <;> omega
set_option maxRecDepth 100000 in
set_option maxHeartbeats 6400000 in
theorem cut_any {w : World} {B D : Nat} {l : List UInt8} (hB : 2 ≤ B) (hB2 : B ≤ 36) (hD : WD B D) (hT : Sg w) (hl0 : l ≠ []) (hl : l.length ≤ 1000000000) :
    Calls Tryd.prog 36 #[.string ⟨l.toArray⟩, .int .i64 (B : Int), .int .i64 (D : Int)] w (CutPost w B D l) := by
  obtain ⟨n, hn⟩ : ∃ n, l.length = n := ⟨_, rfl⟩
  obtain ⟨s, hsl⟩ : ∃ s, s = (⟨l.toArray⟩ : ByteArray) := ⟨_, rfl⟩
  have hs : s.size = n := by rw [hsl, mk_size, hn]
  have HBT : Hid (∀ i (h : i < l.length) (h' : i < s.size), s[i]'h' = l[i]) := by unfold Hid; subst hsl; intro i h h'; rfl
  have hn0 : 0 < n := by rw [← hn]; exact List.length_pos_iff.2 hl0
  obtain ⟨hd1, hd2, hd3, hd4⟩ := hD
  have HT := hid hT
  have HN := hid hn
  rw [hn] at hl
  rw [← hsl]
  have hE : s.toList.isEmpty = false := by
    have e : s.toList = l := by rw [hsl, Lib.toList_data]
    rw [e]
    simpa using hl0
  clear hT hl0 hsl hn
  have K0 := hid ((Below.refl w.heap.size w).alloc (Nat.le_refl _) (.stringIter s 0))
  have hit0 := heap_alloc_new w (.stringIter s 0)
  have HI0 := hid hit0
  clear hit0
  go_enter Tryd.func36, Tryd.ntmps36
  go_wp2_with fail
  have HSG : Hid (w.heap.size + 1 ≤ (w.iter s 0).heap.size) := by unfold Hid World.iter; simp
  go_loopg [8, 9] n (fun gk s8 s9 wx => ∃ (p : Nat) (Gs : List Nat) (cur r : Nat), gk = n - p ∧ p ≤ n ∧ s9 = .int .u64 (cur : Int) ∧ Hid (wx.heap[w.heap.size]? = some (.stringIter s p)) ∧ Hid (Bunch (w.heap.size + 1) wx s8 (partsF Gs)) ∧ Hid (CutInv B D n (dsL l) p Gs cur r) ∧ Hid (∀ i (h : i < l.length), i < p → dv l[i].toNat < B) ∧ Hid (Below w.heap.size w wx) ∧ Hid (w.heap.size + 1 ≤ wx.heap.size))
  case atStart => exact ⟨0, [], 0, 0, by omega, Nat.zero_le _, rfl, HI0, Bunch.nil _ _, CutInv.start hd1 hn0, (fun i h q => absurd q (Nat.not_lt_zero _)), K0, HSG⟩
  case round =>
    clear K0 HI0 HSG
    obtain ⟨p, Gs, cur, r, hgk, hpn, rfl, HI, HBU, HC, HGD, KK, HSZ⟩ := hrel
    obtain ⟨ba, bc, hv8, hbc⟩ := HBU.out.form
    subst hv8
    have hpl : (partsF Gs).length = Gs.length := by simp [partsF]
    rw [hpl] at HBU hbc ⊢
    have hcl : cur < 18446744073709551616 := by
      have h1 := HC.out.cl
      have h2 : B ^ r ≤ B ^ D := Nat.pow_le_pow_right (by omega) HC.out.rD
      omega
    have hgl := HC.out.gl
    have hGl : Gs.length ≤ 1000000000 := by omega
    by_cases hp : p < n
    · have hpl' : p < l.length := by rw [HN.out]; exact hp
      have hps : p < s.size := by omega
      have hbt := HBT.out p hpl' hps
      by_cases hg : dv l[p].toNat < B
      · have ha : (s[p]'hps).toNat < 128 := by rw [hbt]; exact dv_ascii (by omega)
        have HNX : Hid (∀ ty, (Instr.next (.pointer (some ⟨w.heap.size, 0, none⟩)) true ty).run Tryd.prog wr = .ok (.tuple #[.bool true, .int .i64 (p : Int), .int .i32 ((l[p].toNat : Nat) : Int)]) (wr.iterAt w.heap.size s (p + 1))) := fun ty => by
          have := Lib.run_next_ascii_at (P := Tryd.prog) wr w.heap.size s p ty HI.out hps ha
          rw [hbt] at this
          exact this
        have hnx := HNX.out
        have hdl : (dsL l)[p]'(by simp [dsL]; exact hpl') = dv l[p].toNat := by simp [dsL]
        have hlen : (dsL l).length = n := by simp [dsL]; exact HN.out
        have HI1 := hid (Lib.iterAt_heap wr w.heap.size s p (p + 1) HI.out)
        have HB1 := hid (HBU.out.ck (CK.iter (pos' := p + 1) HI.out))
        have K1 := hid (Lib.below_iterAt KK.out (Nat.le_refl _) s (p + 1))
        have HS1 : Hid (w.heap.size + 1 ≤ (wr.iterAt w.heap.size s (p + 1)).heap.size) := by unfold Hid; rw [Lib.iterAt_size]; exact HSZ.out
        have HGD1 : Hid (∀ i (h : i < l.length), i < p + 1 → dv l[i].toNat < B) := fun i h q => by
          rcases Nat.lt_or_ge i p with q' | q'
          · exact HGD.out i h q'
          · obtain rfl : i = p := by omega
            exact hg
        have HVO := hid (valueOf_any (HT.out.now K1.out) hB hB2 (r := l[p].toNat) (by have := l[p].toNat_lt; omega))
        have evo : vo B l[p].toNat = dv l[p].toNat := if_pos hg
        rw [evo] at HVO
        have HED : Hid ((n - 1 - p) % D = 0 → _) := fun q => HC.out.edge (by omega) hd1 hp hlen hdl hg q
        have HMO : Hid ((n - 1 - p) % D ≠ 0 → _) := fun q => HC.out.more (by omega) hd1 hp hlen hdl hg q
        have hfit : cur * B + dv l[p].toNat < B ^ D := by
          by_cases q : (n - 1 - p) % D = 0
          · exact (HED.out q).2
          · exact (HMO.out q).2
        generalize wr.iterAt w.heap.size s (p + 1) = w1 at *
        generalize l[p].toNat = bb at *
        generalize dv bb = d at *
        clear HNX hbt ha hdl HI HBU KK HSZ HGD HC evo
        go_wp2_with fail
        refine HVO.out.mono ?_
        rintro e w2 ⟨rfl, rfl⟩
        clear HVO hnx
        have hdB : ((d : Int) == (B : Int)) = false := by rw [beq_eq_false_iff_ne]; omega
        obtain ⟨x, hx⟩ : ∃ x, x = cur * B := ⟨_, rfl⟩
        obtain ⟨y, hy⟩ : ∃ y, y = cur * B + d := ⟨_, rfl⟩
        obtain ⟨q, hq⟩ : ∃ q, q = n - 1 - p := ⟨_, rfl⟩
        obtain ⟨z, hz⟩ : ∃ z, z = q % D := ⟨_, rfl⟩
        rw [← hq, ← hy, ← hz] at HED HMO
        rw [← hy] at hfit
        have e3 : (cur : Int) * (B : Int) = (x : Int) := by rw [hx]; simp
        have hxy : x + d = y := by rw [hx, hy]
        have e5 : (n : Int) - 1 - (p : Int) = (q : Int) := by omega
        have e6 : (q : Int).tmod (D : Int) = (z : Int) := by rw [hz]; exact (Int.ofNat_tmod q D).symm
        have e7 : (q : Int) % (D : Int) = (z : Int) := by rw [hz]; simp
        have hy64 : y < 18446744073709551616 := by omega
        have e4 : IntKind.u64.wrap ((cur : Int) * (B : Int)) = (x : Int) := by rw [e3, IntKind.wrap_u64]; omega
        have e8 : (x : Int) + (d : Int) = (y : Int) := by omega
        have hqn : q ≤ n := by omega
        have hD0 : (D : Int) ≠ 0 := by omega
        clear hx hy hq hz
        by_cases hz0 : z = 0
        · have hzz : ((z : Int) == 0) = true := by rw [hz0]; rfl
          obtain ⟨HC1, _⟩ := HED.out hz0
          have HCI := hid HC1
          have a1 := (Below.refl w2.heap.size w2).alloc (Nat.le_refl _) (.cells #[.int .u64 (y : Int)] 78)
          have m1 : Mine 0 (w2.alloc (.cells #[.int .u64 (y : Int)] 78)) (.slice (some ⟨w2.heap.size, 0, none⟩) 1 1) [(y : Int)] :=
            ⟨wf_word (by omega) WF.nil, .inr ⟨w2.heap.size, [], 1, Nat.zero_le _, by simp, by simp, .inl (by simp), by simp, heap_alloc_new w2 _⟩⟩
          have a2 := (Below.refl (w2.alloc (.cells #[.int .u64 (y : Int)] 78)).heap.size (w2.alloc (.cells #[.int .u64 (y : Int)] 78))).alloc (Nat.le_refl _) (.cells #[.slice (some ⟨w2.heap.size, 0, none⟩) 1 1] 34)
          have a12 := below_step a1 a2
          have HM2 := hid (m1.below a2)
          have HB2 := hid (HB1.out.now a12)
          have K2 := hid (below_step K1.out a12)
          have HI2 := hid ((a12.block _ (by have := HS1.out; omega)).trans HI1.out)
          have HSZ2 : Hid (w.heap.size + 1 ≤ ((w2.alloc (.cells #[.int .u64 (y : Int)] 78)).alloc (.cells #[.slice (some ⟨w2.heap.size, 0, none⟩) 1 1] 34)).heap.size) := Nat.le_trans HS1.out a12.size
          have HCC : Hid (((w2.alloc (.cells #[.int .u64 (y : Int)] 78)).alloc (.cells #[.slice (some ⟨w2.heap.size, 0, none⟩) 1 1] 34)).cell? ⟨w2.heap.size + 1, 0, none⟩ = some (.slice (some ⟨w2.heap.size, 0, none⟩) 1 1)) := by
            unfold Hid
            have h := heap_alloc_new (w2.alloc (.cells #[.int .u64 (y : Int)] 78)) (.cells #[.slice (some ⟨w2.heap.size, 0, none⟩) 1 1] 34)
            have h2 : (w2.alloc (.cells #[.int .u64 (y : Int)] 78)).heap.size = w2.heap.size + 1 := by simp
            rw [h2] at h
            simp only [World.cell?, h]
            rfl
          have HPL : Hid ((partsF Gs).length ≤ 1000000000) := by unfold Hid; rw [hpl]; omega
          clear a1 a2 a12 m1 HB1 HED HMO HC1
          go_wp2_with (at_builtin; refine wpList_append_bunch _ rfl (.tmp 44) (.tmp 47) rfl (w.heap.size + 1) _ _ (partsF Gs) [(y : Int)] rfl HB2.out (w2.heap.size + 1) rfl HCC.out HM2.out HPL.out HSZ2.out ?_)
          intro a' cap' w3 hB3 _ hbel
          have K3 : Hid (Below w.heap.size w w3) := K2.out.trans (hbel.out.mono (Nat.le_succ _))
          have HI3 := hid ((hbel.out.block _ (Nat.lt_succ_self _)).trans HI2.out)
          have HS3 : Hid (w.heap.size + 1 ≤ w3.heap.size) := Nat.le_trans HSZ2.out hbel.out.size
          have HB3 : Hid (Bunch (w.heap.size + 1) w3 (.slice a' (Gs.length + 1) cap') (partsF (Gs ++ [y]))) := by
            unfold Hid
            have e : partsF (Gs ++ [y]) = partsF Gs ++ [[(y : Int)]] := by simp [partsF]
            have := hB3.out
            rw [e]
            exact this
          clear hB3 hbel HB2 HM2 HCC HPL HSZ2 K2 HI2
          go_wp2
          go_roundg (n - (p + 1))
          case rel => exact ⟨p + 1, Gs ++ [y], 0, 0, rfl, by omega, rfl, HI3, HB3, HCI, HGD1, K3, HS3⟩
          case measure => omega
        · have hzz : ((z : Int) == 0) = false := by rw [beq_eq_false_iff_ne]; omega
          obtain ⟨HC1, _⟩ := HMO.out hz0
          have HCI := hid HC1
          clear HED HMO HC1
          go_wp2
          go_roundg (n - (p + 1))
          case rel => exact ⟨p + 1, Gs, y, r + 1, rfl, by omega, rfl, HI1, HB1, HCI, HGD1, K1, HS1⟩
          case measure => omega
      · have HBAD : Hid (¬ Good B l) := fun h => hg (h _ (List.getElem_mem hpl'))
        obtain ⟨R, hR⟩ : ∃ R, R = (Utf8.decode s p).1 := ⟨_, rfl⟩
        have hR1 : R ≤ 2147483647 := by rw [hR]; exact decode_le s p
        have hdR : ¬ dv R < B := by
          by_cases ha : (s[p]'hps).toNat < 128
          · rw [hR, decode_ascii s p hps ha, hbt]; exact hg
          · have h1 := (decode_high s p hps (by omega)).1
            rw [hR, dv_high h1]; omega
        have hnx : ∀ ty, (Instr.next (.pointer (some ⟨w.heap.size, 0, none⟩)) true ty).run Tryd.prog wr = .ok (.tuple #[.bool true, .int .i64 (p : Int), .int .i32 (R : Int)]) (wr.iterAt w.heap.size s (p + (Utf8.decode s p).2)) := fun ty => by
          rw [hR]
          exact Lib.run_next_any_at (P := Tryd.prog) wr w.heap.size s p ty HI.out hps
        have K1 := hid (Lib.below_iterAt KK.out (Nat.le_refl _) s (p + (Utf8.decode s p).2))
        have HVO := hid (valueOf_any (HT.out.now K1.out) hB hB2 (r := R) hR1)
        have evo : vo B R = B := if_neg hdR
        rw [evo] at HVO
        generalize wr.iterAt w.heap.size s (p + (Utf8.decode s p).2) = w1 at *
        clear hR hbt HI HBU KK HSZ HGD HC evo hdR
        have hbb : ((B : Int) == (B : Int)) = true := by simp
        go_wp2_with fail
        refine HVO.out.mono ?_
        rintro e w2 ⟨rfl, rfl⟩
        clear HVO hnx
        go_wp2
        go_ret2
        exact .inr ⟨HBAD.out, rfl, K1.out⟩
    · obtain rfl : p = n := by omega
      have hnx : ∀ ty, (Instr.next (.pointer (some ⟨w.heap.size, 0, none⟩)) true ty).run Tryd.prog wr = .ok (.tuple #[.bool false]) wr := fun ty => Lib.run_next_end_at (P := Tryd.prog) wr w.heap.size s p ty HI.out (by omega)
      have hlen : (dsL l).length = p := by simp [dsL]; exact HN.out
      obtain ⟨hv1, hv2⟩ := HC.out.done hn0 hlen
      have HV := hid hv1
      have hgp : 0 < Gs.length := List.length_pos_iff.2 hv2
      have HGS := hid HC.out.gs
      have HGOOD : Hid (Good B l) := fun b hb => by
        obtain ⟨i, hi, rfl⟩ := List.getElem_of_mem hb
        exact HGD.out i hi (by rw [← HN.out]; exact hi)
      have HBU2 : Hid (Bunch (w.heap.size + 1) wr (.slice ba (partsF Gs).length bc) (partsF Gs)) := by unfold Hid; rw [hpl]; exact HBU.out
      have HRV := hid (reverse_any HBU2.out (by rw [hpl]; exact hgp) (by rw [hpl]; omega))
      rw [hpl] at HRV
      clear HI HBU HC HGD HBU2 hv1 hv2
      go_wp2_with fail
      refine HRV.out.mono ?_
      rintro e w2 ⟨rfl, hB3, hbel⟩
      have K3 : Hid (Below w.heap.size w w2) := KK.out.trans (hbel.mono (Nat.le_succ _))
      have HB3 : Hid (Bunch w.heap.size w2 (.slice ba Gs.length bc) (partsF Gs.reverse)) := by
        unfold Hid
        have e : partsF Gs.reverse = (partsF Gs).reverse := by simp [partsF, List.map_reverse]
        rw [e]
        obtain ⟨Us, u1, u2, u3⟩ := hB3
        refine ⟨Us, ?_, u2, u3⟩
        obtain ⟨q1, q2 | ⟨g, cap, cur, q2, q3, q4⟩⟩ := u1
        · exact ⟨q1, .inl q2⟩
        · exact ⟨q1, .inr ⟨g, cap, cur, q2, by omega, q4⟩⟩
      clear hB3 hbel HRV hnx
      go_wp2
      go_ret2
      refine .inl ⟨HGOOD.out, Gs.reverse, ba, bc, by rw [List.length_reverse]; rfl, by rw [List.length_reverse]; exact hbc, by rw [List.length_reverse]; exact HB3.out, by rw [List.length_reverse]; exact hgp, by rw [List.length_reverse, HN.out]; exact hgl, fun G hG => HGS.out G (List.mem_reverse.1 hG), by rw [List.reverse_reverse]; exact HV.out, K3.out⟩
end Go.Proofs.YtdfnehngffajiabDoor
