/-
  RRead4: the reference's Read and ReadDec.
-/
import Derived.Test.YtiiemeigbnnlpaaGreatDoorQOnto4ToJoinJ4
namespace Go.Proofs.YtiiemeigbnnlpaaGreatDoor
open Go.RowKit
set_option linter.unusedVariables false

/-- What the reference's Read answers, in a base that is one. -/
def RRPost (w : World) (B : Nat) (l : List UInt8) (e : Ending) (w' : World) : Prop :=
  ((l ≠ [] ∧ Good B l) ∧ ∃ zs a c, e = .returned (.tuple #[.slice a zs.length c, .int .i64 0]) ∧ Sl w'.heap.size w' (.slice a zs.length c) zs ∧ Canon zs ∧ vn zs = ofD B (dsL l) ∧ Below w.heap.size w w') ∨
  (¬ (l ≠ [] ∧ Good B l) ∧ e = .returned (.tuple #[.slice none 0 0, .int .i64 7]) ∧ Below w.heap.size w w')
theorem rread_bad {w : World} {b : Int} (h0 : -9223372036854775808 ≤ b) (h1 : b ≤ 9223372036854775807) (hb : ¬ (2 ≤ b ∧ b ≤ 36)) (s : ByteArray) : Calls Tryz.prog 13 #[.string s, .int .i64 b] w fun e w' => e = .returned (.tuple #[.slice none 0 0, .int .i64 3]) ∧ w' = w := by
  by_cases h : b < 2
  · clear hb
    go_enter Tryz.func13, Tryz.ntmps13
    go_wp2
    go_ret2
    exact ⟨rfl, rfl⟩
  · have h2 : 36 < b := by omega
    clear hb
    go_enter Tryz.func13, Tryz.ntmps13
    go_wp2
    go_ret2
    exact ⟨rfl, rfl⟩
def RdH (w : World) (B : Nat) (l : List UInt8) (n gk : Nat) (s6 s7 : Value) (wx : World) : Prop :=
  ∃ (k : Nat) (a : Option Addr) (m cap : Nat) (ds : List Int), gk = n - k ∧ s6 = .slice a m cap ∧ s7 = .int .i64 (k : Int) ∧ k ≤ n ∧ Itr w.heap.size wx (.slice a m cap) ds ∧ ds.length = m ∧ m ≤ k ∧ DF ds ∧ dval ds = ((ofD B ((dsL l).take k) : Nat) : Int) ∧ (∀ j (h : j < l.length), j < k → dv l[j].toNat < B) ∧ Below w.heap.size w wx
theorem ofD_take {B : Nat} {l : List UInt8} {k : Nat} (h : k < l.length) : ofD B ((dsL l).take (k + 1)) = ofD B ((dsL l).take k) * B + dv l[k].toNat := by
  have hl : k < (dsL l).length := by simp [dsL]; exact h
  have e : (dsL l)[k] = dv l[k].toNat := by simp [dsL]
  rw [List.take_succ_eq_append_getElem hl, ofD_snoc, e]
set_option maxRecDepth 100000 in
set_option maxHeartbeats 3200000 in
theorem rread_any {w : World} {B : Nat} {l : List UInt8} (hB : 2 ≤ B) (hB2 : B ≤ 36) (hl : l.length ≤ 100000000) :
    Calls Tryz.prog 13 #[.string ⟨l.toArray⟩, .int .i64 (B : Int)] w (RRPost w B l) := by
  have b1 : ¬ (B : Int) < 2 := by omega
  have b2 : ¬ (36 : Int) < (B : Int) := by omega
  by_cases hl0 : l = []
  · subst hl0
    go_enter Tryz.func13, Tryz.ntmps13
    go_wp2
    go_ret2
    exact .inr ⟨fun q => q.1 rfl, rfl, Below.refl _ _⟩
  · obtain ⟨s, hs⟩ : ∃ s, s = (⟨l.toArray⟩ : ByteArray) := ⟨_, rfl⟩
    obtain ⟨n, hn⟩ : ∃ n, l.length = n := ⟨_, rfl⟩
    have hsz : s.size = n := by rw [hs, mk_size, hn]
    have HBT : Hid (∀ i (h : i < l.length) (h' : i < s.size), s[i]'h' = l[i]) := by unfold Hid; subst hs; intro i h h'; rfl
    have hem : s.toList.isEmpty = false := by
      have e : s.toList = l := by rw [hs, Lib.toList_data]
      rw [e]; simpa using hl0
    have HNE := hid hl0
    have HN := hid hn
    rw [hn] at hl
    rw [← hs]
    clear hs hn hl0
    have H0 : Hid (RdH w B l n n (.slice none 0 0) (.int .i64 0) w) := ⟨0, none, 0, 0, [], by omega, rfl, rfl, Nat.zero_le _, Itr.nil _ _, rfl, Nat.le_refl _, DF.nil, by simp [ofD, dval], fun j _ h => absurd h (Nat.not_lt_zero _), Below.refl _ _⟩
    go_enter Tryz.func13, Tryz.ntmps13
    go_wp2_with fail
    go_loopg [6, 7] n (fun gk s6 s7 wx => RdH w B l n gk s6 s7 wx)
    case atStart => exact H0.out
    case round =>
      clear H0
      obtain ⟨k, a, m, cap, ds, hgk, rfl, rfl, hk, hit, hml, hmk, hdf, hdv, hgd, hbl⟩ := hrel
      have HG := hid hgk
      have HIT := hid hit
      have HML := hid hml
      have HDF := hid hdf
      have HDV := hid hdv
      have HGD := hid hgd
      have HBL := hid hbl
      clear hgk hit hml hdf hdv hgd hbl
      by_cases hlt : k < n
      · have hlt' : (k : Int) < (n : Int) := by omega
        have hks : k < s.size := by omega
        have hkl : k < l.length := by rw [HN.out]; exact hlt
        have hw3 : IntKind.i64.wrap ((k : Int) + 1) = ((k + 1 : Nat) : Int) := by rw [wrap_is] <;> omega
        have HCH : Hid (s[k]'hks = l[k]) := HBT.out k hkl hks
        obtain ⟨c, hc⟩ : ∃ c, l[k] = c := ⟨_, rfl⟩
        have HC := hid hc
        rw [hc] at HCH
        have HOT := hid (ofD_take (B := B) hkl)
        rw [hc] at HOT
        have HVA : Hid (Calls Tryz.prog 34 #[.int .u8 ((s[k]'hks).toNat : Int)] wr fun e w' => e = .returned (.int .i64 (dv c.toNat : Int)) ∧ w' = wr) := by
          unfold Hid
          rw [HCH.out]
          exact value_any c.toNat_lt wr
        clear hc HCH
        obtain ⟨v, hv⟩ : ∃ v, dv c.toNat = v := ⟨_, rfl⟩
        rw [hv] at HVA HOT
        have HV := hid hv
        clear hv
        go_wp2_with fail
        refine HVA.out.mono ?_
        rintro e w2 ⟨rfl, q⟩
        rw [q]
        clear q HVA
        by_cases hvb : v < B
        · have hvb' : ¬ (B : Int) ≤ (v : Int) := by omega
          have HON := hid (onto_any (v0 := (v : Int)) HIT.out HML.out HDF.out hB hB2 (by omega) (by omega) (by omega) HBL.out.size)
          have HNX : Hid (∀ e w', Ontoed wr w.heap.size ds B (v : Int) e w' → ∃ a' m' cap', e = .returned (.slice a' m' cap') ∧ RdH w B l n (n - (k + 1)) (.slice a' m' cap') (.int .i64 ((k + 1 : Nat) : Int)) w') := fun e w' h => by
            obtain ⟨a', m', cap', ds', h1, h2, h3, h4, h5, h6, h7⟩ := h
            refine ⟨a', m', cap', h1, k + 1, a', m', cap', ds', rfl, rfl, rfl, by omega, h2, h3, by have := HML.out; omega, h4, ?_, fun j hj hjk => ?_, HBL.out.trans h7⟩
            · rw [h5, HDV.out, HOT.out]
              push_cast
              rw [Int.mul_comm]
            · by_cases e : j = k
              · subst e
                rw [HC.out, HV.out]
                exact hvb
              · exact HGD.out j hj (by omega)
          have HMM : Hid (n - (k + 1) < gk) := by unfold Hid; rw [HG.out]; omega
          clear HIT HML HDF HDV HGD HBL HOT HC HV HG hvb
          go_wp2_with fail
          refine HON.out.mono ?_
          intro e w4 h4
          obtain ⟨a', m', cap', rfl, hn4⟩ := HNX.out e w4 h4
          have HN4 := hid hn4
          clear h4 hn4 HNX HON
          go_wp2_with fail
          go_roundg (n - (k + 1))
          case rel => exact HN4.out
          case measure => exact HMM.out
        · have hvb' : (B : Int) ≤ (v : Int) := by omega
          have HNG : Hid (¬ (l ≠ [] ∧ Good B l)) := fun q => by
            have := q.2 l[k] (List.getElem_mem hkl)
            rw [HC.out, HV.out] at this
            exact hvb this
          clear HIT HML HDF HDV HGD HOT HC HV HG hvb
          go_wp2
          go_ret2
          exact .inr ⟨HNG.out, rfl, HBL.out⟩
      · have hlt' : ¬ (k : Int) < (n : Int) := by omega
        obtain rfl : k = n := by omega
        have HGO : Hid (Good B l) := fun b hb => by
          obtain ⟨j, hj, rfl⟩ := List.getElem_of_mem hb
          exact HGD.out j hj (by rw [HN.out] at hj; exact hj)
        have hdl : (dsL l).take k = dsL l := List.take_of_length_le (by rw [show (dsL l).length = l.length by simp [dsL], HN.out]; exact Nat.le_refl _)
        rw [hdl] at HDV
        have HSL : Hid (SlJ wr.heap.size wr (.slice a m cap) ds) := by
          refine ⟨fun p hp => by have := HDF.out p hp; unfold IsD dwB at this; omega, by have := HML.out; omega, ?_⟩
          by_cases hm0 : 0 < ds.length
          · obtain ⟨g, cap', rest, he, hg, hgl, hrow, hcp, hcm⟩ := HIT.out.row hm0
            exact ⟨_, cap', he, by omega, .inr ⟨g, 0, rfl, hgl, fun j hj => by rw [Nat.zero_add]; exact hrow.num hj⟩⟩
          · have hd0 : ds = [] := List.eq_nil_of_length_eq_zero (by omega)
            exact ⟨a, cap, by rw [HML.out], by omega, .inl hd0⟩
        have HJ := hid (join_j HSL.out HDF.out)
        have HVN : Hid (∀ zs : List Int, WF zs → val zs = dval ds → vn zs = ofD B (dsL l)) := fun zs hz hv => by
          have e := val_vn hz
          rw [hv, HDV.out] at e
          exact_mod_cast e.symm
        clear HSL HIT HML HDV HGD HG hdl
        go_wp2_with fail
        refine HJ.out.mono ?_
        rintro e w3 ⟨zs, r, rfl, ho, hcn, hvl, hb3⟩
        have FIN : Hid (∃ a' c', r = .slice a' zs.length c' ∧ Sl w3.heap.size w3 (.slice a' zs.length c') zs) := by
          have q := ho.sl
          obtain ⟨h1, a', c', e', h2⟩ := id q
          exact ⟨a', c', e', by rw [← e']; exact q⟩
        obtain ⟨a', c', hr, hsl⟩ := FIN.out
        rw [hr]
        have HS := hid hsl
        have HCN := hid hcn
        have HVL := hid (HVN.out zs hcn.1 hvl)
        have HB3 := hid (below_step HBL.out hb3)
        clear FIN hr hsl hcn hvl hb3 ho HJ HVN HBL HDF
        go_wp2
        go_ret2
        exact .inl ⟨⟨HNE.out, HGO.out⟩, zs, a', c', rfl, HS.out, HCN.out, HVL.out, HB3.out⟩
theorem rreadDec_any {w : World} {l : List UInt8} (hl : l.length ≤ 100000000) :
    Calls Tryz.prog 14 #[.string ⟨l.toArray⟩] w (RRPost w 10 l) := by
  have HR := hid (rread_any (w := w) (B := 10) (by omega) (by omega) hl)
  clear hl
  obtain ⟨s, hs⟩ : ∃ s, s = (⟨l.toArray⟩ : ByteArray) := ⟨_, rfl⟩
  rw [← hs] at HR ⊢
  clear hs
  go_enter Tryz.func14, Tryz.ntmps14
  go_wp2_with fail
  refine HR.out.mono ?_
  rintro e w1 h
  clear HR
  rcases h with ⟨g, zs, a, c, rfl, h2⟩ | ⟨g, rfl, h2⟩
  · replace g := hid g
    replace h2 := hid h2
    go_wp2
    go_ret2
    exact .inl ⟨g.out, zs, a, c, rfl, h2.out⟩
  · replace g := hid g
    replace h2 := hid h2
    go_wp2
    go_ret2
    exact .inr ⟨g.out, rfl, h2.out⟩
end Go.Proofs.YtiiemeigbnnlpaaGreatDoor
