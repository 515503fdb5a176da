/-
  RGroupR4: the reference's ReadGrouped.
-/
import Derived.Test.YtiiemeigbnnlpaaGreatDoorQRGP4
import Derived.Test.YtiiemeigbnnlpaaGreatDoorQRRead4
import Derived.Test.YtiiemeigbnnlpaaGreatDoorQRDec4
namespace Go.Proofs.YtiiemeigbnnlpaaGreatDoor
open Go.RowKit
set_option linter.unusedVariables false

def RGRPost (w : World) (L : List UInt8) (e : Ending) (w' : World) : Prop :=
  (RefOk L ∧ RRPost w 10 (L.filter dig) e w') ∨ (¬ RefOk L ∧ e = .returned (.tuple #[.slice none 0 0, .int .i64 7]) ∧ Below w.heap.size w w')
def RGRH (w : World) (L : List UInt8) (n gk : Nat) (s4 s5 : Value) (wx : World) : Prop :=
  ∃ k : Nat, gk = n - k ∧ s5 = .int .i64 (k : Int) ∧ k ≤ n ∧ (∀ j, j < k → OkAt L j) ∧ Byr w.heap.size wx s4 (((L.take k).filter dig).map fun b => (b.toNat : Int)) ∧ Below w.heap.size w wx
theorem rrPost_step {w w1 : World} {B : Nat} {l : List UInt8} {e : Ending} {w' : World} (b : Below w.heap.size w w1) (h : RRPost w1 B l e w') : RRPost w B l e w' := by
  rcases h with ⟨g, zs, a, c, h1, h2, h3, h4, h5⟩ | ⟨g, h1, h2⟩
  · exact .inl ⟨g, zs, a, c, h1, h2, h3, h4, below_step b h5⟩
  · exact .inr ⟨g, h1, below_step b h2⟩
theorem filt_next {L : List UInt8} {k : Nat} (h : k < L.length) : (L.take (k + 1)).filter dig = (L.take k).filter dig ++ (if dig L[k] = true then [L[k]] else []) := by
  rw [List.take_succ_eq_append_getElem h, List.filter_append]
  congr 1
  simp only [List.filter_cons, List.filter_nil]
theorem convert_nil (w : World) : (convert 51 9 (.slice none 0 0)).run Tryz.prog w = .ok (.string ⟨#[]⟩) w := by
  rw [run_convert_bytes_string w 51 9 5 _ 0 0 Tryz.underlying51 Tryz.underlying5 Tryz.underlying9]
  rfl
set_option maxRecDepth 100000 in
set_option maxHeartbeats 12800000 in
theorem rreadGrouped_any {w : World} {L : List UInt8} (hl : L.length ≤ 1048576) :
    Calls Tryz.prog 15 #[.string ⟨L.toArray⟩] w (RGRPost w L) := by
  obtain ⟨s, hs⟩ : ∃ s, s = (⟨L.toArray⟩ : ByteArray) := ⟨_, rfl⟩
  obtain ⟨n, hn⟩ : ∃ n, L.length = n := ⟨_, rfl⟩
  have hsz : s.size = n := by rw [hs, mk_size, hn]
  have HBT : Hid (∀ i (h : i < L.length) (h' : i < s.size), s[i]'h' = L[i]) := by unfold Hid; subst hs; intro i h h'; rfl
  have HN := hid hn
  rw [hn] at hl
  rw [← hs]
  clear hs hn
  have H0 : Hid (RGRH w L n n (.slice none 0 0) (.int .i64 0) w) := ⟨0, by omega, rfl, Nat.zero_le _, fun j h => absurd h (Nat.not_lt_zero _), by simpa using Byr.nil w.heap.size w, Below.refl _ _⟩
  go_enter Tryz.func15, Tryz.ntmps15
  go_wp2_with fail
  go_loopg [4, 5] n (fun gk s4 s5 wx => RGRH w L n gk s4 s5 wx)
  case atStart => exact H0.out
  case round =>
    clear H0
    obtain ⟨k, hgk, rfl, hk, hok, hby, hbl⟩ := hrel
    have HG := hid hgk
    have HOK := hid hok
    have HBY := hid hby
    have HBL := hid hbl
    clear hgk hok hby hbl
    by_cases hlt : k < n
    · have hlt' : (k : Int) < (n : Int) := by omega
      have hks : k < s.size := by omega
      have hkl : k < L.length := by rw [HN.out]; exact hlt
      have hw3 : IntKind.i64.wrap ((k : Int) + 1) = ((k + 1 : Nat) : Int) := by rw [wrap_is] <;> omega
      have HCH : Hid (s[k]'hks = L[k]) := HBT.out k hkl hks
      have HMM : Hid (n - (k + 1) < gk) := by unfold Hid; rw [HG.out]; omega
      have HCC : Hid (∀ (c : Int), (wr.alloc (.cells #[.int .u8 c] 5)).cell? ⟨wr.heap.size, 0, none⟩ = some (.int .u8 c)) := fun c => by simp
      have HB4 : Hid (∀ (c : Int), Byr w.heap.size (wr.alloc (.cells #[.int .u8 c] 5)) u4 (((L.take k).filter dig).map fun b => (b.toNat : Int))) := fun c => HBY.out.now (alo4 wr _).1
      have HBQ : Hid (∀ (c : Int), w.heap.size ≤ (wr.alloc (.cells #[.int .u8 c] 5)).heap.size) := fun c => Nat.le_trans HBL.out.size (alo4 wr _).1.size
      have HBW : Hid (∀ (c : Int) w', Below w.heap.size (wr.alloc (.cells #[.int .u8 c] 5)) w' → Below w.heap.size w w') := fun c w' h => (HBL.out.alloc HBL.out.size _).trans h
      have HLL : Hid ((((L.take k).filter dig).map fun b => (b.toNat : Int)).length ≤ 1000000000) := by unfold Hid; rw [List.length_map]; have h1 := List.length_filter_le dig (L.take k); rw [List.length_take] at h1; omega
      -- what comes of it: told ahead of the cases
      have HNXD : Hid (dig (s[k]'hks) = true → ∀ v w', Byr w.heap.size w' v ((((L.take k).filter dig).map fun b => (b.toNat : Int)) ++ [((s[k]'hks).toNat : Int)]) → Below w.heap.size w w' → RGRH w L n (n - (k + 1)) v (.int .i64 ((k + 1 : Nat) : Int)) w') := fun hd v w' h1 h2 => by
        rw [HCH.out] at hd h1
        refine ⟨k + 1, rfl, rfl, by omega, fun j hj => ?_, ?_, h2⟩
        · by_cases e : j = k
          · subst e; exact ⟨hkl, .inl hd⟩
          · exact HOK.out j (by omega)
        · rw [filt_next hkl, if_pos hd, List.map_append]
          exact h1
      have HNXM : Hid (OkAt L k → dig (s[k]'hks) = false → RGRH w L n (n - (k + 1)) u4 (.int .i64 ((k + 1 : Nat) : Int)) wr) := fun ho hd => by
        rw [HCH.out] at hd
        refine ⟨k + 1, rfl, rfl, by omega, fun j hj => ?_, ?_, HBL.out⟩
        · by_cases e : j = k
          · subst e; exact ho
          · exact HOK.out j (by omega)
        · rw [filt_next hkl, if_neg (by simp [hd]), List.append_nil]
          exact HBY.out
      have HBAD : Hid (¬ OkAt L k → RGRPost w L (.returned (.tuple #[.slice none 0 0, .int .i64 7])) wr) := fun ho => .inr ⟨fun q => ho (q k hkl), rfl, HBL.out⟩
      have HAT : Hid (OkAt L k ↔ (dig (s[k]'hks) = true ∨ (s[k]'hks = 95 ∧ 0 < k ∧ ∃ h2 : k + 1 < s.size, s[k - 1]'(by omega) ≠ 95 ∧ s[k + 1]'h2 ≠ 95))) := by
        unfold Hid OkAt
        constructor
        · rintro ⟨_, q | ⟨q1, q2, q3, q4, q5⟩⟩
          · exact .inl (by rw [HCH.out]; exact q)
          · exact .inr ⟨by rw [HCH.out]; exact q1, q2, by rw [hsz, ← HN.out]; exact q3, by rw [HBT.out (k - 1) (by omega) (by omega)]; exact q4, by rw [HBT.out (k + 1) q3 (by rw [hsz, ← HN.out]; exact q3)]; exact q5⟩
        · rintro (q | ⟨q1, q2, q3, q4, q5⟩)
          · exact ⟨hkl, .inl (by rw [← HCH.out]; exact q)⟩
          · have q3' : k + 1 < L.length := by rw [HN.out, ← hsz]; exact q3
            exact ⟨hkl, .inr ⟨by rw [← HCH.out]; exact q1, q2, q3', by rw [← HBT.out (k - 1) (by omega) (by omega)]; exact q4, by rw [← HBT.out (k + 1) q3' q3]; exact q5⟩⟩
      clear HBY HBL HOK HCH HG
      by_cases hk0 : k = 0
      · have hk0' : ¬ (0 : Int) < (k : Int) := by omega
        have HNB : Hid (¬ 0 < k) := by unfold Hid; omega
        clear hk0
        by_cases h48 : 48 ≤ (s[k]'hks).toNat
        · have h48' : (48 : Int) ≤ ((s[k]'hks).toNat : Int) := by omega
          by_cases h57 : (s[k]'hks).toNat ≤ 57
          · have h57' : ((s[k]'hks).toNat : Int) ≤ 57 := by omega
            have HDG : Hid (dig (s[k]'hks) = true) := dig_iff.2 ⟨h48, h57⟩
            clear h48 h57
            replace HNXD := hid (HNXD.out HDG.out)
            clear HNXM HBAD HAT
            go_wp2_with (at_builtin; refine wpList_append_byr _ rfl (.tmp 60) (.tmp 64) rfl w.heap.size _ (((L.take k).filter dig).map fun b => (b.toNat : Int)) _ rfl (HB4.out _) wr.heap.size rfl (HCC.out _) HLL.out (HBQ.out _) ?_)
            intro m6 a6 cap6 w6 hm6 hby6 hbw6
            have HN1 := hid (HNXD.out _ _ hby6.out (HBW.out _ _ hbw6.out))
            clear hm6 hby6 hbw6 HNXD HCC HB4 HBQ HBW HLL
            go_wp2_with fail
            go_roundg (n - (k + 1))
            case rel => exact HN1.out
            case measure => exact HMM.out
          · have h57' : ¬ ((s[k]'hks).toNat : Int) ≤ 57 := by omega
            have HDG : Hid (dig (s[k]'hks) = false) := by unfold Hid dig; simp; omega
            by_cases h95 : (s[k]'hks).toNat = 95
            · have h95' : (((s[k]'hks).toNat : Int) != 95) = false := by simp; omega
              have HNOT : Hid (¬ (dig (s[k]'hks) = true ∨ (s[k]'hks = 95 ∧ 0 < k ∧ ∃ h2 : k + 1 < s.size, s[k - 1]'(by omega) ≠ 95 ∧ s[k + 1]'h2 ≠ 95))) := by
                rintro (q | ⟨q1, q2, q3, q4, q5⟩)
                · rw [HDG.out] at q; cases q
                · exact HNB.out q2
              clear h48 h57 h95
              replace HBAD := hid (HBAD.out (fun q => HNOT.out (HAT.out.1 q)))
              clear HNXD HNXM HAT HCC HB4 HBQ HBW HLL
              go_wp2
              go_ret2
              exact HBAD.out
            · have h95' : (((s[k]'hks).toNat : Int) != 95) = true := by simp; omega
              have HNOT : Hid (¬ (dig (s[k]'hks) = true ∨ (s[k]'hks = 95 ∧ 0 < k ∧ ∃ h2 : k + 1 < s.size, s[k - 1]'(by omega) ≠ 95 ∧ s[k + 1]'h2 ≠ 95))) := by
                rintro (q | q)
                · rw [HDG.out] at q; cases q
                · exact h95 (by rw [q.1]; rfl)
              clear h48 h57 h95
              replace HBAD := hid (HBAD.out (fun q => HNOT.out (HAT.out.1 q)))
              clear HNXD HNXM HAT HCC HB4 HBQ HBW HLL
              go_wp2
              go_ret2
              exact HBAD.out
        · have h48' : ¬ (48 : Int) ≤ ((s[k]'hks).toNat : Int) := by omega
          have HDG : Hid (dig (s[k]'hks) = false) := by unfold Hid dig; simp; omega
          have h95' : (((s[k]'hks).toNat : Int) != 95) = true := by simp; omega
          have HNOT : Hid (¬ (dig (s[k]'hks) = true ∨ (s[k]'hks = 95 ∧ 0 < k ∧ ∃ h2 : k + 1 < s.size, s[k - 1]'(by omega) ≠ 95 ∧ s[k + 1]'h2 ≠ 95))) := by
            rintro (q | q)
            · rw [HDG.out] at q; cases q
            · have := congrArg UInt8.toNat q.1
              simp at this
              omega
          clear h48
          replace HBAD := hid (HBAD.out (fun q => HNOT.out (HAT.out.1 q)))
          clear HNXD HNXM HAT HCC HB4 HBQ HBW HLL
          go_wp2
          go_ret2
          exact HBAD.out
      · have hk0' : (0 : Int) < (k : Int) := by omega
        have HK0 : Hid (0 < k) := by unfold Hid; omega
        have hw4 : IntKind.i64.wrap ((k : Int) - 1) = ((k - 1 : Nat) : Int) := by rw [wrap_is] <;> omega
        have hkm : k - 1 < s.size := by omega
        have hkm' : ((k - 1 : Nat) : Int) < (n : Int) := by omega
        by_cases hk2 : k + 1 < n
        · have hk2' : ((k + 1 : Nat) : Int) < (n : Int) := by omega
          have hk2s : k + 1 < s.size := by omega
          by_cases hp : (s[k - 1]'hkm).toNat = 95
          · have hp' : (((s[k - 1]'hkm).toNat : Int) != 95) = false := by simp; omega
            have HNB : Hid (¬ s[k - 1]'hkm ≠ 95) := fun q => q (UInt8.toNat_inj.1 hp)
            clear hk0 hp
            by_cases h48 : 48 ≤ (s[k]'hks).toNat
            · have h48' : (48 : Int) ≤ ((s[k]'hks).toNat : Int) := by omega
              by_cases h57 : (s[k]'hks).toNat ≤ 57
              · have h57' : ((s[k]'hks).toNat : Int) ≤ 57 := by omega
                have HDG : Hid (dig (s[k]'hks) = true) := dig_iff.2 ⟨h48, h57⟩
                clear h48 h57
                replace HNXD := hid (HNXD.out HDG.out)
                clear HNXM HBAD HAT
                go_wp2_with (at_builtin; refine wpList_append_byr _ rfl (.tmp 60) (.tmp 64) rfl w.heap.size _ (((L.take k).filter dig).map fun b => (b.toNat : Int)) _ rfl (HB4.out _) wr.heap.size rfl (HCC.out _) HLL.out (HBQ.out _) ?_)
                intro m6 a6 cap6 w6 hm6 hby6 hbw6
                have HN1 := hid (HNXD.out _ _ hby6.out (HBW.out _ _ hbw6.out))
                clear hm6 hby6 hbw6 HNXD HCC HB4 HBQ HBW HLL
                go_wp2_with fail
                go_roundg (n - (k + 1))
                case rel => exact HN1.out
                case measure => exact HMM.out
              · have h57' : ¬ ((s[k]'hks).toNat : Int) ≤ 57 := by omega
                have HDG : Hid (dig (s[k]'hks) = false) := by unfold Hid dig; simp; omega
                by_cases h95 : (s[k]'hks).toNat = 95
                · have h95' : (((s[k]'hks).toNat : Int) != 95) = false := by simp; omega
                  have HNOT : Hid (¬ (dig (s[k]'hks) = true ∨ (s[k]'hks = 95 ∧ 0 < k ∧ ∃ h2 : k + 1 < s.size, s[k - 1]'(by omega) ≠ 95 ∧ s[k + 1]'h2 ≠ 95))) := by
                    rintro (q | ⟨q1, q2, q3, q4, q5⟩)
                    · rw [HDG.out] at q; cases q
                    · exact HNB.out q4
                  clear h48 h57 h95
                  replace HBAD := hid (HBAD.out (fun q => HNOT.out (HAT.out.1 q)))
                  clear HNXD HNXM HAT HCC HB4 HBQ HBW HLL
                  go_wp2
                  go_ret2
                  exact HBAD.out
                · have h95' : (((s[k]'hks).toNat : Int) != 95) = true := by simp; omega
                  have HNOT : Hid (¬ (dig (s[k]'hks) = true ∨ (s[k]'hks = 95 ∧ 0 < k ∧ ∃ h2 : k + 1 < s.size, s[k - 1]'(by omega) ≠ 95 ∧ s[k + 1]'h2 ≠ 95))) := by
                    rintro (q | q)
                    · rw [HDG.out] at q; cases q
                    · exact h95 (by rw [q.1]; rfl)
                  clear h48 h57 h95
                  replace HBAD := hid (HBAD.out (fun q => HNOT.out (HAT.out.1 q)))
                  clear HNXD HNXM HAT HCC HB4 HBQ HBW HLL
                  go_wp2
                  go_ret2
                  exact HBAD.out
            · have h48' : ¬ (48 : Int) ≤ ((s[k]'hks).toNat : Int) := by omega
              have HDG : Hid (dig (s[k]'hks) = false) := by unfold Hid dig; simp; omega
              have h95' : (((s[k]'hks).toNat : Int) != 95) = true := by simp; omega
              have HNOT : Hid (¬ (dig (s[k]'hks) = true ∨ (s[k]'hks = 95 ∧ 0 < k ∧ ∃ h2 : k + 1 < s.size, s[k - 1]'(by omega) ≠ 95 ∧ s[k + 1]'h2 ≠ 95))) := by
                rintro (q | q)
                · rw [HDG.out] at q; cases q
                · have := congrArg UInt8.toNat q.1
                  simp at this
                  omega
              clear h48
              replace HBAD := hid (HBAD.out (fun q => HNOT.out (HAT.out.1 q)))
              clear HNXD HNXM HAT HCC HB4 HBQ HBW HLL
              go_wp2
              go_ret2
              exact HBAD.out
          · have hp' : (((s[k - 1]'hkm).toNat : Int) != 95) = true := by simp; omega
            have HPN : Hid (s[k - 1]'hkm ≠ 95) := fun q => hp (by rw [q]; rfl)
            by_cases hq : (s[k + 1]'hk2s).toNat = 95
            · have hq' : (((s[k + 1]'hk2s).toNat : Int) != 95) = false := by simp; omega
              have HNB : Hid (¬ s[k + 1]'hk2s ≠ 95) := fun q => q (UInt8.toNat_inj.1 hq)
              clear hk0 hp hq
              by_cases h48 : 48 ≤ (s[k]'hks).toNat
              · have h48' : (48 : Int) ≤ ((s[k]'hks).toNat : Int) := by omega
                by_cases h57 : (s[k]'hks).toNat ≤ 57
                · have h57' : ((s[k]'hks).toNat : Int) ≤ 57 := by omega
                  have HDG : Hid (dig (s[k]'hks) = true) := dig_iff.2 ⟨h48, h57⟩
                  clear h48 h57
                  replace HNXD := hid (HNXD.out HDG.out)
                  clear HNXM HBAD HAT
                  go_wp2_with (at_builtin; refine wpList_append_byr _ rfl (.tmp 60) (.tmp 64) rfl w.heap.size _ (((L.take k).filter dig).map fun b => (b.toNat : Int)) _ rfl (HB4.out _) wr.heap.size rfl (HCC.out _) HLL.out (HBQ.out _) ?_)
                  intro m6 a6 cap6 w6 hm6 hby6 hbw6
                  have HN1 := hid (HNXD.out _ _ hby6.out (HBW.out _ _ hbw6.out))
                  clear hm6 hby6 hbw6 HNXD HCC HB4 HBQ HBW HLL
                  go_wp2_with fail
                  go_roundg (n - (k + 1))
                  case rel => exact HN1.out
                  case measure => exact HMM.out
                · have h57' : ¬ ((s[k]'hks).toNat : Int) ≤ 57 := by omega
                  have HDG : Hid (dig (s[k]'hks) = false) := by unfold Hid dig; simp; omega
                  by_cases h95 : (s[k]'hks).toNat = 95
                  · have h95' : (((s[k]'hks).toNat : Int) != 95) = false := by simp; omega
                    have HNOT : Hid (¬ (dig (s[k]'hks) = true ∨ (s[k]'hks = 95 ∧ 0 < k ∧ ∃ h2 : k + 1 < s.size, s[k - 1]'(by omega) ≠ 95 ∧ s[k + 1]'h2 ≠ 95))) := by
                      rintro (q | ⟨q1, q2, q3, q4, q5⟩)
                      · rw [HDG.out] at q; cases q
                      · exact HNB.out q5
                    clear h48 h57 h95
                    replace HBAD := hid (HBAD.out (fun q => HNOT.out (HAT.out.1 q)))
                    clear HNXD HNXM HAT HCC HB4 HBQ HBW HLL
                    go_wp2
                    go_ret2
                    exact HBAD.out
                  · have h95' : (((s[k]'hks).toNat : Int) != 95) = true := by simp; omega
                    have HNOT : Hid (¬ (dig (s[k]'hks) = true ∨ (s[k]'hks = 95 ∧ 0 < k ∧ ∃ h2 : k + 1 < s.size, s[k - 1]'(by omega) ≠ 95 ∧ s[k + 1]'h2 ≠ 95))) := by
                      rintro (q | q)
                      · rw [HDG.out] at q; cases q
                      · exact h95 (by rw [q.1]; rfl)
                    clear h48 h57 h95
                    replace HBAD := hid (HBAD.out (fun q => HNOT.out (HAT.out.1 q)))
                    clear HNXD HNXM HAT HCC HB4 HBQ HBW HLL
                    go_wp2
                    go_ret2
                    exact HBAD.out
              · have h48' : ¬ (48 : Int) ≤ ((s[k]'hks).toNat : Int) := by omega
                have HDG : Hid (dig (s[k]'hks) = false) := by unfold Hid dig; simp; omega
                have h95' : (((s[k]'hks).toNat : Int) != 95) = true := by simp; omega
                have HNOT : Hid (¬ (dig (s[k]'hks) = true ∨ (s[k]'hks = 95 ∧ 0 < k ∧ ∃ h2 : k + 1 < s.size, s[k - 1]'(by omega) ≠ 95 ∧ s[k + 1]'h2 ≠ 95))) := by
                  rintro (q | q)
                  · rw [HDG.out] at q; cases q
                  · have := congrArg UInt8.toNat q.1
                    simp at this
                    omega
                clear h48
                replace HBAD := hid (HBAD.out (fun q => HNOT.out (HAT.out.1 q)))
                clear HNXD HNXM HAT HCC HB4 HBQ HBW HLL
                go_wp2
                go_ret2
                exact HBAD.out
            · have hq' : (((s[k + 1]'hk2s).toNat : Int) != 95) = true := by simp; omega
              have HQN : Hid (s[k + 1]'hk2s ≠ 95) := fun q => hq (by rw [q]; rfl)
              clear hk0 hp hq
              by_cases h48 : 48 ≤ (s[k]'hks).toNat
              · have h48' : (48 : Int) ≤ ((s[k]'hks).toNat : Int) := by omega
                by_cases h57 : (s[k]'hks).toNat ≤ 57
                · have h57' : ((s[k]'hks).toNat : Int) ≤ 57 := by omega
                  have HDG : Hid (dig (s[k]'hks) = true) := dig_iff.2 ⟨h48, h57⟩
                  clear h48 h57
                  replace HNXD := hid (HNXD.out HDG.out)
                  clear HNXM HBAD HAT
                  go_wp2_with (at_builtin; refine wpList_append_byr _ rfl (.tmp 60) (.tmp 64) rfl w.heap.size _ (((L.take k).filter dig).map fun b => (b.toNat : Int)) _ rfl (HB4.out _) wr.heap.size rfl (HCC.out _) HLL.out (HBQ.out _) ?_)
                  intro m6 a6 cap6 w6 hm6 hby6 hbw6
                  have HN1 := hid (HNXD.out _ _ hby6.out (HBW.out _ _ hbw6.out))
                  clear hm6 hby6 hbw6 HNXD HCC HB4 HBQ HBW HLL
                  go_wp2_with fail
                  go_roundg (n - (k + 1))
                  case rel => exact HN1.out
                  case measure => exact HMM.out
                · have h57' : ¬ ((s[k]'hks).toNat : Int) ≤ 57 := by omega
                  have HDG : Hid (dig (s[k]'hks) = false) := by unfold Hid dig; simp; omega
                  by_cases h95 : (s[k]'hks).toNat = 95
                  · have h95' : (((s[k]'hks).toNat : Int) != 95) = false := by simp; omega
                    have HYES : Hid (dig (s[k]'hks) = true ∨ (s[k]'hks = 95 ∧ 0 < k ∧ ∃ h2 : k + 1 < s.size, s[k - 1]'(by omega) ≠ 95 ∧ s[k + 1]'h2 ≠ 95)) := .inr ⟨UInt8.toNat_inj.1 h95, HK0.out, hk2s, HPN.out, HQN.out⟩
                    clear h48 h57 h95
                    have HN1 := hid (HNXM.out (HAT.out.2 HYES.out) HDG.out)
                    clear HNXD HNXM HBAD HAT HCC HB4 HBQ HBW HLL
                    go_wp2_with fail
                    go_roundg (n - (k + 1))
                    case rel => exact HN1.out
                    case measure => exact HMM.out
                  · have h95' : (((s[k]'hks).toNat : Int) != 95) = true := by simp; omega
                    have HNOT : Hid (¬ (dig (s[k]'hks) = true ∨ (s[k]'hks = 95 ∧ 0 < k ∧ ∃ h2 : k + 1 < s.size, s[k - 1]'(by omega) ≠ 95 ∧ s[k + 1]'h2 ≠ 95))) := by
                      rintro (q | q)
                      · rw [HDG.out] at q; cases q
                      · exact h95 (by rw [q.1]; rfl)
                    clear h48 h57 h95
                    replace HBAD := hid (HBAD.out (fun q => HNOT.out (HAT.out.1 q)))
                    clear HNXD HNXM HAT HCC HB4 HBQ HBW HLL
                    go_wp2
                    go_ret2
                    exact HBAD.out
              · have h48' : ¬ (48 : Int) ≤ ((s[k]'hks).toNat : Int) := by omega
                have HDG : Hid (dig (s[k]'hks) = false) := by unfold Hid dig; simp; omega
                have h95' : (((s[k]'hks).toNat : Int) != 95) = true := by simp; omega
                have HNOT : Hid (¬ (dig (s[k]'hks) = true ∨ (s[k]'hks = 95 ∧ 0 < k ∧ ∃ h2 : k + 1 < s.size, s[k - 1]'(by omega) ≠ 95 ∧ s[k + 1]'h2 ≠ 95))) := by
                  rintro (q | q)
                  · rw [HDG.out] at q; cases q
                  · have := congrArg UInt8.toNat q.1
                    simp at this
                    omega
                clear h48
                replace HBAD := hid (HBAD.out (fun q => HNOT.out (HAT.out.1 q)))
                clear HNXD HNXM HAT HCC HB4 HBQ HBW HLL
                go_wp2
                go_ret2
                exact HBAD.out
        · have hk2' : ¬ ((k + 1 : Nat) : Int) < (n : Int) := by omega
          have HNB : Hid (¬ k + 1 < s.size) := by unfold Hid; omega
          clear hk0
          by_cases h48 : 48 ≤ (s[k]'hks).toNat
          · have h48' : (48 : Int) ≤ ((s[k]'hks).toNat : Int) := by omega
            by_cases h57 : (s[k]'hks).toNat ≤ 57
            · have h57' : ((s[k]'hks).toNat : Int) ≤ 57 := by omega
              have HDG : Hid (dig (s[k]'hks) = true) := dig_iff.2 ⟨h48, h57⟩
              clear h48 h57
              replace HNXD := hid (HNXD.out HDG.out)
              clear HNXM HBAD HAT
              go_wp2_with (at_builtin; refine wpList_append_byr _ rfl (.tmp 60) (.tmp 64) rfl w.heap.size _ (((L.take k).filter dig).map fun b => (b.toNat : Int)) _ rfl (HB4.out _) wr.heap.size rfl (HCC.out _) HLL.out (HBQ.out _) ?_)
              intro m6 a6 cap6 w6 hm6 hby6 hbw6
              have HN1 := hid (HNXD.out _ _ hby6.out (HBW.out _ _ hbw6.out))
              clear hm6 hby6 hbw6 HNXD HCC HB4 HBQ HBW HLL
              go_wp2_with fail
              go_roundg (n - (k + 1))
              case rel => exact HN1.out
              case measure => exact HMM.out
            · have h57' : ¬ ((s[k]'hks).toNat : Int) ≤ 57 := by omega
              have HDG : Hid (dig (s[k]'hks) = false) := by unfold Hid dig; simp; omega
              by_cases h95 : (s[k]'hks).toNat = 95
              · have h95' : (((s[k]'hks).toNat : Int) != 95) = false := by simp; omega
                have HNOT : Hid (¬ (dig (s[k]'hks) = true ∨ (s[k]'hks = 95 ∧ 0 < k ∧ ∃ h2 : k + 1 < s.size, s[k - 1]'(by omega) ≠ 95 ∧ s[k + 1]'h2 ≠ 95))) := by
                  rintro (q | ⟨q1, q2, q3, q4, q5⟩)
                  · rw [HDG.out] at q; cases q
                  · exact HNB.out q3
                clear h48 h57 h95
                replace HBAD := hid (HBAD.out (fun q => HNOT.out (HAT.out.1 q)))
                clear HNXD HNXM HAT HCC HB4 HBQ HBW HLL
                go_wp2
                go_ret2
                exact HBAD.out
              · have h95' : (((s[k]'hks).toNat : Int) != 95) = true := by simp; omega
                have HNOT : Hid (¬ (dig (s[k]'hks) = true ∨ (s[k]'hks = 95 ∧ 0 < k ∧ ∃ h2 : k + 1 < s.size, s[k - 1]'(by omega) ≠ 95 ∧ s[k + 1]'h2 ≠ 95))) := by
                  rintro (q | q)
                  · rw [HDG.out] at q; cases q
                  · exact h95 (by rw [q.1]; rfl)
                clear h48 h57 h95
                replace HBAD := hid (HBAD.out (fun q => HNOT.out (HAT.out.1 q)))
                clear HNXD HNXM HAT HCC HB4 HBQ HBW HLL
                go_wp2
                go_ret2
                exact HBAD.out
          · have h48' : ¬ (48 : Int) ≤ ((s[k]'hks).toNat : Int) := by omega
            have HDG : Hid (dig (s[k]'hks) = false) := by unfold Hid dig; simp; omega
            have h95' : (((s[k]'hks).toNat : Int) != 95) = true := by simp; omega
            have HNOT : Hid (¬ (dig (s[k]'hks) = true ∨ (s[k]'hks = 95 ∧ 0 < k ∧ ∃ h2 : k + 1 < s.size, s[k - 1]'(by omega) ≠ 95 ∧ s[k + 1]'h2 ≠ 95))) := by
              rintro (q | q)
              · rw [HDG.out] at q; cases q
              · have := congrArg UInt8.toNat q.1
                simp at this
                omega
            clear h48
            replace HBAD := hid (HBAD.out (fun q => HNOT.out (HAT.out.1 q)))
            clear HNXD HNXM HAT HCC HB4 HBQ HBW HLL
            go_wp2
            go_ret2
            exact HBAD.out
    · have hlt' : ¬ (k : Int) < (n : Int) := by omega
      obtain rfl : k = n := by omega
      have HRO : Hid (RefOk L) := fun i hi => HOK.out i (by rw [HN.out] at hi; exact hi)
      rw [List.take_of_length_le (by rw [HN.out]; exact Nat.le_refl _)] at HBY
      have HRD := hid (rread_any (w := wr) (B := 10) (l := L.filter dig) (by omega) (by omega) (by have := List.length_filter_le dig L; rw [HN.out] at this; omega))
      obtain ⟨D, hD⟩ : ∃ D, L.filter dig = D := ⟨_, rfl⟩
      rw [hD] at HBY HRD
      have HD := hid hD
      clear hD HOK HG
      have HFIN : Hid (∀ e w', RRPost wr 10 D e w' → RGRPost w L e w') := fun e w' h => .inl ⟨HRO.out, by rw [HD.out]; exact rrPost_step HBL.out h⟩
      have hcv : ∃ a m cap, u4 = .slice a m cap ∧ (convert 51 9 (.slice a m cap)).run Tryz.prog wr = .ok (.string ⟨D.toArray⟩) wr := by
        by_cases h0 : D = []
        · subst h0
          obtain ⟨q1, ⟨q2, q3⟩ | ⟨g, cap, cur, q2, _⟩⟩ := HBY.out
          · exact ⟨none, 0, 0, q2, convert_nil wr⟩
          · have q := run_convert_bytes_arg (P := Tryz.prog) wr 51 5 Tryz.underlying51 Tryz.underlying5 g 0 0 cap [] rfl (fun i hi => by omega) 9 Tryz.underlying9
            exact ⟨_, _, _, q2, q⟩
        · obtain ⟨a9, cap9, e9⟩ := HBY.out.form
          subst e9
          have hpos : 0 < (D.map fun b => (b.toNat : Int)).length := by rw [List.length_map]; exact List.length_pos_iff.2 h0
          obtain ⟨g9, rfl, -, -, -, hc9⟩ := HBY.out.cells hpos
          have q := run_convert_bytes_arg (P := Tryz.prog) wr 51 5 Tryz.underlying51 Tryz.underlying5 g9 0 _ cap9 (D.map fun b => (b.toNat : Int)) rfl (fun i hi => by rw [Nat.zero_add]; exact hc9 i hi) 9 Tryz.underlying9
          rw [str_of_bytes] at q
          exact ⟨_, _, _, rfl, q⟩
      obtain ⟨a9, m9, cap9, rfl, hcv⟩ := hcv
      clear HBY HRO HD
      obtain ⟨t, ht⟩ : ∃ t, (⟨D.toArray⟩ : ByteArray) = t := ⟨_, rfl⟩
      rw [ht] at hcv HRD
      clear ht
      go_wp2_with fail
      refine HRD.out.mono ?_
      rintro e w1 h
      have h' := HFIN.out e w1 h
      clear HRD HFIN hcv
      rcases h with ⟨g, zs, a, c, rfl, h2⟩ | ⟨g, rfl, h2⟩
      · clear g h2
        have H := hid h'
        clear h'
        go_wp2
        go_ret2
        exact H.out
      · clear g h2
        have H := hid h'
        clear h'
        go_wp2
        go_ret2
        exact H.out
end Go.Proofs.YtiiemeigbnnlpaaGreatDoor
