/-
  QKeepR4ToKeep: KeepR4, Keep, joined.
-/
import Derived.Test.YtiiemeigbnnlpaaGreatDoorQTexts4ToReads4
import Derived.Test.YtiiemeigbnnlpaaGreatDoorQDivPureToShift
import Derived.Test.YtiiemeigbnnlpaaGreatDoorQSubToTouch

/- KeepR4 -/
namespace Go.Proofs.YtiiemeigbnnlpaaGreatDoor
open Go.RowKit
set_option linter.unusedVariables false

/-- A list that was read, in memory from the call's start on; a list that the document answers. -/
def AnsK (w : World) (V : Nat) (e : Ending) (w' : World) : Prop := ∃ zs a c E, e = .returned (.tuple #[.slice a zs.length c, .int .i64 E]) ∧ Mine w.heap.size w' (.slice a zs.length c) zs ∧ Canon zs ∧ vn zs = V ∧ Below w.heap.size w w'
def AnsW (w : World) (V : Nat) (e : Ending) (w' : World) : Prop := ∃ zs a c, e = .returned (.slice a zs.length c) ∧ Sl w'.heap.size w' (.slice a zs.length c) zs ∧ Canon zs ∧ vn zs = V ∧ Below w.heap.size w w'
def AnsT (w : World) (V : Nat) (e : Ending) (w' : World) : Prop := ∃ zs a c E, e = .returned (.tuple #[.slice a zs.length c, .int .i64 E]) ∧ Sl w'.heap.size w' (.slice a zs.length c) zs ∧ Canon zs ∧ vn zs = V ∧ Below w.heap.size w w'
theorem ansS_t {w : World} {v : Nat} {e : Ending} {w' : World} (h : AnsS w v e w') : AnsT w v e w' := by
  obtain ⟨zs, a, c, h1, h2⟩ := h
  exact ⟨zs, a, c, 0, h1, h2⟩
theorem ansN_t {w : World} {e : Ending} {w' : World} (h : AnsN w e w') : AnsT w 0 e w' := ⟨[], none, 0, 7, h.1, sl_nil4 w', canon_nil, rfl, h.2⟩
theorem rdPost_k {w : World} {B : Nat} {l : List UInt8} (h : l ≠ [] ∧ Good B l) {e : Ending} {w' : World} (p : ReadPost w B l e w') : AnsK w (ofD B (dsL l)) e w' := by
  rcases p with ⟨_, zs, a, c, h1, h2, h3⟩ | ⟨g, _⟩
  · exact ⟨zs, a, c, 0, h1, h2, h3⟩
  · exact absurd h g
theorem ansN_k {w : World} {e : Ending} {w' : World} (h : AnsN w e w') : AnsK w 0 e w' := ⟨[], none, 0, 7, h.1, Mine.nil _ _, canon_nil, rfl, h.2⟩
/-- A number that takes few words. -/
def Wee (V : Nat) : Prop := ∀ zs, Canon zs → vn zs = V → zs.length ≤ 1048576
theorem wee_zero : Wee 0 := fun zs hc hv => by
  have : zs = [] := canon_inj hc canon_nil ((vn_eq hc.1 canon_nil.1).1 (by rw [hv]; rfl))
  subst this
  exact Nat.zero_le _
theorem wee_ofD {B : Nat} {L : List UInt8} (hB : 2 ≤ B) (hB2 : B ≤ 36) (hg : Good B L) (hl : L.length ≤ 1048576) : Wee (ofD B (dsL L)) := fun zs hc hv => by
  have hdd : ∀ d ∈ dsL L, d < B := fun d hd => by
    obtain ⟨c, hc, rfl⟩ := List.mem_map.1 hd
    exact hg c hc
  refine canon_lt hc hB2 (n := L.length) ?_ (by omega)
  rw [hv]
  have := ofD_lt (by omega : 0 < B) _ hdd
  simpa [dsL] using this
/-- The three calls of each side, by one number. -/
theorem one_read (s : ByteArray) (hs : s.size ≤ 1048576) {b : Int} (h0 : -9223372036854775808 ≤ b) (h1 : b ≤ 9223372036854775807) :
    ∃ V, Wee V ∧ (∀ w, Sg w → Calls Tryz.prog 18 #[.string s, .int .i64 b] w (AnsK w V)) ∧ (∀ w, Calls Tryz.prog 13 #[.string s, .int .i64 b] w (AnsT w V)) := by
  obtain ⟨L, rfl⟩ : ∃ L : List UInt8, s = ⟨L.toArray⟩ := ⟨s.data.toList, by simp⟩
  rw [mk_size] at hs
  by_cases hb : 2 ≤ b ∧ b ≤ 36
  · obtain ⟨B, rfl⟩ : ∃ B : Nat, b = (B : Int) := ⟨b.toNat, by omega⟩
    have hB : 2 ≤ B := by omega
    have hB2 : B ≤ 36 := by omega
    by_cases hg : L ≠ [] ∧ Good B L
    · exact ⟨_, wee_ofD hB hB2 hg.2 hs, fun w hT => (read_any hB hB2 hT (by omega)).mono fun e w' p => rdPost_k hg p, fun w => (rread_any hB hB2 (by omega)).mono fun e w' p => ansS_t (rrPost_s hg p)⟩
    · exact ⟨0, wee_zero, fun w hT => (read_any hB hB2 hT (by omega)).mono fun e w' p => ansN_k (rdPost_n hg p), fun w => (rread_any hB hB2 (by omega)).mono fun e w' p => ansN_t (rrPost_n hg p)⟩
  · exact ⟨0, wee_zero, fun w _ => (read_bad h0 h1 hb _).mono fun e w' ⟨p, q⟩ => ⟨[], none, 0, 3, p, Mine.nil _ _, canon_nil, rfl, by rw [q]; exact Below.refl _ _⟩, fun w => (rread_bad h0 h1 hb _).mono fun e w' ⟨p, q⟩ => ⟨[], none, 0, 3, p, sl_nil4 w', canon_nil, rfl, by rw [q]; exact Below.refl _ _⟩⟩
theorem one_dec (s : ByteArray) (hs : s.size ≤ 1048576) :
    ∃ V, Wee V ∧ (∀ w, Sg w → Calls Tryz.prog 16 #[.string s] w (AnsK w V)) ∧ (∀ w, Calls Tryz.prog 14 #[.string s] w (AnsT w V)) := by
  obtain ⟨L, rfl⟩ : ∃ L : List UInt8, s = ⟨L.toArray⟩ := ⟨s.data.toList, by simp⟩
  rw [mk_size] at hs
  by_cases hg : L ≠ [] ∧ Good 10 L
  · exact ⟨_, wee_ofD (by omega) (by omega) hg.2 hs, fun w hT => (readDec_any hT (by omega)).mono fun e w' p => rdPost_k hg p, fun w => (rreadDec_any (by omega)).mono fun e w' p => ansS_t (rrPost_s hg p)⟩
  · exact ⟨0, wee_zero, fun w hT => (readDec_any hT (by omega)).mono fun e w' p => ansN_k (rdPost_n hg p), fun w => (rreadDec_any (by omega)).mono fun e w' p => ansN_t (rrPost_n hg p)⟩
theorem one_grouped (s : ByteArray) (hs : s.size ≤ 1048576) :
    ∃ V, Wee V ∧ (∀ w, Sg w → Calls Tryz.prog 17 #[.string s] w (AnsK w V)) ∧ (∀ w, Calls Tryz.prog 15 #[.string s] w (AnsT w V)) := by
  obtain ⟨L, rfl⟩ : ∃ L : List UInt8, s = ⟨L.toArray⟩ := ⟨s.data.toList, by simp⟩
  have hs' : L.length ≤ 1048576 := by rw [mk_size] at hs; exact hs
  by_cases hg : RefOk L ∧ L ≠ []
  · obtain ⟨hu, hgd⟩ := ref_yes hg.1 hg.2
    refine ⟨_, wee_ofD (by omega) (by omega) hgd.2 (Nat.le_trans (List.length_filter_le _ _) hs'), fun w hT => (readGrouped_any (by rw [mk_size]; omega) hT).mono fun e w' p => ?_, fun w => (rreadGrouped_any hs').mono fun e w' p => ansS_t ((grp_s hg.1 hg.2).1 e w' p)⟩
    rcases p with ⟨l, hl, q⟩ | ⟨hn, _⟩
    · rw [hu] at hl
      obtain rfl := Option.some.inj hl
      exact rdPost_k hgd q
    · rw [hu] at hn; cases hn
  · exact ⟨0, wee_zero, fun w hT => (readGrouped_any (by rw [mk_size]; omega) hT).mono fun e w' p => ansN_k ((grp_n hg).2 e w' p), fun w => (rreadGrouped_any hs').mono fun e w' p => ansN_t ((grp_n hg).1 e w' p)⟩
set_option maxRecDepth 100000 in
set_option maxHeartbeats 1600000 in
theorem read_keep (kind : Int) (s : ByteArray) (hs : s.size ≤ 1048576) {b : Int} (h0 : -9223372036854775808 ≤ b) (h1 : b ≤ 9223372036854775807) :
    ∃ V, Wee V ∧ (∀ w, Sg w → Calls Tryz.prog 6 #[.int .i64 kind, .string s, .int .i64 b] w (AnsK w V)) ∧ (∀ w, Calls Tryz.prog 5 #[.int .i64 kind, .string s, .int .i64 b] w (AnsW w V)) := by
  obtain ⟨V1, E1, A1, B1⟩ := one_read s hs h0 h1
  have HB1 := hid B1
  by_cases k6 : kind = 6
  · subst k6
    obtain ⟨V, E, A, B⟩ := one_dec s hs
    have HA := hid A
    have HB := hid B
    refine ⟨V, E, fun w hT => ?_, fun w => ?_⟩
    · have HC := hid (HA.out w hT)
      clear E E1 A B A1 B1 HB HA HB1
      go_enter Tryz.func6, Tryz.ntmps6
      go_wp2_with fail
      refine HC.out.mono ?_
      rintro e w1 ⟨zs, a, c, E, rfl, h⟩
      have H := hid h
      clear h HC
      generalize hz : zs.length = nz at *
      have HZ := hid hz
      clear hz
      go_wp2
      go_ret2
      exact ⟨zs, a, c, E, by rw [HZ.out]; rfl, by rw [HZ.out]; exact H.out⟩
    · clear E E1 A B A1 B1 HA
      go_enter Tryz.func5, Tryz.ntmps5
      go_wp2_with fail
      refine (HB1.out w).mono ?_
      rintro e w1 ⟨zs, a, c, E, rfl, -, -, -, q1⟩
      have Q1 := hid q1
      clear q1 HB1
      generalize zs.length = nz1 at *
      go_wp2_with fail
      refine (HB.out w1).mono ?_
      rintro e w2 ⟨zs, a, c, E, rfl, h2, h3, h4, q2⟩
      have H : Hid (Sl w2.heap.size w2 (.slice a zs.length c) zs ∧ Canon zs ∧ vn zs = V ∧ Below w.heap.size w w2) := ⟨h2, h3, h4, below_step Q1.out q2⟩
      clear h2 h3 h4 q2 Q1 HB
      generalize hz : zs.length = nz at *
      have HZ := hid hz
      clear hz
      go_wp2
      go_ret
      exact ⟨zs, a, c, by rw [HZ.out]; rfl, by rw [HZ.out]; exact H.out⟩
  · have e6 : (kind == 6) = false := by simp [k6]
    by_cases k7 : kind = 7
    · subst k7
      clear k6
      obtain ⟨V, E, A, B⟩ := one_grouped s hs
      have HA := hid A
      have HB := hid B
      refine ⟨V, E, fun w hT => ?_, fun w => ?_⟩
      · have HC := hid (HA.out w hT)
        clear E E1 A B A1 B1 HB HA HB1
        go_enter Tryz.func6, Tryz.ntmps6
        go_wp2_with fail
        refine HC.out.mono ?_
        rintro e w1 ⟨zs, a, c, E, rfl, h⟩
        have H := hid h
        clear h HC
        generalize hz : zs.length = nz at *
        have HZ := hid hz
        clear hz
        go_wp2
        go_ret2
        exact ⟨zs, a, c, E, by rw [HZ.out]; rfl, by rw [HZ.out]; exact H.out⟩
      · clear E E1 A B A1 B1 HA
        go_enter Tryz.func5, Tryz.ntmps5
        go_wp2_with fail
        refine (HB1.out w).mono ?_
        rintro e w1 ⟨zs, a, c, E, rfl, -, -, -, q1⟩
        have Q1 := hid q1
        clear q1 HB1
        generalize zs.length = nz1 at *
        go_wp2_with fail
        refine (HB.out w1).mono ?_
        rintro e w2 ⟨zs, a, c, E, rfl, h2, h3, h4, q2⟩
        have H : Hid (Sl w2.heap.size w2 (.slice a zs.length c) zs ∧ Canon zs ∧ vn zs = V ∧ Below w.heap.size w w2) := ⟨h2, h3, h4, below_step Q1.out q2⟩
        clear h2 h3 h4 q2 Q1 HB
        generalize hz : zs.length = nz at *
        have HZ := hid hz
        clear hz
        go_wp2
        go_ret
        exact ⟨zs, a, c, by rw [HZ.out]; rfl, by rw [HZ.out]; exact H.out⟩
    · have e7 : (kind == 7) = false := by simp [k7]
      clear k6 k7
      have HA := hid A1
      refine ⟨V1, E1, fun w hT => ?_, fun w => ?_⟩
      · have HC := hid (HA.out w hT)
        clear E1 A1 B1 HA HB1
        go_enter Tryz.func6, Tryz.ntmps6
        go_wp2_with fail
        refine HC.out.mono ?_
        rintro e w1 ⟨zs, a, c, E, rfl, h⟩
        have H := hid h
        clear h HC
        generalize hz : zs.length = nz at *
        have HZ := hid hz
        clear hz
        go_wp2
        go_ret2
        exact ⟨zs, a, c, E, by rw [HZ.out]; rfl, by rw [HZ.out]; exact H.out⟩
      · clear E1 A1 B1 HA
        go_enter Tryz.func5, Tryz.ntmps5
        go_wp2_with fail
        refine (HB1.out w).mono ?_
        rintro e w1 ⟨zs, a, c, E, rfl, h⟩
        have H := hid h
        clear h HB1
        generalize hz : zs.length = nz at *
        have HZ := hid hz
        clear hz
        go_wp2
        go_ret
        exact ⟨zs, a, c, by rw [HZ.out]; rfl, by rw [HZ.out]; exact H.out⟩
end Go.Proofs.YtiiemeigbnnlpaaGreatDoor

/- Keep -/
namespace Go.Proofs.YtiiemeigbnnlpaaGreatDoor
open Go.RowKit

/-- A row that is filled from its head on: the first k words of T are there. -/
def filled (T : List Int) (k : Nat) : List Int := T.take k ++ List.replicate (T.length - k) 0
theorem filled_len (T : List Int) {k : Nat} (h : k ≤ T.length) : (filled T k).length = T.length := by simp [filled]; omega
theorem filled_zero (T : List Int) {n : Nat} (h : T.length = n) : List.replicate n 0 = filled T 0 := by simp [filled, h]
theorem filled_all (T : List Int) {n : Nat} (h : T.length = n) : filled T n = T := by subst h; simp [filled]
theorem filled_set (T : List Int) {k : Nat} (h : k < T.length) : (filled T k).set k T[k] = filled T (k + 1) := by
  obtain ⟨m, hm⟩ : ∃ m, T.length - k = m + 1 := ⟨T.length - k - 1, by omega⟩
  have hm' : T.length - (k + 1) = m := by omega
  unfold filled
  rw [hm, hm', List.set_append_right _ _ (by simp; omega), List.length_take, Nat.min_eq_left (by omega), Nat.sub_self, List.replicate_succ, List.set_cons_zero, ← List.take_append_getElem h, List.append_assoc]
  rfl

/-- What Roomy lays: the words, then the marks. -/
def roomy (xs : List Int) : List Int := xs ++ (List.range 80).map fun j => 6510516211317473280 + ((xs.length + j : Nat) : Int)
theorem roomy_len (xs : List Int) : (roomy xs).length = xs.length + 80 := by simp [roomy]
theorem roomy_low {xs : List Int} {k : Nat} (h : k < (roomy xs).length) (h' : k < xs.length) : (roomy xs)[k] = xs[k] := by
  exact List.getElem_append_left h'
theorem roomy_high {xs : List Int} {k : Nat} (h : k < (roomy xs).length) (h' : xs.length ≤ k) : (roomy xs)[k] = 6510516211317473280 + (k : Int) := by
  have e : (xs ++ (List.range 80).map fun j => 6510516211317473280 + ((xs.length + j : Nat) : Int))[k]'h = _ := List.getElem_append_right h'
  refine Eq.trans e ?_
  simp
  omega
theorem roomy_wf {xs : List Int} (hw : WF xs) (hl : xs.length ≤ 35184372000000) : WF (roomy xs) := fun x hx => by
  unfold roomy at hx
  rcases List.mem_append.1 hx with h | h
  · exact hw x h
  · obtain ⟨j, hj, rfl⟩ := List.mem_map.1 h
    have := List.mem_range.1 hj
    unfold IsW wB
    omega

set_option maxHeartbeats 1600000 in
theorem roomy_any {w : World} {v : Value} {xs : List Int} (h : Sl w.heap.size w v xs) (hlen : xs.length ≤ 35184372000000) :
    Calls Tryz.prog 9 #[v] w fun e w' => e = .returned (.slice (some ⟨w.heap.size, 0, none⟩) (xs.length + 80) (xs.length + 80)) ∧ Row w' w.heap.size (ws (roomy xs)) ∧ Below w.heap.size w w' := by
  obtain ⟨hw, a, cap, rfl, hlc, hcm, hm⟩ := h
  have HM := hid hm
  have HL := hid (roomy_len xs)
  have H1 : Hid (∀ k (h : k < (roomy xs).length) (h' : k < xs.length), (roomy xs)[k] = xs[k]) := fun k h h' => roomy_low h h'
  have H2 : Hid (∀ k (h : k < (roomy xs).length), xs.length ≤ k → (roomy xs)[k] = 6510516211317473280 + (k : Int)) := fun k h h' => roomy_high h h'
  generalize roomy xs = T at *
  clear hm hw
  go_enter Tryz.func9, Tryz.ntmps9
  go_wp2_with (at_make; refine wpList_make_words _ rfl _ _ rfl _ _ (xs.length + 80) (xs.length + 80) rfl rfl (by omega) (by omega) (Nat.le_refl _) (by omega) ?_)
  intro w2 hrow hb2 hsz2
  have hrow2 : Row w2 w.heap.size (ws (filled T 0)) := by rw [← filled_zero T HL.out]; exact hrow
  clear hrow hsz2
  go_wp2_with fail
  go_loopw [4] (fun i wr => ∃ k : Nat, k ≤ xs.length + 80 ∧ i = .int .i64 k ∧ Row wr w.heap.size (ws (filled T k)) ∧ Below w.heap.size w wr) (fun i _ => xs.length + 80 - (intOf i).toNat)
  case atStart => exact ⟨0, Nat.zero_le _, rfl, hrow2, hb2⟩
  case round =>
    clear hrow2 hb2
    obtain ⟨k, hk, rfl, hr, hb⟩ := hrel
    by_cases hlt : k < xs.length + 80
    · have hkT : k < T.length := by have := HL.out; omega
      have hkF : k < (filled T k).length := by rw [filled_len T (Nat.le_of_lt hkT)]; exact hkT
      have c1 : wr.cell? ⟨w.heap.size, k, none⟩ = some (.int .u64 (filled T k)[k]) := Row.word (r := []) (by simpa using hr) hkF
      have cf : wr.frozen? ⟨w.heap.size, k, none⟩ = false := hr.frozen _
      have HR := Row.setWord (r := []) (by simpa using hr) hkF T[k]
      rw [filled_set T hkT] at HR
      have HB := hb.setCell (p := ⟨w.heap.size, k, none⟩) (Nat.le_refl _) (.int .u64 T[k])
      generalize (filled T k)[k] = z at *
      by_cases hx : k < xs.length
      · rcases HM.out with e | ⟨b, off, rfl, hbg, hcy⟩
        · subst e; simp at hx
        have c2 : wr.cell? ⟨b, off + k, none⟩ = some (.int .u64 T[k]) := by rw [H1.out k hkT hx]; exact (hb.cell (p := ⟨b, off + k, none⟩) hbg).trans (hcy k hx)
        generalize T[k] = t at *
        clear hcy hr hb
        go_wp2
        go_roundw
        case rel => exact ⟨k + 1, by omega, by go_num, (by simpa using HR), HB⟩
        case measure => simp [intOf]; omega
      · have ht := H2.out k hkT (by omega)
        rw [ht] at HR HB
        clear hr hb ht
        go_wp2
        go_roundw
        case rel => exact ⟨k + 1, by omega, by go_num, (by simpa using HR), HB⟩
        case measure => simp [intOf]; omega
    · obtain rfl : k = xs.length + 80 := by omega
      rw [filled_all T HL.out] at hr
      go_wp2
      go_ret
      exact ⟨rfl, hr, hb⟩

set_option maxHeartbeats 1600000 in
theorem kept_yes {B : Nat} {w : World} {v u : Value} {ls xs : List Int} (h : Sl B w v ls) (h' : Sl B w u xs) (he : ls = roomy xs) :
    Calls Tryz.prog 11 #[v, u] w fun e w' => e = .returned (.bool true) ∧ ∃ n, w' = w.drewN n := by
  subst he
  obtain ⟨hw, a, cap, rfl, hlc, hcm, hm⟩ := h
  obtain ⟨hw', a', cap', rfl, hlc', hcm', hm'⟩ := h'
  have H1 : Hid (∀ k (h : k < (roomy xs).length) (h' : k < xs.length), (roomy xs)[k] = xs[k]) := fun k h h' => roomy_low h h'
  have H2 : Hid (∀ k (h : k < (roomy xs).length), xs.length ≤ k → (roomy xs)[k] = 6510516211317473280 + (k : Int)) := fun k h h' => roomy_high h h'
  have HM := hid hm
  have HM' := hid hm'
  have hl := roomy_len xs
  generalize roomy xs = T at *
  have HL := hid hl
  rw [hl] at hlc ⊢
  clear hm hm' hw hw' hl
  have hne : (((xs.length + 80 : Nat) : Int) != (xs.length : Int) + 80) = false := by simp
  have hne2 : ((xs.length : Int) + 80 != (xs.length : Int) + 80) = false := by simp
  go_enter Tryz.func11, Tryz.ntmps11
  go_wp2
  go_loopw [5] (fun i wr => ∃ k : Nat, k ≤ xs.length + 80 ∧ i = .int .i64 k ∧ ∃ q, wr = w.drewN q) (fun i _ => xs.length + 80 - (intOf i).toNat)
  case atStart => exact ⟨0, Nat.zero_le _, rfl, 0, rfl⟩
  case round =>
    obtain ⟨k, hk, rfl, hq⟩ := hrel
    have HQ := hid hq
    have hcw : ∀ a, wr.cell? a = w.cell? a := by obtain ⟨q, rfl⟩ := hq; intro a; rfl
    clear hq
    by_cases hlt : k < xs.length + 80
    · have hkT : k < T.length := by have := HL.out; omega
      rcases HM.out with e | ⟨b, off, rfl, hbg, hcy⟩
      · subst e; simp at hkT
      have c1 : wr.cell? ⟨b, off + k, none⟩ = some (.int .u64 T[k]) := by rw [hcw]; exact hcy k hkT
      by_cases hx : k < xs.length
      · rcases HM'.out with e | ⟨b', off', rfl, hbg', hcy'⟩
        · subst e; simp at hx
        have c2 : wr.cell? ⟨b', off' + k, none⟩ = some (.int .u64 T[k]) := by rw [hcw, H1.out k hkT hx]; exact hcy' k hx
        generalize T[k] = t at *
        have ht : (t != t) = false := by simp
        clear hcy hcy' hcw
        go_wp2
        go_quiet (fail)
        go_wp2
        go_roundw
        case rel => exact ⟨k + 1, by omega, by go_num, (by obtain ⟨q, hq⟩ := HQ.out; exact ⟨q + nq, by rw [hq, World.drewN_drewN]⟩)⟩
        case measure => simp [intOf]; omega
      · rw [H2.out k hkT (by omega)] at c1
        have ht : ((6510516211317473280 + (k : Int)) != (6510516211317473280 + (k : Int))) = false := by simp
        clear hcy hcw
        go_wp2
        go_quiet (fail)
        go_wp2
        go_roundw
        case rel => exact ⟨k + 1, by omega, by go_num, (by obtain ⟨q, hq⟩ := HQ.out; exact ⟨q + nq, by rw [hq, World.drewN_drewN]⟩)⟩
        case measure => simp [intOf]; omega
    · go_wp2
      go_ret
      exact ⟨rfl, HQ.out⟩

/-- The mark of place j of the list with the number i. -/
def signW (i j : Nat) : Int := 4323455642275676160 + (i : Int) * 1048576 + (j : Int)
theorem signW_is {i j : Nat} (hi : i ≤ 2097152) (hj : j ≤ 35184372088832) : IsW (signW i j) := by unfold signW IsW wB; omega
theorem sign_any (i j : Nat) (hi : i ≤ 2097152) (hj : j ≤ 35184372088832) (w : World) :
    Calls Tryz.prog 41 #[.int .i64 (i : Int), .int .i64 (j : Int)] w fun e w' => e = .returned (.int .u64 (signW i j)) ∧ w' = w := by
  unfold signW
  go_enter Tryz.func41, Tryz.ntmps41
  go_wp2
  go_ret
  exact ⟨rfl, rfl⟩
end Go.Proofs.YtiiemeigbnnlpaaGreatDoor
