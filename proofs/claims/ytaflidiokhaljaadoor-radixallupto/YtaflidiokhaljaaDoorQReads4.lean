/-
  Reads4: the law's reads: every Read, ReadDec, ReadGrouped is the document's.
-/
import Derived.Test.YtaflidiokhaljaaDoorQRGroupR4
import Derived.Test.YtaflidiokhaljaaDoorQOpenS4ToRGroup4
import Derived.Test.YtaflidiokhaljaaDoorQSign4ToUpTo4
namespace Go.Proofs.YtaflidiokhaljaaDoor
open Go.RowKit
set_option linter.unusedVariables false

/-- An answer: a number in least form, or the error of a text. -/
def AnsS (w : World) (v : Nat) (e : Ending) (w' : World) : Prop := ∃ zs a c, e = .returned (.tuple #[.slice a zs.length c, .int .i64 0]) ∧ Sl w'.heap.size w' (.slice a zs.length c) zs ∧ Canon zs ∧ vn zs = v ∧ Below w.heap.size w w'
def AnsN (w : World) (e : Ending) (w' : World) : Prop := e = .returned (.tuple #[.slice none 0 0, .int .i64 7]) ∧ Below w.heap.size w w'
theorem rrPost_s {w : World} {B : Nat} {l : List UInt8} (h : l ≠ [] ∧ Good B l) {e : Ending} {w' : World} (p : RRPost w B l e w') : AnsS w (ofD B (dsL l)) e w' := by
  rcases p with ⟨_, q⟩ | ⟨g, _⟩
  · exact q
  · exact absurd h g
theorem rrPost_n {w : World} {B : Nat} {l : List UInt8} (h : ¬ (l ≠ [] ∧ Good B l)) {e : Ending} {w' : World} (p : RRPost w B l e w') : AnsN w e w' := by
  rcases p with ⟨g, _⟩ | ⟨_, q⟩
  · exact absurd g h
  · exact q
theorem rdPost_s {w : World} {B : Nat} {l : List UInt8} (h : l ≠ [] ∧ Good B l) {e : Ending} {w' : World} (p : ReadPost w B l e w') : AnsS w (ofD B (dsL l)) e w' := by
  rcases p with ⟨_, zs, a, c, h1, h2, h3⟩ | ⟨g, _⟩
  · exact ⟨zs, a, c, h1, h2.sl, h3⟩
  · exact absurd h g
theorem rdPost_n {w : World} {B : Nat} {l : List UInt8} (h : ¬ (l ≠ [] ∧ Good B l)) {e : Ending} {w' : World} (p : ReadPost w B l e w') : AnsN w e w' := by
  rcases p with ⟨g, _⟩ | ⟨_, q⟩
  · exact absurd g h
  · exact q
/-- Grouped: what both say. -/
theorem grp_s {w : World} {L : List UInt8} (h : RefOk L) (h0 : L ≠ []) : (∀ e w', RGRPost w L e w' → AnsS w (ofD 10 (dsL (L.filter dig))) e w') ∧ (∀ e w', RGPost w ⟨L.toArray⟩ e w' → AnsS w (ofD 10 (dsL (L.filter dig))) e w') := by
  obtain ⟨hu, hg⟩ := ref_yes h h0
  refine ⟨fun e w' p => ?_, fun e w' p => ?_⟩
  · rcases p with ⟨_, q⟩ | ⟨g, _⟩
    · exact rrPost_s hg q
    · exact absurd h g
  · rcases p with ⟨l, hl, q⟩ | ⟨hn, _⟩
    · rw [hu] at hl
      obtain rfl := Option.some.inj hl
      exact rdPost_s hg q
    · rw [hu] at hn; cases hn
theorem grp_n {w : World} {L : List UInt8} (h : ¬ (RefOk L ∧ L ≠ [])) : (∀ e w', RGRPost w L e w' → AnsN w e w') ∧ (∀ e w', RGPost w ⟨L.toArray⟩ e w' → AnsN w e w') := by
  by_cases h0 : L = []
  · subst h0
    refine ⟨fun e w' p => ?_, fun e w' p => ?_⟩
    · rcases p with ⟨_, q⟩ | ⟨_, q⟩
      · exact rrPost_n (fun q => q.1 rfl) q
      · exact q
    · rcases p with ⟨l, hl, q⟩ | ⟨_, q⟩
      · cases hl
      · exact q
  · have hr : ¬ RefOk L := fun q => h ⟨q, h0⟩
    refine ⟨fun e w' p => ?_, fun e w' p => ?_⟩
    · rcases p with ⟨g, _⟩ | ⟨_, q⟩
      · exact absurd g hr
      · exact q
    · rcases p with ⟨l, hl, q⟩ | ⟨_, q⟩
      · exact rdPost_n (ref_no hr l hl) q
      · exact q
theorem ans_same {zs ys : List Int} (h : Canon zs) (h' : Canon ys) (e : vn zs = vn ys) : same zs ys = true := by
  have : zs = ys := canon_inj h h' ((vn_eq h.1 h'.1).1 e)
  rw [this]
  exact same_self ys
theorem drewN_below {B : Nat} {w w' : World} (h : Below B w w') (n : Nat) : Below B w (w'.drewN n) := ⟨h.os, h.tape, h.output, h.size, h.block⟩
theorem sl_nil4 (w : World) : Sl w.heap.size w (.slice none 0 0) [] := ⟨WF.nil, none, 0, rfl, Nat.le_refl _, by simp, .inl rfl⟩
set_option maxRecDepth 100000 in
set_option maxHeartbeats 6400000 in
theorem reads_any4 {w : World} (hT : Sg w) (kind : Int) (a : Option Addr) (l c : Nat) (s : ByteArray) (hs : s.size ≤ 1048576) {b : Int} (h0 : -9223372036854775808 ≤ b) (h1 : b ≤ 9223372036854775807) :
    Calls Tryd.prog 9 #[.agg #[.int .i64 kind, .slice a l c, .string s, .int .i64 b]] w fun e w' => e = .returned (.bool true) ∧ Below w.heap.size w w' := by
  have HT := hid hT
  clear hT
  obtain ⟨L, hL⟩ : ∃ L : List UInt8, s = ⟨L.toArray⟩ := ⟨s.data.toList, by simp⟩
  have hLl : L.length ≤ 1048576 := by rw [hL, mk_size] at hs; exact hs
  have HL := hid hL
  have HLL := hid hLl
  obtain ⟨W0, hW⟩ : ∃ W0, w.alloc (.cells #[.int .i64 kind, .slice a l c, .string s, .int .i64 b] 28) = W0 := ⟨_, rfl⟩
  obtain ⟨b0, sz0⟩ := alo4 w (.cells #[.int .i64 kind, .slice a l c, .string s, .int .i64 b] 28)
  rw [hW] at b0 sz0
  have hcel : W0.heap[w.heap.size]? = some (.cells #[.int .i64 kind, .slice a l c, .string s, .int .i64 b] 28 (0, 0)) := by rw [← hW]; exact heap_alloc_new w _
  have hblk : w.heap.size < W0.heap.size := by omega
  have HCE : Hid (∀ w', Below W0.heap.size W0 w' → w'.cell? ⟨w.heap.size, 2, none⟩ = some (.string s) ∧ w'.cell? ⟨w.heap.size, 3, none⟩ = some (.int .i64 b)) := fun w' h => by
    have q := (h.block _ hblk).trans hcel
    exact ⟨by simp [World.cell?, q], by simp [World.cell?, q]⟩
  have G := hid b0
  have EW := hid hW
  clear b0 sz0 hW hcel hblk hs hL hLl
  obtain ⟨c2, c3⟩ := HCE.out W0 (Below.refl _ _)
  rw [← EW.out] at c2 c3
  by_cases k5 : kind = 5
  · subst k5
    by_cases hb : 2 ≤ b ∧ b ≤ 36
    · obtain ⟨B, rfl⟩ : ∃ B : Nat, b = (B : Int) := ⟨b.toNat, by omega⟩
      have hB : 2 ≤ B := by omega
      have hB2 : B ≤ 36 := by omega
      clear hb h0 h1
      by_cases hg : L ≠ [] ∧ Good B L
      · have HA : Hid (∀ w', Below w.heap.size w w' → Calls Tryd.prog 18 #[.string s, .int .i64 (B : Int)] w' (AnsS w' (ofD B (dsL L)))) := fun w' b => by
          rw [HL.out]
          exact (rread_any hB hB2 (by have := HLL.out; omega)).mono fun e w'' p => rrPost_s hg p
        have HB : Hid (∀ w', Below w.heap.size w w' → Calls Tryd.prog 19 #[.string s, .int .i64 (B : Int)] w' (AnsS w' (ofD B (dsL L)))) := fun w' b => by
          rw [HL.out]
          exact (read_any hB hB2 (HT.out.now b) (by have := HLL.out; omega)).mono fun e w'' p => rdPost_s hg p
        clear hg HL HLL HT
        go_enter Tryd.func9, Tryd.ntmps9
        go_wp2_with fail
        rw [EW.out]
        refine (HA.out W0 G.out).mono ?_
        rintro e w1 ⟨ys, ay, cy, rfl, sy, cny, vy, q1⟩
        replace G := hid (below_step G.out q1)
        obtain ⟨c2', c3'⟩ := HCE.out w1 q1
        have SY := hid sy
        have CY := hid cny
        have VY := hid vy
        clear sy cny vy q1 c2 c3 EW HCE HA
        obtain ⟨ny, hny⟩ : ∃ ny, ys.length = ny := ⟨_, rfl⟩
        rw [hny] at SY ⊢
        clear hny
        go_wp2_with fail
        refine (HB.out w1 G.out).mono ?_
        rintro e w2 ⟨zs, az, cz, rfl, sz, cnz, vz, q2⟩
        replace G := hid (below_step G.out q2)
        have HSM := hid (same_any sz (SY.out.now q2))
        rw [ans_same cnz CY.out (vz.trans VY.out.symm)] at HSM
        clear sz cnz vz q2 HB SY CY VY
        generalize zs.length = nz at *
        go_wp2_with fail
        refine HSM.out.mono ?_
        rintro e w3 ⟨rfl, nd, q3⟩
        have G3 : Hid (Below w.heap.size w w3) := by unfold Hid; rw [q3]; exact drewN_below G.out nd
        clear q3 HSM G
        go_wp2
        go_ret
        exact ⟨rfl, G3.out⟩
      · have HA : Hid (∀ w', Below w.heap.size w w' → Calls Tryd.prog 18 #[.string s, .int .i64 (B : Int)] w' (AnsN w')) := fun w' b => by
          rw [HL.out]
          exact (rread_any hB hB2 (by have := HLL.out; omega)).mono fun e w'' p => rrPost_n hg p
        have HB : Hid (∀ w', Below w.heap.size w w' → Calls Tryd.prog 19 #[.string s, .int .i64 (B : Int)] w' (AnsN w')) := fun w' b => by
          rw [HL.out]
          exact (read_any hB hB2 (HT.out.now b) (by have := HLL.out; omega)).mono fun e w'' p => rdPost_n hg p
        clear hg HL HLL HT
        go_enter Tryd.func9, Tryd.ntmps9
        go_wp2_with fail
        rw [EW.out]
        refine (HA.out W0 G.out).mono ?_
        rintro e w1 ⟨rfl, q1⟩
        replace G := hid (below_step G.out q1)
        obtain ⟨c2', c3'⟩ := HCE.out w1 q1
        clear q1 c2 c3 EW HCE HA
        go_wp2_with fail
        refine (HB.out w1 G.out).mono ?_
        rintro e w2 ⟨rfl, q2⟩
        replace G := hid (below_step G.out q2)
        have HSM := hid (same_any (sl_nil4 w2) (sl_nil4 w2))
        rw [same_self] at HSM
        clear q2 HB
        go_wp2_with fail
        refine HSM.out.mono ?_
        rintro e w3 ⟨rfl, nd, q3⟩
        have G3 : Hid (Below w.heap.size w w3) := by unfold Hid; rw [q3]; exact drewN_below G.out nd
        clear q3 HSM G
        go_wp2
        go_ret
        exact ⟨rfl, G3.out⟩
    · have HBD := hid hb
      clear hb
      have HA : Hid (∀ w', Below w.heap.size w w' → Calls Tryd.prog 18 #[.string s, .int .i64 b] w' (fun e w'' => e = .returned (.tuple #[.slice none 0 0, .int .i64 3]) ∧ Below w'.heap.size w' w'')) := fun w' b => (rread_bad h0 h1 HBD.out s).mono fun e w'' ⟨p, q⟩ => ⟨p, by rw [q]; exact Below.refl _ _⟩
      have HB : Hid (∀ w', Below w.heap.size w w' → Calls Tryd.prog 19 #[.string s, .int .i64 b] w' (fun e w'' => e = .returned (.tuple #[.slice none 0 0, .int .i64 3]) ∧ Below w'.heap.size w' w'')) := fun w' b => (read_bad h0 h1 HBD.out s).mono fun e w'' ⟨p, q⟩ => ⟨p, by rw [q]; exact Below.refl _ _⟩
      clear HL HLL HT
      go_enter Tryd.func9, Tryd.ntmps9
      go_wp2_with fail
      rw [EW.out]
      refine (HA.out W0 G.out).mono ?_
      rintro e w1 ⟨rfl, q1⟩
      replace G := hid (below_step G.out q1)
      obtain ⟨c2', c3'⟩ := HCE.out w1 q1
      clear q1 c2 c3 EW HCE HA
      go_wp2_with fail
      refine (HB.out w1 G.out).mono ?_
      rintro e w2 ⟨rfl, q2⟩
      replace G := hid (below_step G.out q2)
      have HSM := hid (same_any (sl_nil4 w2) (sl_nil4 w2))
      rw [same_self] at HSM
      clear q2 HB
      go_wp2_with fail
      refine HSM.out.mono ?_
      rintro e w3 ⟨rfl, nd, q3⟩
      have G3 : Hid (Below w.heap.size w w3) := by unfold Hid; rw [q3]; exact drewN_below G.out nd
      clear q3 HSM G
      go_wp2
      go_ret
      exact ⟨rfl, G3.out⟩
  · have e5 : (kind == 5) = false := by simp [k5]
    by_cases k6 : kind = 6
    · subst k6
      clear k5
      by_cases hg : L ≠ [] ∧ Good 10 L
      · have HA : Hid (∀ w', Below w.heap.size w w' → Calls Tryd.prog 21 #[.string s] w' (AnsS w' (ofD 10 (dsL L)))) := fun w' b => by
          rw [HL.out]
          exact (rreadDec_any (by have := HLL.out; omega)).mono fun e w'' p => rrPost_s hg p
        have HB : Hid (∀ w', Below w.heap.size w w' → Calls Tryd.prog 22 #[.string s] w' (AnsS w' (ofD 10 (dsL L)))) := fun w' b => by
          rw [HL.out]
          exact (readDec_any (HT.out.now b) (by have := HLL.out; omega)).mono fun e w'' p => rdPost_s hg p
        clear hg HL HLL HT
        go_enter Tryd.func9, Tryd.ntmps9
        go_wp2_with fail
        rw [EW.out]
        refine (HA.out W0 G.out).mono ?_
        rintro e w1 ⟨ys, ay, cy, rfl, sy, cny, vy, q1⟩
        replace G := hid (below_step G.out q1)
        obtain ⟨c2', c3'⟩ := HCE.out w1 q1
        have SY := hid sy
        have CY := hid cny
        have VY := hid vy
        clear sy cny vy q1 c2 c3 EW HCE HA
        obtain ⟨ny, hny⟩ : ∃ ny, ys.length = ny := ⟨_, rfl⟩
        rw [hny] at SY ⊢
        clear hny
        go_wp2_with fail
        refine (HB.out w1 G.out).mono ?_
        rintro e w2 ⟨zs, az, cz, rfl, sz, cnz, vz, q2⟩
        replace G := hid (below_step G.out q2)
        have HSM := hid (same_any sz (SY.out.now q2))
        rw [ans_same cnz CY.out (vz.trans VY.out.symm)] at HSM
        clear sz cnz vz q2 HB SY CY VY
        generalize zs.length = nz at *
        go_wp2_with fail
        refine HSM.out.mono ?_
        rintro e w3 ⟨rfl, nd, q3⟩
        have G3 : Hid (Below w.heap.size w w3) := by unfold Hid; rw [q3]; exact drewN_below G.out nd
        clear q3 HSM G
        go_wp2
        go_ret
        exact ⟨rfl, G3.out⟩
      · have HA : Hid (∀ w', Below w.heap.size w w' → Calls Tryd.prog 21 #[.string s] w' (AnsN w')) := fun w' b => by
          rw [HL.out]
          exact (rreadDec_any (by have := HLL.out; omega)).mono fun e w'' p => rrPost_n hg p
        have HB : Hid (∀ w', Below w.heap.size w w' → Calls Tryd.prog 22 #[.string s] w' (AnsN w')) := fun w' b => by
          rw [HL.out]
          exact (readDec_any (HT.out.now b) (by have := HLL.out; omega)).mono fun e w'' p => rdPost_n hg p
        clear hg HL HLL HT
        go_enter Tryd.func9, Tryd.ntmps9
        go_wp2_with fail
        rw [EW.out]
        refine (HA.out W0 G.out).mono ?_
        rintro e w1 ⟨rfl, q1⟩
        replace G := hid (below_step G.out q1)
        obtain ⟨c2', c3'⟩ := HCE.out w1 q1
        clear q1 c2 c3 EW HCE HA
        go_wp2_with fail
        refine (HB.out w1 G.out).mono ?_
        rintro e w2 ⟨rfl, q2⟩
        replace G := hid (below_step G.out q2)
        have HSM := hid (same_any (sl_nil4 w2) (sl_nil4 w2))
        rw [same_self] at HSM
        clear q2 HB
        go_wp2_with fail
        refine HSM.out.mono ?_
        rintro e w3 ⟨rfl, nd, q3⟩
        have G3 : Hid (Below w.heap.size w w3) := by unfold Hid; rw [q3]; exact drewN_below G.out nd
        clear q3 HSM G
        go_wp2
        go_ret
        exact ⟨rfl, G3.out⟩
    · have e6 : (kind == 6) = false := by simp [k6]
      clear k5 k6
      by_cases hg : RefOk L ∧ L ≠ []
      · have HA : Hid (∀ w', Below w.heap.size w w' → Calls Tryd.prog 23 #[.string s] w' (AnsS w' (ofD 10 (dsL (L.filter dig))))) := fun w' b => by
          rw [HL.out]
          exact (rreadGrouped_any HLL.out).mono fun e w'' p => (grp_s hg.1 hg.2).1 e w'' p
        have HB : Hid (∀ w', Below w.heap.size w w' → Calls Tryd.prog 24 #[.string s] w' (AnsS w' (ofD 10 (dsL (L.filter dig))))) := fun w' b => by
          rw [HL.out]
          exact (readGrouped_any (by rw [mk_size]; have := HLL.out; omega) (HT.out.now b)).mono fun e w'' p => (grp_s hg.1 hg.2).2 e w'' p
        clear hg HL HLL HT
        go_enter Tryd.func9, Tryd.ntmps9
        go_wp2_with fail
        rw [EW.out]
        refine (HA.out W0 G.out).mono ?_
        rintro e w1 ⟨ys, ay, cy, rfl, sy, cny, vy, q1⟩
        replace G := hid (below_step G.out q1)
        obtain ⟨c2', c3'⟩ := HCE.out w1 q1
        have SY := hid sy
        have CY := hid cny
        have VY := hid vy
        clear sy cny vy q1 c2 c3 EW HCE HA
        obtain ⟨ny, hny⟩ : ∃ ny, ys.length = ny := ⟨_, rfl⟩
        rw [hny] at SY ⊢
        clear hny
        go_wp2_with fail
        refine (HB.out w1 G.out).mono ?_
        rintro e w2 ⟨zs, az, cz, rfl, sz, cnz, vz, q2⟩
        replace G := hid (below_step G.out q2)
        have HSM := hid (same_any sz (SY.out.now q2))
        rw [ans_same cnz CY.out (vz.trans VY.out.symm)] at HSM
        clear sz cnz vz q2 HB SY CY VY
        generalize zs.length = nz at *
        go_wp2_with fail
        refine HSM.out.mono ?_
        rintro e w3 ⟨rfl, nd, q3⟩
        have G3 : Hid (Below w.heap.size w w3) := by unfold Hid; rw [q3]; exact drewN_below G.out nd
        clear q3 HSM G
        go_wp2
        go_ret
        exact ⟨rfl, G3.out⟩
      · have HA : Hid (∀ w', Below w.heap.size w w' → Calls Tryd.prog 23 #[.string s] w' (AnsN w')) := fun w' b => by
          rw [HL.out]
          exact (rreadGrouped_any HLL.out).mono fun e w'' p => (grp_n hg).1 e w'' p
        have HB : Hid (∀ w', Below w.heap.size w w' → Calls Tryd.prog 24 #[.string s] w' (AnsN w')) := fun w' b => by
          rw [HL.out]
          exact (readGrouped_any (by rw [mk_size]; have := HLL.out; omega) (HT.out.now b)).mono fun e w'' p => (grp_n hg).2 e w'' p
        clear hg HL HLL HT
        go_enter Tryd.func9, Tryd.ntmps9
        go_wp2_with fail
        rw [EW.out]
        refine (HA.out W0 G.out).mono ?_
        rintro e w1 ⟨rfl, q1⟩
        replace G := hid (below_step G.out q1)
        obtain ⟨c2', c3'⟩ := HCE.out w1 q1
        clear q1 c2 c3 EW HCE HA
        go_wp2_with fail
        refine (HB.out w1 G.out).mono ?_
        rintro e w2 ⟨rfl, q2⟩
        replace G := hid (below_step G.out q2)
        have HSM := hid (same_any (sl_nil4 w2) (sl_nil4 w2))
        rw [same_self] at HSM
        clear q2 HB
        go_wp2_with fail
        refine HSM.out.mono ?_
        rintro e w3 ⟨rfl, nd, q3⟩
        have G3 : Hid (Below w.heap.size w w3) := by unfold Hid; rw [q3]; exact drewN_below G.out nd
        clear q3 HSM G
        go_wp2
        go_ret
        exact ⟨rfl, G3.out⟩
theorem readsOk (w : World) : ReadsOk w := fun w' a l c kind s b _ hT hs h0 h1 => reads_any4 hT kind a l c s hs h0 h1
theorem radixReads_any {w : World} {a : Option Addr} {len cap : Nat} {s : Steps4} (h : Script4 w a len cap s) (hT : Sg w) :
    Calls Tryd.prog 4 #[.slice a len cap] w fun e w' => e = .returned (.bool true) ∧ Below w.heap.size w w' := by
  have HC := hid (upTo4_any h hT 5 7 (.inr (readsOk w)))
  clear h hT
  go_enter Tryd.func4, Tryd.ntmps4
  go_wp2_with fail
  refine HC.out.mono ?_
  rintro e w1 ⟨rfl, hb⟩
  go_wp2
  go_ret
  exact ⟨rfl, hb⟩
theorem radixAll_any {w : World} {a : Option Addr} {len cap : Nat} {s : Steps4} (h : Script4 w a len cap s) (hT : Sg w) :
    Calls Tryd.prog 5 #[.slice a len cap] w fun e w' => e = .returned (.bool true) ∧ Below w.heap.size w w' := by
  have HC := hid (upTo4_any h hT 1 7 (.inr (readsOk w)))
  clear h hT
  go_enter Tryd.func5, Tryd.ntmps5
  go_wp2_with fail
  refine HC.out.mono ?_
  rintro e w1 ⟨rfl, hb⟩
  go_wp2
  go_ret
  exact ⟨rfl, hb⟩
end Go.Proofs.YtaflidiokhaljaaDoor
