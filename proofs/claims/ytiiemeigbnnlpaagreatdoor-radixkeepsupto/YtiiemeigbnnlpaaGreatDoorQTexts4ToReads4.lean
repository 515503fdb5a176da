/-
  QTexts4ToReads4: Texts4, UpTo4, Reads4, joined.
-/
import Derived.Test.YtiiemeigbnnlpaaGreatDoorQRDec4
import Derived.Test.YtiiemeigbnnlpaaGreatDoorQSign4ToTxtBack
import Derived.Test.YtiiemeigbnnlpaaGreatDoorQRGroupR4
import Derived.Test.YtiiemeigbnnlpaaGreatDoorQReadToRGroup4

/- Texts4 -/
namespace Go.Proofs.YtiiemeigbnnlpaaGreatDoor
open Go.RowKit
set_option linter.unusedVariables false

set_option maxRecDepth 100000 in
set_option maxHeartbeats 1600000 in
theorem texts_any {w : World} {va : Value} {xs : List Int} (ha : Sl w.heap.size w va xs) (lx : xs.length ≤ 1048576) (hT : Sg w) (kind : Int) (s : ByteArray) {b : Int} (h0 : -9223372036854775808 ≤ b) (h1 : b ≤ 9223372036854775807) :
    Calls Tryz.prog 10 #[.agg #[.int .i64 kind, va, .string s, .int .i64 b]] w fun e w' => e = .returned (.bool true) ∧ Below w.heap.size w w' := by
  have HA := hid ha
  have HT := hid hT
  have HL := hid lx
  obtain ⟨a, c, rfl⟩ : ∃ a c, va = .slice a xs.length c := by obtain ⟨_, a, c, e, _⟩ := ha; exact ⟨a, c, e⟩
  have HGT : Hid (∀ c ∈ txtL 10 (vn xs), c.toNat < 128) := fun c hc => (good_ten (txt_back (B := 10) (n := vn xs) (by omega) (by omega)).1.2 hc).1
  clear ha hT lx
  obtain ⟨n, hn⟩ : ∃ n, xs.length = n := ⟨_, rfl⟩
  rw [hn] at HA ⊢
  clear hn
  obtain ⟨W0, hW⟩ : ∃ W0, w.alloc (.cells #[.int .i64 kind, .slice a n c, .string s, .int .i64 b] 24) = W0 := ⟨_, rfl⟩
  obtain ⟨b0, sz0⟩ := alo4 w (.cells #[.int .i64 kind, .slice a n c, .string s, .int .i64 b] 24)
  rw [hW] at b0 sz0
  have hcel : W0.heap[w.heap.size]? = some (.cells #[.int .i64 kind, .slice a n c, .string s, .int .i64 b] 24 (0, 0)) := by rw [← hW]; exact heap_alloc_new w _
  have hblk : w.heap.size < W0.heap.size := by omega
  have HCE : Hid (∀ w', Below W0.heap.size W0 w' → w'.cell? ⟨w.heap.size, 1, none⟩ = some (.slice a n c) ∧ w'.cell? ⟨w.heap.size, 3, none⟩ = some (.int .i64 b)) := fun w' h => by
    have q := (h.block _ hblk).trans hcel
    exact ⟨by simp [World.cell?, q], by simp [World.cell?, q]⟩
  have G := hid b0
  have EW := hid hW
  clear b0 sz0 hW hcel hblk
  obtain ⟨c1, c3⟩ := HCE.out W0 (Below.refl _ _)
  rw [← EW.out] at c1 c3
  by_cases k1 : kind = 1
  · subst k1
    by_cases hb : 2 ≤ b ∧ b ≤ 36
    · obtain ⟨B, rfl⟩ : ∃ B : Nat, b = (B : Int) := ⟨b.toNat, by omega⟩
      have hB : 2 ≤ B := by omega
      have hB2 : B ≤ 36 := by omega
      clear hb h0 h1
      go_enter Tryz.func10, Tryz.ntmps10
      go_wp2_with fail
      rw [EW.out]
      refine (rtext_any (HA.out.now G.out) HL.out hB hB2).mono ?_
      rintro e w1 ⟨rfl, q1⟩
      replace G := hid (below_step G.out q1)
      obtain ⟨c1', c3'⟩ := HCE.out w1 q1
      clear q1 c1 c3 EW HCE
      generalize HTX : txt B (vn xs) = tx at *
      have HTX' := hid HTX
      clear HTX
      go_wp2_with fail
      refine (text_any (HA.out.now G.out) HL.out hB hB2 (HT.out.now G.out)).mono ?_
      rintro e w2 ⟨rfl, q2⟩
      rw [HTX'.out]
      replace G := hid (below_step G.out q2)
      clear q2 HTX'
      go_wp2
      go_ret
      exact ⟨rfl, G.out⟩
    · go_enter Tryz.func10, Tryz.ntmps10
      have HB := hid hb
      clear hb
      go_wp2_with fail
      rw [EW.out]
      refine (rtext_bad h0 h1 HB.out _).mono ?_
      rintro e w1 ⟨rfl, q1⟩
      rw [q1]
      obtain ⟨c1', c3'⟩ := HCE.out W0 (Below.refl _ _)
      clear c1 c3 EW HCE q1
      go_wp2_with fail
      refine (text_bad h0 h1 HB.out _).mono ?_
      rintro e w2 ⟨rfl, q2⟩
      rw [q2]
      clear q2
      go_wp2
      go_ret
      exact ⟨rfl, G.out⟩
  · have e1 : (kind == 1) = false := by simp [k1]
    by_cases k2 : kind = 2
    · subst k2
      clear k1
      go_enter Tryz.func10, Tryz.ntmps10
      go_wp2_with fail
      rw [EW.out]
      refine (rdec_any (HA.out.now G.out) HL.out).mono ?_
      rintro e w1 ⟨rfl, q1⟩
      replace G := hid (below_step G.out q1)
      obtain ⟨c1', c3'⟩ := HCE.out w1 q1
      clear q1 c1 c3 EW HCE
      generalize HTX : txt 10 (vn xs) = tx at *
      have HTX' := hid HTX
      clear HTX
      go_wp2_with fail
      refine (dec_any (HA.out.now G.out) HL.out (HT.out.now G.out)).mono ?_
      rintro e w2 ⟨rfl, q2⟩
      rw [HTX'.out]
      replace G := hid (below_step G.out q2)
      clear q2 HTX'
      go_wp2
      go_ret
      exact ⟨rfl, G.out⟩
    · have e2 : (kind == 2) = false := by simp [k2]
      by_cases k3 : kind = 3
      · subst k3
        clear k1 k2
        go_enter Tryz.func10, Tryz.ntmps10
        go_wp2_with fail
        rw [EW.out]
        refine (rdigits_any (HA.out.now G.out) HL.out).mono ?_
        rintro e w1 ⟨rfl, q1⟩
        replace G := hid (below_step G.out q1)
        obtain ⟨c1', c3'⟩ := HCE.out w1 q1
        clear q1 c1 c3 EW HCE
        generalize HTX : (txtL 10 (vn xs)).length = tx at *
        have HTX' := hid HTX
        clear HTX
        go_wp2_with fail
        refine (digits_any (HA.out.now G.out) HL.out (HT.out.now G.out)).mono ?_
        rintro e w2 ⟨rfl, q2⟩
        rw [HTX'.out]
        replace G := hid (below_step G.out q2)
        clear q2 HTX'
        go_wp2
        go_ret
        exact ⟨rfl, G.out⟩
      · have e3 : (kind == 3) = false := by simp [k3]
        clear k1 k2 k3
        go_enter Tryz.func10, Tryz.ntmps10
        go_wp2_with fail
        rw [EW.out]
        refine (rgrouped_any (HA.out.now G.out) HL.out).mono ?_
        rintro e w1 ⟨rfl, q1⟩
        replace G := hid (below_step G.out q1)
        obtain ⟨c1', c3'⟩ := HCE.out w1 q1
        have HGR := hid (grouped_any (HA.out.now G.out) HL.out (HT.out.now G.out) HGT.out)
        clear q1 c1 c3 EW HCE HGT
        generalize (grpF true (txtL 10 (vn xs))).toArray = tx at *
        go_wp2_with fail
        refine HGR.out.mono ?_
        rintro e w2 ⟨rfl, q2⟩
        replace G := hid (below_step G.out q2)
        clear q2 HGR
        go_wp2
        go_ret
        exact ⟨rfl, G.out⟩
end Go.Proofs.YtiiemeigbnnlpaaGreatDoor

/- UpTo4 -/
namespace Go.Proofs.YtiiemeigbnnlpaaGreatDoor
open Go.RowKit
set_option linter.unusedVariables false

/-- A script: its steps by their places. -/
structure Steps4 where
  kind : Nat → Int
  av : Nat → Value
  xs : Nat → List Int
  s : Nat → ByteArray
  n : Nat → Int
def Script4 (w : World) (a : Option Addr) (len cap : Nat) (s : Steps4) : Prop :=
  len ≤ cap ∧ cap ≤ 35184372088832 ∧
  (∀ k, k < len → Sl w.heap.size w (s.av k) (s.xs k) ∧ (s.xs k).length ≤ 1048576 ∧ (s.s k).size ≤ 1048576 ∧ -9223372036854775808 ≤ s.n k ∧ s.n k ≤ 9223372036854775807) ∧
  (len = 0 ∨ ∃ b off, a = some ⟨b, off, none⟩ ∧ b < w.heap.size ∧ ∀ k, k < len → w.cell? ⟨b, off + k * 4, none⟩ = some (.int .i64 (s.kind k)) ∧ w.cell? ⟨b, off + k * 4 + 1, none⟩ = some (s.av k) ∧ w.cell? ⟨b, off + k * 4 + 2, none⟩ = some (.string (s.s k)) ∧ w.cell? ⟨b, off + k * 4 + 3, none⟩ = some (.int .i64 (s.n k)))
def UTH (w : World) (len gk : Nat) (s7 : Value) (wx : World) : Prop := ∃ k : Nat, gk = len - k ∧ s7 = .int .i64 (k : Int) ∧ k ≤ len ∧ Below w.heap.size w wx
end Go.Proofs.YtiiemeigbnnlpaaGreatDoor

/- Reads4 -/
namespace Go.Proofs.YtiiemeigbnnlpaaGreatDoor
open Go.RowKit
set_option linter.unusedVariables false

/-- An answer: a number in least form, or the error of a text. -/
def AnsS (w : World) (v : Nat) (e : Ending) (w' : World) : Prop := ∃ zs a c, e = .returned (.tuple #[.slice a zs.length c, .int .i64 0]) ∧ Sl w'.heap.size w' (.slice a zs.length c) zs ∧ Canon zs ∧ vn zs = v ∧ Below w.heap.size w w'
def AnsN (w : World) (e : Ending) (w' : World) : Prop := e = .returned (.tuple #[.slice none 0 0, .int .i64 7]) ∧ Below w.heap.size w w'
theorem rrPost_s {w : World} {B : Nat} {l : List UInt8} (h : l ≠ [] ∧ Good B l) {e : Ending} {w' : World} (p : RRPost w B l e w') : AnsS w (ofD B (dsL l)) e w' := by
  rcases p with ⟨_, q⟩ | ⟨g, _⟩
  · exact q
  · exact absurd h g
theorem rrPost_n {w : World} {B : Nat} {l : List UInt8} (h : ¬ (l ≠ [] ∧ Good B l)) {e : Ending} {w' : World} (p : RRPost w B l e w') : AnsN w e w' := by
  rcases p with ⟨g, _⟩ | ⟨_, q⟩
  · exact absurd g h
  · exact q
theorem rdPost_s {w : World} {B : Nat} {l : List UInt8} (h : l ≠ [] ∧ Good B l) {e : Ending} {w' : World} (p : ReadPost w B l e w') : AnsS w (ofD B (dsL l)) e w' := by
  rcases p with ⟨_, zs, a, c, h1, h2, h3⟩ | ⟨g, _⟩
  · exact ⟨zs, a, c, h1, h2.sl, h3⟩
  · exact absurd h g
theorem rdPost_n {w : World} {B : Nat} {l : List UInt8} (h : ¬ (l ≠ [] ∧ Good B l)) {e : Ending} {w' : World} (p : ReadPost w B l e w') : AnsN w e w' := by
  rcases p with ⟨g, _⟩ | ⟨_, q⟩
  · exact absurd g h
  · exact q
/-- Grouped: what both say. -/
theorem grp_s {w : World} {L : List UInt8} (h : RefOk L) (h0 : L ≠ []) : (∀ e w', RGRPost w L e w' → AnsS w (ofD 10 (dsL (L.filter dig))) e w') ∧ (∀ e w', RGPost w ⟨L.toArray⟩ e w' → AnsS w (ofD 10 (dsL (L.filter dig))) e w') := by
  obtain ⟨hu, hg⟩ := ref_yes h h0
  refine ⟨fun e w' p => ?_, fun e w' p => ?_⟩
  · rcases p with ⟨_, q⟩ | ⟨g, _⟩
    · exact rrPost_s hg q
    · exact absurd h g
  · rcases p with ⟨l, hl, q⟩ | ⟨hn, _⟩
    · rw [hu] at hl
      obtain rfl := Option.some.inj hl
      exact rdPost_s hg q
    · rw [hu] at hn; cases hn
theorem grp_n {w : World} {L : List UInt8} (h : ¬ (RefOk L ∧ L ≠ [])) : (∀ e w', RGRPost w L e w' → AnsN w e w') ∧ (∀ e w', RGPost w ⟨L.toArray⟩ e w' → AnsN w e w') := by
  by_cases h0 : L = []
  · subst h0
    refine ⟨fun e w' p => ?_, fun e w' p => ?_⟩
    · rcases p with ⟨_, q⟩ | ⟨_, q⟩
      · exact rrPost_n (fun q => q.1 rfl) q
      · exact q
    · rcases p with ⟨l, hl, q⟩ | ⟨_, q⟩
      · cases hl
      · exact q
  · have hr : ¬ RefOk L := fun q => h ⟨q, h0⟩
    refine ⟨fun e w' p => ?_, fun e w' p => ?_⟩
    · rcases p with ⟨g, _⟩ | ⟨_, q⟩
      · exact absurd g hr
      · exact q
    · rcases p with ⟨l, hl, q⟩ | ⟨_, q⟩
      · exact rdPost_n (ref_no hr l hl) q
      · exact q
theorem ans_same {zs ys : List Int} (h : Canon zs) (h' : Canon ys) (e : vn zs = vn ys) : same zs ys = true := by
  have : zs = ys := canon_inj h h' ((vn_eq h.1 h'.1).1 e)
  rw [this]
  exact same_self ys
theorem drewN_below {B : Nat} {w w' : World} (h : Below B w w') (n : Nat) : Below B w (w'.drewN n) := ⟨h.os, h.tape, h.output, h.size, h.block⟩
theorem sl_nil4 (w : World) : Sl w.heap.size w (.slice none 0 0) [] := ⟨WF.nil, none, 0, rfl, Nat.le_refl _, by simp, .inl rfl⟩
end Go.Proofs.YtiiemeigbnnlpaaGreatDoor
