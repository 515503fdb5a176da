/-
  Ma25: the law's mark: four lists apart are marked, grown by eighty, and read.
-/
import Derived.Test.YtdfnehngffajiaaDoorGw25
import Derived.Test.YtdfnehngffajiaaDoorSt25
import Derived.Test.YtdfnehngffajiaaDoorRt25
import Derived.Deep.LoopGhost
namespace Go.Proofs.YtdfnehngffajiaaDoor
open Go.RowKit
set_option linter.unusedVariables false
set_option linter.unusedSimpArgs false

def MarkD (w : World) (U : Nat → Value) (e : Ending) (w' : World) : Prop := e = .returned (.bool true) ∧ Tou w w' U
theorem four {p : Nat → Prop} (h0 : p 0) (h1 : p 1) (h2 : p 2) (h3 : p 3) : ∀ x, x < 4 → p x := fun x hx => by
  obtain rfl | rfl | rfl | rfl : x = 0 ∨ x = 1 ∨ x = 2 ∨ x = 3 := by omega
  · exact h0
  · exact h1
  · exact h2
  · exact h3
set_option maxHeartbeats 6400000 in
set_option maxRecDepth 100000 in
theorem lmark25 {w : World} {a b x y : Value} {na nb nx ny : Nat} (h : Quad w w (F4 a b x y) (F4 a b x y) (F4 na nb nx ny) (F4 na nb nx ny) (F4 0 0 0 0)) (la : na ≤ 1000000000000) (lb : nb ≤ 1000000000000) (lx : nx ≤ 1000000000000) (ly : ny ≤ 1000000000000) :
    Calls Tryd.prog 14 #[a, b, x, y] w (MarkD w (F4 a b x y)) := by
  obtain ⟨aa, ca, e0⟩ := (h.ln 0 (by decide)).form_u
  obtain ⟨ab, cb, e1⟩ := (h.ln 1 (by decide)).form_u
  obtain ⟨ax, cx, e2⟩ := (h.ln 2 (by decide)).form_u
  obtain ⟨ay, cy, e3⟩ := (h.ln 3 (by decide)).form_u
  change a = .slice aa na ca at e0
  change b = .slice ab nb cb at e1
  change x = .slice ax nx cx at e2
  change y = .slice ay ny cy at e3
  have HQ := hid h
  have IS := hid (info_parts Tryd.infoSt25)
  have IT := hid (info_parts Tryd.infoTk25)
  clear h
  go_enter Tryd.func14, Tryd.ntmps14
  subst e0 e1 e2 e3
  go_wp2_with fail
  go_loopg [9] na (fun gk s9 wr => ∃ k : Nat, s9 = .int .i64 (k : Int) ∧ k ≤ na ∧ gk = na - k ∧ Hid (Quad w wr (F4 (.slice aa na ca) (.slice ab nb cb) (.slice ax nx cx) (.slice ay ny cy)) (F4 (.slice aa na ca) (.slice ab nb cb) (.slice ax nx cx) (.slice ay ny cy)) (F4 na nb nx ny) (F4 na nb nx ny) (F4 k 0 0 0)))
  case atStart => exact ⟨0, rfl, Nat.zero_le _, rfl, HQ⟩
  case round =>
    clear HQ
    obtain ⟨k, rfl, hk, hgk, HQ⟩ := hrel
    have HGK := hid hgk
    clear hgk
    by_cases hlt : k < na
    · have hlt' : (k : Int) < (na : Int) := by omega
      obtain ⟨g, cap, e⟩ := (HQ.out.ln 0 (by decide)).at_u (show 0 < na by omega)
      change Value.slice aa na ca = Value.slice (some ⟨g, 0, none⟩) na cap at e
      simp only [Value.slice.injEq, true_and] at e
      obtain ⟨rfl, rfl⟩ := e
      obtain ⟨⟨cv, c0⟩, c1⟩ := (HQ.out.ln 0 (by decide)).cell_u (j := k) (show k < na by omega) (by decide)
      have QN := hid (HQ.out.mark (i := 0) (j := k) (K' := (F4 (k + 1) 0 0 0)) (by decide) rfl rfl rfl hlt (four rfl rfl rfl rfl))
      have gi : IntKind.i64.wrap ((k : Int) + 1) = ((k + 1 : Nat) : Int) := by rw [wrap_is] <;> omega
      have ek : k * qS 0 + qO 0 = k := by show k * 1 + 0 = k; omega
      rw [ek] at c0 c1 QN
      change Hid (Quad w (wr.setCell ⟨g, k, none⟩ (.string ⟨#[97]⟩)) _ _ _ _ _) at QN
      clear ek
      clear HQ IS IT
      go_wp2_with fail
      go_roundg (na - (k + 1))
      case rel => exact ⟨k + 1, by first | rfl | go_num, by omega, rfl, QN⟩
      case measure => have := HGK.out; omega
    · have hlt' : ¬ (k : Int) < (na : Int) := by omega
      obtain rfl : na = k := by omega
      clear HGK hlt hk
      go_wp2_with fail
      go_loopg [10] nb (fun gk s10 wr => ∃ k : Nat, s10 = .int .i64 (k : Int) ∧ k ≤ nb ∧ gk = nb - k ∧ Hid (Quad w wr (F4 (.slice aa na ca) (.slice ab nb cb) (.slice ax nx cx) (.slice ay ny cy)) (F4 (.slice aa na ca) (.slice ab nb cb) (.slice ax nx cx) (.slice ay ny cy)) (F4 na nb nx ny) (F4 na nb nx ny) (F4 na k 0 0)))
      case atStart => exact ⟨0, rfl, Nat.zero_le _, rfl, HQ⟩
      case round =>
        clear HQ
        obtain ⟨k, rfl, hk, hgk, HQ⟩ := hrel
        have HGK := hid hgk
        clear hgk
        by_cases hlt : k < nb
        · have hlt' : (k : Int) < (nb : Int) := by omega
          obtain ⟨g, cap, e⟩ := (HQ.out.ln 1 (by decide)).at_u (show 0 < nb by omega)
          change Value.slice ab nb cb = Value.slice (some ⟨g, 0, none⟩) nb cap at e
          simp only [Value.slice.injEq, true_and] at e
          obtain ⟨rfl, rfl⟩ := e
          obtain ⟨⟨cv, c0⟩, c1⟩ := (HQ.out.ln 1 (by decide)).cell_u (j := k) (show k < nb by omega) (by decide)
          have QN := hid (HQ.out.mark (i := 1) (j := k) (K' := (F4 na (k + 1) 0 0)) (by decide) rfl rfl rfl hlt (four rfl rfl rfl rfl))
          have gi : IntKind.i64.wrap ((k : Int) + 1) = ((k + 1 : Nat) : Int) := by rw [wrap_is] <;> omega
          have ek : k * qS 1 + qO 1 = k := by show k * 1 + 0 = k; omega
          rw [ek] at c0 c1 QN
          change Hid (Quad w (wr.setCell ⟨g, k, none⟩ (.string ⟨#[98]⟩)) _ _ _ _ _) at QN
          clear ek
          clear HQ IS IT
          go_wp2_with fail
          go_roundg (nb - (k + 1))
          case rel => exact ⟨k + 1, by first | rfl | go_num, by omega, rfl, QN⟩
          case measure => have := HGK.out; omega
        · have hlt' : ¬ (k : Int) < (nb : Int) := by omega
          obtain rfl : nb = k := by omega
          clear HGK hlt hk
          go_wp2_with fail
          go_loopg [11] nx (fun gk s11 wr => ∃ k : Nat, s11 = .int .i64 (k : Int) ∧ k ≤ nx ∧ gk = nx - k ∧ Hid (Quad w wr (F4 (.slice aa na ca) (.slice ab nb cb) (.slice ax nx cx) (.slice ay ny cy)) (F4 (.slice aa na ca) (.slice ab nb cb) (.slice ax nx cx) (.slice ay ny cy)) (F4 na nb nx ny) (F4 na nb nx ny) (F4 na nb k 0)))
          case atStart => exact ⟨0, rfl, Nat.zero_le _, rfl, HQ⟩
          case round =>
            clear HQ
            obtain ⟨k, rfl, hk, hgk, HQ⟩ := hrel
            have HGK := hid hgk
            clear hgk
            by_cases hlt : k < nx
            · have hlt' : (k : Int) < (nx : Int) := by omega
              obtain ⟨g, cap, e⟩ := (HQ.out.ln 2 (by decide)).at_u (show 0 < nx by omega)
              change Value.slice ax nx cx = Value.slice (some ⟨g, 0, none⟩) nx cap at e
              simp only [Value.slice.injEq, true_and] at e
              obtain ⟨rfl, rfl⟩ := e
              obtain ⟨⟨cv, c0⟩, c1⟩ := (HQ.out.ln 2 (by decide)).cell_u (j := k) (show k < nx by omega) (by decide)
              have QN := hid (HQ.out.mark (i := 2) (j := k) (K' := (F4 na nb (k + 1) 0)) (by decide) rfl rfl rfl hlt (four rfl rfl rfl rfl))
              have gi : IntKind.i64.wrap ((k : Int) + 1) = ((k + 1 : Nat) : Int) := by rw [wrap_is] <;> omega
              change wr.cell? ⟨g, k * 3 + 2, none⟩ = _ at c0
              change wr.frozen? ⟨g, k * 3 + 2, none⟩ = _ at c1
              change Hid (Quad w (wr.setCell ⟨g, k * 3 + 2, none⟩ (.int .i64 (100000 + (k : Int)))) _ _ _ _ _) at QN
              have gq : IntKind.i64.wrap (100000 + (k : Int)) = 100000 + (k : Int) := by rw [wrap_is] <;> omega
              clear HQ IS IT
              go_wp2_with fail
              go_roundg (nx - (k + 1))
              case rel => exact ⟨k + 1, by first | rfl | go_num, by omega, rfl, QN⟩
              case measure => have := HGK.out; omega
            · have hlt' : ¬ (k : Int) < (nx : Int) := by omega
              obtain rfl : nx = k := by omega
              clear HGK hlt hk
              go_wp2_with fail
              go_loopg [12] ny (fun gk s12 wr => ∃ k : Nat, s12 = .int .i64 (k : Int) ∧ k ≤ ny ∧ gk = ny - k ∧ Hid (Quad w wr (F4 (.slice aa na ca) (.slice ab nb cb) (.slice ax nx cx) (.slice ay ny cy)) (F4 (.slice aa na ca) (.slice ab nb cb) (.slice ax nx cx) (.slice ay ny cy)) (F4 na nb nx ny) (F4 na nb nx ny) (F4 na nb nx k)))
              case atStart => exact ⟨0, rfl, Nat.zero_le _, rfl, HQ⟩
              case round =>
                clear HQ
                obtain ⟨k, rfl, hk, hgk, HQ⟩ := hrel
                have HGK := hid hgk
                clear hgk
                by_cases hlt : k < ny
                · have hlt' : (k : Int) < (ny : Int) := by omega
                  obtain ⟨g, cap, e⟩ := (HQ.out.ln 3 (by decide)).at_u (show 0 < ny by omega)
                  change Value.slice ay ny cy = Value.slice (some ⟨g, 0, none⟩) ny cap at e
                  simp only [Value.slice.injEq, true_and] at e
                  obtain ⟨rfl, rfl⟩ := e
                  obtain ⟨⟨cv, c0⟩, c1⟩ := (HQ.out.ln 3 (by decide)).cell_u (j := k) (show k < ny by omega) (by decide)
                  have QN := hid (HQ.out.mark (i := 3) (j := k) (K' := (F4 na nb nx (k + 1))) (by decide) rfl rfl rfl hlt (four rfl rfl rfl rfl))
                  have gi : IntKind.i64.wrap ((k : Int) + 1) = ((k + 1 : Nat) : Int) := by rw [wrap_is] <;> omega
                  change wr.cell? ⟨g, k * 3 + 2, none⟩ = _ at c0
                  change wr.frozen? ⟨g, k * 3 + 2, none⟩ = _ at c1
                  change Hid (Quad w (wr.setCell ⟨g, k * 3 + 2, none⟩ (.int .i64 (200000 + (k : Int)))) _ _ _ _ _) at QN
                  have gq : IntKind.i64.wrap (200000 + (k : Int)) = 200000 + (k : Int) := by rw [wrap_is] <;> omega
                  clear HQ IS IT
                  go_wp2_with fail
                  go_roundg (ny - (k + 1))
                  case rel => exact ⟨k + 1, by first | rfl | go_num, by omega, rfl, QN⟩
                  case measure => have := HGK.out; omega
                · have hlt' : ¬ (k : Int) < (ny : Int) := by omega
                  obtain rfl : ny = k := by omega
                  clear HGK hlt hk
                  go_wp2_with fail
                  go_loopg [13, 17] 80 (fun gk s13 s17 wr => ∃ (k : Nat) (v : Value), s13 = v ∧ s17 = .int .i64 (k : Int) ∧ k ≤ 80 ∧ gk = 80 - k ∧ Hid (Quad w wr (F4 (.slice aa na ca) (.slice ab nb cb) (.slice ax nx cx) (.slice ay ny cy)) (F4 v (.slice ab nb cb) (.slice ax nx cx) (.slice ay ny cy)) (F4 na nb nx ny) (F4 (na + k) nb nx ny) (F4 (na + k) nb nx ny)))
                  case atStart => exact ⟨0, _, rfl, rfl, Nat.zero_le _, rfl, HQ⟩
                  case round =>
                    clear HQ
                    obtain ⟨k, _, rfl, rfl, hk, hgk, HQ⟩ := hrel
                    have HGK := hid hgk
                    clear hgk
                    by_cases hlt : k < 80
                    · have hlt' : (k : Int) < 80 := by omega
                      have gi : IntKind.i64.wrap ((k : Int) + 1) = ((k + 1 : Nat) : Int) := by rw [wrap_is] <;> omega
                      obtain ⟨ag, cg, ev⟩ := (HQ.out.ln 0 (by decide)).form_g
                      change u13 = Value.slice ag (na + k) cg at ev
                      subst ev
                      have HB : Hid (Below wr.heap.size wr (wr.alloc (.cells #[.string ⟨#[97]⟩] 9))) := hid ((Below.refl _ _).alloc (Nat.le_refl _) _)
                      have Q1 := hid (HQ.out.below HB.out)
                      obtain ⟨xu, xg, hxu, hxg, _, _⟩ := Q1.out.ln 0 (by decide)
                      change (wr.alloc (.cells #[.string ⟨#[97]⟩] 9)).ownsRow 0 9 1 (.slice ag (na + k) cg) (na + k) xg at hxg
                      have HXG := hid hxg
                      have HCE : Hid (∀ j u, (#[.string ⟨#[97]⟩] : Array Value).toList[j]? = some u → (wr.alloc (.cells #[.string ⟨#[97]⟩] 9)).cell? ((⟨wr.heap.size, 0, none⟩ : Addr).add j) = some u) := hid (World.news_of_block (heap_alloc_new wr _))
                      obtain ⟨i0, hi, hz, hsz, hby⟩ := IS.out
                      have HI := hid hi
                      clear hi hxu hxg HQ
                      go_wp2_with (at_builtin; refine wpList_append_gr25 _ rfl (.tmp 75) (.tmp 76) 26 9 rfl i0 (.string ⟨#[]⟩) 1 16 Tryd.underlying26 HI.out hz hsz hby rfl (by decide) _ (na + k) xg rfl HXG.out (by unfold maxLen; omega) (by omega) ⟨wr.heap.size, 0, none⟩ rfl (#[.string ⟨#[97]⟩] : Array Value).toList rfl HCE.out (by intro u hu; simp at hu; subst hu; rfl) ?_)
                      intro v' w' k1 k2 k3 k4
                      have QN := hid (Q1.out.grow (i := 0) (m := na + k) (v' := v') (G' := (F4 v' (.slice ab nb cb) (.slice ax nx cx) (.slice ay ny cy))) (M' := (F4 (na + k + 1) nb nx ny)) (K' := (F4 (na + k + 1) nb nx ny)) (by decide) rfl rfl (fun xs hxs => by obtain rfl := row_one25 HXG.out hxs; exact ⟨k1.out, k4.out⟩) k3.out (k2.out.imp id fun ⟨g, h1, h2⟩ => ⟨g, h1, by simpa using h2⟩) rfl (four rfl rfl rfl rfl) (four rfl rfl rfl rfl) (four rfl rfl rfl rfl))
                      clear k1 k2 k3 k4 Q1 HXG HCE hz hsz hby HI HB IS IT
                      go_wp2_with fail
                      go_roundg (80 - (k + 1))
                      case rel => exact ⟨k + 1, v', rfl, by first | rfl | go_num, by omega, rfl, QN⟩
                      case measure => have := HGK.out; omega
                    · have hlt' : ¬ (k : Int) < 80 := by omega
                      obtain rfl : k = 80 := by omega
                      clear HGK hlt hk
                      go_wp2_with fail
                      go_loopg [14, 18] 80 (fun gk s14 s18 wr => ∃ (k : Nat) (v : Value), s14 = v ∧ s18 = .int .i64 (k : Int) ∧ k ≤ 80 ∧ gk = 80 - k ∧ Hid (Quad w wr (F4 (.slice aa na ca) (.slice ab nb cb) (.slice ax nx cx) (.slice ay ny cy)) (F4 u13 v (.slice ax nx cx) (.slice ay ny cy)) (F4 na nb nx ny) (F4 (na + 80) (nb + k) nx ny) (F4 (na + 80) (nb + k) nx ny)))
                      case atStart => exact ⟨0, _, rfl, rfl, Nat.zero_le _, rfl, HQ⟩
                      case round =>
                        clear HQ
                        obtain ⟨k, _, rfl, rfl, hk, hgk, HQ⟩ := hrel
                        have HGK := hid hgk
                        clear hgk
                        by_cases hlt : k < 80
                        · have hlt' : (k : Int) < 80 := by omega
                          have gi : IntKind.i64.wrap ((k : Int) + 1) = ((k + 1 : Nat) : Int) := by rw [wrap_is] <;> omega
                          obtain ⟨ag, cg, ev⟩ := (HQ.out.ln 1 (by decide)).form_g
                          change u14 = Value.slice ag (nb + k) cg at ev
                          subst ev
                          have HB : Hid (Below wr.heap.size wr (wr.alloc (.cells #[.string ⟨#[98]⟩] 9))) := hid ((Below.refl _ _).alloc (Nat.le_refl _) _)
                          have Q1 := hid (HQ.out.below HB.out)
                          obtain ⟨xu, xg, hxu, hxg, _, _⟩ := Q1.out.ln 1 (by decide)
                          change (wr.alloc (.cells #[.string ⟨#[98]⟩] 9)).ownsRow 0 9 1 (.slice ag (nb + k) cg) (nb + k) xg at hxg
                          have HXG := hid hxg
                          have HCE : Hid (∀ j u, (#[.string ⟨#[98]⟩] : Array Value).toList[j]? = some u → (wr.alloc (.cells #[.string ⟨#[98]⟩] 9)).cell? ((⟨wr.heap.size, 0, none⟩ : Addr).add j) = some u) := hid (World.news_of_block (heap_alloc_new wr _))
                          obtain ⟨i0, hi, hz, hsz, hby⟩ := IS.out
                          have HI := hid hi
                          clear hi hxu hxg HQ
                          go_wp2_with (at_builtin; refine wpList_append_gr25 _ rfl (.tmp 82) (.tmp 83) 26 9 rfl i0 (.string ⟨#[]⟩) 1 16 Tryd.underlying26 HI.out hz hsz hby rfl (by decide) _ (nb + k) xg rfl HXG.out (by unfold maxLen; omega) (by omega) ⟨wr.heap.size, 0, none⟩ rfl (#[.string ⟨#[98]⟩] : Array Value).toList rfl HCE.out (by intro u hu; simp at hu; subst hu; rfl) ?_)
                          intro v' w' k1 k2 k3 k4
                          have QN := hid (Q1.out.grow (i := 1) (m := nb + k) (v' := v') (G' := (F4 u13 v' (.slice ax nx cx) (.slice ay ny cy))) (M' := (F4 (na + 80) (nb + k + 1) nx ny)) (K' := (F4 (na + 80) (nb + k + 1) nx ny)) (by decide) rfl rfl (fun xs hxs => by obtain rfl := row_one25 HXG.out hxs; exact ⟨k1.out, k4.out⟩) k3.out (k2.out.imp id fun ⟨g, h1, h2⟩ => ⟨g, h1, by simpa using h2⟩) rfl (four rfl rfl rfl rfl) (four rfl rfl rfl rfl) (four rfl rfl rfl rfl))
                          clear k1 k2 k3 k4 Q1 HXG HCE hz hsz hby HI HB IS IT
                          go_wp2_with fail
                          go_roundg (80 - (k + 1))
                          case rel => exact ⟨k + 1, v', rfl, by first | rfl | go_num, by omega, rfl, QN⟩
                          case measure => have := HGK.out; omega
                        · have hlt' : ¬ (k : Int) < 80 := by omega
                          obtain rfl : k = 80 := by omega
                          clear HGK hlt hk
                          go_wp2_with fail
                          go_loopg [15, 19] 80 (fun gk s15 s19 wr => ∃ (k : Nat) (v : Value), s15 = v ∧ s19 = .int .i64 (k : Int) ∧ k ≤ 80 ∧ gk = 80 - k ∧ Hid (Quad w wr (F4 (.slice aa na ca) (.slice ab nb cb) (.slice ax nx cx) (.slice ay ny cy)) (F4 u13 u14 v (.slice ay ny cy)) (F4 na nb nx ny) (F4 (na + 80) (nb + 80) (nx + k) ny) (F4 (na + 80) (nb + 80) (nx + k) ny)))
                          case atStart => exact ⟨0, _, rfl, rfl, Nat.zero_le _, rfl, HQ⟩
                          case round =>
                            clear HQ
                            obtain ⟨k, _, rfl, rfl, hk, hgk, HQ⟩ := hrel
                            have HGK := hid hgk
                            clear hgk
                            by_cases hlt : k < 80
                            · have hlt' : (k : Int) < 80 := by omega
                              have gi : IntKind.i64.wrap ((k : Int) + 1) = ((k + 1 : Nat) : Int) := by rw [wrap_is] <;> omega
                              obtain ⟨ag, cg, ev⟩ := (HQ.out.ln 2 (by decide)).form_g
                              change u15 = Value.slice ag (nx + k) cg at ev
                              have gl : IntKind.i64.wrap (100000 + ((nx + k : Nat) : Int)) = 100000 + ((nx + k : Nat) : Int) := by rw [wrap_is] <;> omega
                              subst ev
                              have HB : Hid (Below wr.heap.size wr (wr.alloc (.cells #[.int .i64 0, .string ⟨#[]⟩, .int .i64 (100000 + ((nx + k : Nat) : Int))] 41))) := hid ((Below.refl _ _).alloc (Nat.le_refl _) _)
                              have Q1 := hid (HQ.out.below HB.out)
                              obtain ⟨xu, xg, hxu, hxg, _, _⟩ := Q1.out.ln 2 (by decide)
                              change (wr.alloc (.cells #[.int .i64 0, .string ⟨#[]⟩, .int .i64 (100000 + ((nx + k : Nat) : Int))] 41)).ownsRow 0 41 3 (.slice ag (nx + k) cg) (nx + k) xg at hxg
                              have HXG := hid hxg
                              have HCE : Hid (∀ j u, (#[.int .i64 0, .string ⟨#[]⟩, .int .i64 (100000 + ((nx + k : Nat) : Int))] : Array Value).toList[j]? = some u → (wr.alloc (.cells #[.int .i64 0, .string ⟨#[]⟩, .int .i64 (100000 + ((nx + k : Nat) : Int))] 41)).cell? ((⟨wr.heap.size, 0, none⟩ : Addr).add j) = some u) := hid (World.news_of_block (heap_alloc_new wr _))
                              obtain ⟨i0, hi, hz, hsz, hby⟩ := IT.out
                              have HI := hid hi
                              clear hi hxu hxg HQ
                              go_wp2_with (at_builtin; refine wpList_append_gr25 _ rfl (.tmp 89) (.tmp 94) 28 41 rfl i0 (.agg #[.int .i64 0, .string ⟨#[]⟩, .int .i64 0]) 3 32 Tryd.underlying28 HI.out hz hsz hby rfl (by decide) _ (nx + k) xg rfl HXG.out (by unfold maxLen; omega) (by omega) ⟨wr.heap.size, 0, none⟩ rfl (#[.int .i64 0, .string ⟨#[]⟩, .int .i64 (100000 + ((nx + k : Nat) : Int))] : Array Value).toList rfl HCE.out (by intro u hu; simp at hu; rcases hu with rfl | rfl | rfl <;> rfl) ?_)
                              intro v' w' k1 k2 k3 k4
                              have QN := hid (Q1.out.grow (i := 2) (m := nx + k) (v' := v') (G' := (F4 u13 u14 v' (.slice ay ny cy))) (M' := (F4 (na + 80) (nb + 80) (nx + k + 1) ny)) (K' := (F4 (na + 80) (nb + 80) (nx + k + 1) ny)) (by decide) rfl rfl (fun xs hxs => by obtain rfl := row_one25 HXG.out hxs; exact ⟨k1.out, k4.out⟩) k3.out (k2.out.imp id fun ⟨g, h1, h2⟩ => ⟨g, h1, by simpa using h2⟩) rfl (four rfl rfl rfl rfl) (four rfl rfl rfl rfl) (four rfl rfl rfl rfl))
                              clear k1 k2 k3 k4 Q1 HXG HCE hz hsz hby HI HB IS IT
                              go_wp2_with fail
                              go_roundg (80 - (k + 1))
                              case rel => exact ⟨k + 1, v', rfl, by first | rfl | go_num, by omega, rfl, QN⟩
                              case measure => have := HGK.out; omega
                            · have hlt' : ¬ (k : Int) < 80 := by omega
                              obtain rfl : k = 80 := by omega
                              clear HGK hlt hk
                              go_wp2_with fail
                              go_loopg [16, 20] 80 (fun gk s16 s20 wr => ∃ (k : Nat) (v : Value), s16 = v ∧ s20 = .int .i64 (k : Int) ∧ k ≤ 80 ∧ gk = 80 - k ∧ Hid (Quad w wr (F4 (.slice aa na ca) (.slice ab nb cb) (.slice ax nx cx) (.slice ay ny cy)) (F4 u13 u14 u15 v) (F4 na nb nx ny) (F4 (na + 80) (nb + 80) (nx + 80) (ny + k)) (F4 (na + 80) (nb + 80) (nx + 80) (ny + k))))
                              case atStart => exact ⟨0, _, rfl, rfl, Nat.zero_le _, rfl, HQ⟩
                              case round =>
                                clear HQ
                                obtain ⟨k, _, rfl, rfl, hk, hgk, HQ⟩ := hrel
                                have HGK := hid hgk
                                clear hgk
                                by_cases hlt : k < 80
                                · have hlt' : (k : Int) < 80 := by omega
                                  have gi : IntKind.i64.wrap ((k : Int) + 1) = ((k + 1 : Nat) : Int) := by rw [wrap_is] <;> omega
                                  obtain ⟨ag, cg, ev⟩ := (HQ.out.ln 3 (by decide)).form_g
                                  change u16 = Value.slice ag (ny + k) cg at ev
                                  have gl : IntKind.i64.wrap (200000 + ((ny + k : Nat) : Int)) = 200000 + ((ny + k : Nat) : Int) := by rw [wrap_is] <;> omega
                                  subst ev
                                  have HB : Hid (Below wr.heap.size wr (wr.alloc (.cells #[.int .i64 0, .string ⟨#[]⟩, .int .i64 (200000 + ((ny + k : Nat) : Int))] 41))) := hid ((Below.refl _ _).alloc (Nat.le_refl _) _)
                                  have Q1 := hid (HQ.out.below HB.out)
                                  obtain ⟨xu, xg, hxu, hxg, _, _⟩ := Q1.out.ln 3 (by decide)
                                  change (wr.alloc (.cells #[.int .i64 0, .string ⟨#[]⟩, .int .i64 (200000 + ((ny + k : Nat) : Int))] 41)).ownsRow 0 41 3 (.slice ag (ny + k) cg) (ny + k) xg at hxg
                                  have HXG := hid hxg
                                  have HCE : Hid (∀ j u, (#[.int .i64 0, .string ⟨#[]⟩, .int .i64 (200000 + ((ny + k : Nat) : Int))] : Array Value).toList[j]? = some u → (wr.alloc (.cells #[.int .i64 0, .string ⟨#[]⟩, .int .i64 (200000 + ((ny + k : Nat) : Int))] 41)).cell? ((⟨wr.heap.size, 0, none⟩ : Addr).add j) = some u) := hid (World.news_of_block (heap_alloc_new wr _))
                                  obtain ⟨i0, hi, hz, hsz, hby⟩ := IT.out
                                  have HI := hid hi
                                  clear hi hxu hxg HQ
                                  go_wp2_with (at_builtin; refine wpList_append_gr25 _ rfl (.tmp 100) (.tmp 105) 28 41 rfl i0 (.agg #[.int .i64 0, .string ⟨#[]⟩, .int .i64 0]) 3 32 Tryd.underlying28 HI.out hz hsz hby rfl (by decide) _ (ny + k) xg rfl HXG.out (by unfold maxLen; omega) (by omega) ⟨wr.heap.size, 0, none⟩ rfl (#[.int .i64 0, .string ⟨#[]⟩, .int .i64 (200000 + ((ny + k : Nat) : Int))] : Array Value).toList rfl HCE.out (by intro u hu; simp at hu; rcases hu with rfl | rfl | rfl <;> rfl) ?_)
                                  intro v' w' k1 k2 k3 k4
                                  have QN := hid (Q1.out.grow (i := 3) (m := ny + k) (v' := v') (G' := (F4 u13 u14 u15 v')) (M' := (F4 (na + 80) (nb + 80) (nx + 80) (ny + k + 1))) (K' := (F4 (na + 80) (nb + 80) (nx + 80) (ny + k + 1))) (by decide) rfl rfl (fun xs hxs => by obtain rfl := row_one25 HXG.out hxs; exact ⟨k1.out, k4.out⟩) k3.out (k2.out.imp id fun ⟨g, h1, h2⟩ => ⟨g, h1, by simpa using h2⟩) rfl (four rfl rfl rfl rfl) (four rfl rfl rfl rfl) (four rfl rfl rfl rfl))
                                  clear k1 k2 k3 k4 Q1 HXG HCE hz hsz hby HI HB IS IT
                                  go_wp2_with fail
                                  go_roundg (80 - (k + 1))
                                  case rel => exact ⟨k + 1, v', rfl, by first | rfl | go_num, by omega, rfl, QN⟩
                                  case measure => have := HGK.out; omega
                                · have hlt' : ¬ (k : Int) < 80 := by omega
                                  obtain rfl : k = 80 := by omega
                                  clear HGK hlt hk
                                  clear IS IT
                                  obtain ⟨a13, c13, ev⟩ := (HQ.out.ln 0 (by decide)).form_g
                                  change u13 = Value.slice a13 (na + 80) c13 at ev
                                  obtain ⟨m0, hm0⟩ : ∃ m, na + 80 = m := ⟨_, rfl⟩
                                  rw [hm0] at ev HQ
                                  subst ev
                                  have lm0 : m0 ≤ 2000000000000 := by omega
                                  have lo0 : na ≤ m0 := by omega
                                  clear hm0
                                  obtain ⟨a14, c14, ev⟩ := (HQ.out.ln 1 (by decide)).form_g
                                  change u14 = Value.slice a14 (nb + 80) c14 at ev
                                  obtain ⟨m1, hm1⟩ : ∃ m, nb + 80 = m := ⟨_, rfl⟩
                                  rw [hm1] at ev HQ
                                  subst ev
                                  have lm1 : m1 ≤ 2000000000000 := by omega
                                  have lo1 : nb ≤ m1 := by omega
                                  clear hm1
                                  obtain ⟨a15, c15, ev⟩ := (HQ.out.ln 2 (by decide)).form_g
                                  change u15 = Value.slice a15 (nx + 80) c15 at ev
                                  obtain ⟨m2, hm2⟩ : ∃ m, nx + 80 = m := ⟨_, rfl⟩
                                  rw [hm2] at ev HQ
                                  subst ev
                                  have lm2 : m2 ≤ 2000000000000 := by omega
                                  have lo2 : nx ≤ m2 := by omega
                                  clear hm2
                                  obtain ⟨a16, c16, ev⟩ := (HQ.out.ln 3 (by decide)).form_g
                                  change u16 = Value.slice a16 (ny + 80) c16 at ev
                                  obtain ⟨m3, hm3⟩ : ∃ m, ny + 80 = m := ⟨_, rfl⟩
                                  rw [hm3] at ev HQ
                                  subst ev
                                  have lm3 : m3 ≤ 2000000000000 := by omega
                                  have lo3 : ny ≤ m3 := by omega
                                  clear hm3
                                  go_wp2_with fail
                                  go_loopg [21] m0 (fun gk s21 wr => ∃ k : Nat, s21 = .int .i64 (k : Int) ∧ k ≤ m0 ∧ gk = m0 - k ∧ Hid (Quad w wr (F4 (.slice aa na ca) (.slice ab nb cb) (.slice ax nx cx) (.slice ay ny cy)) (F4 (.slice a13 m0 c13) (.slice a14 m1 c14) (.slice a15 m2 c15) (.slice a16 m3 c16)) (F4 na nb nx ny) (F4 m0 m1 m2 m3) (F4 m0 m1 m2 m3)))
                                  case atStart => exact ⟨0, rfl, Nat.zero_le _, rfl, HQ⟩
                                  case round =>
                                    clear HQ
                                    obtain ⟨k, rfl, hk, hgk, HQ⟩ := hrel
                                    have HGK := hid hgk
                                    clear hgk
                                    by_cases hlt : k < m0
                                    · have hlt' : (k : Int) < (m0 : Int) := by omega
                                      have gi : IntKind.i64.wrap ((k : Int) + 1) = ((k + 1 : Nat) : Int) := by rw [wrap_is] <;> omega
                                      obtain ⟨g, cap, e⟩ := (HQ.out.ln 0 (by decide)).at_g (show 0 < m0 by omega)
                                      change Value.slice a13 m0 c13 = Value.slice (some ⟨g, 0, none⟩) m0 cap at e
                                      simp only [Value.slice.injEq, true_and] at e
                                      obtain ⟨rfl, rfl⟩ := e
                                      have c0 := (HQ.out.ln 0 (by decide)).read_g (j := k) hlt hlt (by decide)
                                      rw [show k * qS 0 + qO 0 = k by show k * 1 + 0 = k; omega] at c0
                                      change wr.cell? ⟨g, k, none⟩ = some (.string ⟨#[97]⟩) at c0
                                      have qc0 : ∀ q, (wr.drewN q).cell? ⟨g, k, none⟩ = some (.string ⟨#[97]⟩) := fun q => by simpa using c0
                                      have ht : ((⟨#[97]⟩ : ByteArray).toList == (⟨#[97]⟩ : ByteArray).toList) = true := by simp
                                      by_cases hn : k < na
                                      · have hn' : (k : Int) < (na : Int) := by omega
                                        obtain ⟨g', cap', e'⟩ := (HQ.out.ln 0 (by decide)).at_u (show 0 < na by omega)
                                        change Value.slice aa na ca = Value.slice (some ⟨g', 0, none⟩) na cap' at e'
                                        simp only [Value.slice.injEq, true_and] at e'
                                        obtain ⟨rfl, rfl⟩ := e'
                                        have c1 := (HQ.out.ln 0 (by decide)).read_u (j := k) hlt hn (by decide)
                                        rw [show k * qS 0 + qO 0 = k by show k * 1 + 0 = k; omega] at c1
                                        change wr.cell? ⟨g', k, none⟩ = some (.string ⟨#[97]⟩) at c1
                                        have qc1 : ∀ q, (wr.drewN q).cell? ⟨g', k, none⟩ = some (.string ⟨#[97]⟩) := fun q => by simpa using c1
                                        go_wp2
                                        go_roundg (m0 - (k + 1))
                                        case rel => exact ⟨k + 1, by first | rfl | go_num, by omega, rfl, HQ⟩
                                        case measure => have := HGK.out; omega
                                      · have hn' : ¬ (k : Int) < (na : Int) := by omega
                                        go_wp2
                                        go_roundg (m0 - (k + 1))
                                        case rel => exact ⟨k + 1, by first | rfl | go_num, by omega, rfl, HQ⟩
                                        case measure => have := HGK.out; omega
                                    · have hlt' : ¬ (k : Int) < (m0 : Int) := by omega
                                      obtain rfl : m0 = k := by omega
                                      clear HGK hlt hk
                                      go_wp2_with fail
                                      go_loopg [22] m1 (fun gk s22 wr => ∃ k : Nat, s22 = .int .i64 (k : Int) ∧ k ≤ m1 ∧ gk = m1 - k ∧ Hid (Quad w wr (F4 (.slice aa na ca) (.slice ab nb cb) (.slice ax nx cx) (.slice ay ny cy)) (F4 (.slice a13 m0 c13) (.slice a14 m1 c14) (.slice a15 m2 c15) (.slice a16 m3 c16)) (F4 na nb nx ny) (F4 m0 m1 m2 m3) (F4 m0 m1 m2 m3)))
                                      case atStart => exact ⟨0, rfl, Nat.zero_le _, rfl, HQ⟩
                                      case round =>
                                        clear HQ
                                        obtain ⟨k, rfl, hk, hgk, HQ⟩ := hrel
                                        have HGK := hid hgk
                                        clear hgk
                                        by_cases hlt : k < m1
                                        · have hlt' : (k : Int) < (m1 : Int) := by omega
                                          have gi : IntKind.i64.wrap ((k : Int) + 1) = ((k + 1 : Nat) : Int) := by rw [wrap_is] <;> omega
                                          obtain ⟨g, cap, e⟩ := (HQ.out.ln 1 (by decide)).at_g (show 0 < m1 by omega)
                                          change Value.slice a14 m1 c14 = Value.slice (some ⟨g, 0, none⟩) m1 cap at e
                                          simp only [Value.slice.injEq, true_and] at e
                                          obtain ⟨rfl, rfl⟩ := e
                                          have c0 := (HQ.out.ln 1 (by decide)).read_g (j := k) hlt hlt (by decide)
                                          rw [show k * qS 1 + qO 1 = k by show k * 1 + 0 = k; omega] at c0
                                          change wr.cell? ⟨g, k, none⟩ = some (.string ⟨#[98]⟩) at c0
                                          have qc0 : ∀ q, (wr.drewN q).cell? ⟨g, k, none⟩ = some (.string ⟨#[98]⟩) := fun q => by simpa using c0
                                          have ht : ((⟨#[98]⟩ : ByteArray).toList == (⟨#[98]⟩ : ByteArray).toList) = true := by simp
                                          by_cases hn : k < nb
                                          · have hn' : (k : Int) < (nb : Int) := by omega
                                            obtain ⟨g', cap', e'⟩ := (HQ.out.ln 1 (by decide)).at_u (show 0 < nb by omega)
                                            change Value.slice ab nb cb = Value.slice (some ⟨g', 0, none⟩) nb cap' at e'
                                            simp only [Value.slice.injEq, true_and] at e'
                                            obtain ⟨rfl, rfl⟩ := e'
                                            have c1 := (HQ.out.ln 1 (by decide)).read_u (j := k) hlt hn (by decide)
                                            rw [show k * qS 1 + qO 1 = k by show k * 1 + 0 = k; omega] at c1
                                            change wr.cell? ⟨g', k, none⟩ = some (.string ⟨#[98]⟩) at c1
                                            have qc1 : ∀ q, (wr.drewN q).cell? ⟨g', k, none⟩ = some (.string ⟨#[98]⟩) := fun q => by simpa using c1
                                            go_wp2
                                            go_roundg (m1 - (k + 1))
                                            case rel => exact ⟨k + 1, by first | rfl | go_num, by omega, rfl, HQ⟩
                                            case measure => have := HGK.out; omega
                                          · have hn' : ¬ (k : Int) < (nb : Int) := by omega
                                            go_wp2
                                            go_roundg (m1 - (k + 1))
                                            case rel => exact ⟨k + 1, by first | rfl | go_num, by omega, rfl, HQ⟩
                                            case measure => have := HGK.out; omega
                                        · have hlt' : ¬ (k : Int) < (m1 : Int) := by omega
                                          obtain rfl : m1 = k := by omega
                                          clear HGK hlt hk
                                          go_wp2_with fail
                                          go_loopg [23] m2 (fun gk s23 wr => ∃ k : Nat, s23 = .int .i64 (k : Int) ∧ k ≤ m2 ∧ gk = m2 - k ∧ Hid (Quad w wr (F4 (.slice aa na ca) (.slice ab nb cb) (.slice ax nx cx) (.slice ay ny cy)) (F4 (.slice a13 m0 c13) (.slice a14 m1 c14) (.slice a15 m2 c15) (.slice a16 m3 c16)) (F4 na nb nx ny) (F4 m0 m1 m2 m3) (F4 m0 m1 m2 m3)))
                                          case atStart => exact ⟨0, rfl, Nat.zero_le _, rfl, HQ⟩
                                          case round =>
                                            clear HQ
                                            obtain ⟨k, rfl, hk, hgk, HQ⟩ := hrel
                                            have HGK := hid hgk
                                            clear hgk
                                            by_cases hlt : k < m2
                                            · have hlt' : (k : Int) < (m2 : Int) := by omega
                                              have gi : IntKind.i64.wrap ((k : Int) + 1) = ((k + 1 : Nat) : Int) := by rw [wrap_is] <;> omega
                                              obtain ⟨g, cap, e⟩ := (HQ.out.ln 2 (by decide)).at_g (show 0 < m2 by omega)
                                              change Value.slice a15 m2 c15 = Value.slice (some ⟨g, 0, none⟩) m2 cap at e
                                              simp only [Value.slice.injEq, true_and] at e
                                              obtain ⟨rfl, rfl⟩ := e
                                              have c0 := (HQ.out.ln 2 (by decide)).read_g (j := k) hlt hlt (by decide)
                                              change wr.cell? ⟨g, k * 3 + 2, none⟩ = some (.int .i64 (100000 + (k : Int))) at c0
                                              have qc0 : ∀ q, (wr.drewN q).cell? ⟨g, k * 3 + 2, none⟩ = some (.int .i64 (100000 + (k : Int))) := fun q => by simpa using c0
                                              have gq : IntKind.i64.wrap (100000 + (k : Int)) = 100000 + (k : Int) := by rw [wrap_is] <;> omega
                                              have ht : (100000 + (k : Int) == 100000 + (k : Int)) = true := by simp
                                              by_cases hn : k < nx
                                              · have hn' : (k : Int) < (nx : Int) := by omega
                                                obtain ⟨g', cap', e'⟩ := (HQ.out.ln 2 (by decide)).at_u (show 0 < nx by omega)
                                                change Value.slice ax nx cx = Value.slice (some ⟨g', 0, none⟩) nx cap' at e'
                                                simp only [Value.slice.injEq, true_and] at e'
                                                obtain ⟨rfl, rfl⟩ := e'
                                                have c1 := (HQ.out.ln 2 (by decide)).read_u (j := k) hlt hn (by decide)
                                                change wr.cell? ⟨g', k * 3 + 2, none⟩ = some (.int .i64 (100000 + (k : Int))) at c1
                                                have qc1 : ∀ q, (wr.drewN q).cell? ⟨g', k * 3 + 2, none⟩ = some (.int .i64 (100000 + (k : Int))) := fun q => by simpa using c1
                                                go_wp2
                                                go_roundg (m2 - (k + 1))
                                                case rel => exact ⟨k + 1, by first | rfl | go_num, by omega, rfl, HQ⟩
                                                case measure => have := HGK.out; omega
                                              · have hn' : ¬ (k : Int) < (nx : Int) := by omega
                                                go_wp2
                                                go_roundg (m2 - (k + 1))
                                                case rel => exact ⟨k + 1, by first | rfl | go_num, by omega, rfl, HQ⟩
                                                case measure => have := HGK.out; omega
                                            · have hlt' : ¬ (k : Int) < (m2 : Int) := by omega
                                              obtain rfl : m2 = k := by omega
                                              clear HGK hlt hk
                                              go_wp2_with fail
                                              go_loopg [24] m3 (fun gk s24 wr => ∃ k : Nat, s24 = .int .i64 (k : Int) ∧ k ≤ m3 ∧ gk = m3 - k ∧ Hid (Quad w wr (F4 (.slice aa na ca) (.slice ab nb cb) (.slice ax nx cx) (.slice ay ny cy)) (F4 (.slice a13 m0 c13) (.slice a14 m1 c14) (.slice a15 m2 c15) (.slice a16 m3 c16)) (F4 na nb nx ny) (F4 m0 m1 m2 m3) (F4 m0 m1 m2 m3)))
                                              case atStart => exact ⟨0, rfl, Nat.zero_le _, rfl, HQ⟩
                                              case round =>
                                                clear HQ
                                                obtain ⟨k, rfl, hk, hgk, HQ⟩ := hrel
                                                have HGK := hid hgk
                                                clear hgk
                                                by_cases hlt : k < m3
                                                · have hlt' : (k : Int) < (m3 : Int) := by omega
                                                  have gi : IntKind.i64.wrap ((k : Int) + 1) = ((k + 1 : Nat) : Int) := by rw [wrap_is] <;> omega
                                                  obtain ⟨g, cap, e⟩ := (HQ.out.ln 3 (by decide)).at_g (show 0 < m3 by omega)
                                                  change Value.slice a16 m3 c16 = Value.slice (some ⟨g, 0, none⟩) m3 cap at e
                                                  simp only [Value.slice.injEq, true_and] at e
                                                  obtain ⟨rfl, rfl⟩ := e
                                                  have c0 := (HQ.out.ln 3 (by decide)).read_g (j := k) hlt hlt (by decide)
                                                  change wr.cell? ⟨g, k * 3 + 2, none⟩ = some (.int .i64 (200000 + (k : Int))) at c0
                                                  have qc0 : ∀ q, (wr.drewN q).cell? ⟨g, k * 3 + 2, none⟩ = some (.int .i64 (200000 + (k : Int))) := fun q => by simpa using c0
                                                  have gq : IntKind.i64.wrap (200000 + (k : Int)) = 200000 + (k : Int) := by rw [wrap_is] <;> omega
                                                  have ht : (200000 + (k : Int) == 200000 + (k : Int)) = true := by simp
                                                  by_cases hn : k < ny
                                                  · have hn' : (k : Int) < (ny : Int) := by omega
                                                    obtain ⟨g', cap', e'⟩ := (HQ.out.ln 3 (by decide)).at_u (show 0 < ny by omega)
                                                    change Value.slice ay ny cy = Value.slice (some ⟨g', 0, none⟩) ny cap' at e'
                                                    simp only [Value.slice.injEq, true_and] at e'
                                                    obtain ⟨rfl, rfl⟩ := e'
                                                    have c1 := (HQ.out.ln 3 (by decide)).read_u (j := k) hlt hn (by decide)
                                                    change wr.cell? ⟨g', k * 3 + 2, none⟩ = some (.int .i64 (200000 + (k : Int))) at c1
                                                    have qc1 : ∀ q, (wr.drewN q).cell? ⟨g', k * 3 + 2, none⟩ = some (.int .i64 (200000 + (k : Int))) := fun q => by simpa using c1
                                                    go_wp2
                                                    go_roundg (m3 - (k + 1))
                                                    case rel => exact ⟨k + 1, by first | rfl | go_num, by omega, rfl, HQ⟩
                                                    case measure => have := HGK.out; omega
                                                  · have hn' : ¬ (k : Int) < (ny : Int) := by omega
                                                    go_wp2
                                                    go_roundg (m3 - (k + 1))
                                                    case rel => exact ⟨k + 1, by first | rfl | go_num, by omega, rfl, HQ⟩
                                                    case measure => have := HGK.out; omega
                                                · have hlt' : ¬ (k : Int) < (m3 : Int) := by omega
                                                  obtain rfl : m3 = k := by omega
                                                  clear HGK hlt hk
                                                  go_wp2
                                                  go_ret
                                                  exact ⟨rfl, HQ.out.tou⟩
end Go.Proofs.YtdfnehngffajiaaDoor
