/-
  QDnsR10ToGi10: DnsR10, Gi10, joined.
-/
import Derived.Test.YtachdicdfhfoaaaQUnitV10
import Derived.Test.YtachdicdfhfoaaaQPickB9
import Derived.Deep.AppendLies

/- DnsR10 -/
namespace Go.Proofs.Ytachdicdfhfoaaa
open Go.RowKit
set_option linter.unusedVariables false

/-- The boxes of dense. -/
theorem boxesD {w W0 : World} {o1 o2 : List Value} (hW : ((w.alloc (.cells o1.toArray 24)).alloc (.cells o2.toArray 37)).alloc mbox = W0) :
    Cel W0 w.heap.size 24 o1 ∧ Cel W0 (w.heap.size + 1) 37 o2 ∧ Cel W0 (w.heap.size + 1 + 1) 24 [.int .i64 0, .int .i64 0, .slice none 0 0] := by
  refine ⟨?_, ?_, ?_⟩
  · rw [← hW]
    exact (((Cel.new w 24 o1).step ((Below.refl _ _).alloc (Nat.le_refl _) _)).step ((Below.refl _ _).alloc (Nat.le_refl _) _))
  · rw [← hW]
    have := ((Cel.new (w.alloc (.cells o1.toArray 24)) 37 o2).step ((Below.refl _ _).alloc (Nat.le_refl _) mbox))
    simpa using this
  · rw [← hW]
    have := Cel.new ((w.alloc (.cells o1.toArray 24)).alloc (.cells o2.toArray 37)) 24 [.int .i64 0, .int .i64 0, .slice none 0 0]
    simpa using this
theorem boxD3 {w W0 : World} {o1 o2 : List Value} {r c la ca : Nat} {aa : Option Addr} (hW : ((w.alloc (.cells o1.toArray 24)).alloc (.cells o2.toArray 37)).alloc (matO r c (.slice aa la ca)) = W0) :
    Cel W0 (w.heap.size + 1 + 1) 24 (matc r c (.slice aa la ca)) := by
  rw [← hW]
  have := Cel.new ((w.alloc (.cells o1.toArray 24)).alloc (.cells o2.toArray 37)) 24 (matc r c (.slice aa la ca))
  simpa using this
/-- An act that names no place: the matrix as it was. -/
def DnsNo (w : World) (va : Value) (r c : Nat) (zs : List Int) (k : Nat) (e : Ending) (w' : World) : Prop := e = .returned (.tuple #[va, .bool false]) ∧ Mc w' va r c zs k ∧ Below w.heap.size w w'
def DnsYes (w : World) (r c : Nat) (zs : List Int) (k : Nat) (e : Ending) (w' : World) : Prop := ∃ v, e = .returned (.tuple #[v, .bool true]) ∧ Mc w' v r c zs k ∧ Below w.heap.size w w'
set_option maxHeartbeats 3200000 in
set_option maxRecDepth 100000 in
theorem dense_neg {w : World} {va : Value} {r c k : Nat} {zs : List Int} (ha : Mc w va r c zs k) {kind I J : Int} {nv : Bool} {av : Option Addr} {lv cv : Nat} (h : I < 0) :
    Calls Try.prog 9 #[va, .agg #[.int .i64 kind, .int .i64 I, .int .i64 J, .bool nv, .slice av lv cv]] w (DnsNo w va r c zs k) := by
  have M0 := hid ha
  obtain ⟨aa, ca, rfl, hr, hc⟩ := ha.mx.form
  generalize hla : r * c = la at *
  have HLA := hid hla
  clear hla ha
  obtain ⟨W0, hW⟩ : ∃ W0, ((w.alloc (matO r c (.slice aa la ca))).alloc (.cells #[.int .i64 kind, .int .i64 I, .int .i64 J, .bool nv, .slice av lv cv] 37)).alloc mbox = W0 := ⟨_, rfl⟩
  obtain ⟨b0, sz0⟩ := alloc3 w (matO r c (.slice aa la ca)) (.cells #[.int .i64 kind, .int .i64 I, .int .i64 J, .bool nv, .slice av lv cv] 37) mbox
  rw [hW] at b0 sz0
  obtain ⟨pd, pa, pr⟩ := boxesD (o1 := matc r c (.slice aa la ca)) (o2 := [.int .i64 kind, .int .i64 I, .int .i64 J, .bool nv, .slice av lv cv]) hW
  have PD := hid pd
  have PA := hid pa
  have PR := hid pr
  have x0 := pd.at (i := 0) rfl
  have x1 := pd.at (i := 1) rfl
  have x2 := pd.at (i := 2) rfl
  have y0 := pa.at (i := 0) rfl
  have y1 := pa.at (i := 1) rfl
  have y2 := pa.at (i := 2) rfl
  have y3 := pa.at (i := 3) rfl
  have y4 := pa.at (i := 4) rfl
  have r0 := pr.at (i := 0) rfl
  have r1 := pr.at (i := 1) rfl
  have r2 := pr.at (i := 2) rfl
  have f0 := pr.fz 0
  have f1 := pr.fz 1
  have f2 := pr.fz 2

  have G0 := hid b0
  have SZ := hid sz0
  rw [← hW] at x0 x1 x2 y0 y1 y2 y3 y4 r0 r1 r2 f0 f1 f2
  obtain ⟨W1, hW1⟩ : ∃ W1, ((w.alloc (matO r c (.slice aa la ca))).alloc (.cells #[.int .i64 kind, .int .i64 I, .int .i64 J, .bool nv, .slice av lv cv] 37)).alloc (matO r c (.slice aa la ca)) = W1 := ⟨_, rfl⟩
  obtain ⟨b1, sz1⟩ := alloc3 w (matO r c (.slice aa la ca)) (.cells #[.int .i64 kind, .int .i64 I, .int .i64 J, .bool nv, .slice av lv cv] 37) (matO r c (.slice aa la ca))
  rw [hW1] at b1 sz1
  have FIN : Hid (DnsNo w (matv r c (.slice aa la ca)) r c zs k (.returned (.tuple #[.agg #[.int .i64 (r : Int), .int .i64 (c : Int), .slice aa la ca], .bool false])) W1) :=
    ⟨rfl, M0.out.now b1, b1⟩
  have PF := hid (boxD3 (o1 := matc r c (.slice aa la ca)) (o2 := [.int .i64 kind, .int .i64 I, .int .i64 J, .bool nv, .slice av lv cv]) hW1)
  have EW := hid hW1
  clear hW hW1 b0 b1 sz0 sz1 pd pa pr M0 G0 SZ PD PA PR
  go_enter Try.func9, Try.ntmps9
  go_wp2
  rw [EW.out]
  exact bodyPost_ret (mback1 Try.results9 PF.out _ (by rfl) (by rfl)) rfl FIN.out
set_option maxHeartbeats 3200000 in
set_option maxRecDepth 100000 in
theorem dense_great {w : World} {va : Value} {r c k : Nat} {zs : List Int} (ha : Mc w va r c zs k) {kind I J : Int} {nv : Bool} {av : Option Addr} {lv cv : Nat} (h0 : ¬ I < 0) (h : (r : Int) ≤ I) :
    Calls Try.prog 9 #[va, .agg #[.int .i64 kind, .int .i64 I, .int .i64 J, .bool nv, .slice av lv cv]] w (DnsNo w va r c zs k) := by
  have M0 := hid ha
  obtain ⟨aa, ca, rfl, hr, hc⟩ := ha.mx.form
  generalize hla : r * c = la at *
  have HLA := hid hla
  clear hla ha
  obtain ⟨W0, hW⟩ : ∃ W0, ((w.alloc (matO r c (.slice aa la ca))).alloc (.cells #[.int .i64 kind, .int .i64 I, .int .i64 J, .bool nv, .slice av lv cv] 37)).alloc mbox = W0 := ⟨_, rfl⟩
  obtain ⟨b0, sz0⟩ := alloc3 w (matO r c (.slice aa la ca)) (.cells #[.int .i64 kind, .int .i64 I, .int .i64 J, .bool nv, .slice av lv cv] 37) mbox
  rw [hW] at b0 sz0
  obtain ⟨pd, pa, pr⟩ := boxesD (o1 := matc r c (.slice aa la ca)) (o2 := [.int .i64 kind, .int .i64 I, .int .i64 J, .bool nv, .slice av lv cv]) hW
  have PD := hid pd
  have PA := hid pa
  have PR := hid pr
  have x0 := pd.at (i := 0) rfl
  have x1 := pd.at (i := 1) rfl
  have x2 := pd.at (i := 2) rfl
  have y0 := pa.at (i := 0) rfl
  have y1 := pa.at (i := 1) rfl
  have y2 := pa.at (i := 2) rfl
  have y3 := pa.at (i := 3) rfl
  have y4 := pa.at (i := 4) rfl
  have r0 := pr.at (i := 0) rfl
  have r1 := pr.at (i := 1) rfl
  have r2 := pr.at (i := 2) rfl
  have f0 := pr.fz 0
  have f1 := pr.fz 1
  have f2 := pr.fz 2

  have G0 := hid b0
  have SZ := hid sz0
  rw [← hW] at x0 x1 x2 y0 y1 y2 y3 y4 r0 r1 r2 f0 f1 f2
  obtain ⟨W1, hW1⟩ : ∃ W1, ((w.alloc (matO r c (.slice aa la ca))).alloc (.cells #[.int .i64 kind, .int .i64 I, .int .i64 J, .bool nv, .slice av lv cv] 37)).alloc (matO r c (.slice aa la ca)) = W1 := ⟨_, rfl⟩
  obtain ⟨b1, sz1⟩ := alloc3 w (matO r c (.slice aa la ca)) (.cells #[.int .i64 kind, .int .i64 I, .int .i64 J, .bool nv, .slice av lv cv] 37) (matO r c (.slice aa la ca))
  rw [hW1] at b1 sz1
  have FIN : Hid (DnsNo w (matv r c (.slice aa la ca)) r c zs k (.returned (.tuple #[.agg #[.int .i64 (r : Int), .int .i64 (c : Int), .slice aa la ca], .bool false])) W1) :=
    ⟨rfl, M0.out.now b1, b1⟩
  have PF := hid (boxD3 (o1 := matc r c (.slice aa la ca)) (o2 := [.int .i64 kind, .int .i64 I, .int .i64 J, .bool nv, .slice av lv cv]) hW1)
  have EW := hid hW1
  clear hW hW1 b0 b1 sz0 sz1 pd pa pr M0 G0 SZ PD PA PR
  go_enter Try.func9, Try.ntmps9
  go_wp2
  rw [EW.out]
  exact bodyPost_ret (mback1 Try.results9 PF.out _ (by rfl) (by rfl)) rfl FIN.out
set_option maxHeartbeats 3200000 in
set_option maxRecDepth 100000 in
theorem dense_setneg {w : World} {va : Value} {r c k : Nat} {zs : List Int} (ha : Mc w va r c zs k) {I J : Int} {nv : Bool} {av : Option Addr} {lv cv : Nat} (h0 : ¬ I < 0) (h : ¬ (r : Int) ≤ I) (h2 : J < 0) :
    Calls Try.prog 9 #[va, .agg #[.int .i64 5, .int .i64 I, .int .i64 J, .bool nv, .slice av lv cv]] w (DnsNo w va r c zs k) := by
  have M0 := hid ha
  obtain ⟨aa, ca, rfl, hr, hc⟩ := ha.mx.form
  generalize hla : r * c = la at *
  have HLA := hid hla
  clear hla ha
  obtain ⟨W0, hW⟩ : ∃ W0, ((w.alloc (matO r c (.slice aa la ca))).alloc (.cells #[.int .i64 5, .int .i64 I, .int .i64 J, .bool nv, .slice av lv cv] 37)).alloc mbox = W0 := ⟨_, rfl⟩
  obtain ⟨b0, sz0⟩ := alloc3 w (matO r c (.slice aa la ca)) (.cells #[.int .i64 5, .int .i64 I, .int .i64 J, .bool nv, .slice av lv cv] 37) mbox
  rw [hW] at b0 sz0
  obtain ⟨pd, pa, pr⟩ := boxesD (o1 := matc r c (.slice aa la ca)) (o2 := [.int .i64 5, .int .i64 I, .int .i64 J, .bool nv, .slice av lv cv]) hW
  have PD := hid pd
  have PA := hid pa
  have PR := hid pr
  have x0 := pd.at (i := 0) rfl
  have x1 := pd.at (i := 1) rfl
  have x2 := pd.at (i := 2) rfl
  have y0 := pa.at (i := 0) rfl
  have y1 := pa.at (i := 1) rfl
  have y2 := pa.at (i := 2) rfl
  have y3 := pa.at (i := 3) rfl
  have y4 := pa.at (i := 4) rfl
  have r0 := pr.at (i := 0) rfl
  have r1 := pr.at (i := 1) rfl
  have r2 := pr.at (i := 2) rfl
  have f0 := pr.fz 0
  have f1 := pr.fz 1
  have f2 := pr.fz 2

  have G0 := hid b0
  have SZ := hid sz0
  rw [← hW] at x0 x1 x2 y0 y1 y2 y3 y4 r0 r1 r2 f0 f1 f2
  obtain ⟨W1, hW1⟩ : ∃ W1, ((w.alloc (matO r c (.slice aa la ca))).alloc (.cells #[.int .i64 5, .int .i64 I, .int .i64 J, .bool nv, .slice av lv cv] 37)).alloc (matO r c (.slice aa la ca)) = W1 := ⟨_, rfl⟩
  obtain ⟨b1, sz1⟩ := alloc3 w (matO r c (.slice aa la ca)) (.cells #[.int .i64 5, .int .i64 I, .int .i64 J, .bool nv, .slice av lv cv] 37) (matO r c (.slice aa la ca))
  rw [hW1] at b1 sz1
  have FIN : Hid (DnsNo w (matv r c (.slice aa la ca)) r c zs k (.returned (.tuple #[.agg #[.int .i64 (r : Int), .int .i64 (c : Int), .slice aa la ca], .bool false])) W1) :=
    ⟨rfl, M0.out.now b1, b1⟩
  have PF := hid (boxD3 (o1 := matc r c (.slice aa la ca)) (o2 := [.int .i64 5, .int .i64 I, .int .i64 J, .bool nv, .slice av lv cv]) hW1)
  have EW := hid hW1
  clear hW hW1 b0 b1 sz0 sz1 pd pa pr M0 G0 SZ PD PA PR
  go_enter Try.func9, Try.ntmps9
  go_wp2
  rw [EW.out]
  exact bodyPost_ret (mback1 Try.results9 PF.out _ (by rfl) (by rfl)) rfl FIN.out
set_option maxHeartbeats 3200000 in
set_option maxRecDepth 100000 in
theorem dense_setgreat {w : World} {va : Value} {r c k : Nat} {zs : List Int} (ha : Mc w va r c zs k) {I J : Int} {nv : Bool} {av : Option Addr} {lv cv : Nat} (h0 : ¬ I < 0) (h : ¬ (r : Int) ≤ I) (h1 : ¬ J < 0) (h2 : (c : Int) ≤ J) :
    Calls Try.prog 9 #[va, .agg #[.int .i64 5, .int .i64 I, .int .i64 J, .bool nv, .slice av lv cv]] w (DnsNo w va r c zs k) := by
  have M0 := hid ha
  obtain ⟨aa, ca, rfl, hr, hc⟩ := ha.mx.form
  generalize hla : r * c = la at *
  have HLA := hid hla
  clear hla ha
  obtain ⟨W0, hW⟩ : ∃ W0, ((w.alloc (matO r c (.slice aa la ca))).alloc (.cells #[.int .i64 5, .int .i64 I, .int .i64 J, .bool nv, .slice av lv cv] 37)).alloc mbox = W0 := ⟨_, rfl⟩
  obtain ⟨b0, sz0⟩ := alloc3 w (matO r c (.slice aa la ca)) (.cells #[.int .i64 5, .int .i64 I, .int .i64 J, .bool nv, .slice av lv cv] 37) mbox
  rw [hW] at b0 sz0
  obtain ⟨pd, pa, pr⟩ := boxesD (o1 := matc r c (.slice aa la ca)) (o2 := [.int .i64 5, .int .i64 I, .int .i64 J, .bool nv, .slice av lv cv]) hW
  have PD := hid pd
  have PA := hid pa
  have PR := hid pr
  have x0 := pd.at (i := 0) rfl
  have x1 := pd.at (i := 1) rfl
  have x2 := pd.at (i := 2) rfl
  have y0 := pa.at (i := 0) rfl
  have y1 := pa.at (i := 1) rfl
  have y2 := pa.at (i := 2) rfl
  have y3 := pa.at (i := 3) rfl
  have y4 := pa.at (i := 4) rfl
  have r0 := pr.at (i := 0) rfl
  have r1 := pr.at (i := 1) rfl
  have r2 := pr.at (i := 2) rfl
  have f0 := pr.fz 0
  have f1 := pr.fz 1
  have f2 := pr.fz 2

  have G0 := hid b0
  have SZ := hid sz0
  rw [← hW] at x0 x1 x2 y0 y1 y2 y3 y4 r0 r1 r2 f0 f1 f2
  obtain ⟨W1, hW1⟩ : ∃ W1, ((w.alloc (matO r c (.slice aa la ca))).alloc (.cells #[.int .i64 5, .int .i64 I, .int .i64 J, .bool nv, .slice av lv cv] 37)).alloc (matO r c (.slice aa la ca)) = W1 := ⟨_, rfl⟩
  obtain ⟨b1, sz1⟩ := alloc3 w (matO r c (.slice aa la ca)) (.cells #[.int .i64 5, .int .i64 I, .int .i64 J, .bool nv, .slice av lv cv] 37) (matO r c (.slice aa la ca))
  rw [hW1] at b1 sz1
  have FIN : Hid (DnsNo w (matv r c (.slice aa la ca)) r c zs k (.returned (.tuple #[.agg #[.int .i64 (r : Int), .int .i64 (c : Int), .slice aa la ca], .bool false])) W1) :=
    ⟨rfl, M0.out.now b1, b1⟩
  have PF := hid (boxD3 (o1 := matc r c (.slice aa la ca)) (o2 := [.int .i64 5, .int .i64 I, .int .i64 J, .bool nv, .slice av lv cv]) hW1)
  have EW := hid hW1
  clear hW hW1 b0 b1 sz0 sz1 pd pa pr M0 G0 SZ PD PA PR
  go_enter Try.func9, Try.ntmps9
  go_wp2
  rw [EW.out]
  exact bodyPost_ret (mback1 Try.results9 PF.out _ (by rfl) (by rfl)) rfl FIN.out
set_option maxHeartbeats 3200000 in
set_option maxRecDepth 100000 in
theorem dense_rowneg {w : World} {va : Value} {r c k : Nat} {zs : List Int} (ha : Mc w va r c zs k) {kind I J : Int} {nv : Bool} {av : Option Addr} {lv cv : Nat} (h0 : ¬ I < 0) (h : ¬ (r : Int) ≤ I) (k5 : (kind == 5) = false) (k8 : (kind == 8) = false) (h2 : J < 0) :
    Calls Try.prog 9 #[va, .agg #[.int .i64 kind, .int .i64 I, .int .i64 J, .bool nv, .slice av lv cv]] w (DnsNo w va r c zs k) := by
  have M0 := hid ha
  obtain ⟨aa, ca, rfl, hr, hc⟩ := ha.mx.form
  generalize hla : r * c = la at *
  have HLA := hid hla
  clear hla ha
  obtain ⟨W0, hW⟩ : ∃ W0, ((w.alloc (matO r c (.slice aa la ca))).alloc (.cells #[.int .i64 kind, .int .i64 I, .int .i64 J, .bool nv, .slice av lv cv] 37)).alloc mbox = W0 := ⟨_, rfl⟩
  obtain ⟨b0, sz0⟩ := alloc3 w (matO r c (.slice aa la ca)) (.cells #[.int .i64 kind, .int .i64 I, .int .i64 J, .bool nv, .slice av lv cv] 37) mbox
  rw [hW] at b0 sz0
  obtain ⟨pd, pa, pr⟩ := boxesD (o1 := matc r c (.slice aa la ca)) (o2 := [.int .i64 kind, .int .i64 I, .int .i64 J, .bool nv, .slice av lv cv]) hW
  have PD := hid pd
  have PA := hid pa
  have PR := hid pr
  have x0 := pd.at (i := 0) rfl
  have x1 := pd.at (i := 1) rfl
  have x2 := pd.at (i := 2) rfl
  have y0 := pa.at (i := 0) rfl
  have y1 := pa.at (i := 1) rfl
  have y2 := pa.at (i := 2) rfl
  have y3 := pa.at (i := 3) rfl
  have y4 := pa.at (i := 4) rfl
  have r0 := pr.at (i := 0) rfl
  have r1 := pr.at (i := 1) rfl
  have r2 := pr.at (i := 2) rfl
  have f0 := pr.fz 0
  have f1 := pr.fz 1
  have f2 := pr.fz 2

  have G0 := hid b0
  have SZ := hid sz0
  rw [← hW] at x0 x1 x2 y0 y1 y2 y3 y4 r0 r1 r2 f0 f1 f2
  obtain ⟨W1, hW1⟩ : ∃ W1, ((w.alloc (matO r c (.slice aa la ca))).alloc (.cells #[.int .i64 kind, .int .i64 I, .int .i64 J, .bool nv, .slice av lv cv] 37)).alloc (matO r c (.slice aa la ca)) = W1 := ⟨_, rfl⟩
  obtain ⟨b1, sz1⟩ := alloc3 w (matO r c (.slice aa la ca)) (.cells #[.int .i64 kind, .int .i64 I, .int .i64 J, .bool nv, .slice av lv cv] 37) (matO r c (.slice aa la ca))
  rw [hW1] at b1 sz1
  have FIN : Hid (DnsNo w (matv r c (.slice aa la ca)) r c zs k (.returned (.tuple #[.agg #[.int .i64 (r : Int), .int .i64 (c : Int), .slice aa la ca], .bool false])) W1) :=
    ⟨rfl, M0.out.now b1, b1⟩
  have PF := hid (boxD3 (o1 := matc r c (.slice aa la ca)) (o2 := [.int .i64 kind, .int .i64 I, .int .i64 J, .bool nv, .slice av lv cv]) hW1)
  have EW := hid hW1
  clear hW hW1 b0 b1 sz0 sz1 pd pa pr M0 G0 SZ PD PA PR
  go_enter Try.func9, Try.ntmps9
  go_wp2
  rw [EW.out]
  exact bodyPost_ret (mback1 Try.results9 PF.out _ (by rfl) (by rfl)) rfl FIN.out
set_option maxHeartbeats 3200000 in
set_option maxRecDepth 100000 in
theorem dense_rowgreat {w : World} {va : Value} {r c k : Nat} {zs : List Int} (ha : Mc w va r c zs k) {kind I J : Int} {nv : Bool} {av : Option Addr} {lv cv : Nat} (h0 : ¬ I < 0) (h : ¬ (r : Int) ≤ I) (k5 : (kind == 5) = false) (k8 : (kind == 8) = false) (h1 : ¬ J < 0) (h2 : (r : Int) ≤ J) :
    Calls Try.prog 9 #[va, .agg #[.int .i64 kind, .int .i64 I, .int .i64 J, .bool nv, .slice av lv cv]] w (DnsNo w va r c zs k) := by
  have M0 := hid ha
  obtain ⟨aa, ca, rfl, hr, hc⟩ := ha.mx.form
  generalize hla : r * c = la at *
  have HLA := hid hla
  clear hla ha
  obtain ⟨W0, hW⟩ : ∃ W0, ((w.alloc (matO r c (.slice aa la ca))).alloc (.cells #[.int .i64 kind, .int .i64 I, .int .i64 J, .bool nv, .slice av lv cv] 37)).alloc mbox = W0 := ⟨_, rfl⟩
  obtain ⟨b0, sz0⟩ := alloc3 w (matO r c (.slice aa la ca)) (.cells #[.int .i64 kind, .int .i64 I, .int .i64 J, .bool nv, .slice av lv cv] 37) mbox
  rw [hW] at b0 sz0
  obtain ⟨pd, pa, pr⟩ := boxesD (o1 := matc r c (.slice aa la ca)) (o2 := [.int .i64 kind, .int .i64 I, .int .i64 J, .bool nv, .slice av lv cv]) hW
  have PD := hid pd
  have PA := hid pa
  have PR := hid pr
  have x0 := pd.at (i := 0) rfl
  have x1 := pd.at (i := 1) rfl
  have x2 := pd.at (i := 2) rfl
  have y0 := pa.at (i := 0) rfl
  have y1 := pa.at (i := 1) rfl
  have y2 := pa.at (i := 2) rfl
  have y3 := pa.at (i := 3) rfl
  have y4 := pa.at (i := 4) rfl
  have r0 := pr.at (i := 0) rfl
  have r1 := pr.at (i := 1) rfl
  have r2 := pr.at (i := 2) rfl
  have f0 := pr.fz 0
  have f1 := pr.fz 1
  have f2 := pr.fz 2

  have G0 := hid b0
  have SZ := hid sz0
  rw [← hW] at x0 x1 x2 y0 y1 y2 y3 y4 r0 r1 r2 f0 f1 f2
  obtain ⟨W1, hW1⟩ : ∃ W1, ((w.alloc (matO r c (.slice aa la ca))).alloc (.cells #[.int .i64 kind, .int .i64 I, .int .i64 J, .bool nv, .slice av lv cv] 37)).alloc (matO r c (.slice aa la ca)) = W1 := ⟨_, rfl⟩
  obtain ⟨b1, sz1⟩ := alloc3 w (matO r c (.slice aa la ca)) (.cells #[.int .i64 kind, .int .i64 I, .int .i64 J, .bool nv, .slice av lv cv] 37) (matO r c (.slice aa la ca))
  rw [hW1] at b1 sz1
  have FIN : Hid (DnsNo w (matv r c (.slice aa la ca)) r c zs k (.returned (.tuple #[.agg #[.int .i64 (r : Int), .int .i64 (c : Int), .slice aa la ca], .bool false])) W1) :=
    ⟨rfl, M0.out.now b1, b1⟩
  have PF := hid (boxD3 (o1 := matc r c (.slice aa la ca)) (o2 := [.int .i64 kind, .int .i64 I, .int .i64 J, .bool nv, .slice av lv cv]) hW1)
  have EW := hid hW1
  clear hW hW1 b0 b1 sz0 sz1 pd pa pr M0 G0 SZ PD PA PR
  go_enter Try.func9, Try.ntmps9
  go_wp2
  rw [EW.out]
  exact bodyPost_ret (mback1 Try.results9 PF.out _ (by rfl) (by rfl)) rfl FIN.out
end Go.Proofs.Ytachdicdfhfoaaa

/- Gi10 -/
namespace Go.Proofs.Ytachdicdfhfoaaa
open Go.RowKit
set_option linter.unusedVariables false

def wi10 (xs : List Int) : List Value := xs.map (Value.int .i64)
def RowI10 (w : World) (g : Nat) (L : List Value) : Prop := w.heap[g]? = some (.cells L.toArray 3 (0, 0))
theorem RowI10.lt {w : World} {g : Nat} {L : List Value} (h : RowI10 w g L) : g < w.heap.size := (Array.getElem?_eq_some_iff.1 h).1
theorem RowI10.now {w w' : World} {g : Nat} {L : List Value} (h : RowI10 w g L) (hb : Below w.heap.size w w') : RowI10 w' g L := (hb.block g h.lt).trans h
theorem RowI10.frozen {w : World} {g : Nat} {L : List Value} (h : RowI10 w g L) (i : Nat) : w.frozen? ⟨g, i, none⟩ = false := by
  unfold RowI10 at h
  simp [World.frozen?, h]
theorem RowI10.num {w : World} {g : Nat} {xs : List Int} {r : List Value} (h : RowI10 w g (wi10 xs ++ r)) {i : Nat} (hi : i < xs.length) : w.cell? ⟨g, i, none⟩ = some (.int .i64 xs[i]) := by
  unfold RowI10 at h
  have h1 : i < (wi10 xs ++ r).length := by simp [wi10]; omega
  have h2 : (wi10 xs ++ r)[i] = .int .i64 xs[i] := by
    rw [List.getElem_append_left (by simp [wi10]; exact hi)]
    simp [wi10]
  have h3 : (wi10 xs ++ r)[i]? = some (.int .i64 xs[i]) := by rw [List.getElem?_eq_getElem h1, h2]
  simpa [World.cell?, h] using h3
theorem RowI10.setNum {w : World} {g : Nat} {xs : List Int} {r : List Value} (h : RowI10 w g (wi10 xs ++ r)) {i : Nat} (hi : i < xs.length) (z : Int) : RowI10 (w.setCell ⟨g, i, none⟩ (.int .i64 z)) g (wi10 (xs.set i z) ++ r) := by
  have e : (wi10 xs ++ r).set i (.int .i64 z) = wi10 (xs.set i z) ++ r := by
    rw [List.set_append_left _ _ (by simp [wi10]; exact hi)]
    simp [wi10]
  rw [← e]
  unfold RowI10 at h ⊢
  simp [World.setCell, Array.getElem?_modify, h]
theorem RowI10.in9 {w : World} {g cap : Nat} {ds : List Int} {r : List Value} (h : RowI10 w g (wi10 ds ++ r)) (hc : ds.length ≤ cap) (hl : ds.length ≤ 1048576) : In9 w (.slice (some ⟨g, 0, none⟩) ds.length cap) ds :=
  ⟨_, cap, rfl, hc, hl, .inr ⟨g, 0, rfl, h.lt, fun j hj => by rw [Nat.zero_add]; exact h.num hj⟩⟩
theorem Try.infoI10 : (Try.prog.info? 3).map (fun i => (i.zero, i.size, i.bytes)) = some (some (.int .i64 0), 1, 8) := by kernel_rfl
def Itr10 (B : Nat) (w : World) (v : Value) (ds : List Int) : Prop := w.ownsRow B 3 1 v ds.length (wi10 ds)
theorem Itr10.nil (B : Nat) (w : World) : Itr10 B w (.slice none 0 0) [] := World.ownsRow_nil _ _ _ _
theorem Itr10.now {B : Nat} {w w' : World} {v : Value} {ds : List Int} (h : Itr10 B w v ds) (hb : Below w.heap.size w w') : Itr10 B w' v ds := by
  obtain ⟨q1, q2 | ⟨g, cap, cur, q2, q3, q4, q5⟩⟩ := h
  · exact ⟨q1, .inl q2⟩
  · exact ⟨q1, .inr ⟨g, cap, cur, q2, q3, (hb.block g (Array.getElem?_eq_some_iff.1 q4).1).trans q4, q5⟩⟩
theorem Itr10.off {B g i : Nat} {w : World} {v u : Value} {ds : List Int} (h : Itr10 B w v ds) (hg : g < B) : Itr10 B (w.setCell ⟨g, i, none⟩ u) v ds := by
  obtain ⟨q1, q2 | ⟨g', cap, cur, q2, q3, q4, q5⟩⟩ := h
  · exact ⟨q1, .inl q2⟩
  · exact ⟨q1, .inr ⟨g', cap, cur, q2, q3, (Below.heap_setCell w _ u g' (by simp; omega)).trans q4, q5⟩⟩
theorem Itr10.row {B : Nat} {w : World} {v : Value} {ds : List Int} (h : Itr10 B w v ds) (hn : 0 < ds.length) : ∃ g cap rest, v = .slice (some ⟨g, 0, none⟩) ds.length cap ∧ B ≤ g ∧ RowI10 w g (wi10 ds ++ rest) ∧ ds.length ≤ cap := by
  obtain ⟨q1, ⟨q2, q3⟩ | ⟨g, cap, cur, q2, q3, q4, q5, q6, q7, q8⟩⟩ := h
  · omega
  · rw [Nat.mul_one] at q7 q8
    refine ⟨g, cap, cur.toList.drop ds.length, q2, q3, ?_, q5⟩
    unfold RowI10
    rw [← q8, List.take_append_drop]
    simpa using q4
theorem Itr10.in9 {B : Nat} {w : World} {v : Value} {ds : List Int} (h : Itr10 B w v ds) (hl : ds.length ≤ 1048576) : In9 w v ds := by
  by_cases hn : 0 < ds.length
  · obtain ⟨g, cap, rest, rfl, _, q, qc⟩ := h.row hn
    exact q.in9 qc hl
  · obtain rfl : ds = [] := List.eq_nil_of_length_eq_zero (by omega)
    obtain ⟨q1, ⟨q2, q3⟩ | ⟨g, cap, cur, q2, _, _, q5, _⟩⟩ := h
    · subst q2
      exact ⟨none, 0, rfl, Nat.le_refl _, hl, .inl rfl⟩
    · subst q2
      exact ⟨_, cap, rfl, Nat.zero_le _, hl, .inl rfl⟩
theorem head_add10 (g j : Nat) : (⟨g, 0, none⟩ : Addr).add j = ⟨g, j, none⟩ := by unfold Addr.add; split <;> simp_all
theorem wpList_append_itr10 (w : World) {ops : Array Oper} {rest : List Oper} {o : Oper} {a : Act} {Q : Exit → Act → World → Prop}
    (hgd : o.guard = none) (s x : Operand) (hop : o.op = .call { callee := .builtin .append, args := #[s, x], argTypes := #[75, 75] })
    (B : Nat) (v : Value) (L : List Int) (c : Int) (hs : a.eval s = v) (hB : Itr10 B w v L) (g : Nat) (hx : a.eval x = .slice (some ⟨g, 0, none⟩) 1 1) (hc : w.cell? ⟨g, 0, none⟩ = some (.int .i64 c)) (hlen : L.length ≤ 1000000000) (hBs : B ≤ w.heap.size)
    (hK : ∀ a' cap' w', Hid (Itr10 B w' (.slice a' (L.length + 1) cap') (L ++ [c])) → Hid (Below B w w') → wpList Try.prog ops Q rest (a.put o.dst (.slice a' (L.length + 1) cap')) w') :
    wpList Try.prog ops Q (o :: rest) a w := by
  obtain ⟨i, hi, hz, hsz, hby⟩ := info_parts Try.infoI10
  refine wpList_append_lies w hgd s x 75 hop B 3 i (.int .i64 0) 1 8 Try.underlying75 hi hz hsz hby rfl (by omega) v L.length (wi10 L) hs hB ⟨g, 0, none⟩ 1 1 [.int .i64 c] hx rfl ?_ ?_ (by omega) (by unfold maxLen; omega) (by omega) hBs w.heap.size rfl ?_
  · intro j u' hj
    match j, hj with
    | 0, hj => simp at hj; subst hj; rw [head_add10]; exact hc
  · intro u' hu'
    simp at hu'
    subst hu'
    rfl
  · intro g' cap' w' k1 k2 k3 k4
    refine hK _ _ w' ?_ ?_
    · unfold Hid Itr10
      have e : wi10 (L ++ [c]) = wi10 L ++ [.int .i64 c] := by simp [wi10]
      rw [e, List.length_append, List.length_singleton]
      exact k1
    · refine ⟨k2.os, k2.tape, k2.output, k2.size, fun k hk => k2.block k (by omega) (fun e => ?_)⟩
      obtain ⟨_, ⟨q, _⟩ | ⟨g1, cap1, cur, q, q3, _⟩⟩ := hB
      · rw [q] at e; cases e
      · rw [q] at e
        obtain rfl : k = g1 := by simpa [Value.ownBlock] using e
        omega
/-- The places 0, 1, .. gathered as far as t. -/
def GthH (W : World) (n gk : Nat) (s12 s14 : Value) (wx : World) : Prop := ∃ (t : Nat) (a : Option Addr) (cap : Nat), gk = n - t ∧ s12 = .slice a t cap ∧ s14 = .int .i64 (t : Int) ∧ t ≤ n ∧ Itr10 W.heap.size wx (.slice a t cap) (natv (List.range t)) ∧ Below W.heap.size W wx
theorem gth_start (W : World) (n : Nat) : GthH W n n (.slice none 0 0) (.int .i64 0) W := ⟨0, none, 0, rfl, rfl, rfl, Nat.zero_le _, Itr10.nil _ _, Below.refl _ _⟩
theorem natv_succ (t : Nat) : natv (List.range t) ++ [(t : Int)] = natv (List.range (t + 1)) := by simp [natv, List.range_succ]
/-- All places, two of them swapped. -/
def swN (r i j : Nat) : List Nat := ((List.range r).set i j).set j i
theorem swN_length (r i j : Nat) : (swN r i j).length = r := by simp [swN]
theorem swN_below {r i j : Nat} (hi : i < r) (hj : j < r) : ∀ x ∈ swN r i j, x < r := fun x hx => by
  unfold swN at hx
  rcases List.mem_or_eq_of_mem_set hx with h | h
  · rcases List.mem_or_eq_of_mem_set h with h | h
    · simpa using h
    · omega
  · omega
theorem swN_natv (r i j : Nat) : ((natv (List.range r)).set i (j : Int)).set j (i : Int) = natv (swN r i j) := by simp [natv, swN]
end Go.Proofs.Ytachdicdfhfoaaa
