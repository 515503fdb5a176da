/-
  QDnsN10ToActC10: DnsN10, ActP10, ActC10, joined.
-/
import Derived.Test.YtachdicdfhfoaaaQDnsP10
import Derived.Test.YtachdicdfhfoaaaQDnsS10
import Derived.Test.YtachdicdfhfoaaaQTurn10ToRingP10
import Derived.Test.YtachdicdfhfoaaaQAddRow10
import Derived.Test.YtachdicdfhfoaaaQSetZ10

/- DnsN10 -/
namespace Go.Proofs.Ytachdicdfhfoaaa
open Go.RowKit
set_option linter.unusedVariables false

theorem place_inj {n i t a b : Nat} (ht : t < n) (hb : b < n) : i * n + t = a * n + b ↔ i = a ∧ t = b := by
  constructor
  · intro h
    have h1 : (i * n + t) / n = i := by rw [Nat.mul_comm, Nat.mul_add_div (by omega), Nat.div_eq_of_lt ht]; rfl
    have h2 : (a * n + b) / n = a := by rw [Nat.mul_comm, Nat.mul_add_div (by omega), Nat.div_eq_of_lt hb]; rfl
    have e : i = a := by rw [← h1, ← h2, h]
    subst e
    exact ⟨rfl, by omega⟩
  · rintro ⟨rfl, rfl⟩; rfl
theorem set_at {zs : List Int} {t u : Nat} {z : Int} (hu : u < zs.length) : (zs.set t z).getD u 0 = if u = t then z else zs.getD u 0 := by
  have h : u < (zs.set t z).length := by simpa using hu
  have e1 : (zs.set t z).getD u 0 = (zs.set t z)[u] := by simp [hu]
  have e2 : zs.getD u 0 = zs[u] := by simp [hu]
  rw [e1, e2, List.getElem_set]
  by_cases q : t = u
  · subst q; simp
  · rw [if_neg q, if_neg (fun e => q e.symm)]
theorem dn_set {r c i j : Nat} {F : Nat → Nat → Int} {z : Int} (hi : i < r) (hj : j < c) : (dnL r c F).set (i * c + j) z = dnL r c (setF F (i, j) z) := by
  refine mat_ext (by rw [List.length_set, dnL_length]) (dnL_length _ _ _) (fun a b ha hb => ?_)
  rw [set_at (by rw [dnL_length]; exact place_lt ha hb), dn_at ha hb, dn_at ha hb]
  unfold setF
  by_cases q : a = i ∧ b = j
  · obtain ⟨rfl, rfl⟩ := q
    simp
  · rw [if_neg (fun e => q ((place_inj hb hj).1 e)), if_neg (fun e => q (by simpa using e))]
theorem unitV_len (n t : Nat) (z : Int) : (unitV n t z).length = n * n := by unfold unitV; rw [List.length_set, unitL_length]
theorem unitV_at {n i j a t : Nat} {z : Int} (hi : i < n) (hj : j < n) (ha : a < n) (ht : t < n) : (unitV n (i * n + j) z).getD (a * n + t) 0 = (if t = a then 1 else 0) + (if t = j then (if a = i then z else 0) else 0) := by
  unfold unitV
  rw [set_at (by rw [unitL_length]; exact place_lt ha ht), unit_at ha ht]
  by_cases q : a = i ∧ t = j
  · obtain ⟨rfl, rfl⟩ := q
    rw [if_pos rfl, unit_at ha ht, if_pos rfl, if_pos rfl]
  · rw [if_neg (fun e => q ((place_inj ht hj).1 e))]
    by_cases q1 : t = j
    · rw [if_pos q1, if_neg (fun e => q ⟨e, q1⟩)]
      omega
    · rw [if_neg q1]
      omega
theorem dn_row {r c i j : Nat} {F : Nat → Nat → Int} {x : Int} (hi : i < r) (hj : j < r) : prodL r r c (unitV r (i * r + j) x) (dnL r c F) = dnL r c (arF F i j x) := by
  refine mat_ext prodL_length (dnL_length _ _ _) (fun a b ha hb => ?_)
  rw [prod_at (unitV_len _ _ _) ha hb, dn_at ha hb]
  have e : sumN r (fun t => (unitV r (i * r + j) x).getD (a * r + t) 0 * (dnL r c F).getD (t * c + b) 0) = sumN r (fun t => (if t = a then F t b else 0) + (if t = j then (if a = i then x else 0) * F t b else 0)) := sumN_congr fun t ht => by
    rw [unitV_at hi hj ha ht, dn_at ht hb, Int.add_mul]
    congr 1
    · by_cases q : t = a
      · rw [if_pos q, if_pos q, Int.one_mul]
      · rw [if_neg q, if_neg q, Int.zero_mul]
    · by_cases q : t = j
      · rw [if_pos q, if_pos q]
      · rw [if_neg q, if_neg q, Int.zero_mul]
  rw [e, sumN_add, sumN_one ha (fun t => F t b), sumN_one hj (fun t => (if a = i then x else 0) * F t b)]
  unfold arF
  by_cases q : a = i
  · subst q; rw [if_pos rfl, if_pos rfl]
  · rw [if_neg q, if_neg q, Int.zero_mul, Int.add_zero]
theorem dn_clear {r c i : Nat} {F : Nat → Nat → Int} (hi : i < r) : prodL r r c (unitV r (i * r + i) (-1)) (dnL r c F) = dnL r c (fun i' j => if i' = i then 0 else F i' j) := by
  rw [dn_row hi hi]
  refine mat_ext (dnL_length _ _ _) (dnL_length _ _ _) (fun a b ha hb => ?_)
  rw [dn_at ha hb, dn_at ha hb]
  unfold arF
  by_cases q : a = i
  · rw [if_pos q, if_pos q]; omega
  · rw [if_neg q, if_neg q]
theorem setN_at {ns : List Nat} {t u z : Nat} (hu : u < ns.length) : (ns.set t z).getD u 0 = if u = t then z else ns.getD u 0 := by
  have h : u < (ns.set t z).length := by simpa using hu
  have e1 : (ns.set t z).getD u 0 = (ns.set t z)[u] := by simp [hu]
  have e2 : ns.getD u 0 = ns[u] := by simp [hu]
  rw [e1, e2, List.getElem_set]
  by_cases q : t = u
  · subst q; simp
  · rw [if_neg q, if_neg (fun e => q e.symm)]
theorem swN_at {r i j a : Nat} (hi : i < r) (hj : j < r) (ha : a < r) : (swN r i j).getD a 0 = if a = i then j else if a = j then i else a := by
  unfold swN
  rw [setN_at (by simp; exact ha), setN_at (by simp; exact ha)]
  have e : (List.range r).getD a 0 = a := by simp [ha]
  rw [e]
  by_cases q : a = i
  · rw [if_pos q]
    by_cases q2 : a = j
    · rw [if_pos q2, if_pos q]; omega
    · rw [if_neg q2, if_pos q]
  · rw [if_neg q, if_neg q]
theorem rows_at {r c a b : Nat} {zs : List Int} (hl : zs.length = r * c) (ha : a < r) (hb : b < c) : ent9 (rowsL r c zs) a b = zs.getD (a * c + b) 0 := by
  unfold ent9
  have e : (rowsL r c zs).getD a [] = (zs.drop (a * c)).take c := by
    have h := rowsL_at (c := c) (ps := zs) ha
    simp [h]
  rw [e]
  have hp := place_lt ha hb
  simp [hb]
theorem pick_at {r c i j a b : Nat} {zs : List Int} (hl : zs.length = r * c) (hi : i < r) (hj : j < r) (ha : a < r) (hb : b < c) : (pickL r c zs (swN r i j) (List.range c)).getD (a * c + b) 0 = zs.getD ((swN r i j).getD a 0 * c + b) 0 := by
  unfold pickL
  rw [flat_getD hb (by intro x hx; unfold pickR at hx; simp only [List.mem_map] at hx; obtain ⟨row, _, rfl⟩ := hx; simp) (by simp [pickR, swN_length, ha])]
  have hs : a < (swN r i j).length := by rw [swN_length]; exact ha
  have e2 : (swN r i j).getD a 0 = (swN r i j)[a] := by simp [hs]
  have hb2 : (swN r i j)[a] < r := swN_below hi hj _ (List.getElem_mem hs)
  have e : (pickR (rowsL r c zs) (swN r i j) (List.range c)).getD a [] = (List.range c).map (ent9 (rowsL r c zs) (swN r i j)[a]) := by simp [pickR, hs]
  rw [e, e2, ← rows_at hl hb2 hb]
  simp [hb]
theorem dn_swap {r c i j : Nat} {F : Nat → Nat → Int} (hi : i < r) (hj : j < r) : pickL r c (dnL r c F) (swN r i j) (List.range c) = dnL r c (swF F i j) := by
  refine mat_ext (by unfold pickL; rw [pickR_len, swN_length, List.length_range]) (dnL_length _ _ _) (fun a b ha hb => ?_)
  rw [pick_at (dnL_length _ _ _) hi hj ha hb, dn_at ha hb, swN_at hi hj ha]
  unfold swF
  by_cases q : a = i
  · rw [if_pos q, if_pos q, dn_at hj hb]
  · rw [if_neg q, if_neg q]
    by_cases q2 : a = j
    · rw [if_pos q2, if_pos q2, dn_at hi hb]
    · rw [if_neg q2, if_neg q2, dn_at ha hb]
theorem swF_self (F : Nat → Nat → Int) (i : Nat) : swF F i i = F := by
  funext a b
  unfold swF
  by_cases q : a = i
  · rw [if_pos q, q]
  · rw [if_neg q, if_neg q]
theorem dn_of {r c : Nat} {zs : List Int} (hl : zs.length = r * c) : dnL r c (ofF c zs (r * c)) = zs := by
  refine mat_ext (dnL_length _ _ _) hl (fun a b ha hb => ?_)
  rw [dn_at ha hb, of_at ha hb]
end Go.Proofs.Ytachdicdfhfoaaa

/- ActP10 -/
namespace Go.Proofs.Ytachdicdfhfoaaa
open Go.RowKit
set_option linter.unusedVariables false

/-- No part of a grid's own cells. -/
def NotG (v : Value) : Prop := (∀ i, v ≠ .int .i64 i) ∧ ∀ m, v ≠ .map m
theorem Gf.cell {w w' : World} {g b r c k y o : Nat} {F : Nat → Nat → Int} {v : Value} (h : Gf g b w w') (q : Gq w g b r c F k) (hv : NotG v) (hc : w.cell? ⟨y, o, none⟩ = some v) : w'.cell? ⟨y, o, none⟩ = some v := by
  obtain ⟨f, n, h1, ⟨es, cl, h2, -⟩, -, -⟩ := q
  have hg : w.heap[g]? = some (.cells #[.int .i64 (r : Int), .int .i64 (c : Int), .map (some b)] 68 (0, 0)) := h1.1
  have hy : y < w.heap.size := World.block_lt_of_cell? w _ hc
  have n1 : y ≠ g := fun e => by
    subst e
    simp only [World.cell?, hg] at hc
    match o, hc with
    | 0, hc => simp at hc; exact hv.1 _ hc.symm
    | 1, hc => simp at hc; exact hv.1 _ hc.symm
    | 2, hc => simp at hc; exact hv.2 _ hc.symm
    | o + 3, hc => simp at hc
  have n2 : y ≠ b := fun e => by
    subst e
    simp [World.cell?, h2] at hc
  rw [World.cell?_of_block (h.block y hy n1 n2)]
  exact hc
theorem Gf.wk {w w' : World} {g b r c k : Nat} {F : Nat → Nat → Int} (h : Gf g b w w') (q : Gq w g b r c F k) : Wk w w' :=
  ⟨h.size, fun y o x e => h.cell q ⟨fun i => (by simp), fun m => (by simp)⟩ e⟩
theorem Mc.gf {w w' : World} {g b r c k r' c' k' : Nat} {F : Nat → Nat → Int} {v : Value} {zs : List Int} (m : Mc w v r' c' zs k') (h : Gf g b w w') (q : Gq w g b r c F k) : Mc w' v r' c' zs k' := by
  obtain ⟨at_, ps, h1, h2, h3, h4⟩ := m
  refine ⟨at_, ps, h1, ?_, h3.wk (h.wk q), h4⟩
  obtain ⟨a', cc, e1, e2, e3, e4, e5⟩ := h2
  refine ⟨a', cc, e1, e2, e3, e4, ?_⟩
  rcases e5 with e5 | ⟨b', off, e6, e7, e8, e9⟩
  · exact .inl e5
  · refine .inr ⟨b', off, e6, e7, Nat.lt_of_lt_of_le e8 h.size, fun j p hp => ?_⟩
    have hz : zs[j]? = some (zs[j]'(by rw [← h3.1]; exact (List.getElem?_eq_some_iff.1 hp).1)) := List.getElem?_eq_getElem _
    obtain ⟨n1, a1, l1, c1, e⟩ := (h3.2 j p _ hp hz).zi.isI
    obtain ⟨q1, q2⟩ := e9 j p hp
    rw [show p.1 = .bool n1 by rw [Prod.mk.injEq] at e; exact e.1] at q1 ⊢
    rw [show p.2 = .slice a1 l1 c1 by rw [Prod.mk.injEq] at e; exact e.2] at q2 ⊢
    exact ⟨h.cell q ⟨fun i => (by simp), fun m => (by simp)⟩ q1, h.cell q ⟨fun i => (by simp), fun m => (by simp)⟩ q2⟩
theorem Gf.cel {w w' : World} {g b r c k x : Nat} {F : Nat → Nat → Int} {t : TypeId} {L : List Value} (h : Gf g b w w') (q : Gq w g b r c F k) (d : Cel w x t L) (ht : t ≠ 68) : Cel w' x t L := by
  obtain ⟨f, n, h1, ⟨es, cl, h2, -⟩, -, -⟩ := q
  have n1 : x ≠ g := fun e => by
    subst e
    have := (show w.heap[x]? = _ from d).symm.trans h1.1
    simp only [Option.some.injEq, Obj.cells.injEq] at this
    exact ht this.2.1
  have n2 : x ≠ b := fun e => by
    subst e
    have := (show w.heap[x]? = _ from d).symm.trans h2
    simp at this
  exact (h.block x (Array.getElem?_eq_some_iff.1 (show w.heap[x]? = _ from d)).1 n1 n2).trans d
theorem Gf.low {w0 w w' : World} {g b : Nat} (h : Gf g b w w') (hb : Below w0.heap.size w0 w) (hg : w0.heap.size ≤ g) (hb' : w0.heap.size ≤ b) : Below w0.heap.size w0 w' :=
  ⟨h.os.trans hb.os, h.tape.trans hb.tape, h.output.trans hb.output, Nat.le_trans hb.size h.size, fun y hy => (h.block y (Nat.lt_of_lt_of_le hy hb.size) (by omega) (by omega)).trans (hb.block y hy)⟩
/-- A list of acts. -/
def Acts10 (w : World) (a : Option Addr) (len cap : Nat) : Prop :=
  len ≤ cap ∧ len ≤ 1048576 ∧ (len = 0 ∨ ∃ b off, a = some ⟨b, off, none⟩ ∧ b < w.heap.size ∧ ∀ t, t < len → ∃ (kind I J : Int) (nv : Bool) (av : Option Addr) (lv cv : Nat) (z : Int),
    w.cell? ⟨b, off + t * 5, none⟩ = some (.int .i64 kind) ∧ w.cell? ⟨b, off + t * 5 + 1, none⟩ = some (.int .i64 I) ∧ w.cell? ⟨b, off + t * 5 + 2, none⟩ = some (.int .i64 J) ∧ w.cell? ⟨b, off + t * 5 + 3, none⟩ = some (.bool nv) ∧ w.cell? ⟨b, off + t * 5 + 4, none⟩ = some (.slice av lv cv) ∧ Zi w (.agg #[.bool nv, .slice av lv cv]) z 1048576)
theorem Acts10.now {w w' : World} {a : Option Addr} {len cap : Nat} (h : Acts10 w a len cap) (hb : Below w.heap.size w w') : Acts10 w' a len cap := by
  obtain ⟨h1, h2, h3⟩ := h
  refine ⟨h1, h2, ?_⟩
  rcases h3 with h3 | ⟨b, off, h4, h5, h6⟩
  · exact .inl h3
  · refine .inr ⟨b, off, h4, Nat.lt_of_lt_of_le h5 hb.size, fun t ht => ?_⟩
    obtain ⟨kind, I, J, nv, av, lv, cv, z, c0, c1, c2, c3, c4, hz⟩ := h6 t ht
    exact ⟨kind, I, J, nv, av, lv, cv, z, (hb.cell (p := ⟨b, off + t * 5, none⟩) h5).trans c0, (hb.cell (p := ⟨b, off + t * 5 + 1, none⟩) h5).trans c1, (hb.cell (p := ⟨b, off + t * 5 + 2, none⟩) h5).trans c2, (hb.cell (p := ⟨b, off + t * 5 + 3, none⟩) h5).trans c3, (hb.cell (p := ⟨b, off + t * 5 + 4, none⟩) h5).trans c4, hz.now hb⟩
end Go.Proofs.Ytachdicdfhfoaaa

/- ActC10 -/
namespace Go.Proofs.Ytachdicdfhfoaaa
open Go.RowKit
set_option linter.unusedVariables false

theorem Mc.more10 {w : World} {v : Value} {r c : Nat} {zs : List Int} {k l : Nat} (h : Mc w v r c zs k) (hl : k ≤ l) : Mc w v r c zs l := by
  obtain ⟨at_, ps, h1, h2, h3, h4⟩ := h
  exact ⟨at_, ps, h1, h2, h3.more hl, h4⟩
/-- What dense answers: o: the matrix behind the act, or none. -/
def DnsO (w : World) (r c : Nat) (F : Nat → Nat → Int) (o : Option (Nat → Nat → Int)) (k : Nat) (e : Ending) (w' : World) : Prop :=
  ∃ a q, e = .returned (.tuple #[matv r c (.slice a (r * c) q), .bool o.isSome]) ∧ Mc w' (matv r c (.slice a (r * c) q)) r c (dnL r c (o.getD F)) k ∧ Below w.heap.size w w'
def GrdO (w : World) (g b r c : Nat) (F : Nat → Nat → Int) (o : Option (Nat → Nat → Int)) (k : Nat) (e : Ending) (w' : World) : Prop :=
  ∃ b', e = .returned (.int .i64 (if o.isSome then 0 else 3)) ∧ Gq w' g b' r c (o.getD F) k ∧ (b' = b ∨ w.heap.size ≤ b') ∧ Gf g b w w'
theorem dnsNo_o {w w' : World} {va : Value} {r c k l : Nat} {F : Nat → Nat → Int} {e : Ending} (h : DnsNo w va r c (dnL r c F) k e w') (hl : k ≤ l) : DnsO w r c F none l e w' := by
  obtain ⟨rfl, m, b⟩ := h
  obtain ⟨a, q, rfl, -, -⟩ := m.mx.form
  exact ⟨a, q, rfl, m.more10 hl, b⟩
theorem dnsYes_o {w w' : World} {r c k l : Nat} {F F' : Nat → Nat → Int} {zs : List Int} {e : Ending} (h : DnsYes w r c zs k e w') (hz : zs = dnL r c F') (hl : k ≤ l) : DnsO w r c F (some F') l e w' := by
  obtain ⟨v, rfl, m, b⟩ := h
  subst hz
  obtain ⟨a, q, rfl, -, -⟩ := m.mx.form
  exact ⟨a, q, rfl, m.more10 hl, b⟩
theorem says_o {w w' : World} {g b r c k l : Nat} {F : Nat → Nat → Int} {e : Ending} (h : Says w (.int .i64 3) e w') (q : Gq w g b r c F k) (hl : k ≤ l) : GrdO w g b r c F none l e w' := by
  obtain ⟨rfl, hb⟩ := h
  exact ⟨b, rfl, (q.now hb).more hl, .inl rfl, .below hb⟩
theorem still_o {w w' : World} {g b r c k l : Nat} {F : Nat → Nat → Int} {e : Ending} (h : Still w (.int .i64 3) e w') (q : Gq w g b r c F k) (hl : k ≤ l) : GrdO w g b r c F none l e w' := by
  obtain ⟨rfl, rfl⟩ := h
  exact ⟨b, rfl, q.more hl, .inl rfl, .below (Below.refl _ _)⟩
theorem done_o {w w' : World} {g b r c k l : Nat} {F F' : Nat → Nat → Int} {e : Ending} (h : Doneg w g b r c F' k e w') (hl : k ≤ l) : GrdO w g b r c F (some F') l e w' := by
  obtain ⟨b', rfl, q, hb, hf⟩ := h
  exact ⟨b', rfl, q.more hl, hb, hf⟩
theorem in_nat {x : Int} {n : Nat} (h0 : ¬ x < 0) (h1 : ¬ (n : Int) ≤ x) : ∃ i : Nat, x = (i : Int) ∧ i < n := ⟨x.toNat, by omega, by omega⟩
/-- A kind that is none of the four: the matrix may be another, or none. -/
def DnsX (w : World) (e : Ending) (w' : World) : Prop := ∃ (x y : Int) (a : Option Addr) (l q : Nat) (ok : Bool), e = .returned (.tuple #[.agg #[.int .i64 x, .int .i64 y, .slice a l q], .bool ok]) ∧ Below w.heap.size w w'
section
variable {r c : Nat} {I J : Int} {nv : Bool} {av : Option Addr} {lv cv : Nat} {z : Int}
theorem act_set (hr : r ≤ 64) (hc : c ≤ 64) (F : Nat → Nat → Int) : ∃ o : Option (Nat → Nat → Int),
    (∀ w va k, Mc w va r c (dnL r c F) k → k < 17592186044416 → Zi w (.agg #[.bool nv, .slice av lv cv]) z 1048576 → Calls Try.prog 9 #[va, .agg #[.int .i64 5, .int .i64 I, .int .i64 J, .bool nv, .slice av lv cv]] w (DnsO w r c F o (k + 1048700))) ∧
    (∀ w g b k, Gq w g b r c F k → k < 17592186044416 → Zi w (.agg #[.bool nv, .slice av lv cv]) z 1048576 → Calls Try.prog 10 #[.pointer (some ⟨g, 0, none⟩), .int .i64 I, .int .i64 J, .agg #[.bool nv, .slice av lv cv]] w (GrdO w g b r c F o (k + 1048700))) := by
  by_cases i0 : I < 0
  · exact ⟨none, fun w va k m hk hz => (dense_neg m i0).mono fun e w' h => dnsNo_o h (by omega), fun w g b k q hk hz => (set_noplace q.gd (.inl i0)).mono fun e w' h => says_o h q (by omega)⟩
  by_cases i1 : (r : Int) ≤ I
  · exact ⟨none, fun w va k m hk hz => (dense_great m i0 i1).mono fun e w' h => dnsNo_o h (by omega), fun w g b k q hk hz => (set_noplace q.gd (.inr (.inl i1))).mono fun e w' h => says_o h q (by omega)⟩
  by_cases j0 : J < 0
  · exact ⟨none, fun w va k m hk hz => (dense_setneg m i0 i1 j0).mono fun e w' h => dnsNo_o h (by omega), fun w g b k q hk hz => (set_noplace q.gd (.inr (.inr (.inl j0)))).mono fun e w' h => says_o h q (by omega)⟩
  by_cases j1 : (c : Int) ≤ J
  · exact ⟨none, fun w va k m hk hz => (dense_setgreat m i0 i1 j0 j1).mono fun e w' h => dnsNo_o h (by omega), fun w g b k q hk hz => (set_noplace q.gd (.inr (.inr (.inr j1)))).mono fun e w' h => says_o h q (by omega)⟩
  obtain ⟨i, rfl, hi⟩ := in_nat i0 i1
  obtain ⟨j, rfl, hj⟩ := in_nat j0 j1
  exact ⟨some (setF F (i, j) z), fun w va k m hk hz => (dense_set m hi hj hz).mono fun e w' h => dnsYes_o h (dn_set hi hj) (by omega), fun w g b k q hk hz => (set_gq q hz hi hj hr hc).mono fun e w' h => done_o h (by omega)⟩
theorem act_row (hr : r ≤ 64) (hc : c ≤ 64) (F : Nat → Nat → Int) : ∃ o : Option (Nat → Nat → Int),
    (∀ w va k, Mc w va r c (dnL r c F) k → k < 17592186044416 → Zi w (.agg #[.bool nv, .slice av lv cv]) z 1048576 → Calls Try.prog 9 #[va, .agg #[.int .i64 6, .int .i64 I, .int .i64 J, .bool nv, .slice av lv cv]] w (DnsO w r c F o (k + 1048700))) ∧
    (∀ w g b k, Gq w g b r c F k → k < 17592186044416 → Zi w (.agg #[.bool nv, .slice av lv cv]) z 1048576 → Calls Try.prog 11 #[.pointer (some ⟨g, 0, none⟩), .int .i64 I, .int .i64 J, .agg #[.bool nv, .slice av lv cv]] w (GrdO w g b r c F o (k + 1048700))) := by
  by_cases i0 : I < 0
  · exact ⟨none, fun w va k m hk hz => (dense_neg m i0).mono fun e w' h => dnsNo_o h (by omega), fun w g b k q hk hz => (addRow_no1 q.gd (.inl i0)).mono fun e w' h => says_o h q (by omega)⟩
  by_cases i1 : (r : Int) ≤ I
  · exact ⟨none, fun w va k m hk hz => (dense_great m i0 i1).mono fun e w' h => dnsNo_o h (by omega), fun w g b k q hk hz => (addRow_no1 q.gd (.inr i1)).mono fun e w' h => says_o h q (by omega)⟩
  obtain ⟨i, rfl, hi⟩ := in_nat i0 i1
  by_cases j0 : J < 0
  · exact ⟨none, fun w va k m hk hz => (dense_rowneg m i0 i1 rfl rfl j0).mono fun e w' h => dnsNo_o h (by omega), fun w g b k q hk hz => (addRow_no2 q.gd hi (.inl j0)).mono fun e w' h => says_o h q (by omega)⟩
  by_cases j1 : (r : Int) ≤ J
  · exact ⟨none, fun w va k m hk hz => (dense_rowgreat m i0 i1 rfl rfl j0 j1).mono fun e w' h => dnsNo_o h (by omega), fun w g b k q hk hz => (addRow_no2 q.gd hi (.inr j1)).mono fun e w' h => says_o h q (by omega)⟩
  obtain ⟨j, rfl, hj⟩ := in_nat j0 j1
  exact ⟨some (arF F i j z), fun w va k m hk hz => (dense_addrow m hi hj hz (by omega) (by omega)).mono fun e w' h => dnsYes_o h (dn_row hi hj) (by omega), fun w g b k q hk hz => (addRow_yes q hz hi hj hr hc (by omega)).mono fun e w' h => done_o h (by omega)⟩
theorem act_swap (hr : r ≤ 64) (hc : c ≤ 64) (F : Nat → Nat → Int) : ∃ o : Option (Nat → Nat → Int),
    (∀ w va k, Mc w va r c (dnL r c F) k → k < 17592186044416 → Zi w (.agg #[.bool nv, .slice av lv cv]) z 1048576 → Calls Try.prog 9 #[va, .agg #[.int .i64 7, .int .i64 I, .int .i64 J, .bool nv, .slice av lv cv]] w (DnsO w r c F o (k + 1048700))) ∧
    (∀ w g b k, Gq w g b r c F k → k < 17592186044416 → Calls Try.prog 12 #[.pointer (some ⟨g, 0, none⟩), .int .i64 I, .int .i64 J] w (GrdO w g b r c F o (k + 1048700))) := by
  by_cases i0 : I < 0
  · exact ⟨none, fun w va k m hk hz => (dense_neg m i0).mono fun e w' h => dnsNo_o h (by omega), fun w g b k q hk => (swap_no1 q.gd (.inl i0)).mono fun e w' h => still_o h q (by omega)⟩
  by_cases i1 : (r : Int) ≤ I
  · exact ⟨none, fun w va k m hk hz => (dense_great m i0 i1).mono fun e w' h => dnsNo_o h (by omega), fun w g b k q hk => (swap_no1 q.gd (.inr i1)).mono fun e w' h => still_o h q (by omega)⟩
  obtain ⟨i, rfl, hi⟩ := in_nat i0 i1
  by_cases j0 : J < 0
  · exact ⟨none, fun w va k m hk hz => (dense_rowneg m i0 i1 rfl rfl j0).mono fun e w' h => dnsNo_o h (by omega), fun w g b k q hk => (swap_no2 q.gd hi (.inl j0)).mono fun e w' h => still_o h q (by omega)⟩
  by_cases j1 : (r : Int) ≤ J
  · exact ⟨none, fun w va k m hk hz => (dense_rowgreat m i0 i1 rfl rfl j0 j1).mono fun e w' h => dnsNo_o h (by omega), fun w g b k q hk => (swap_no2 q.gd hi (.inr j1)).mono fun e w' h => still_o h q (by omega)⟩
  obtain ⟨j, rfl, hj⟩ := in_nat j0 j1
  refine ⟨some (swF F i j), fun w va k m hk hz => (dense_pick m hi hj rfl rfl rfl).mono fun e w' h => dnsYes_o h (dn_swap hi hj) (by omega), fun w g b k q hk => ?_⟩
  by_cases e : i = j
  · subst e
    rw [swF_self]
    exact (swap_self q hi).mono fun e w' h => done_o h (by omega)
  · exact (swap_yes q hi hj e).mono fun e w' h => done_o h (by omega)
theorem act_clear (hr : r ≤ 64) (hc : c ≤ 64) (F : Nat → Nat → Int) : ∃ o : Option (Nat → Nat → Int),
    (∀ w va k, Mc w va r c (dnL r c F) k → k < 17592186044416 → Zi w (.agg #[.bool nv, .slice av lv cv]) z 1048576 → Calls Try.prog 9 #[va, .agg #[.int .i64 8, .int .i64 I, .int .i64 J, .bool nv, .slice av lv cv]] w (DnsO w r c F o (k + 1048700))) ∧
    (∀ w g b k, Gq w g b r c F k → k < 17592186044416 → Calls Try.prog 13 #[.pointer (some ⟨g, 0, none⟩), .int .i64 I] w (GrdO w g b r c F o (k + 1048700))) := by
  by_cases i0 : I < 0
  · exact ⟨none, fun w va k m hk hz => (dense_neg m i0).mono fun e w' h => dnsNo_o h (by omega), fun w g b k q hk => (clear_no q.gd (.inl i0)).mono fun e w' h => still_o h q (by omega)⟩
  by_cases i1 : (r : Int) ≤ I
  · exact ⟨none, fun w va k m hk hz => (dense_great m i0 i1).mono fun e w' h => dnsNo_o h (by omega), fun w g b k q hk => (clear_no q.gd (.inr i1)).mono fun e w' h => still_o h q (by omega)⟩
  obtain ⟨i, rfl, hi⟩ := in_nat i0 i1
  exact ⟨some _, fun w va k m hk hz => (dense_clear m hi (by omega)).mono fun e w' h => dnsYes_o h (dn_clear hi) (by omega), fun w g b k q hk => (clear_yes q hi).mono fun e w' h => done_o h (by omega)⟩
theorem act_none (hr : r ≤ 64) (hc : c ≤ 64) (F : Nat → Nat → Int) {kind : Int} (k5 : (kind == 5) = false) (k8 : (kind == 8) = false) (k6 : (kind == 6) = false) {w : World} {va : Value} {k : Nat} (m : Mc w va r c (dnL r c F) k) :
    Calls Try.prog 9 #[va, .agg #[.int .i64 kind, .int .i64 I, .int .i64 J, .bool nv, .slice av lv cv]] w (DnsX w) := by
  have no : ∀ e w', DnsNo w va r c (dnL r c F) k e w' → DnsX w e w' := fun e w' h => by
    obtain ⟨rfl, m, b⟩ := h
    obtain ⟨a, q, rfl, -, -⟩ := m.mx.form
    exact ⟨_, _, a, _, q, _, rfl, b⟩
  by_cases i0 : I < 0
  · exact (dense_neg m i0).mono no
  by_cases i1 : (r : Int) ≤ I
  · exact (dense_great m i0 i1).mono no
  by_cases j0 : J < 0
  · exact (dense_rowneg m i0 i1 k5 k8 j0).mono no
  by_cases j1 : (r : Int) ≤ J
  · exact (dense_rowgreat m i0 i1 k5 k8 j0 j1).mono no
  obtain ⟨i, rfl, hi⟩ := in_nat i0 i1
  obtain ⟨j, rfl, hj⟩ := in_nat j0 j1
  exact (dense_pick m hi hj k5 k8 k6).mono fun e w' h => by
    obtain ⟨v, rfl, m, b⟩ := h
    obtain ⟨a, q, rfl, -, -⟩ := m.mx.form
    exact ⟨_, _, a, _, q, _, rfl, b⟩
end
end Go.Proofs.Ytachdicdfhfoaaa
