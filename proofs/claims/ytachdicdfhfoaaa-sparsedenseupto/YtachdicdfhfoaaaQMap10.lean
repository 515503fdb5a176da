/-
  Map10: a map as a function of its keys: looked up, stored into, struck, ranged over.
-/
import Derived.Test.YtachdicdfhfoaaaRows
import Derived.Maps.RangeWalk
import Derived.DeepKeys4
namespace Go.Proofs.Ytachdicdfhfoaaa
open Go.RowKit Go.ChangeMaps Go.MapKept Go.WideShapes
open Go.Maps (Keyed)
set_option linter.unusedVariables false

/-- What the laws need of a type of keys: kv s is the key of s, for those that are ok. -/
structure Ks (P : Program) (k : TypeId) {κ : Type} (kv : κ → Value) (ok : κ → Prop) : Prop where
  law : Keyed P k
  inj : ∀ {a b : κ}, kv a = kv b → a = b
  key : ∀ {s : κ}, ok s → ∃ l, keyOf P k (kv s) = some l

/-- One place changed. -/
def upd {κ : Type} [DecidableEq κ] (f : κ → Option Value) (s : κ) (o : Option Value) : κ → Option Value := fun x => if x = s then o else f x
theorem upd_self {κ : Type} [DecidableEq κ] (f : κ → Option Value) (s : κ) (o : Option Value) : upd f s o s = o := by simp [upd]
theorem upd_ne {κ : Type} [DecidableEq κ] (f : κ → Option Value) {s x : κ} (o : Option Value) (h : x ≠ s) : upd f s o x = f x := by simp [upd, h]

/-- The entries are those of f. -/
def Ent {κ : Type} (kv : κ → Value) (ok : κ → Prop) (es : Array MapEntry) (clock : Nat) (f : κ → Option Value) : Prop :=
  Stamped es clock ∧ (∀ x ∈ es.toList, ∃ s, ok s ∧ x.key = kv s ∧ f s = some x.val) ∧ (∀ s v, f s = some v → ∃ x ∈ es.toList, x.key = kv s ∧ x.val = v)

/-- Block b is a map of n entries: f. -/
def Mp {κ : Type} (kv : κ → Value) (ok : κ → Prop) (w : World) (b : Nat) (f : κ → Option Value) (n : Nat) : Prop :=
  ∃ es clock, w.heap[b]? = some (.map es clock) ∧ Ent kv ok es clock f ∧ es.size = n

/-- .. that is gone through by the iterator in block r: left: those to come, cnt of them. -/
def Rg {κ : Type} (kv : κ → Value) (ok : κ → Prop) (w : World) (b r : Nat) (f : κ → Option Value) (n : Nat) (left : κ → Bool) (cnt : Nat) : Prop :=
  ∃ es clock since seen c0, w.heap[b]? = some (.map es clock) ∧ Ent kv ok es clock f ∧ es.size = n ∧ w.heap[r]? = some (.mapIter (some b) since seen c0) ∧
    (∀ x ∈ es.toList, x.born < since) ∧ (leftOf es seen).size = cnt ∧ (∀ x ∈ es.toList, ∀ s, x.key = kv s → left s = !seen.contains x.born) ∧ (∀ s, left s = true → (f s).isSome = true) ∧ since ≤ c0 ∧ since ≤ clock

section
variable {κ : Type} {kv : κ → Value} {ok : κ → Prop} {P : Program} {k : TypeId} {w w' : World} {b r n : Nat} {f : κ → Option Value} {left : κ → Bool} {cnt : Nat}

theorem Mp.lt (h : Mp kv ok w b f n) : b < w.heap.size := by
  obtain ⟨es, c, h1, _⟩ := h
  exact (Array.getElem?_eq_some_iff.1 h1).1
theorem Mp.keep (h : Mp kv ok w b f n) (e : w'.heap[b]? = w.heap[b]?) : Mp kv ok w' b f n := by
  obtain ⟨es, c, h1, h2⟩ := h
  exact ⟨es, c, e.trans h1, h2⟩
theorem Mp.kept {row : Option Nat} (h : Mp kv ok w b f n) (hg : w.grownBy w' row) (hne : some b ≠ row) : Mp kv ok w' b f n := h.keep (hg.block b h.lt hne)
theorem Mp.now (h : Mp kv ok w b f n) (hb : Below w.heap.size w w') : Mp kv ok w' b f n := h.keep (hb.block b h.lt)
theorem Mp.made (kv : κ → Value) (ok : κ → Prop) (w : World) : Mp kv ok (w.alloc (.map #[] 0)) w.heap.size (fun _ => none) 0 :=
  ⟨#[], 0, (MapKept.heap_alloc w _).1, ⟨stamped_empty 0, by simp, by simp⟩, rfl⟩
theorem Mp.ext {f' : κ → Option Value} (h : Mp kv ok w b f n) (e : ∀ s, f s = f' s) : Mp kv ok w b f' n := by
  rw [← (funext e : f = f')]; exact h
theorem Rg.mp (h : Rg kv ok w b r f n left cnt) : Mp kv ok w b f n := by
  obtain ⟨es, clock, since, seen, c0, h1, h2, h3, _⟩ := h
  exact ⟨es, clock, h1, h2, h3⟩
theorem Rg.left_eq (h : Rg kv ok w b r f n left cnt) : w.rangeLeft b r = cnt := by
  obtain ⟨es, clock, since, seen, c0, hb, _, _, hr, _, hc, _⟩ := h
  simp only [World.rangeLeft, hb, hr]
  exact hc
theorem Rg.ne (h : Rg kv ok w b r f n left cnt) : r ≠ b := by
  obtain ⟨es, clock, since, seen, c0, hb, _, _, hr, _⟩ := h
  intro e
  rw [e, hb] at hr
  cases hr
theorem Rg.lt (h : Rg kv ok w b r f n left cnt) : r < w.heap.size := by
  obtain ⟨es, clock, since, seen, c0, hb, _, _, hr, _⟩ := h
  exact (Array.getElem?_eq_some_iff.1 hr).1
theorem Rg.keep (h : Rg kv ok w b r f n left cnt) (e : w'.heap[b]? = w.heap[b]?) (e' : w'.heap[r]? = w.heap[r]?) : Rg kv ok w' b r f n left cnt := by
  obtain ⟨es, clock, since, seen, c0, hb, h1, h2, hr, h3⟩ := h
  exact ⟨es, clock, since, seen, c0, e.trans hb, h1, h2, e'.trans hr, h3⟩
theorem Rg.kept {row : Option Nat} (h : Rg kv ok w b r f n left cnt) (hg : w.grownBy w' row) (hne : some b ≠ row) (hne' : some r ≠ row) : Rg kv ok w' b r f n left cnt := h.keep (hg.block b h.mp.lt hne) (hg.block r h.lt hne')
theorem Rg.now (h : Rg kv ok w b r f n left cnt) (hb : Below w.heap.size w w') : Rg kv ok w' b r f n left cnt := h.keep (hb.block b h.mp.lt) (hb.block r h.lt)
theorem Rg.some_ {s : κ} (h : Rg kv ok w b r f n left cnt) (hs : left s = true) : ∃ v, f s = some v := by
  obtain ⟨es, clock, since, seen, c0, hb, h1, h2, hr, h3, h4, h5, h6, _⟩ := h
  exact Option.isSome_iff_exists.1 (h6 s hs)
/-- Keys that are there are ok. -/
theorem Mp.ok_ (K : Ks P k kv ok) (h : Mp kv ok w b f n) {s : κ} {v : Value} (hs : f s = some v) : ok s := by
  obtain ⟨es, c, h1, ⟨h2, h3, h4⟩, _⟩ := h
  obtain ⟨x, hx, e1, e2⟩ := h4 s v hs
  obtain ⟨s', o, e3, e4⟩ := h3 x hx
  have := K.inj (e1.symm.trans e3)
  exact this ▸ o

theorem Ent.keys {es : Array MapEntry} {clock : Nat} (K : Ks P k kv ok) (h : Ent kv ok es clock f) : ∀ e ∈ es.toList, ∃ l, keyOf P k e.key = some l := fun e he => by
  obtain ⟨s, o, e1, _⟩ := h.2.1 e he
  rw [e1]; exact K.key o
theorem Ent.none_ {es : Array MapEntry} {clock : Nat} (h : Ent kv ok es clock f) {s : κ} (h2 : ∀ e ∈ es.toList, e.key ≠ kv s) : f s = none := by
  cases e : f s with
  | none => rfl
  | some v =>
    obtain ⟨x, hx, e1, _⟩ := h.2.2 s v e
    exact absurd e1 (h2 x hx)
theorem Ent.some_ {es : Array MapEntry} {clock : Nat} (K : Ks P k kv ok) (h : Ent kv ok es clock f) {s : κ} {x : MapEntry} (hx : x ∈ es.toList) (hk : x.key = kv s) : f s = some x.val := by
  obtain ⟨s', o, e3, e4⟩ := h.2.1 x hx
  have := K.inj (hk.symm.trans e3)
  exact this ▸ e4

/-- 'm[k]', 'v, ok := m[k]'. -/
theorem Mp.look (h : Mp kv ok w b f n) (K : Ks P k kv ok) {t e : TypeId} (ht : P.underlying t = some (.map k e)) {z : Value} (hz : (zeroValue e).run P w = .ok z w) {s : κ} (hs : ok s) (c : Bool) :
    (Instr.lookup t (.map (some b)) (kv s) c).run P w = .ok (if c then .tuple #[(f s).getD z, .bool (f s).isSome] else (f s).getD z) w := by
  obtain ⟨es, clock, hb, E, _⟩ := h
  obtain ⟨l, hl⟩ := K.key hs
  rcases K.law.find w hl es.toList (E.keys K) with ⟨h1, h2⟩ | ⟨j, e0, h1, h2, h3⟩
  · rw [E.none_ h2]
    simp [Instr.lookup, run_underlying ht, MapKept.run_getObj_map hb, K.law.check w _ hl, h1, hz, Result.andThen]
  · rw [E.some_ K (List.mem_of_getElem? h2) h3]
    simp [Instr.lookup, run_underlying ht, MapKept.run_getObj_map hb, K.law.check w _ hl, h1, Result.andThen]
theorem look_none {t e : TypeId} (K : Ks P k kv ok) (ht : P.underlying t = some (.map k e)) {z : Value} (hz : (zeroValue e).run P w = .ok z w) {s : κ} (hs : ok s) : (Instr.lookup t (.map none) (kv s) false).run P w = .ok z w := by
  obtain ⟨l, hl⟩ := K.key hs
  rcases K.law.find w hl [] (fun e he => by simp at he) with ⟨h1, h2⟩ | ⟨j, e0, h1, h2, h3⟩
  · simp [Instr.lookup, run_underlying ht, K.law.check w _ hl, h1, hz, Result.andThen]
  · simp at h2

theorem Mp.len (h : Mp kv ok w b f n) {t e : TypeId} (ht : P.underlying t = some (.map k e)) (ty : TypeId) : (Builtin.len_ #[t] ty #[.map (some b)]).run P w = .ok (.int .i64 (n : Int)) w := by
  obtain ⟨es, clock, hb, E, rfl⟩ := h
  simp [Builtin.len_, run_underlying ht, MapKept.run_getObj_map hb, Result.andThen, goInt]

variable [DecidableEq κ]

/-- 'm[k] = v'. -/
theorem Mp.store (h : Mp kv ok w b f n) (K : Ks P k kv ok) {t e : TypeId} (ht : P.underlying t = some (.map k e)) (hroom : n < maxLen) {s : κ} (hs : ok s) (v : Value) :
    ∃ w', (Instr.mapUpdate t (.map (some b)) (kv s) v).run P w = .ok () w' ∧ Mp kv ok w' b (upd f s (some v)) (if (f s).isSome then n else n + 1) ∧ w.grownBy w' (some b) ∧ w'.heap.size = w.heap.size := by
  obtain ⟨es, clock, hb, E, rfl⟩ := h
  obtain ⟨l, hl⟩ := K.key hs
  rcases K.law.find w hl es.toList (E.keys K) with ⟨h1, h2⟩ | ⟨j, e0, h1, h2, h3⟩
  · have hn := E.none_ h2
    refine ⟨setBlock w b (.map (es.push ⟨kv s, v, clock⟩) (clock + 1)), ?_, ⟨_, _, heap_setBlock_same hb _, ⟨stamped_push E.1 h2, fun x hx => ?_, fun x u hx => ?_⟩, by rw [hn]; simp⟩, ⟨rfl, rfl, rfl, by simp [setBlock], fun i _ hi => heap_setBlock_other hb _ (fun e => hi (by rw [e]))⟩, by simp [setBlock]⟩
    · simp [Instr.mapUpdate, run_underlying ht, MapKept.run_getObj_map hb, K.law.check w false hl, h1, MapKept.run_setObj_map _ hb, Result.andThen, setBlock]
    · simp only [Array.toList_push, List.mem_append, List.mem_singleton] at hx
      rcases hx with hx | rfl
      · obtain ⟨s', o, e3, e4⟩ := E.2.1 x hx
        refine ⟨s', o, e3, ?_⟩
        rw [upd_ne]
        · exact e4
        · rintro rfl
          exact h2 x hx e3
      · exact ⟨s, hs, rfl, upd_self _ _ _⟩
    · simp only [Array.toList_push, List.mem_append, List.mem_singleton]
      by_cases q : x = s
      · subst q
        rw [upd_self] at hx
        cases hx
        exact ⟨_, .inr rfl, rfl, rfl⟩
      · rw [upd_ne _ _ q] at hx
        obtain ⟨y, hy, e1, e2⟩ := E.2.2 x u hx
        exact ⟨y, .inl hy, e1, e2⟩
  · have hj : es[j]? = some e0 := by simpa using h2
    have hjl : j < es.toList.length := (List.getElem?_eq_some_iff.1 h2).1
    have hm0 := List.mem_of_getElem? h2
    have hf := E.some_ K hm0 h3
    have hkeyf : ∀ e', es[j]? = some e' → ({ e' with key := kv s, val := v } : MapEntry).key = e'.key := fun e' he' => by rw [hj] at he'; cases he'; exact h3.symm
    have hlist : (es.modify j (fun e' => { e' with key := kv s, val := v })).toList = es.toList.set j { e0 with key := kv s, val := v } := by rw [Array.toList_modify, modify_eq_set _ _ _ _ h2]
    have hpw := ((stamped_iff es clock).1 E.1).2.2
    have hother : ∀ (i : Nat) (x : MapEntry), es.toList[i]? = some x → i ≠ j → x.key ≠ kv s := fun i x hi hne e => by
      have hi' := (List.getElem?_eq_some_iff.1 hi)
      obtain ⟨hil, hix⟩ := hi'
      have hjx := (List.getElem?_eq_some_iff.1 h2).2
      rcases Nat.lt_or_gt_of_ne hne with q | q
      · exact List.pairwise_iff_getElem.1 hpw i j hil hjl q (by rw [hix, hjx, e, h3])
      · exact List.pairwise_iff_getElem.1 hpw j i hjl hil q (by rw [hix, hjx, e, h3])
    refine ⟨setBlock w b (.map (es.modify j (fun e' => { e' with key := kv s, val := v })) clock), ?_, ⟨_, _, heap_setBlock_same hb _, ⟨stamped_modify E.1 _ _ (fun _ _ => rfl) (fun e' _ he' => hkeyf e' he'), fun x hx => ?_, fun x u hx => ?_⟩, by rw [hf]; simp⟩, ⟨rfl, rfl, rfl, by simp [setBlock], fun i _ hi => heap_setBlock_other hb _ (fun e => hi (by rw [e]))⟩, by simp [setBlock]⟩
    · simp [Instr.mapUpdate, run_underlying ht, MapKept.run_getObj_map hb, K.law.check w false hl, h1, hj, h3, K.law.stays w hl, MapKept.run_setObj_map _ hb, Result.andThen, setBlock]
    · rw [hlist] at hx
      obtain ⟨i, hi⟩ := List.getElem?_of_mem hx
      rw [List.getElem?_set] at hi
      split at hi
      · cases hi
        exact ⟨s, hs, rfl, upd_self _ _ _⟩
      · rename_i hne
        obtain ⟨s', o, e3, e4⟩ := E.2.1 x (List.mem_of_getElem? hi)
        refine ⟨s', o, e3, ?_⟩
        rw [upd_ne]
        · exact e4
        · rintro rfl
          exact hother i x hi (fun q => hne q.symm) e3
    · rw [hlist]
      by_cases q : x = s
      · subst q
        rw [upd_self] at hx
        cases hx
        exact ⟨{ e0 with key := kv x, val := v }, List.mem_of_getElem? (i := j) (by rw [List.getElem?_set]; simp; simpa using hjl), rfl, rfl⟩
      · rw [upd_ne _ _ q] at hx
        obtain ⟨y, hy, e1, e2⟩ := E.2.2 x u hx
        obtain ⟨i, hi⟩ := List.getElem?_of_mem hy
        refine ⟨y, List.mem_of_getElem? (i := i) ?_, e1, e2⟩
        rw [List.getElem?_set_ne]
        · exact hi
        · rintro rfl
          rw [h2] at hi
          cases hi
          exact q (K.inj (e1.symm.trans h3))

/-- Struck: those of another key. -/
theorem Ent.drop (K : Ks P k kv ok) {es es' : Array MapEntry} {clock : Nat} (h : Ent kv ok es clock f) {s : κ} (hst : Stamped es' clock) (hwho : ∀ x, x ∈ es'.toList ↔ (x ∈ es.toList ∧ x.key ≠ kv s)) : Ent kv ok es' clock (upd f s none) := by
  refine ⟨hst, fun x hx => ?_, fun x u hx => ?_⟩
  · obtain ⟨hx1, hx2⟩ := (hwho x).1 hx
    obtain ⟨s', o, e3, e4⟩ := h.2.1 x hx1
    refine ⟨s', o, e3, ?_⟩
    rw [upd_ne]
    · exact e4
    · rintro rfl
      exact hx2 e3
  · by_cases q : x = s
    · subst q
      rw [upd_self] at hx
      cases hx
    · rw [upd_ne _ _ q] at hx
      obtain ⟨y, hy, e1, e2⟩ := h.2.2 x u hx
      exact ⟨y, (hwho y).2 ⟨hy, fun e => q (K.inj (e1.symm.trans e))⟩, e1, e2⟩

theorem run_drop (K : Ks P k kv ok) {t e ty : TypeId} (ht : P.underlying t = some (.map k e)) {es : Array MapEntry} {clock : Nat} (hb : w.heap[b]? = some (.map es clock)) (E : Ent kv ok es clock f) {s : κ} (hs : ok s) :
    ∃ es', (Builtin.delete_ #[t, k] ty #[.map (some b), kv s]).run P w = .ok (.tuple #[]) (setBlock w b (.map es' clock)) ∧ Ent kv ok es' clock (upd f s none) ∧ es'.size = (if (f s).isSome then es.size - 1 else es.size) ∧ es'.toList.Sublist es.toList ∧ ∀ x, x ∈ es'.toList ↔ (x ∈ es.toList ∧ x.key ≠ kv s) := by
  obtain ⟨l, hl⟩ := K.key hs
  rcases K.law.find w hl es.toList (E.keys K) with ⟨h1, h2⟩ | ⟨j, e0, h1, h2, h3⟩
  · have who : ∀ x, x ∈ es.toList ↔ (x ∈ es.toList ∧ x.key ≠ kv s) := fun x => ⟨fun hx => ⟨hx, h2 x hx⟩, fun hx => hx.1⟩
    refine ⟨es, ?_, E.drop K E.1 who, by rw [E.none_ h2]; simp, List.Sublist.refl _, who⟩
    simp [Builtin.delete_, run_underlying ht, MapKept.run_getObj_map hb, K.law.check w _ hl, h1, MapKept.run_setObj_map _ hb, Result.andThen, setBlock]
  · have hjl : j < es.toList.length := (List.getElem?_eq_some_iff.1 h2).1
    have hjs : j < es.size := by simpa using hjl
    have hsub : (es.eraseIdxIfInBounds j).toList = es.toList.eraseIdx j := by
      unfold Array.eraseIdxIfInBounds
      rw [dif_pos hjs]
      simp
    have hpw := ((stamped_iff es clock).1 E.1).2.2
    have who : ∀ x, x ∈ (es.eraseIdxIfInBounds j).toList ↔ (x ∈ es.toList ∧ x.key ≠ kv s) := fun x => by
      rw [hsub, List.mem_eraseIdx_iff_getElem?]
      constructor
      · rintro ⟨i, hne, hi⟩
        refine ⟨List.mem_of_getElem? hi, fun e => ?_⟩
        obtain ⟨hil, hix⟩ := List.getElem?_eq_some_iff.1 hi
        have hjx := (List.getElem?_eq_some_iff.1 h2).2
        rcases Nat.lt_or_gt_of_ne hne with q | q
        · exact List.pairwise_iff_getElem.1 hpw i j hil hjl q (by rw [hix, hjx, e, h3])
        · exact List.pairwise_iff_getElem.1 hpw j i hjl hil q (by rw [hix, hjx, e, h3])
      · rintro ⟨hx, hne⟩
        obtain ⟨i, hi⟩ := List.getElem?_of_mem hx
        refine ⟨i, fun e1 => hne ?_, hi⟩
        rw [e1, h2] at hi
        cases hi
        exact h3
    refine ⟨es.eraseIdxIfInBounds j, ?_, E.drop K (stamped_erase E.1 j) who, ?_, by rw [hsub]; exact List.eraseIdx_sublist _ _, who⟩
    · simp [Builtin.delete_, run_underlying ht, MapKept.run_getObj_map hb, K.law.check w _ hl, h1, MapKept.run_setObj_map _ hb, Result.andThen, setBlock]
    · rw [E.some_ K (List.mem_of_getElem? h2) h3, ← Array.length_toList, hsub, List.length_eraseIdx, if_pos hjl]
      simp

/-- 'delete(m, k)'. -/
theorem Mp.drop (h : Mp kv ok w b f n) (K : Ks P k kv ok) {t e : TypeId} (ht : P.underlying t = some (.map k e)) {s : κ} (hs : ok s) (ty : TypeId) :
    ∃ w', (Builtin.delete_ #[t, k] ty #[.map (some b), kv s]).run P w = .ok (.tuple #[]) w' ∧ Mp kv ok w' b (upd f s none) (if (f s).isSome then n - 1 else n) ∧ w.grownBy w' (some b) ∧ w'.heap.size = w.heap.size := by
  obtain ⟨es, clock, hb, E, rfl⟩ := h
  obtain ⟨es', h1, h2, h3, _, _⟩ := run_drop (ty := ty) K ht hb E hs
  exact ⟨_, h1, ⟨es', clock, heap_setBlock_same hb _, h2, h3⟩, ⟨rfl, rfl, rfl, by simp [setBlock], fun i _ hi => heap_setBlock_other hb _ (fun e => hi (by rw [e]))⟩, by simp [setBlock]⟩

omit [DecidableEq κ] in
/-- 'range m'. -/
theorem Mp.range (h : Mp kv ok w b f n) (K : Ks P k kv ok) {t e : TypeId} (ht : P.underlying t = some (.map k e)) :
    ∃ w', (Instr.range t (.map (some b))).run P w = .ok (.pointer (some ⟨w.heap.size, 0, none⟩)) w' ∧ Rg kv ok w' b w.heap.size f n (fun s => (f s).isSome) n ∧ Below w.heap.size w w' ∧ w'.heap.size = w.heap.size + 1 := by
  have hlt := h.lt
  obtain ⟨es, clock, hb, E, rfl⟩ := h
  refine ⟨_, run_range_map w t k e b es clock ht hb, ⟨es, clock, clock, #[], clock, ((MapKept.heap_alloc w _).2 b hlt).trans hb, E, rfl, (MapKept.heap_alloc w _).1, E.1.1, ?_, ?_, fun s hs => hs, Nat.le_refl _, Nat.le_refl _⟩, (Below.refl _ _).alloc (Nat.le_refl _) _, by simp⟩
  · simp [leftOf]
  · intro x hx s hk
    show (f s).isSome = _
    rw [E.some_ K hx hk]
    simp

/-- 'next'. -/
theorem Rg.next (h : Rg kv ok w b r f n left cnt) (K : Ks P k kv ok) (ty : TypeId) :
    (cnt = 0 ∧ (∀ s, left s = false) ∧ (Instr.next (.pointer (some ⟨r, 0, none⟩)) false ty).run P w = .ok (.tuple #[.bool false]) w) ∨
    ∃ s v w' cnt', ok s ∧ f s = some v ∧ left s = true ∧ (Instr.next (.pointer (some ⟨r, 0, none⟩)) false ty).run P w = .ok (.tuple #[.bool true, kv s, v]) w' ∧
      Rg kv ok w' b r f n (fun x => left x && !decide (x = s)) cnt' ∧ cnt' < cnt ∧ w.grownBy w' (some r) ∧ w'.heap.size = w.heap.size ∧ (Instr.entry (.pointer (some ⟨r, 0, none⟩))).run P w' = .ok (.tuple #[kv s, v]) w' := by
  have hne := h.ne
  obtain ⟨es, clock, since, seen, c0, hb, E, hs, hr, hold, rfl, hl1, hl2, hsc, hsk⟩ := h
  rcases run_next_at (P := P) w ty r b since c0 seen es clock hr hb hold hsc with ⟨h0, hrun⟩ | ⟨e, he, w1, hal, hrun⟩
  · refine Or.inl ⟨h0, fun s => ?_, hrun⟩
    cases hk : left s
    · rfl
    · obtain ⟨v, hv⟩ := Option.isSome_iff_exists.1 (hl2 s hk)
      obtain ⟨x, hx, e1, _⟩ := E.2.2 s v hv
      rw [hl1 x hx s e1, all_seen es seen h0 x hx] at hk
      cases hk
  · obtain ⟨hem, hes⟩ := mem_left he
    obtain ⟨s, o, e1, e2⟩ := E.2.1 e hem
    have hr1 : w1.heap[r]? = some (.mapIter (some b) since seen c0) := by rcases hal with rfl | rfl <;> exact hr
    have hb1 : w1.heap[b]? = some (.map es clock) := by rcases hal with rfl | rfl <;> exact hb
    have hset := heap_set (o' := .mapIter (some b) since (seen.push e.born) clock) hr1
    have hb' : (setBlock w1 r (.mapIter (some b) since (seen.push e.born) clock)).heap[b]? = some (.map es clock) := (hset.2 b (fun e1 => hne e1.symm)).trans hb1
    have hst := (stamped_iff es clock).1 E.1
    have hen := run_entry_at (P := P) _ r b since seen es clock e hset.1 hb' hem hst.2.1
    rw [e1] at hrun hen
    refine Or.inr ⟨s, e.val, _, _, o, e2, by rw [hl1 e hem s e1, hes]; rfl, hrun,
      ⟨es, clock, since, seen.push e.born, clock, hb', E, hs, hset.1, hold, rfl, fun x hx s' hk => ?_, fun s' hs' => hl2 s' (by simp at hs'; exact hs'.1), hsk, hsk⟩, left_shrinks es seen e he, ?_, ?_, hen⟩
    · show (left s' && !decide (s' = s)) = _
      rw [hl1 x hx s' hk, contains_push]
      by_cases q : s' = s
      · subst q
        have : x = e := entry_eq_of_key hst.2.2 hx hem (hk.trans e1.symm)
        subst this
        simp
      · have : ¬ x.born = e.born := fun q' => q (K.inj (hk.symm.trans ((congrArg MapEntry.key (born_inj hst.2.1 hx hem q')).trans e1)))
        simp [q, this]
    · rcases hal with rfl | rfl <;> exact ⟨rfl, rfl, rfl, by simp [setBlock], fun i _ hi => hset.2 i (fun e1 => hi (by rw [e1]))⟩
    · rcases hal with rfl | rfl <;> simp [setBlock]

/-- 'delete(m, k)' within the loop over m. -/
theorem Rg.drop (h : Rg kv ok w b r f n left cnt) (K : Ks P k kv ok) {t e : TypeId} (ht : P.underlying t = some (.map k e)) {s : κ} (hs : ok s) (ty : TypeId) :
    ∃ w' cnt', (Builtin.delete_ #[t, k] ty #[.map (some b), kv s]).run P w = .ok (.tuple #[]) w' ∧ Rg kv ok w' b r (upd f s none) (if (f s).isSome then n - 1 else n) (fun x => left x && !decide (x = s)) cnt' ∧ cnt' ≤ cnt ∧ w.grownBy w' (some b) ∧ w'.heap.size = w.heap.size := by
  have hne := h.ne
  obtain ⟨es, clock, since, seen, c0, hb, E, rfl, hr, hold, rfl, hl1, hl2, hsc, hsk⟩ := h
  obtain ⟨es', h1, E', h3, hsub, hwho⟩ := run_drop (ty := ty) K ht hb E hs
  refine ⟨_, _, h1, ⟨es', clock, since, seen, c0, heap_setBlock_same hb _, E', h3, (heap_setBlock_other hb _ hne).trans hr, fun x hx => hold x ((hwho x).1 hx).1, rfl, fun x hx s' hk => ?_, fun s' hs' => ?_, hsc, hsk⟩, ?_, ⟨rfl, rfl, rfl, by simp [setBlock], fun i _ hi => heap_setBlock_other hb _ (fun e => hi (by rw [e]))⟩, by simp [setBlock]⟩
  · obtain ⟨hx1, hx2⟩ := (hwho x).1 hx
    show (left s' && !decide (s' = s)) = _
    rw [hl1 x hx1 s' hk]
    have : s' ≠ s := fun q => hx2 (by rw [hk, q])
    simp [this]
  · simp only [Bool.and_eq_true, Bool.not_eq_true', decide_eq_false_iff_not] at hs'
    rw [upd_ne _ _ hs'.2]
    exact hl2 s' hs'.1
  · have e1 : ∀ a : Array MapEntry, (leftOf a seen).size = (a.toList.filter fun e => !seen.contains e.born).length := fun a => by
      unfold leftOf
      rw [← Array.toList_filter, Array.length_toList]
    rw [e1, e1]
    exact (hsub.filter _).length_le
end
end Go.Proofs.Ytachdicdfhfoaaa
