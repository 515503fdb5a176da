/-
  Sl25: a text cut at its line feeds, in numbers.
-/
import Derived.Test.YtdfnehngffajiaaDoorLq25
import Derived.Test.YtdfnehngffajiaaDoorKd25
import Derived.Lib.SplitLaws
import Derived.Lib.IndexBytes
import Derived.Lib.Strings
namespace Go.Proofs.YtdfnehngffajiaaDoor
open Go.RowKit
set_option linter.unusedVariables false

theorem byS_list {s : ByteArray} {k : Nat} (h : k < s.size) {c : UInt8} : s.data.toList[k]? = some c ↔ byS s k = c.toNat := by
  have hs : s.size = s.data.size := rfl
  have e : s.get! k = s.data[k]'(by omega) := by
    show s.data[k]! = _
    exact getElem!_pos s.data k (by omega)
  unfold byS
  rw [e, Array.getElem?_toList, Array.getElem?_eq_getElem (by omega)]
  constructor
  · intro q; rw [Option.some.inj q]
  · intro q; rw [UInt8.toNat_inj.1 q]
theorem ext_list (s : ByteArray) (a b : Nat) : (s.extract a b).data.toList = (s.data.toList.drop a).take (b - a) := by
  rw [ByteArray.data_extract, Array.toList_extract]
theorem no10 {s : ByteArray} (h : ∀ k : Nat, s.data.toList[k]? ≠ some 10) : ∀ j, j < s.size → byS s j ≠ 10 := fun j hj q => h j ((byS_list hj).2 q)
/-- Without one byte 13 at its end. -/
def trimL (x : ByteArray) : ByteArray := ⟨(Lib.trimSuffix x.data.toList [13]).toArray⟩
theorem trimL_one (x : ByteArray) : trimL x = oneL x := by
  have hl : x.data.toList.length = x.size := by rw [Array.length_toList]; rfl
  unfold trimL Lib.trimSuffix Lib.hasSuffix
  by_cases h : 0 < x.size ∧ byS x (x.size - 1) = 13
  · rw [oneL_cr h.1 h.2]
    have h13 : x.data.toList[x.size - 1]? = some 13 := (byS_list (by omega)).2 h.2
    have hsuf : ([13] : List UInt8).isSuffixOf x.data.toList = true := by
      rw [List.isSuffixOf_iff_suffix]
      refine ⟨x.data.toList.take (x.size - 1), ?_⟩
      have e : x.data.toList.take (x.size - 1 + 1) = x.data.toList.take (x.size - 1) ++ [13] := by
        rw [List.take_add_one, h13]; rfl
      rw [← e, List.take_of_length_le (by omega)]
    rw [if_pos hsuf]
    apply ByteArray.ext
    rw [ByteArray.data_extract]
    apply Array.ext'
    rw [Array.toList_extract]
    simp [hl]
  · rw [oneL_no h, if_neg ?_]
    intro q
    rw [List.isSuffixOf_iff_suffix] at q
    obtain ⟨r, hr⟩ := q
    have hlen : r.length + 1 = x.size := by rw [← hl, ← hr]; simp
    refine h ⟨by omega, ?_⟩
    refine (byS_list (c := 13) (by omega)).1 ?_
    rw [← hr, show x.size - 1 = r.length by omega]
    simp
/-- Without the last piece, if it is empty. -/
def lastE (P : List ByteArray) : Nat := if P[P.length - 1]? = some ⟨#[]⟩ then P.length - 1 else P.length
theorem lastE_le (P : List ByteArray) : lastE P ≤ P.length := by unfold lastE; split <;> omega
theorem lastE_cons {x : ByteArray} {P : List ByteArray} (h : 0 < P.length) : lastE (x :: P) = lastE P + 1 := by
  unfold lastE
  rw [show (x :: P).length - 1 = P.length - 1 + 1 by simp; omega, List.getElem?_cons_succ]
  split <;> simp <;> omega
theorem cut_at {s : ByteArray} {i : Nat} (hi : i < s.size) (h : s.data.toList[i]? = some 10) : s.extract 0 i ++ nl25 ++ s.extract (i + 1) s.size = s := by
  have hl : s.data.toList.length = s.size := by rw [Array.length_toList]; rfl
  apply ByteArray.ext
  apply Array.ext'
  have e : s.data.toList.take (i + 1) = s.data.toList.take i ++ [10] := by rw [List.take_add_one, h]; rfl
  simp only [ByteArray.data_append, Array.toList_append]
  rw [ext_list, ext_list]
  rw [Nat.sub_zero, List.drop_zero, List.take_of_length_le (l := List.drop (i + 1) s.data.toList) (by rw [List.length_drop]; omega)]
  show List.take i s.data.toList ++ [10] ++ _ = _
  rw [← e, List.take_append_drop]
theorem lines_split : ∀ (n : Nat) (s : ByteArray), Lib.countB s nl25 = n → ((Lib.splitB nl25 0 n s).take (lastE (Lib.splitB nl25 0 n s))).map oneL = linesS s
  | 0, s, h => by
    have hn : ∀ k : Nat, s.data.toList[k]? ≠ some 10 := by
      have hix : Lib.indexB s nl25 = -1 := by
        rcases Lib.indexB_cases s nl25 with q | ⟨i, q, _⟩
        · exact q
        · have := Lib.countB_hit s nl25 i (by decide) q
          omega
      have e : Lib.indexB s nl25 = Lib.indexByte s.data.toList 10 := Lib.index_one _ _
      exact Lib.indexByte_none (e.symm.trans hix)
    rw [Lib.splitB_zero]
    by_cases h0 : s.size = 0
    · have hs : s = ⟨#[]⟩ := by
        apply ByteArray.ext
        exact Array.eq_empty_of_size_eq_zero h0
      subst hs
      decide +kernel
    · have e : lastE [s] = 1 := by
        unfold lastE
        rw [if_neg]
        · rfl
        · simp
          intro q
          rw [q] at h0
          exact h0 rfl
      rw [e, linesS_one (no10 hn) (by omega)]
      rfl
  | n + 1, s, h => by
    rcases Lib.indexB_cases s nl25 with q | ⟨i, q, hi⟩
    · rw [Lib.countB_miss s nl25 q] at h; omega
    · have e : Lib.indexB s nl25 = Lib.indexByte s.data.toList 10 := Lib.index_one _ _
      obtain ⟨h10, hno⟩ := Lib.indexByte_some (e.symm.trans q)
      have h1 : nl25.size = 1 := rfl
      rw [h1] at hi
      have hc := Lib.countB_hit s nl25 i (by decide) q
      rw [h1] at hc
      have ih := lines_split n (s.extract (i + 1) s.size) (by omega)
      rw [Lib.splitB_hit nl25 0 n s i q, h1, Nat.add_zero]
      have hl := Lib.splitB_all nl25 (by decide) 0 n (s.extract (i + 1) s.size) (by omega)
      rw [lastE_cons (by omega), List.take_succ_cons, List.map_cons, ih]
      have hs := cut_at (by omega) h10
      conv => rhs; rw [← hs]
      rw [linesS_cut, linesS_oneNl]
      · rfl
      · refine no10 fun k hk => ?_
        have hx : (s.extract 0 i).data.toList = s.data.toList.take i := by
          rw [ext_list, Nat.sub_zero, List.drop_zero]
        rw [hx, List.getElem?_take] at hk
        split at hk
        · exact hno k (by assumption) hk
        · cases hk
end Go.Proofs.YtdfnehngffajiaaDoor
