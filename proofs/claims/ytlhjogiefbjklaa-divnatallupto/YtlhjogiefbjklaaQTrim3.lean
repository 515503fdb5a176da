import Derived.Test.YtlhjogiefbjklaaQHWords
import Derived.Test.YtlhjogiefbjklaaQCarryToMade
import Derived.Test.YtlhjogiefbjklaaQCmpToNow
set_option maxRecDepth 100000
set_option maxHeartbeats 6400000
set_option linter.unusedVariables false
set_option linter.unusedSimpArgs false
namespace Go.Proofs.Ytlhjogiefbjklaa
open Go.RowKit
theorem zQB {B : Nat} {w : World} {a : Option Addr} {n cap : Nat} {xs : List Int} (h : Sl B w (.slice a n cap) xs) : Sl B w (.slice a (wid xs) cap) (lst xs) := by
 obtain ⟨hw,a',cap',he,hlc,hcm,hm⟩ := h;simp only [Value.slice.injEq] at he;obtain ⟨rfl,rfl,rfl⟩ := he;have l := zGA xs;refine ⟨hw.take _,a,cap,by rw [length_lst],by rw [length_lst];omega,by rw [length_lst];omega,?_⟩;rcases hm with rfl | ⟨b,off,h1,h2,h3⟩
 ·exact .inl rfl
 ·refine .inr ⟨b,off,h1,h2,fun j hj => ?_⟩
  rw [length_lst] at hj;rw [h3 j (by omega),ziB hj]
theorem zSA {B : Nat} {w : World} {a : Option Addr} {m cap : Nat} {xs : List Int} (h : Sl B w (.slice a m cap) xs) :
  Calls Try.prog 46 #[.slice a m cap] w fun e w' => e = .returned (.slice a (wid xs) cap) ∧ w' = w := by
 obtain ⟨hw,a',cap',he,hlc,hcm,hm⟩ := h;simp only [Value.slice.injEq] at he;obtain ⟨rfl,rfl,rfl⟩ := he;have HW : Hid (∀ n : Nat,n ≤ xs.length → (∀ j (h : j < xs.length),n ≤ j → xs[j] = 0) → (0 < n → ∀ h' : n - 1 < xs.length,xs[n - 1] ≠ 0) → wid xs = n) := fun n h1 h2 h3 => wid_is h1 h2 h3
 generalize wid xs = W at *;have HM := hid hm;go_enter Try.func46,Try.ntmps46;go_wp2
 go_loop [3] (fun i => ∃ n : Nat,n ≤ xs.length ∧ i = .int .i64 n ∧ ∀ j (h : j < xs.length),n ≤ j → xs[j] = 0) (fun i => (intOf i).toNat)
 case atStart => exact ⟨xs.length,Nat.le_refl _,rfl,fun j h h' => by omega⟩
 case round =>
  obtain ⟨n,hn,rfl,hz⟩ := hrel;have HZ := hid hz;clear hz hm
  by_cases h0 : n = 0
  ·subst h0
   go_wp2;go_ret;exact ⟨by rw [HW.out 0 (by omega) HZ.out (by omega)];rfl,rfl⟩
  ·obtain ⟨k,rfl⟩ : ∃ k,n = k + 1 := ⟨n - 1,by omega⟩
   rcases HM.out with rfl | ⟨b,off,rfl,hb,hc⟩
   ·simp at hn
   ·have hk : k < xs.length := by omega
    have hck := hc k hk;obtain ⟨x,hx⟩ : ∃ x,x = xs[k] := ⟨_,rfl⟩
    rw [← hx] at hck;have HX : Hid (x = xs[k]) := hx;clear hx hc h0
    by_cases hx0 : x = 0
    ·have ht : (x == 0) = true := by simp [hx0]
     go_wp2;go_round
     case rel =>
      refine ⟨k,by omega,rfl,fun j h hj => ?_⟩
      by_cases e : j = k
      ·subst e;rw [← HX.out];exact hx0
      ·exact HZ.out j h (by omega)
     case measure => simp [intOf]
    ·have ht : (x == 0) = false := by simp [hx0]
     go_wp2;go_ret;refine ⟨?_,rfl⟩;rw [HW.out (k + 1) hn HZ.out (fun _ h' => by have := HX.out;simp at h' ⊢;rw [← this];exact hx0)]
     rfl
def pairs : List Int → List Int
 | [] => []
 | x :: r => x % 4294967296 :: x / 4294967296 :: pairs r
theorem zkA : ∀ xs,(pairs xs).length = 2 * xs.length
 | [] => rfl
 | x :: r => by simp [pairs,zkA r];omega
theorem zVC : ∀ xs ys,pairs (xs ++ ys) = pairs xs ++ pairs ys
 | [],ys => rfl
 | x :: r,ys => by simp [pairs,zVC r ys]
theorem pairs_val : ∀ xs,hval (pairs xs) = val xs
 | [] => rfl
 | x :: r => by
  unfold pairs hval hval val;rw [pairs_val r];unfold hwB wB;omega
theorem zhD : ∀ {xs},WF xs → HF (pairs xs)
 | [],_ => HF.nil
 | x :: r,h => by
  have hx := h.head;unfold IsW wB at hx;exact HF.cons (by unfold IsH hwB;omega) (HF.cons (by unfold IsH hwB;omega) (zhD h.tail))
theorem set_two (P Z : List Int) (c d a b : Int) (n : Nat) (hn : P.length = n) : ((P ++ c :: d :: Z).set n a).set (n + 1) b = P ++ a :: b :: Z := by
 subst hn
 simp
theorem zXD {L : List Int} {i : Nat} (h : i < L.length) : (((pairs (L.take i) ++ List.replicate (2 * (L.length - i)) 0).set (2 * i) (L[i] % 4294967296)).set (2 * i + 1) (L[i] / 4294967296)) = pairs (L.take (i + 1)) ++ List.replicate (2 * (L.length - (i + 1))) 0 := by
 have e : 2 * (L.length - i) = 2 * (L.length - (i + 1)) + 1 + 1 := by omega
 have e2 : L.take (i + 1) = L.take i ++ [L[i]] := by rw [List.take_succ_eq_append_getElem h]
 rw [e,List.replicate_succ,List.replicate_succ,set_two _ _ _ _ _ _ _ (by rw [zkA,List.length_take];omega),e2,zVC];simp [pairs]
theorem zXA {w : World} {v : Value} {xs : List Int} (h : Sl w.heap.size w v xs) (hlen : xs.length ≤ 8796093022208) :
  Calls Try.prog 41 #[v] w fun e w' => ∃ D r,e = .returned r ∧ Sl w'.heap.size w' r D ∧ zKA D ∧ hval D = val xs ∧ D.length ≤ 2 * xs.length ∧ Below w.heap.size w w' := by
 have hs := h;obtain ⟨hw,a,cap,rfl,hlc,hcm,hm⟩ := h;have HT := zSA hs;have l1 := zGA xs;have hsl := zQB hs;obtain ⟨_,a',cap',he,_,_,hm'⟩ := hsl;simp only [Value.slice.injEq] at he;obtain ⟨rfl,_,rfl⟩ := he;have HM := hid hm';have HL := hid (length_lst xs);have HWL := hid (canon_lst hw).1;have HVL := hid (val_lst xs);generalize lst xs = L at *;obtain ⟨n,hn⟩ : ∃ n,wid xs = n := ⟨_,rfl⟩
 rw [hn] at HT HL l1;clear hm hm' hs hn;go_enter Try.func41,Try.ntmps41;go_wp2_with fail;refine HT.mono ?_;rintro e w1 ⟨rfl,rfl⟩;clear HT;go_wp2_with (at_make;refine wpList_make_words _ rfl _ _ rfl _ _ (2 * n) (2 * n) rfl rfl (by first | rfl | (simp;done) | omega) (by first | rfl | (simp;done) | omega) (Nat.le_refl _) (by omega) ?_)
 intro w2 hrow hb2 hsz2;have hrow' := hid hrow;have hb2' := hid hb2;clear hrow hb2 hsz2;go_wp2_with fail
 go_loopw [4] (fun i wr => ∃ (k : Nat),k ≤ n ∧ i = .int .i64 k ∧ Row wr w1.heap.size (ws (pairs (L.take k) ++ List.replicate (2 * (n - k)) 0)) ∧ Below w1.heap.size w1 wr) (fun i _ => n - (intOf i).toNat)
 case atStart => exact ⟨0,Nat.zero_le _,rfl,by simpa [pairs] using hrow'.out,hb2'.out⟩
 case round =>
  clear hrow' hb2';obtain ⟨k,hk,rfl,hr,hb⟩ := hrel
  by_cases hlt : k < n
  ·have hk2 : k < L.length := by have := HL.out;omega
   rcases HM.out with e | ⟨b,off,rfl,hbg,hcy⟩
   ·subst e;simp at hk2
   have hst := zXD hk2;rw [HL.out] at hst;have hxw := HWL.out.get hk2;unfold IsW wB at hxw;obtain ⟨hx0,hx1⟩ := hxw;have lD : (pairs (L.take k) ++ List.replicate (2 * (n - k)) 0).length = 2 * n := by rw [List.length_append,zkA,List.length_take,List.length_replicate];have := HL.out;omega
   generalize pairs (L.take k) ++ List.replicate (2 * (n - k)) 0 = D at *;have c2 : wr.cell? ⟨b,off + k,none⟩ = some (.int .u64 L[k]) := (hb.cell (p := ⟨b,off + k,none⟩) hbg).trans (hcy k hk2);have c1 : wr.cell? ⟨w1.heap.size,2 * k,none⟩ = some (.int .u64 (D[2 * k]'(by omega))) := Row.word (r := []) (by simpa using hr) (by omega);have cf : wr.frozen? ⟨w1.heap.size,2 * k,none⟩ = false := hr.frozen _;have hr1 : Row (wr.setCell ⟨w1.heap.size,2 * k,none⟩ (.int .u64 (L[k] % 4294967296))) w1.heap.size (ws (D.set (2 * k) (L[k] % 4294967296))) := by
    have := Row.setWord (r := []) (by simpa using hr) (show 2 * k < D.length by omega) (L[k] % 4294967296)
    simpa using this
   have hb1 := hb.setCell (p := ⟨w1.heap.size,2 * k,none⟩) (Nat.le_refl _) (.int .u64 (L[k] % 4294967296));have c2' : (wr.setCell ⟨w1.heap.size,2 * k,none⟩ (.int .u64 (L[k] % 4294967296))).cell? ⟨b,off + k,none⟩ = some (.int .u64 L[k]) := (hb1.cell (p := ⟨b,off + k,none⟩) hbg).trans (hcy k hk2);have c1' : (wr.setCell ⟨w1.heap.size,2 * k,none⟩ (.int .u64 (L[k] % 4294967296))).cell? ⟨w1.heap.size,2 * k + 1,none⟩ = some (.int .u64 ((D.set (2 * k) (L[k] % 4294967296))[2 * k + 1]'(by rw [List.length_set];omega))) := Row.word (r := []) (by simpa using hr1) (by rw [List.length_set];omega);have cf' : (wr.setCell ⟨w1.heap.size,2 * k,none⟩ (.int .u64 (L[k] % 4294967296))).frozen? ⟨w1.heap.size,2 * k + 1,none⟩ = false := hr1.frozen _;have HR2 : Hid (Row ((wr.setCell ⟨w1.heap.size,2 * k,none⟩ (.int .u64 (L[k] % 4294967296))).setCell ⟨w1.heap.size,2 * k + 1,none⟩ (.int .u64 (L[k] / 4294967296))) w1.heap.size (ws (pairs (L.take (k + 1)) ++ List.replicate (2 * (n - (k + 1))) 0))) := by
    have := Row.setWord (r := []) (by simpa using hr1) (show 2 * k + 1 < (D.set (2 * k) (L[k] % 4294967296)).length by rw [List.length_set];omega) (L[k] / 4294967296);rw [hst] at this;unfold Hid;simpa using this
   have HB2 := hid (hb1.setCell (p := ⟨w1.heap.size,2 * k + 1,none⟩) (Nat.le_refl _) (.int .u64 (L[k] / 4294967296)));generalize (D.set (2 * k) (L[k] % 4294967296))[2 * k + 1]'(by rw [List.length_set];omega) = z1 at *;generalize D[2 * k]'(by omega) = z0 at *;clear hcy hr hb hr1 hb1 hst;generalize L[k] = x at *;have i0 : (0 : Int) ≤ (k : Int) := by omega
   go_wp2;go_roundw
   case rel => exact ⟨k + 1,by omega,by go_num,HR2.out,HB2.out⟩
   case measure => simp [intOf];omega
  ·obtain rfl : k = n := by omega
   have e0 : L.take k = L := by rw [← HL.out];simp
   rw [Nat.sub_self,Nat.mul_zero,List.replicate_zero,List.append_nil,e0] at hr;have hD := zhD HWL.out;have hDl : (pairs L).length = 2 * k := by rw [zkA,HL.out]
   have hsd := Row.sl (r := []) (by simpa using hr) hD.word (cap := 2 * k) (by rw [hDl];exact Nat.le_refl _) (by omega) hr.lt;rw [hDl] at hsd;have HT2 := hid (zSA hsd);have HS2 := hid (zQB hsd);have l2 := zGA (pairs L);have HB := hid hb;clear hr hsd e0 hb HM;go_wp2_with fail;refine HT2.out.mono ?_;rintro e w3 ⟨rfl,rfl⟩;go_wp2;go_ret;exact ⟨lst (pairs L),_,rfl,HS2.out,hcanon_lst' hD,by rw [hval_lst',pairs_val,HVL.out],by rw [length_lst];omega,HB.out⟩
end Go.Proofs.Ytlhjogiefbjklaa
