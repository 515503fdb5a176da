import Derived.Test.YtlhjogiefbjklaaQWords3ToDivPure
import Derived.Test.YtlhjogiefbjklaaQDivParts
set_option maxRecDepth 100000
set_option maxHeartbeats 6400000
set_option linter.unusedVariables false
set_option linter.unusedSimpArgs false
namespace Go.Proofs.Ytlhjogiefbjklaa
open Go.RowKit
def zbB (D T : List Int) (f : Int) (k : Nat) (c : Int) : Prop :=
 T.length = D.length + 1 ∧ HF T ∧ (∀ j (h : j < T.length),k ≤ j → T[j] = 0) ∧ hval T + hpw k * c = f * hval (D.take k)
theorem zbB.start (D : List Int) (f : Int) : zbB D (List.replicate (D.length + 1) 0) f 0 0 :=
 ⟨by simp,zXB _,fun j h _ => by simp,by rw [zmA];simp [hval]⟩
theorem zbB.step {D T : List Int} {f c x lo hi : Int} {k : Nat} (h : zbB D T f k c) (hk : k < D.length) (hx : D[k] = x) (hl : IsH lo) (he : lo + hwB * hi = x * f + c) : zbB D (T.set k lo) f (k + 1) hi := by
 obtain ⟨h1,h2,h3,h4⟩ := h;refine ⟨by rw [List.length_set];exact h1,h2.set k hl,fun j hj hkj => ?_,?_⟩
 ·rw [List.getElem_set_ne (by omega)];exact h3 j (by simpa using hj) (by omega)
 ·rw [zCB T k lo (by omega),h3 k (by omega) (Nat.le_refl _),zNA D k hk,hx,hpw]
  generalize hpw k = P at *;generalize hval T = Z at *;generalize hval (D.take k) = X at *;have e : lo = x * f + c - hwB * hi := by omega
  subst e
  grind
theorem zbB.done {D T : List Int} {f c : Int} (h : zbB D T f D.length c) (hc : IsH c) : HF (T.set D.length c) ∧ hval (T.set D.length c) = f * hval D := by
 obtain ⟨h1,h2,h3,h4⟩ := h;refine ⟨h2.set _ hc,?_⟩;rw [zCB T D.length c (by omega),h3 D.length (by omega) (Nat.le_refl _)];rw [List.take_length] at h4;rw [Int.sub_zero,Int.mul_comm];exact h4
theorem zWD {x f c : Int} (hx0 : 0 ≤ x) (hx1 : x < 4294967296) (hf0 : 0 ≤ f) (hf1 : f < 4294967296) (hc0 : 0 ≤ c) (hc1 : c < 4294967296) : 0 ≤ x * f ∧ x * f ≤ 18446744065119617025 := by
 refine ⟨Int.mul_nonneg hx0 hf0,?_⟩;have h1 := Int.mul_le_mul_of_nonneg_right (show x ≤ 4294967295 by omega) hf0;have h2 := Int.mul_le_mul_of_nonneg_left (show f ≤ 4294967295 by omega) (show (0 : Int) ≤ 4294967295 by omega);omega
theorem zxB {w : World} {v : Value} {D : List Int} {f : Int} (h : Sl w.heap.size w v D) (hD : HF D) (hf0 : 0 ≤ f) (hf1 : f < 4294967296) (hlen : D.length ≤ 17592186044416) :
  Calls Try.prog 67 #[v,.int .u64 f] w fun e w' => ∃ T,e = .returned (.slice (some ⟨w.heap.size,0,none⟩) (D.length + 1) (D.length + 1)) ∧ T.length = D.length + 1 ∧ HF T ∧ hval T = f * hval D ∧ Row w' w.heap.size (ws T) ∧ Below w.heap.size w w' := by
 obtain ⟨hw,a,cap,rfl,hlc,hcm,hm⟩ := h;have HST := hid (zbB.start D f);have HM := hid hm;have HD := hid hD;obtain ⟨n,hn⟩ : ∃ n,D.length = n := ⟨_,rfl⟩
 rw [hn] at hlc hlen HST;rw [hn];have HN := hid hn;clear hm hD hn;go_enter Try.func67,Try.ntmps67;go_wp2_with (at_make;refine wpList_make_words _ rfl _ _ rfl _ _ (n + 1) (n + 1) rfl rfl (by first | rfl | omega) (by first | rfl | omega) (Nat.le_refl _) (by omega) ?_)
 intro w2 hrow hb2 hsz2;have hrow' := hid hrow;have hb2' := hid hb2;clear hrow hb2 hsz2;go_wp2_with fail
 go_loopw [6,7] (fun c i wr => ∃ (k : Nat) (T : List Int) (cc : Int),k ≤ n ∧ i = .int .i64 k ∧ c = .int .u64 cc ∧ 0 ≤ cc ∧ cc < 4294967296 ∧ Hid (zbB D T f k cc) ∧ Row wr w.heap.size (ws T) ∧ Below w.heap.size w wr) (fun _ i _ => n - (intOf i).toNat)
 case atStart => exact ⟨0,_,0,Nat.zero_le _,rfl,rfl,by omega,by omega,HST,hrow'.out,hb2'.out⟩
 case round =>
  clear hrow' hb2' HST;obtain ⟨k,T,cc,hk,rfl,rfl,hc0,hc1,HA,hr,hb⟩ := hrel;have hTl : T.length = n + 1 := by rw [HA.out.1,HN.out]
  by_cases hlt : k < n
  ·have hk2 : k < D.length := by have := HN.out;omega
   rcases HM.out with e | ⟨b,off,rfl,hbg,hcy⟩
   ·subst e;simp at hk2
   have hxw := HD.out.get hk2;unfold IsH hwB at hxw;obtain ⟨hx0,hx1⟩ := hxw;obtain ⟨p0,p1⟩ := zWD hx0 hx1 hf0 hf1 hc0 hc1;obtain ⟨p,hp⟩ : ∃ p,p = D[k] * f := ⟨_,rfl⟩
   rw [← hp] at p0 p1;have ep : D[k] * f = p := hp.symm;have c2 : wr.cell? ⟨b,off + k,none⟩ = some (.int .u64 D[k]) := (hb.cell (p := ⟨b,off + k,none⟩) hbg).trans (hcy k hk2);have cf : wr.frozen? ⟨w.heap.size,k,none⟩ = false := hr.frozen _;have c1 : wr.cell? ⟨w.heap.size,k,none⟩ = some (.int .u64 (T[k]'(by omega))) := Row.word (r := []) (by simpa using hr) (by omega);have HA' := hid (HA.out.step (lo := (p + cc) % 4294967296) (hi := (p + cc) / 4294967296) hk2 rfl (by unfold IsH hwB;omega) (by rw [ep];unfold hwB;omega));have HR2 : Hid (Row (wr.setCell ⟨w.heap.size,k,none⟩ (.int .u64 ((p + cc) % 4294967296))) w.heap.size (ws (T.set k ((p + cc) % 4294967296)))) := by
    have := Row.setWord (r := []) (by simpa using hr) (show k < T.length by omega) ((p + cc) % 4294967296);unfold Hid;simpa using this
   have HB2 := hid (hb.setCell (p := ⟨w.heap.size,k,none⟩) (Nat.le_refl _) (.int .u64 ((p + cc) % 4294967296)));have i0 : (0 : Int) ≤ (k : Int) := by omega
   clear hcy hr hb HA hp;generalize T[k]'(by omega) = z at *;generalize D[k] = x at *;go_wp2;go_roundw
   case rel => exact ⟨k + 1,_,_,by omega,by go_num,rfl,by omega,by omega,HA',HR2.out,HB2.out⟩
   case measure => simp [intOf];omega
  ·obtain rfl : k = n := by omega
   have HE := HA.out;rw [← HN.out] at HE;have hd := HE.done (by unfold IsH hwB;omega);rw [HN.out] at hd;have cf : wr.frozen? ⟨w.heap.size,k,none⟩ = false := hr.frozen _;have c1 : wr.cell? ⟨w.heap.size,k,none⟩ = some (.int .u64 (T[k]'(by omega))) := Row.word (r := []) (by simpa using hr) (by omega);have HR2 : Hid (Row (wr.setCell ⟨w.heap.size,k,none⟩ (.int .u64 cc)) w.heap.size (ws (T.set k cc))) := by
    have := Row.setWord (r := []) (by simpa using hr) (show k < T.length by omega) cc;unfold Hid;simpa using this
   have HB2 := hid (hb.setCell (p := ⟨w.heap.size,k,none⟩) (Nat.le_refl _) (.int .u64 cc));have HDN := hid hd;clear HE hd hr hb HM;generalize T[k]'(by omega) = z at *;go_wp2;go_ret;exact ⟨T.set k cc,rfl,by rw [List.length_set];exact hTl,HDN.out.1,HDN.out.2,HR2.out,HB2.out⟩
theorem zaE {R : List Int} {i : Nat} {z z' c' t V P c : Int} (hi : i < R.length) (hz : R[i] = z) (he : z' - hwB * c' = z - t) (hv : hval R - hpw i * c = V - P) : hval (R.set i z') - hpw (i + 1) * c' = V - (P + hpw i * (t - c)) := by
 rw [zCB R i z' hi,hz,hpw];generalize hpw i = Q at *;generalize hval R = X at *;have e : z' = z - t + hwB * c' := by omega
 subst e
 grind
def zIC (R0 bs R : List Int) (q : Int) (s k : Nat) (c : Int) : Prop := R.length = R0.length ∧ HF R ∧ hval R - hpw (s + k) * c = hval R0 - hpw s * (q * hval (bs.take k))
theorem zIC.start {R0 bs : List Int} (h : HF R0) (q : Int) (s : Nat) : zIC R0 bs R0 q s 0 0 := ⟨rfl,h,by simp [hval]⟩
theorem zIC.in {R0 bs R : List Int} {q c z z' c' x : Int} {s k : Nat} (h : zIC R0 bs R q s k c) (hk : k < bs.length) (hx : bs[k] = x) (hi : s + k < R.length) (hz : R[s + k] = z) (hz' : IsH z') (he : z' - hwB * c' = z - (c + q * x)) : zIC R0 bs (R.set (s + k) z') q s (k + 1) c' := by
 obtain ⟨h1,h2,h3⟩ := h;refine ⟨by rw [List.length_set];exact h1,h2.set _ hz',?_⟩;have := zaE hi hz he h3;rw [show s + (k + 1) = s + k + 1 by omega,this,zNA bs k hk,hx,zWB];generalize hpw s = P at *;generalize hpw k = K at *;generalize hval (bs.take k) = X at *
 grind
theorem zIC.out {R0 bs R : List Int} {q c z z' c' : Int} {s k : Nat} (h : zIC R0 bs R q s k c) (hk : bs.length ≤ k) (hi : s + k < R.length) (hz : R[s + k] = z) (hz' : IsH z') (he : z' - hwB * c' = z - c) : zIC R0 bs (R.set (s + k) z') q s (k + 1) c' := by
 obtain ⟨h1,h2,h3⟩ := h;refine ⟨by rw [List.length_set];exact h1,h2.set _ hz',?_⟩;have := zaE hi hz he h3;rw [show s + (k + 1) = s + k + 1 by omega,this,List.take_of_length_le hk,List.take_of_length_le (by omega),Int.sub_self,Int.mul_zero,Int.add_zero]
theorem zIC.done {R0 bs R : List Int} {q : Int} {s k : Nat} (h : zIC R0 bs R q s k 0) (hk : bs.length ≤ k) : hval R = hval R0 - hpw s * (q * hval bs) := by
 obtain ⟨h1,h2,h3⟩ := h;rw [List.take_of_length_le hk,Int.mul_zero,Int.sub_zero] at h3;exact h3
theorem zIC.last {R0 bs R : List Int} {q c : Int} {s k : Nat} (h : zIC R0 bs R q s k c) (hk : bs.length ≤ k) (hl : s + k = R.length) (hc : 0 ≤ c) (hge : hpw s * (q * hval bs) ≤ hval R0) : c = 0 := by
 obtain ⟨h1,h2,h3⟩ := h;rw [List.take_of_length_le hk,hl] at h3;have h4 := zQA h2
 by_cases q : c = 0
 ·exact q
 ·have := Int.mul_le_mul_of_nonneg_left (show 1 ≤ c by omega) (Int.le_of_lt (zWA R.length))
  rw [Int.mul_one] at this;omega
end Go.Proofs.Ytlhjogiefbjklaa
