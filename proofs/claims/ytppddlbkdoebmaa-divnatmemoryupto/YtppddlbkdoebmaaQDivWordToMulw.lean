/-
 QDivWordToMulw: DivWord, Prod, Mulw, joined.
-/
import Derived.Test.YtppddlbkdoebmaaQDiv64
import Derived.Test.YtppddlbkdoebmaaQHWordsToMade
import Derived.Test.YtppddlbkdoebmaaQWordsToInts
import Derived.Shelf.Bits.Mul64

set_option maxRecDepth 100000
set_option maxHeartbeats 6400000
set_option linter.unusedVariables false
set_option linter.unusedSimpArgs false
namespace Go.Proofs.Ytppddlbkdoebmaa
open Go.RowKit
def zoC (L zs : List Int) (k : Nat) (W r : Int) : Prop :=
 zs.length = L.length ∧ WF zs ∧ (∀ j (h : j < zs.length) (h' : j < L.length),j < k → zs[j] = L[j]) ∧ val L = val (L.take k) + pw k * (W * val (zs.drop k) + r)
theorem zoC.start {L : List Int} (hL : WF L) (W : Int) : zoC L L L.length W 0 :=
 ⟨rfl,hL,fun j _ _ _ => rfl,by simp [val]⟩
theorem zpD {zs : List Int} {k : Nat} (h : k < zs.length) (x : Int) : (zs.set k x).drop k = x :: zs.drop (k + 1) := by
 rw [List.drop_eq_getElem_cons (by simpa using h)];rw [List.getElem_set_self,List.drop_set,if_pos (by omega)]
theorem word_sum (a p x W V r q r' : Int) (h : q * W + r' = r * wB + x) : a + x * p + wB * p * (W * V + r) = a + p * (W * (q + wB * V) + r') := by
 have e : r' = r * wB + x - q * W := by omega
 subst e;simp only [Int.mul_add,Int.mul_sub,Int.mul_comm,Int.mul_left_comm];omega
theorem zoC.step {L zs : List Int} {k : Nat} {W r q r' : Int} (h : zoC L zs (k + 1) W r) (hk : k < L.length) (hq : IsW q) (he : q * W + r' = r * wB + L[k]) : zoC L (zs.set k q) k W r' := by
 obtain ⟨h1,h2,h3,h4⟩ := h;refine ⟨by rw [List.length_set];exact h1,h2.set k hq,fun j hj hj' hjk => ?_,?_⟩
 ·rw [List.getElem_set_ne (by omega)];exact h3 j (by simpa using hj) hj' (by omega)
 ·rw [h4,zpD (by omega),zOA L k hk]
  show _ = _ + pw k * (W * (q + wB * val (zs.drop (k + 1))) + r')
  exact word_sum _ _ _ _ _ _ _ _ he
theorem zoC.done {L zs : List Int} {W r : Int} (h : zoC L zs 0 W r) : val L = W * val zs + r := by
 have := h.2.2.2
 simpa [val,pw] using this
def zyF (w : World) (xs : List Int) (W : Int) (e : Ending) (w' : World) : Prop :=
 ∃ zs q r,e = .returned (.tuple #[q,.int .u64 r,.int .i64 0]) ∧ Own w.heap.size w' q zs ∧ zFA zs ∧ IsW r ∧ r < W ∧ val xs = W * val zs + r ∧ zs.length ≤ wid xs ∧ Below w.heap.size w w'
theorem zHB {w : World} {v : Value} {xs : List Int} (h : Sl w.heap.size w v xs) :
  Calls Try.prog 18 #[v] w fun e w' => ∃ r,e = .returned r ∧ Own w.heap.size w' r (lst xs) ∧ Below w.heap.size w w' :=
 (least_any h).mono fun e w' ⟨h1,h2,h3,h4⟩ => by
  have hx := h.1;obtain ⟨_,a,cap,_,h6,h7,_⟩ := h;have := zIA xs;refine ⟨_,h1,⟨(canon_lst hx).1,.inr ⟨w.heap.size,[],Nat.le_refl _,?_,?_,?_⟩⟩,h3⟩
  ·simp [length_lst];omega
  ·simp [length_lst]
  ·simpa using h2
theorem divWord_zero (v : Value) (w : World) :
  Calls Try.prog 8 #[v,.int .u64 0] w fun e w' => e = .returned (.tuple #[.slice none 0 0,.int .u64 0,.int .i64 4]) ∧ w' = w := by
 go_enter Try.func8,Try.ntmps8;go_wp2;go_ret3;exact ⟨rfl,rfl⟩
theorem zEB {w : World} {v : Value} {xs : List Int} {W : Int} (h : Sl w.heap.size w v xs) (hW : IsW W) (h0 : 0 < W) :
  Calls Try.prog 8 #[v,.int .u64 W] w (zyF w xs W) := by
 have HLE := least_any h;have hx := h.1;have hwb : (W == 0) = false := by rw [beq_eq_false_iff_ne];omega
 have HLL := hid (length_lst xs);have HWL := hid (canon_lst hx).1;have HVL := hid (val_lst xs);have l1 := zIA xs;have hcm : wid xs ≤ 35184372088832 := by
  obtain ⟨_,a,cap,_,_,h7,_⟩ := h;omega
 have HST := hid (zoC.start (canon_lst hx).1 W);rw [length_lst] at HST;have HX := hid (show zyF w xs W = zyF w xs W from rfl);generalize lst xs = L at *;obtain ⟨n,hn⟩ : ∃ n,n = wid xs := ⟨_,rfl⟩
 rw [← hn] at HLE HLL HST hcm l1;have HN := hid hn;clear h hx hn HX;go_enter Try.func8,Try.ntmps8;go_wp2_with fail;refine HLE.mono ?_;rintro e w1 ⟨rfl,hrow,hb1,hsz1⟩;clear HLE;have hr1 := hid hrow;have hb1' := hid hb1;clear hrow hb1;go_wp2_with fail
 go_loopw [8,9] (fun c i wr => ∃ (k : Nat) (zs : List Int) (r : Int),k ≤ n ∧ i = .int .i64 ((k : Int) - 1) ∧ c = .int .u64 r ∧ 0 ≤ r ∧ r < W ∧ Hid (zoC L zs k W r) ∧ Row wr w.heap.size (ws zs) ∧ Below w.heap.size w wr) (fun _ i _ => (intOf i + 1).toNat)
 case atStart => exact ⟨n,L,0,Nat.le_refl _,rfl,rfl,by omega,h0,HST,hr1.out,hb1'.out⟩
 case round =>
  clear HST hr1 hb1' hsz1;obtain ⟨k,zs,r,hk,rfl,rfl,hr0,hrW,HA,hr,hb⟩ := hrel;have hzl : zs.length = n := HA.out.1.trans HLL.out
  by_cases hk0 : k = 0
  ·subst hk0
   have hwz := HA.out.2.1;have hsl := Row.sl (r := []) (by simpa using hr) hwz (cap := n) (by rw [hzl];exact Nat.le_refl _) (by omega) hr.lt;rw [hzl] at hsl;have HL2 := hid (zHB hsl);clear hsl;go_wp2_with fail;refine HL2.out.mono ?_;rintro e w2 ⟨v2,rfl,ho,hb2⟩;have HO := hid ho;have HB := hid hb2;clear ho hb2;go_wp2;go_ret3;refine ⟨lst zs,v2,r,rfl,?_,canon_lst hwz,⟨hr0,Int.lt_trans hrW hW.2⟩,hrW,?_,?_,hb.trans (HB.out.mono hb.size)⟩
   ·obtain ⟨a1,a2 | ⟨g,rr,a2,a3⟩⟩ := HO.out
    ·exact ⟨a1,.inl a2⟩
    ·exact ⟨a1,.inr ⟨g,rr,Nat.le_trans hb.size a2,a3⟩⟩
   ·rw [← HVL.out,val_lst];exact HA.out.done
   ·rw [length_lst,← HN.out,← hzl];exact zIA _
  ·obtain ⟨j,rfl⟩ : ∃ j,k = j + 1 := ⟨k - 1,by omega⟩
   have hj1 : j < zs.length := by omega
   have hj2 : j < L.length := by have := HLL.out;omega
   have hzj : zs[j] = L[j] := HA.out.2.2.1 j hj1 hj2 (by omega);have c1 : ∀ q,(wr.drewN q).cell? ⟨w.heap.size,j,none⟩ = some (.int .u64 L[j]) := fun q => by
    have := Row.word (r := []) (by simpa using hr.drewN q) hj1;rw [hzj] at this;exact this
   have c1' : wr.cell? ⟨w.heap.size,j,none⟩ = some (.int .u64 L[j]) := c1 0;have cf : ∀ q,(wr.drewN q).frozen? ⟨w.heap.size,j,none⟩ = false := fun q => (hr.drewN q).frozen j
   obtain ⟨q,r',hq,hr0',hrW',he,hdiv⟩ := zIF ⟨hr0,Int.lt_trans hrW hW.2⟩ (HWL.out.get hj2) hW hrW;have HA' := hid (HA.out.step hj2 hq he);have HR : Hid (∀ m,Row ((wr.drewN m).setCell ⟨w.heap.size,j,none⟩ (.int .u64 q)) w.heap.size (ws (zs.set j q))) := fun m => by
    have := Row.setWord (r := []) (by simpa using hr.drewN m) hj1 q
    simpa using this
   have HB : Hid (∀ m,Below w.heap.size w ((wr.drewN m).setCell ⟨w.heap.size,j,none⟩ (.int .u64 q))) := fun m =>
    (below_drewN hb m).setCell (p := ⟨w.heap.size,j,none⟩) (Nat.le_refl _) (.int .u64 q)
   have ej : ((j + 1 : Nat) : Int) - 1 = (j : Int) := by omega
   have i0 : (0 : Int) ≤ (j : Int) := by omega
   have i2 : (j : Int) < (n : Int) := by omega
   clear hzj hr hb HA hj1 he;generalize L[j] = x at *;generalize zs.set j q = zs' at *;go_wp2_with fail;refine (hdiv _).mono ?_;rintro e w2 ⟨rfl,m,rfl⟩;go_wp2;go_roundw
   case rel => exact ⟨j,zs',r',by omega,by go_num,rfl,hr0',hrW',HA',HR.out _,HB.out _⟩
   case measure => simp [intOf]
end Go.Proofs.Ytppddlbkdoebmaa
namespace Go.Proofs.Ytppddlbkdoebmaa
theorem zvC : ∀ m n : Nat,pw (m + n) = pw m * pw n
 | 0,n => by simp [pw]
 | m + 1,n => by rw [show m + 1 + n = (m + n) + 1 by omega,pw,pw,zvC m n,Int.mul_assoc]
theorem pw_up {m n : Nat} (h : m ≤ n) : pw m ≤ pw n := by
 obtain ⟨k,rfl⟩ : ∃ k,n = m + k := ⟨n - m,by omega⟩
 rw [zvC];have h1 := zhA m;have h2 := zhA k;have := Int.mul_le_mul_of_nonneg_left (show 1 ≤ pw k by omega) (Int.le_of_lt h1);omega
theorem zuE : ∀ {xs : List Int} {n : Nat},WF xs → wid xs = n + 1 → pw n ≤ val xs
 | [],n,_,h => by simp [wid] at h
 | x :: r,n,hw,h => by
  have h1 := hw.head;have h2 := val_nonneg hw.tail;unfold IsW wB at h1;unfold wid at h
  split at h
  ·split at h
   ·omega
   ·have : n = 0 := by omega
    subst this;unfold val pw wB;omega
  ·obtain ⟨m,rfl⟩ : ∃ m,n = m + 1 := ⟨n - 1,by omega⟩
   have := zuE (n := m) hw.tail (by omega);unfold val pw wB;omega
theorem wid_len {xs : List Int} (h : WF xs) {n : Nat} (hv : val xs < pw n) : wid xs ≤ n := by
 by_cases q : wid xs ≤ n
 ·exact q
 ·exfalso
  obtain ⟨m,hm⟩ : ∃ m,wid xs = m + 1 := ⟨wid xs - 1,by omega⟩
  have := zuE h hm;have := pw_up (show n ≤ m by omega);omega
theorem zlB {xs : List Int} (h : zFA xs) {n : Nat} (hv : val xs < pw n) : xs.length ≤ n := by
 have := wid_len h.1 hv;rw [h.2] at this;exact this
theorem zIC : ∀ {xs ys : List Int},WF xs → zFA ys → ys ≠ [] → zFA (xs ++ ys)
 | [],ys,_,hy,_ => hy
 | x :: r,ys,hx,hy,hne => by
  have ih := zIC hx.tail hy hne;refine ⟨WF.cons hx.head ih.1,?_⟩;have h0 : wid (r ++ ys) ≠ 0 := by
   rw [ih.2];cases ys
   ·exact absurd rfl hne
   ·simp
  rw [List.cons_append,wid,if_neg h0,ih.2]
  simp
theorem canon_nil : zFA [] := ⟨WF.nil,rfl⟩
theorem zfE {xs : List Int} (h : 0 < val xs) : xs ≠ [] := by
 intro e;subst e;simp [val] at h
theorem zmC {xs : List Int} (h : zFA xs) (hne : xs ≠ []) : 0 < val xs := by
 refine zgA h.1 ?_;rw [h.2];cases xs
 ·exact absurd rfl hne
 ·simp
theorem WF.rest {xs : List Int} (h : WF xs) (n : Nat) : WF (xs.drop n) := fun x hx => h x (List.mem_of_mem_drop hx)
theorem zOC (n : Nat) : WF (List.replicate n 0) := by
 intro x hx;rw [(List.mem_replicate.1 hx).2];unfold IsW wB;omega
theorem zBC : ∀ n : Nat,val (List.replicate n 0) = 0
 | 0 => rfl
 | n + 1 => by rw [List.replicate_succ,val,zBC n];omega
theorem val_halves (xs : List Int) {n : Nat} (h : n ≤ xs.length) : val xs = val (xs.take n) + pw n * val (xs.drop n) := by
 have := zfA (xs.take n) (xs.drop n);rw [List.take_append_drop,List.length_take,Nat.min_eq_left h] at this;exact this
theorem zUC : ∀ {xs : List Int} (n : Nat),zFA xs → zFA (xs.drop n)
 | xs,0,h => by simpa using h
 | [],n + 1,h => by simpa using h
 | x :: r,n + 1,h => by simpa using zUC n (zzC h)
theorem zXE (xs ys : List Int) {n : Nat} (h : xs.length ≤ n) : val (xs ++ List.replicate (n - xs.length) 0 ++ ys) = val xs + pw n * val ys := by
 rw [zfA,zfA,zBC,List.length_append,List.length_replicate,show xs.length + (n - xs.length) = n by omega];omega
theorem zAD {xs ys : List Int} (n : Nat) (hx : WF xs) (hy : zFA ys) (hne : ys ≠ []) : zFA (xs ++ List.replicate (n - xs.length) 0 ++ ys) :=
 zIC (hx.append (zOC _)) hy hne
theorem zhB {xs ys : List Int} (hx : WF xs) (hy : WF ys) : val xs * val ys < pw (xs.length + ys.length) := by
 rw [zvC];have h1 := zXA hx;have h2 := zXA hy;have h3 := val_nonneg hx;have h4 := val_nonneg hy;have h5 := Int.mul_le_mul (Int.le_of_lt h1) (Int.le_of_lt h2) h4 (Int.le_trans h3 (Int.le_of_lt h1))
 by_cases q : val ys = 0
 ·rw [q]
  have := zhA xs.length;have := zhA ys.length;have := Int.mul_pos (zhA xs.length) (zhA ys.length);omega
 ·have := Int.mul_lt_mul_of_pos_right h1 (show 0 < val ys by omega)
  have h6 := Int.mul_le_mul_of_nonneg_left (Int.le_of_lt h2) (Int.le_of_lt (zhA xs.length));omega
theorem zXC {v w : Int} (hv : IsW v) (hw : IsW w) : 0 ≤ v * w ∧ v * w ≤ 340282366920938463426481119284349108225 := by
 unfold IsW wB at hv hw;refine ⟨Int.mul_nonneg hv.1 hw.1,?_⟩;have := Int.mul_le_mul (show v ≤ 18446744073709551615 by omega) (show w ≤ 18446744073709551615 by omega) hw.1 (by omega);omega
theorem word_step {v w s c hi lo l1 o1 l2 o2 : Int} (hv : IsW v) (hw : IsW w) (hs : IsW s) (hc : IsW c) (h0 : 0 ≤ hi) (hlo : IsW lo) (hm : lo + wB * hi = v * w)
  (hl1 : IsW l1) (ho1 : 0 ≤ o1) (e1 : l1 + wB * o1 = lo + s + 0) (hl2 : IsW l2) (ho2 : 0 ≤ o2) (e2 : l2 + wB * o2 = l1 + c + 0) :
  hi + o1 < wB ∧ hi + o1 + o2 < wB ∧ l2 + wB * (hi + o1 + o2) = v * w + s + c := by
 have := zXC hv hw;generalize v * w = p at *;unfold IsW wB at *;refine ⟨by omega,by omega,by omega⟩
theorem times_step {xs zs : List Int} {V v w s c l h : Int} {o k : Nat} (hk : o + k < zs.length) (hs : zs[o + k] = s) (hx : k < xs.length) (hxv : xs[k] = v)
  (hv : val zs + pw (o + k) * c = V + pw o * (val (xs.take k) * w)) (hl : l + wB * h = v * w + s + c) :
  val (zs.set (o + k) l) + pw (o + (k + 1)) * h = V + pw o * (val (xs.take (k + 1)) * w) := by
 rw [zIB zs (o + k) l hk,hs,zOA xs k hx,hxv,show o + (k + 1) = (o + k) + 1 by omega,pw];rw [zvC] at hv ⊢;generalize pw o = P at *;generalize pw k = K at *;generalize val zs = Z at *;generalize val (xs.take k) = X at *;have e : l = v * w + s + c - wB * h := by omega
 subst e
 grind
theorem rows_step {xs ys zs zs' : List Int} {w c : Int} {i n : Nat} (hi : i < ys.length) (hw : ys[i] = w) (hz : val zs = val xs * val (ys.take i)) (h' : val zs' + pw (i + n) * c = val zs + pw i * (val xs * w))
  (hk : i + n < zs'.length) (h0 : zs'[i + n] = 0) : val (zs'.set (i + n) c) = val xs * val (ys.take (i + 1)) := by
 rw [zIB zs' (i + n) c hk,h0,zOA ys i hi,hw]
 grind
theorem two_halves {a b la ha p l c z h : Int} {n : Nat} (ea : a = la + pw n * ha) (ep : p = la * b) (es : p = l + pw n * c) (ez : z = ha * b + c) (eh : h = l + pw n * z) : h = a * b := by
 subst ea ez eh
 grind
theorem four_halves {a b la ha lb hb ll hh sa sb ss t x l c y m c' z r : Int} {n : Nat} (ea : a = la + pw n * ha) (eb : b = lb + pw n * hb) (ell : ll = la * lb) (ehh : hh = ha * hb)
  (esa : sa = la + ha) (esb : sb = lb + hb) (ess : ss = sa * sb) (et : t = ll + hh) (ex : x = ss - t) (el : ll = l + pw n * c) (ey : y = x + c) (em : y = m + pw n * c') (ez : z = hh + c')
  (er : r = l + pw n * (m + pw n * z)) : r = a * b := by
 generalize pw n = P at *;subst ea eb ehh esa esb ess et ex ez er
 grind
theorem cross_nonneg {la ha lb hb : Int} (h1 : 0 ≤ la) (h2 : 0 ≤ ha) (h3 : 0 ≤ lb) (h4 : 0 ≤ hb) : la * lb + ha * hb ≤ (la + ha) * (lb + hb) := by
 have := Int.mul_nonneg h1 h4;have := Int.mul_nonneg h2 h3;rw [Int.add_mul,Int.mul_add,Int.mul_add];omega
open Go.RowKit
theorem mul64_nat (x y : Nat) (hx : x < 18446744073709551616) (hy : y < 18446744073709551616) (w : World) :
  Calls Try.prog 82 #[.int .u64 x,.int .u64 y] w fun e w' => e = .returned (.tuple #[.int .u64 ((x * y / 18446744073709551616 : Nat) : Int),.int .u64 ((x * y % 18446744073709551616 : Nat) : Int)]) ∧ w' = w := by
 obtain ⟨bd,bt,bw,hhi⟩ := Lib.mul64_hi x y hx hy;have ba := Lib.half_mul_le (a := x / 4294967296) (b := y / 4294967296) (by omega) (by omega);have bb := Lib.half_mul_le (a := x / 4294967296) (b := y % 4294967296) (by omega) (by omega);have bc := Lib.half_mul_le (a := x % 4294967296) (b := y / 4294967296) (by omega) (by omega);have ba' : x / 4294967296 * (y / 4294967296) < 18446744073709551616 := by omega
 have bb' : x / 4294967296 * (y % 4294967296) < 18446744073709551616 := by omega
 have bc' : x % 4294967296 * (y / 4294967296) < 18446744073709551616 := by omega
 have bh1 : x / 4294967296 * (y / 4294967296) + (x / 4294967296 * (y % 4294967296) + x % 4294967296 * (y % 4294967296) / 4294967296) / 4294967296 < 18446744073709551616 := by omega
 have bh : x / 4294967296 * (y / 4294967296) + (x / 4294967296 * (y % 4294967296) + x % 4294967296 * (y % 4294967296) / 4294967296) / 4294967296 + ((x / 4294967296 * (y % 4294967296) + x % 4294967296 * (y % 4294967296) / 4294967296) % 4294967296 + x % 4294967296 * (y / 4294967296)) / 4294967296 < 18446744073709551616 := by omega
 go_enter Try.func82,Try.ntmps82;go_wp2;simp only [Mul64.maskN x hx,Mul64.maskN y hy,Mul64.divN,Mul64.mulN,Mul64.addN,Mul64.wrapN _ bd,Mul64.wrapN _ bb',Mul64.wrapN _ bt,Mul64.maskN _ bt,Mul64.wrapN _ bc',Mul64.wrapN _ bw,Mul64.wrapN _ ba',Mul64.wrapN _ bh1,Mul64.wrapN _ bh,Mul64.wrapM (x * y)];rw [hhi];go_ret2;exact ⟨rfl,rfl⟩
theorem zxE {x y : Int} (hx : IsW x) (hy : IsW y) :
  ∃ hi lo,IsW hi ∧ IsW lo ∧ lo + wB * hi = x * y ∧
   ∀ w : World,Calls Try.prog 82 #[.int .u64 x,.int .u64 y] w fun e w' => e = .returned (.tuple #[.int .u64 hi,.int .u64 lo]) ∧ w' = w := by
 have hle := zXC hx hy;unfold IsW wB at hx hy;obtain ⟨X,rfl⟩ := Int.eq_ofNat_of_zero_le hx.1;obtain ⟨Y,rfl⟩ := Int.eq_ofNat_of_zero_le hy.1;rw [← Int.natCast_mul] at hle;refine ⟨((X * Y / 18446744073709551616 : Nat) : Int),((X * Y % 18446744073709551616 : Nat) : Int),?_,?_,?_,fun w => mul64_nat X Y (by omega) (by omega) w⟩
 ·unfold IsW wB;omega
 ·unfold IsW wB;omega
 ·rw [← Int.natCast_mul]
  unfold wB;omega
end Go.Proofs.Ytppddlbkdoebmaa
