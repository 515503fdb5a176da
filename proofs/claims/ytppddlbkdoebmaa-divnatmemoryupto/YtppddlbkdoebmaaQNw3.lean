import Derived.Test.YtppddlbkdoebmaaQAm3
import Derived.Test.YtppddlbkdoebmaaQPowerToBitStep
import Derived.Test.YtppddlbkdoebmaaQBitByBitToOnto
set_option maxRecDepth 100000
set_option maxHeartbeats 6400000
set_option linter.unusedVariables false
set_option linter.unusedSimpArgs false
namespace Go.Proofs.Ytppddlbkdoebmaa
open Go.RowKit
theorem zjF {r : Int} (hr : 0 ≤ r) : ∀ m : Nat,(m : Int) ≤ r + 1 → (r + 1) ^ m * (r + 1 - (m : Int)) ≤ r ^ m * (r + 1)
 | 0,_ => by simp
 | m + 1,h => by
  have ih := zjF hr m (by omega);have hm : ((m + 1 : Nat) : Int) = (m : Int) + 1 := by omega
  rw [hm] at h ⊢;rw [Int.pow_succ,Int.pow_succ];have hp : 0 ≤ (r + 1) ^ m := Int.pow_nonneg (by omega);have h1 : (r + 1) * (r + 1 - ((m : Int) + 1)) ≤ r * (r + 1 - (m : Int)) := by
   have : (r + 1) * (r + 1 - ((m : Int) + 1)) = r * (r + 1 - (m : Int)) - (m : Int) := by grind
   omega
  have h2 := Int.mul_le_mul_of_nonneg_left h1 hp;have h3 := Int.mul_le_mul_of_nonneg_left ih hr;generalize (r + 1) ^ m = X at *;generalize r ^ m = Y at *
  grind
theorem newton_near {a x r : Int} {m : Nat} (hr : 1 ≤ r) (hx : r ≤ x) (ha0 : 0 ≤ a) (ha : a < (r + 1) ^ (m + 1)) (hm : 2 * (m : Int) ≤ r + 1) : a / x ^ m ≤ 2 * x + 1 := by
 have h1 := zjF (r := r) (by omega) m (by omega);have hp : 0 ≤ (r + 1) ^ m := Int.pow_nonneg (by omega);have hq : 0 ≤ r ^ m := Int.pow_nonneg (by omega);have hxp : 0 < x ^ m := Int.pow_pos (by omega);have h2 : (r + 1) ^ m ≤ 2 * r ^ m := by
  have h3 : (r + 1) ^ m * (r + 1) ≤ (r + 1) ^ m * (2 * (r + 1 - (m : Int))) := Int.mul_le_mul_of_nonneg_left (by omega) hp;have h4 : (r + 1) ^ m * (r + 1) ≤ 2 * r ^ m * (r + 1) := by
   generalize (r + 1) ^ m = X at *;generalize r ^ m = Y at *
   grind
  exact Int.le_of_mul_le_mul_right h4 (by omega)
 have h5 : r ^ m ≤ x ^ m := zFC (by omega) hx m;rw [Int.pow_succ] at ha;have h6 : a < 2 * (x + 1) * x ^ m := by
  have h7 : (r + 1) ^ m * (r + 1) ≤ 2 * x ^ m * (r + 1) := Int.mul_le_mul_of_nonneg_right (by omega) (by omega);have h8 : 2 * x ^ m * (r + 1) ≤ 2 * x ^ m * (x + 1) := Int.mul_le_mul_of_nonneg_left (by omega) (by omega);have h9 : 2 * x ^ m * (x + 1) = 2 * (x + 1) * x ^ m := by grind
  omega
 have := Int.ediv_lt_of_lt_mul hxp h6;omega
theorem hlen_pw {Q : List Int} (h : zMA Q) {n : Nat} (hv : hval Q < hpw n) : Q.length ≤ n := by
 rcases Nat.lt_or_ge n Q.length with q | q
 ·obtain ⟨m,hm⟩ : ∃ m,Q.length = m + 1 := ⟨Q.length - 1,by omega⟩
  obtain ⟨h1,h2⟩ := zSC (xs := Q) (n := m) (by rw [h.2,hm]);refine absurd (zsD h.1 h1 ?_) h2;have : hpw n ≤ hpw m := by
   obtain ⟨t,rfl⟩ : ∃ t,m = n + t := ⟨m - n,by omega⟩
   rw [zrB];have h3 := zcA n;have h4 := zcA t;have : hpw n * 1 ≤ hpw n * hpw t := Int.mul_le_mul_of_nonneg_left (by omega) (by omega);omega
  omega
 ·exact q
def zhE (S Q Z : List Int) (i : Nat) (c : Int) : Prop :=
 Z.length = S.length ∧ HF Z ∧ (∀ j,i ≤ j → Z[j]? = S[j]?) ∧ hval (Z.take i) + hpw i * c = hval (S.take i) + hval (Q.take i)
theorem zhE.start {S : List Int} (Q : List Int) (h : HF S) : zhE S Q S 0 0 := ⟨rfl,h,fun _ _ => rfl,by simp [hval]⟩
theorem zhE.at {S Q Z : List Int} {c : Int} {k : Nat} (h : zhE S Q Z k c) (hk : k < S.length) : Z[k]'(by rw [h.1];exact hk) = S[k] := by
 have h1 := h.2.2.1 k (Nat.le_refl _);rw [List.getElem?_eq_getElem hk,List.getElem?_eq_getElem (by rw [h.1];exact hk)] at h1;exact Option.some.inj h1
theorem hval_take_getD (Q : List Int) (i : Nat) : hval (Q.take (i + 1)) = hval (Q.take i) + Q.getD i 0 * hpw i := by
 by_cases h : i < Q.length
 ·rw [zQA Q i h];simp [h]
 ·rw [List.take_of_length_le (by omega),List.take_of_length_le (by omega)];simp [Nat.le_of_not_lt h]
theorem zhE.step {S Q Z : List Int} {c lo hi x q : Int} {k : Nat} (h : zhE S Q Z k c) (hk : k < S.length) (hx : S[k] = x) (hq : Q.getD k 0 = q) (hl : IsH lo) (he : lo + hwB * hi = x + q + c) : zhE S Q (Z.set k lo) (k + 1) hi := by
 obtain ⟨h1,h2,h3,h4⟩ := h;have hkz : k < (Z.set k lo).length := by rw [List.length_set,h1];exact hk
 refine ⟨by rw [List.length_set,h1],h2.set k hl,fun j hj => ?_,?_⟩
 ·rw [List.getElem?_set_ne (by omega)];exact h3 j (by omega)
 ·rw [zQA _ k hkz,zQA S k hk,hval_take_getD,hq]
  have e1 : (Z.set k lo)[k]'hkz = lo := by simp
  have e2 : (Z.set k lo).take k = Z.take k := List.take_set_of_le (Nat.le_refl k);rw [e1,e2,hx]
  show hval (Z.take k) + lo * hpw k + hwB * hpw k * hi = _
  generalize hpw k = P at *;have e : P * (lo + hwB * hi) = P * (x + q + c) := by rw [he]
  grind
def NwJ3 (W : World) (r L gk : Nat) (s7 : Value) (wx : World) : Prop :=
 ∃ (X : List Int) (x : Nat),Sl wx.heap.size wx s7 X ∧ zMA X ∧ hval X = (x : Int) ∧ r ≤ x ∧ X.length ≤ L ∧ gk = x ∧ Below W.heap.size W wx
def NwP3 (W : World) (x k L gk : Nat) (s8 s9 : Value) (wx : World) : Prop :=
 ∃ (P : List Int) (i : Nat),Sl wx.heap.size wx s8 P ∧ zMA P ∧ hval P = ((x ^ (i - 1) : Nat) : Int) ∧ s9 = .int .i64 (i : Int) ∧ 1 ≤ i ∧ i ≤ k ∧ gk = k - i ∧ P.length ≤ 1 + (i - 1) * L ∧ Below W.heap.size W wx
def NwS3 (W : World) (g : Nat) (S Q : List Int) (N gk : Nat) (s13 s14 : Value) (wx : World) : Prop :=
 ∃ (i : Nat) (c : Int) (Z : List Int),s13 = .int .u64 c ∧ s14 = .int .i64 (i : Int) ∧ i ≤ N ∧ gk = N - i ∧ 0 ≤ c ∧ c ≤ 1 ∧ zhE S Q Z i c ∧ Row wx g (ws Z) ∧ Below g W wx ∧ Only g W wx
theorem rnewton_any {w : World} {v : Value} {D : List Int} {d k high r : Nat} (hv : Sl w.heap.size w v D) (hD : zMA D) (ed : hval D = (d : Int)) (hd : 1 ≤ d) (hk : 2 ≤ k) (hr1 : 1 ≤ r) (hroot : zlA r d k) (hrh : r ≤ 2 ^ (high + 1)) (hm : 2 * (k - 1) ≤ r + 1)
  (hk2 : k < 1073741824) (hh : high < 137438953472) (hsz : k * (high / 32 + 3) ≤ 274877906944) (hl : D.length ≤ 274877906944) :
  Calls Try.prog 50 #[v,.int .i64 (k : Int),.int .i64 (high : Int)] w (Told w (r : Int)) := by
 obtain ⟨n,hn⟩ : ∃ n,high / 32 + 2 = n := ⟨_,rfl⟩
 obtain ⟨qh,hqh⟩ : ∃ q,(high + 1) / 32 = q := ⟨_,rfl⟩
 obtain ⟨mh,hmh⟩ : ∃ m,(high + 1) % 32 = m := ⟨_,rfl⟩
 have e1 : (high : Int) / 32 + 2 = (n : Int) := by omega
 have e2 : ((high : Int) + 1) / 32 = (qh : Int) := by omega
 have e3 : ((high : Int) + 1) % 32 = (mh : Int) := by omega
 have hm32 : mh < 32 := by omega
 have hqn : qh < n := by omega
 have SD := hid hv;have HCD := hid hD;have HED := hid ed;have HRT := hid hroot;have HK : Hid (2 ≤ k ∧ k < 1073741824 ∧ 1 ≤ d ∧ 1 ≤ r ∧ 2 * (k - 1) ≤ r + 1 ∧ k * (n + 1) ≤ 274877906944 ∧ D.length ≤ 274877906944) := hid ⟨hk,hk2,hd,hr1,hm,by rw [← hn];exact hsz,hl⟩;have hnn : n ≤ 4294967298 := by omega
 obtain ⟨_,aD,qD,rfl,-⟩ := id hv;obtain ⟨lD,hld⟩ : ∃ l,D.length = l := ⟨_,rfl⟩
 have HLD := hid hld;rw [hld] at SD ⊢;clear hld;clear hv hD ed hroot hk hk2 hd hr1 hm hsz hl hn;go_enter Try.func50,Try.ntmps50;go_wp2_with (at_make;refine wpList_make_words _ rfl _ _ rfl _ _ n n rfl rfl (by first | rfl | omega) (by first | rfl | omega) (Nat.le_refl _) (by omega) ?_)
 intro w2 hrow hb2 hsz2;obtain ⟨g,hg⟩ : ∃ g,w.heap.size = g := ⟨_,rfl⟩
 have EG := hid hg;rw [hg] at hrow ⊢;have R2 := hid hrow;have B2 := hid hb2;have cf : w2.frozen? ⟨g,qh,none⟩ = false := R2.out.frozen _;have cZ := Row.word (r := []) (i := qh) (by simpa using R2.out) (by simpa using hqn);have hq0 : (0 : Int) ≤ (qh : Int) := by omega
 have hq1 : (qh : Int) < (n : Int) := by omega
 clear hrow hb2 hsz2 hg;obtain ⟨M,hM⟩ : ∃ M,2 ^ mh = M := ⟨_,rfl⟩
 have hM32 : M < 4294967296 := by
  have : 2 ^ mh < 2 ^ 32 := Nat.pow_lt_pow_right (by decide) hm32;rw [hM] at this;exact this
 have hM0 : 0 < M := by rw [← hM];exact Nat.two_pow_pos mh
 have hwp : IntKind.u64.wrap ((2 : Int) ^ mh) = (M : Int) := by
  have : (2 : Int) ^ mh = (M : Int) := by rw [← hM,Int.natCast_pow];rfl
  rw [this,IntKind.wrap_u64];omega
 have hv0 : hval ((List.replicate n 0).set qh (M : Int)) = ((2 ^ (high + 1) : Nat) : Int) := by
  rw [zQB _ _ _ (by simpa using hqn),zsA,zqB];have e5 : (List.replicate n (0 : Int))[qh]'(by simpa using hqn) = 0 := by simp
  rw [e5,← hM];have e6 : 2 ^ (high + 1) = 2 ^ mh * 2 ^ (32 * qh) := by rw [← Nat.pow_add];congr 1;omega
  rw [e6,Int.natCast_mul,Int.zero_add,Int.sub_zero]
 have hf0 : HF ((List.replicate n 0).set qh (M : Int)) := (zsB n).set qh (by unfold IsH hwB;omega);have R3 := Row.setWord (r := []) (by simpa using R2.out) (show qh < (List.replicate n (0 : Int)).length by simpa using hqn) (M : Int);have B3 : Below g w (w2.setCell ⟨g,qh,none⟩ (.int .u64 (M : Int))) := by
  have := B2.out;rw [EG.out] at this;exact this.setCell (p := ⟨g,qh,none⟩) (Nat.le_refl _) _
 obtain ⟨X0,hX0⟩ : ∃ X0,(List.replicate n 0).set qh (M : Int) = X0 := ⟨_,rfl⟩
 rw [hX0] at hv0 hf0 R3;obtain ⟨W3,hW3⟩ : ∃ W3,w2.setCell ⟨g,qh,none⟩ (.int .u64 (M : Int)) = W3 := ⟨_,rfl⟩
 rw [hW3] at R3 B3;have EW3 := hid hW3;have l0 : X0.length = n := by rw [← hX0];simp
 have S3 : Sl W3.heap.size W3 (.slice (some ⟨g,0,none⟩) n n) X0 := by
  have := Row.sl R3 hf0.word (Nat.le_of_eq l0) (by omega) R3.lt
  rwa [l0] at this
 have HT := hid (zZA S3);have hwl := zIA X0;have J0 : Hid (NwJ3 W3 r n (2 ^ (high + 1)) (.slice (some ⟨g,0,none⟩) (wid X0) n) W3) :=
  ⟨lst X0,2 ^ (high + 1),zkB S3,hcanon_lst' hf0,by rw [hval_lst',hv0],hrh,by rw [length_lst];omega,rfl,Below.refl _ _⟩
 have SD3 := hid (SD.out.now (by rw [EG.out];exact B3));have BW3 : Hid (Below w.heap.size w W3) := hid (by rw [EG.out];exact B3);obtain ⟨x0,hx0⟩ : ∃ x,2 ^ (high + 1) = x := ⟨_,rfl⟩
 rw [hx0] at J0;clear hM hW3 hX0 hv0 hf0 R3 B3 S3 hwl l0 hx0 hrh hqh hmh R2 B2 SD;go_wp2_with fail;rw [EW3.out];clear EW3 hwp cZ cf hq0 hq1 e1 e2 e3;refine HT.out.mono ?_;rintro e w8 ⟨rfl,hw8⟩;subst hw8;clear HT;go_wp2_with fail
 go_loopg [7] x0 (fun gk s7 wx => NwJ3 w8 r n gk s7 wx)
 case atStart => exact J0.out
 case round =>
  clear J0;obtain ⟨X,x,hS,hC,hX,hrx,hlX,hgx,hB⟩ := hrel;have HGX := hid hgx;have SX := hid hS;have HX := hid (And.intro hC (And.intro hX (And.intro hrx hlX)));have BX := hid hB;obtain ⟨_,aX,qX,rfl,-⟩ := id hS;obtain ⟨lX,hlx⟩ : ∃ l,X.length = l := ⟨_,rfl⟩
  have HLX := hid hlx;rw [hlx] at SX ⊢;have R1 := Row.new wr [1];obtain ⟨W1,hW⟩ : ∃ W1,wr.alloc (.cells (ws [1]).toArray 26) = W1 := ⟨_,rfl⟩
  have b1 : Below wr.heap.size wr W1 := by rw [← hW];exact (Below.refl _ _).alloc (Nat.le_refl _) _
  rw [hW] at R1;have S1 : Sl W1.heap.size W1 (.slice (some ⟨wr.heap.size,0,none⟩) 1 1) [1] := Row.sl (xs := [1]) (r := []) (by simpa using R1) (fun x hx => by simp at hx;subst hx;unfold IsW wB;omega) (Nat.le_refl 1) (by decide) R1.lt;have SX1 := hid (SX.out.now b1);have BX1 := hid (zAA BX.out b1);have EW := hid hW;have J1 : Hid (NwP3 W1 x k n (k - 1) (.slice (some ⟨wr.heap.size,0,none⟩) 1 1) (.int .i64 1) W1) := ⟨[1],1,S1,⟨fun x hx => by simp at hx;subst hx;unfold IsH hwB;omega,rfl⟩,by simp [hval],rfl,Nat.le_refl _,by have := HK.out;omega,rfl,by simp,Below.refl _ _⟩
  clear hS hC hX hrx hlX hB hlx R1 hW b1 S1 BX SX hgx;go_wp2_with fail;rw [show wr.alloc (.cells #[.int .u64 1] 26) = W1 from EW.out];clear EW
  go_loopg [8,9] (k - 1) (fun gk s8 s9 wx => NwP3 W1 x k n gk s8 s9 wx)
  case atStart => exact J1.out
  case round =>
   clear J1
   rename World => wy
   obtain ⟨P,i,hS,hC,hP,rfl,hi1,hik,hg,hPl,hB⟩ := hrel;have SP := hid hS;have HP := hid (And.intro hC (And.intro hP hPl));have BP := hid hB;have HG := hid hg;obtain ⟨_,aP,qP,rfl,-⟩ := id hS;obtain ⟨lP,hlp⟩ : ∃ l,P.length = l := ⟨_,rfl⟩
   have HLP := hid hlp;rw [hlp] at SP ⊢;clear hS hC hP hPl hB hg hlp;have hmulL : (i - 1) * n + n = i * n := by rw [← Nat.succ_mul];congr 1;omega
   have hikL : i * n ≤ k * n := Nat.mul_le_mul_right n hik;have hkn : k * (n + 1) = k * n + k := Nat.mul_succ k n
   by_cases hlt : ¬ i < k
   ·have hlt' : ¬ (i : Int) < (k : Int) := by omega
    obtain rfl : i = k := by omega
    have hPv := HP.out.2.1;have hxp : 0 < x ^ (i - 1) := Nat.pow_pos (by have := HX.out.2.2.1;have := HK.out;omega);have hPn : P ≠ [] := fun e => by
     rw [e] at hPv;have h0 : (0 : Int) = ((x ^ (i - 1) : Nat) : Int) := hPv;generalize x ^ (i - 1) = Y at *;omega
    have HDV := hid (zVB (SD3.out.now (zAA BX1.out BP.out)) SP.out HCD.out HP.out.1 hPn (by have := HK.out;omega));clear hlt hPv hPn;go_wp2_with fail;refine HDV.out.mono ?_;rintro e w3 ⟨Q,Rs,q,rr,rfl,k1,k2,k3,k4,k5,k6,k7,k8,b3⟩;have HQ : Hid (zMA Q ∧ hval Q = ((d / x ^ (i - 1) : Nat) : Int)) := hid ⟨k3,by
     rw [HED.out,HP.out.2.1] at k5;rw [HP.out.2.1] at k6;have h0 := zDA k4.1;have h1 := zDA k3.1;obtain ⟨Qn,hQn⟩ : ∃ n : Nat,hval Q = (n : Int) := ⟨(hval Q).toNat,by omega⟩
     obtain ⟨Rn,hRn⟩ : ∃ n : Nat,hval Rs = (n : Int) := ⟨(hval Rs).toNat,by omega⟩
     rw [hQn,hRn] at k5;rw [hRn] at k6;rw [hQn];generalize x ^ (i - 1) = Y at *;have e5 : d = Y * Qn + Rn := by
      have : (d : Int) = ((Y * Qn + Rn : Nat) : Int) := by rw [k5,Int.natCast_add,Int.natCast_mul]
      exact_mod_cast this
     have e6 : Rn < Y := by omega
     rw [e5,Nat.mul_add_div hxp,Nat.div_eq_of_lt e6,Nat.add_zero]⟩
    have SQ := hid k1;obtain ⟨_,aQ,qQ,rfl,-⟩ := id k1;obtain ⟨_,aR,qR,rfl,-⟩ := id k2;have BQ := hid (zAA (zAA BX1.out BP.out) b3);have SX3 := hid (SX1.out.now (zAA BP.out b3));have hk1 : ((i - 1 : Nat) : Int) = (i : Int) - 1 := by have := HK.out;omega
    have hkl : i < 1073741824 := HK.out.2.1;have HSC := hid (zaC (f := ((i - 1 : Nat) : Int)) SX3.out HX.out.1.1 (by omega) (by omega) (by have := HX.out.2.2.2;omega));rw [HLX.out,hk1] at HSC;have hkw : IntKind.i64.wrap ((i : Int) - 1) = (i : Int) - 1 := by rw [zjA] <;> omega
    have hkr0 : (0 : Int) ≤ (i : Int) - 1 := by omega
    obtain ⟨lQ,hlq⟩ : ∃ l,Q.length = l := ⟨_,rfl⟩
    have HLQ := hid hlq;obtain ⟨lR,hlr⟩ : ∃ l,Rs.length = l := ⟨_,rfl⟩
    rw [hlq] at SQ ⊢;rw [hlr];clear HDV k1 k2 k3 k4 k5 k6 k7 k8 b3 hlq hlr SX1 BX1 BP SP hk1;go_wp2_with fail;refine HSC.out.mono ?_;rintro e w4 ⟨T,rfl,lT,fT,eT,rT,bT⟩;obtain ⟨gs,hgs⟩ : ∃ g,w3.heap.size = g := ⟨_,rfl⟩
    have EGS := hid hgs;rw [hgs] at rT ⊢
    -- the quotient has few digits
    have hm1 : (((i - 1 : Nat)) : Int) = (i : Int) - 1 := by have := HK.out;omega
    have hQle : hval Q ≤ 2 * (x : Int) + 1 := by
     rw [HQ.out.2];have h2 := HRT.out.2;have h3 : (d : Int) < ((r : Int) + 1) ^ ((i - 1) + 1) := by
      have e5 : ((r : Int) + 1) ^ ((i - 1) + 1) = (((r + 1) ^ i : Nat) : Int) := by rw [show i - 1 + 1 = i by omega,Int.natCast_pow];rfl
      rw [e5];exact_mod_cast h2
     have h4 := newton_near (a := (d : Int)) (x := (x : Int)) (r := (r : Int)) (m := i - 1) (by have := HK.out;omega) (by have := HX.out.2.2.1;omega) (by omega) h3 (by have := HK.out;omega);have e6 : ((d / x ^ (i - 1) : Nat) : Int) = (d : Int) / (x : Int) ^ (i - 1) := by rw [Int.natCast_ediv,Int.natCast_pow]
     rw [e6];exact h4
    have hQl : Q.length ≤ lX + 1 := by
     refine hlen_pw HQ.out.1 ?_;have h5 := zVA HX.out.1.1;rw [HLX.out,HX.out.2.1] at h5
     show hval Q < hwB * hpw lX
     unfold hwB;have hp := zcA lX;omega
    have J2 : Hid (NwS3 w4 gs T Q (lX + 1) (lX + 1) (.int .u64 0) (.int .i64 0) w4) := ⟨0,0,T,rfl,rfl,Nat.zero_le _,rfl,by omega,by omega,zhE.start Q fT,by simpa using rT,Below.refl _ _,Only.refl _ _⟩
    have HTT : Hid (T.length = lX + 1 ∧ HF T ∧ hval T = ((i : Int) - 1) * (x : Int) ∧ Q.length ≤ lX + 1 ∧ HF Q) := hid ⟨lT,fT,by rw [eT,HX.out.2.1],hQl,HQ.out.1.1⟩;have BT := hid bT;have hlX2 : lX ≤ n := by have h1 := HX.out.2.2.2;have h2 := HLX.out;omega
    clear HSC lT fT eT rT bT hgs hQle hQl;go_wp2_with fail
    go_loopg [13,14] (lX + 1) (fun gk s13 s14 wx => NwS3 w4 gs T Q (lX + 1) gk s13 s14 wx)
    case atStart => exact J2.out
    case round =>
     clear J2
     rename World => wz
     obtain ⟨y,c,Z,rfl,rfl,hyN,hg2,hc0,hc1,hI,hRZ,hBz,hOz⟩ := hrel;have HI := hid hI;have RZ := hid hRZ;have BZ := hid hBz;have OZ := hid hOz;have HG2 := hid hg2;clear hI hRZ hBz hOz hg2;have BS : Hid (Below w3.heap.size w3 wz) := hid (BT.out.trans (by rw [EGS.out];exact BZ.out))
     by_cases hlt2 : y < lX + 1
     ·have hyT : y < T.length := by rw [HTT.out.1];exact hlt2
      have hyZ : y < Z.length := by rw [HI.out.1];exact hyT
      have hzw := HTT.out.2.1.get hyT;unfold IsH hwB at hzw;have ez := HI.out.at hyT;have cZ := Row.word (r := []) (by simpa using RZ.out) hyZ;rw [ez] at cZ;have cf : wz.frozen? ⟨gs,y,none⟩ = false := RZ.out.frozen _;obtain ⟨z,hz⟩ : ∃ z,T[y] = z := ⟨_,rfl⟩
      rw [hz] at cZ hzw;obtain ⟨hz0,hz1⟩ := hzw;have k0 : (0 : Int) ≤ (y : Int) := by omega
      have k1 : (y : Int) < (lX : Int) + 1 := by omega
      have k2 : (y : Int) < ((lX + 1 : Nat) : Int) := by omega
      have hw : IntKind.i64.wrap ((y : Int) + 1) = ((y + 1 : Nat) : Int) := by rw [zjA] <;> omega
      have HM2 : Hid (lX + 1 - (y + 1) < gk) := by unfold Hid;rw [HG2.out];omega
      by_cases hyq : y < lQ
      ·have hyq' : (y : Int) < (lQ : Int) := by omega
       have hyQ : y < Q.length := by rw [HLQ.out];exact hyq
       have hqw := HTT.out.2.2.2.2.get hyQ;unfold IsH hwB at hqw;have SQz := SQ.out.now BS.out;obtain ⟨_,aQ',qQ',eQ,-,-,hmq⟩ := SQz;rcases hmq with e0 | ⟨bQ,oQ,eA,hbQ,hcq⟩
       ·rw [e0] at hyQ;simp at hyQ
       simp only [Value.slice.injEq] at eQ;obtain ⟨rfl,-,rfl⟩ := eQ;subst eA;have cq := hcq y hyQ;obtain ⟨q1,hq1⟩ : ∃ q,Q[y] = q := ⟨_,rfl⟩
       rw [hq1] at cq hqw;obtain ⟨hq0,hq2⟩ := hqw;have HS2 := hid (HI.out.step (lo := (z + c + q1) % 4294967296) (hi := (z + c + q1) / 4294967296) hyT hz (q := q1) (by rw [← hq1];simp [hyQ]) (by unfold IsH hwB;omega) (by unfold hwB;omega));have HNX : Hid (NwS3 w4 gs T Q (lX + 1) (lX + 1 - (y + 1)) (.int .u64 ((z + c + q1) / 4294967296)) (.int .i64 ((y + 1 : Nat) : Int)) (wz.setCell ⟨gs,y,none⟩ (.int .u64 ((z + c + q1) % 4294967296)))) :=
        ⟨y + 1,_,_,rfl,rfl,by omega,rfl,by omega,by omega,HS2.out,by simpa using Row.setWord (r := []) (by simpa using RZ.out) hyZ _,BZ.out.setCell (p := ⟨gs,y,none⟩) (Nat.le_refl _) _,OZ.out.set y _⟩
       clear HS2 HI RZ BZ OZ HG2 BS hcq hq1 hz ez;go_wp2_with fail;go_roundg (lX + 1 - (y + 1))
       case rel => exact HNX.out
       case measure => exact HM2.out
      ·have hyq' : ¬ (y : Int) < (lQ : Int) := by omega
       have HS2 := hid (HI.out.step (lo := (z + c) % 4294967296) (hi := (z + c) / 4294967296) hyT hz (q := 0) (by simp [show ¬ y < Q.length by rw [HLQ.out];exact hyq]) (by unfold IsH hwB;omega) (by unfold hwB;omega));have HNX : Hid (NwS3 w4 gs T Q (lX + 1) (lX + 1 - (y + 1)) (.int .u64 ((z + c) / 4294967296)) (.int .i64 ((y + 1 : Nat) : Int)) (wz.setCell ⟨gs,y,none⟩ (.int .u64 ((z + c) % 4294967296)))) :=
        ⟨y + 1,_,_,rfl,rfl,by omega,rfl,by omega,by omega,HS2.out,by simpa using Row.setWord (r := []) (by simpa using RZ.out) hyZ _,BZ.out.setCell (p := ⟨gs,y,none⟩) (Nat.le_refl _) _,OZ.out.set y _⟩
       clear HS2 HI RZ BZ OZ HG2 BS hz ez;go_wp2_with fail;go_roundg (lX + 1 - (y + 1))
       case rel => exact HNX.out
       case measure => exact HM2.out
     ·obtain rfl : y = lX + 1 := by omega
      have k2 : ¬ (lX : Int) + 1 < (lX : Int) + 1 := by omega
      have hZl : Z.length = lX + 1 := by rw [HI.out.1,HTT.out.1]
      have hsum : hval (Z ++ [c]) = ((i : Int) - 1) * (x : Int) + ((d / x ^ (i - 1) : Nat) : Int) := by
       have h1 := HI.out.2.2.2;rw [List.take_of_length_le (Nat.le_of_eq hZl),List.take_of_length_le (Nat.le_of_eq HTT.out.1),List.take_of_length_le HTT.out.2.2.2.1,HTT.out.2.2.1,HQ.out.2] at h1;rw [zpB,hZl];have e5 : hval [c] = c := by simp [hval]
       rw [e5];exact h1
      have hZf : HF (Z ++ [c]) := HI.out.2.1.append (fun t ht => by simp at ht;subst ht;unfold IsH hwB;omega);have HSU := hid hsum;have HZF := hid hZf;have HZL := hid hZl;have HZW := hid HI.out.2.1.word;have Rc := Row.new wz [c];obtain ⟨W5,hW5⟩ : ∃ W5,wz.alloc (.cells (ws [c]).toArray 26) = W5 := ⟨_,rfl⟩
      have b5 : Below wz.heap.size wz W5 := by rw [← hW5];exact (Below.refl _ _).alloc (Nat.le_refl _) _
      rw [hW5] at Rc;have Sc : Hid (Sl W5.heap.size W5 (.slice (some ⟨wz.heap.size,0,none⟩) 1 1) [c]) := hid (Row.sl (xs := [c]) (r := []) (by simpa using Rc) (fun x hx => by simp at hx;subst hx;unfold IsW wB;omega) (Nat.le_refl 1) (by decide) Rc.lt);have RZ5 := hid (RZ.out.below b5 RZ.out.lt);have BS5 := hid (zAA BS.out b5);have EW5 := hid hW5;have hcw : 0 ≤ c ∧ c ≤ 1 := ⟨hc0,hc1⟩
      clear hlt2 hsum hZf hZl Rc hW5 b5 HI RZ BZ OZ HG2 BS;go_wp2_with (at_builtin;rw [show wz.alloc (.cells #[.int .u64 c] 26) = W5 from EW5.out];refine zdB _ rfl (.tmp 84) (.tmp 86) rfl gs (lX + 1) (.slice (some ⟨wz.heap.size,0,none⟩) 1 1) Z [c] rfl HZW.out HZL.out RZ5.out rfl Sc.out (by simp) (by simp;omega) ?_)
      intro v6 w6 hS6 hB6;have S6 := hS6.out;obtain ⟨_,a6,q6,e6,-⟩ := id S6;rw [e6] at S6 ⊢;have BS6 := hid (zAA BS5.out hB6.out);have HT6 := hid (zZA S6);have S6' := hid (zkB S6);have HC6 := hid (hcanon_lst' HZF.out);have HV6 : Hid (hval (lst (Z ++ [c])) = ((i : Int) - 1) * (x : Int) + ((d / x ^ (i - 1) : Nat) : Int)) := hid (by rw [hval_lst'];exact HSU.out);have HL6 : Hid ((lst (Z ++ [c])).length ≤ lX + 2) := hid (by rw [length_lst];have := zIA (Z ++ [c]);simp [HZL.out] at this;omega);obtain ⟨S9,hS9⟩ : ∃ S9,lst (Z ++ [c]) = S9 := ⟨_,rfl⟩
      obtain ⟨l6,hl6⟩ : ∃ l,(Z ++ [c]).length = l := ⟨_,rfl⟩
      obtain ⟨t6,ht6⟩ : ∃ l,wid (Z ++ [c]) = l := ⟨_,rfl⟩
      rw [hS9] at S6' HC6 HV6 HL6;rw [hl6] at HT6 ⊢;rw [ht6] at HT6 S6';clear hS6 hB6 S6 e6 hS9 hl6 ht6 HSU HZF HZL HZW Sc RZ5 BS5 EW5 hcw;go_wp2_with fail;refine HT6.out.mono ?_;rintro e w7 ⟨rfl,hw7⟩;subst hw7;have Rk := Row.new w7 [(i : Int)];obtain ⟨W8,hW8⟩ : ∃ W8,w7.alloc (.cells (ws [(i : Int)]).toArray 26) = W8 := ⟨_,rfl⟩
      have b8 : Below w7.heap.size w7 W8 := by rw [← hW8];exact (Below.refl _ _).alloc (Nat.le_refl _) _
      rw [hW8] at Rk;have Sk : Sl W8.heap.size W8 (.slice (some ⟨w7.heap.size,0,none⟩) 1 1) [(i : Int)] := Row.sl (xs := [(i : Int)]) (r := []) (by simpa using Rk) (fun t ht => by simp at ht;subst ht;have := HK.out.2.1;unfold IsW wB;omega) (Nat.le_refl 1) (by decide) Rk.lt;have hck : zMA [(i : Int)] := ⟨fun t ht => by simp at ht;subst ht;have := HK.out.2.1;unfold IsH hwB;omega,by
       have h0 : ¬ (i : Int) = 0 := by have := HK.out;omega
       show (if hwid [] = 0 then (if (i : Int) = 0 then 0 else 1) else hwid [] + 1) = 1
       rw [if_pos (show hwid [] = 0 from rfl),if_neg h0]⟩
      have HD8 := hid (zVB (S6'.out.now b8) Sk HC6.out hck (by simp) (by have := HL6.out;omega));have BS8 := hid (zAA BS6.out b8);have EW8 := hid hW8;have hkk : (i : Int) < 18446744073709551616 := by have := HK.out.2.1;omega
      clear HT6 Rk hW8 b8 Sk hck S6' BS6;go_wp2_with fail;rw [show w7.alloc (.cells #[.int .u64 (i : Int)] 26) = W8 from EW8.out];clear EW8;refine HD8.out.mono ?_;rintro e w9 ⟨Y,Rr,vy,vr,rfl,k1,k2,k3,k4,k5,k6,k7,k8,b9⟩;have e5 : hval [(i : Int)] = (i : Int) := by simp [hval]
      rw [e5] at k5 k6;rw [HV6.out] at k5;have hY : hval Y = (((i : Int) - 1) * (x : Int) + ((d / x ^ (i - 1) : Nat) : Int)) / (i : Int) := by
       have h0 := zDA k4.1;rw [k5,Int.add_comm,Int.add_mul_ediv_left _ _ (by omega),Int.ediv_eq_zero_of_lt h0 k6,Int.zero_add]
      have hY0 := zDA k3.1;obtain ⟨yn,hyn⟩ : ∃ y : Nat,hval Y = (y : Int) := ⟨(hval Y).toNat,by omega⟩
      have hm1 : (((i - 1 : Nat)) : Int) = (i : Int) - 1 := by omega
      have hi1' : i - 1 + 1 = i := by omega
      have hdq : ((d / x ^ (i - 1) : Nat) : Int) = (d : Int) / (x : Int) ^ (i - 1) := by rw [Int.natCast_ediv,Int.natCast_pow]
      have hrt := HRT.out;have hrt1 : (r : Int) ^ ((i - 1) + 1) ≤ (d : Int) := by rw [hi1',← Int.natCast_pow];exact_mod_cast hrt.1
      have hrt2 : (d : Int) < ((r : Int) + 1) ^ ((i - 1) + 1) := by
       have e7 : ((r : Int) + 1) ^ ((i - 1) + 1) = (((r + 1) ^ i : Nat) : Int) := by rw [hi1',Int.natCast_pow];rfl
       rw [e7];exact_mod_cast hrt.2
      have hxr := HX.out.2.2.1;have hrr := HK.out.2.2.2.1;have hlow := zNE (a := (d : Int)) (x := (x : Int)) (r := (r : Int)) (n := i - 1) (by omega) (by omega) hrt1;rw [hm1,← hdq,show ((i : Int) - 1 + 1) = (i : Int) by omega,← hY,hyn] at hlow;have hdown : r < x → yn < x := fun h => by
       have := zhD (a := (d : Int)) (x := (x : Int)) (r := (r : Int)) (n := i - 1) (by omega) (by omega) (by omega) hrt2 (by omega);rw [hm1,← hdq,show ((i : Int) - 1 + 1) = (i : Int) by omega,← hY,hyn] at this;omega
      have HYY : Hid (zMA Y ∧ hval Y = (yn : Int) ∧ r ≤ yn ∧ (r < x → yn < x)) := hid ⟨k3,hyn,by omega,hdown⟩;have SY := hid k1;have BS9 := hid (zAA BS8.out b9);have SX9 := hid (SX3.out.now BS9.out);obtain ⟨_,aY,qY,rfl,-⟩ := id k1;obtain ⟨_,aV,qV,rfl,-⟩ := id k2;have HBE := hid (zSB SY.out SX9.out k3 HX.out.1);have hdec : decide (hval Y < hval X) = decide (yn < x) := by
       rw [hyn,HX.out.2.1]
       by_cases z : yn < x
       ·rw [decide_eq_true z,decide_eq_true (by omega)]
       ·rw [decide_eq_false z,decide_eq_false (by omega)]
      rw [hdec] at HBE;obtain ⟨lY,hly⟩ : ∃ l,Y.length = l := ⟨_,rfl⟩
      have HLY := hid hly;obtain ⟨lV,hlv⟩ : ∃ l,Rr.length = l := ⟨_,rfl⟩
      rw [hly] at HBE SY ⊢;rw [hlv];clear HD8 k1 k2 k3 k4 k5 k6 k7 k8 b9 e5 hY hY0 hyn hdq hrt hrt1 hrt2 hlow hdown hdec hly hlv HC6 HV6 HL6 BS8 hm1 hi1' hxr hrr;go_wp2_with fail;refine HBE.out.mono ?_;rintro e wd ⟨rfl,nd,hwd⟩;have bd : Below w9.heap.size w9 wd := by rw [hwd];exact below_drewN (Below.refl _ _) nd
      have BSd := hid (zAA BS9.out bd)
      by_cases hfl : yn < x
      ·have hdt : decide (yn < x) = true := decide_eq_true hfl
       rw [hdt];have FIN : Hid (NwJ3 w8 r n yn (.slice aY lY qY) wd) := ⟨Y,yn,SY.out.now bd,HYY.out.1,HYY.out.2.1,HYY.out.2.2.1,Nat.le_trans (zwC HYY.out.1 HX.out.1 (by rw [HYY.out.2.1,HX.out.2.1];omega)) HX.out.2.2.2,rfl,zAA BQ.out BSd.out⟩
       have HMM : Hid (yn < x) := hfl;clear HBE hwd bd hdt hfl;go_wp2_with fail;go_roundg yn
       case rel => exact FIN.out
       case measure => rw [HGX.out];exact HMM.out
      ·have hdt : decide (yn < x) = false := decide_eq_false hfl
       rw [hdt];have hxr2 : x = r := by
        have h1 := HX.out.2.2.1;rcases Nat.lt_or_ge r x with q | q
        ·exact absurd (HYY.out.2.2.2 q) hfl
        ·omega
       have HWW := hid (zoA (SX9.out.now bd) HX.out.1.1 (by have := HX.out.2.2.2;omega));have HXR := hid hxr2;clear HBE hwd bd hdt hfl hxr2;go_wp2_with fail;refine HWW.out.mono ?_;rintro e wf ⟨zs,vf,rfl,o1,c1,e1,b1⟩;have bfin := zAA (zAA BW3.out (zAA BQ.out BSd.out)) b1;have FIN : Hid (Told w (r : Int) (.returned vf) wf) := ⟨zs,vf,rfl,o1.lower (zAA BW3.out (zAA BQ.out BSd.out)).size,c1,by rw [e1,HX.out.2.1,HXR.out],bfin⟩
       clear HWW o1 c1 e1 b1 bfin;go_wp2;go_ret;exact FIN.out
   ·have hlt2 : i < k := Classical.not_not.1 hlt
    have hlt' : (i : Int) < (k : Int) := by omega
    have HTM := hid (zuC SP.out (SX1.out.now BP.out) HP.out.1.1 HX.out.1.1 (by have h1 := HP.out.2.2;have h2 := HX.out.2.2.2;have h3 := HK.out.2.2.2.2.2.1;omega));clear hlt;go_wp2_with fail;refine HTM.out.mono ?_;rintro e w3 ⟨P2,v2,rfl,s2,c2,e2,l2,b2⟩;have FIN : Hid (NwP3 W1 x k n (k - (i + 1)) v2 (.int .i64 ((i + 1 : Nat) : Int)) w3) := ⟨P2,i + 1,s2,c2,by
     rw [e2,HP.out.2.1,HX.out.2.1,← Int.natCast_mul,← Nat.pow_succ]
     congr 3
     omega,rfl,by omega,by omega,rfl,by have h1 := HP.out.2.2;have h2 := HX.out.2.2.2;rw [Nat.add_sub_cancel];omega,zAA BP.out b2⟩
    have HM2 : Hid (k - (i + 1) < gk) := by unfold Hid;rw [HG.out];omega
    have hw : IntKind.i64.wrap ((i : Int) + 1) = ((i + 1 : Nat) : Int) := by have := HK.out.2.1;rw [zjA] <;> omega
    obtain ⟨_,a2,q2,rfl,-⟩ := id s2;clear HTM s2 c2 e2 l2 b2 HG hmulL hikL hkn;go_wp2_with fail;go_roundg (k - (i + 1))
    case rel => exact FIN.out
    case measure => exact HM2.out
end Go.Proofs.Ytppddlbkdoebmaa
