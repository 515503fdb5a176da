/-
 QDividesToCalls7: Divides, Calls7, joined.
-/
import Derived.Test.YtlhjogiefbjklaaQRight3
import Derived.Test.YtlhjogiefbjklaaQPlays7
import Derived.Test.YtlhjogiefbjklaaQSqOToStrip

set_option maxRecDepth 100000
set_option maxHeartbeats 6400000
set_option linter.unusedVariables false
set_option linter.unusedSimpArgs false
namespace Go.Proofs.Ytlhjogiefbjklaa
open Go.RowKit
def zWF (xs : List Int) (W : Int) : zcC := fun qs rs r N E => rs = [] ∧ N = 0 ∧ ((W = 0 ∧ qs = [] ∧ r = 0 ∧ E = 4) ∨ (0 < W ∧ zEA qs ∧ IsW r ∧ r < W ∧ val xs = W * val qs + r ∧ E = 0))
def zcF (xs ys : List Int) : zcC := fun qs rs r N E => r = 0 ∧ N = 0 ∧ ((wid ys = 0 ∧ qs = [] ∧ rs = [] ∧ E = 4) ∨ (wid ys ≠ 0 ∧ zEA qs ∧ zEA rs ∧ val xs = val ys * val qs + val rs ∧ val rs < val ys ∧ E = 0))
def zSF (xs ys : List Int) : zcC := fun qs rs r N E => rs = [] ∧ r = 0 ∧ N = 0 ∧ ((wid ys = 0 ∧ qs = [] ∧ E = 4) ∨ (wid ys ≠ 0 ∧ ∃ q0 r0,zEA q0 ∧ zEA r0 ∧ val xs = val ys * val q0 + val r0 ∧ val r0 < val ys ∧ ((r0 = [] ∧ qs = q0 ∧ E = 0) ∨ (r0 ≠ [] ∧ qs = [] ∧ E = 8))))
theorem zDE {X Y : Int} {qs rs qs' rs' : List Int} (h : zEA qs) (k : zEA rs) (h' : zEA qs') (k' : zEA rs') (e : X = Y * val qs + val rs) (l : val rs < Y) (e' : X = Y * val qs' + val rs') (l' : val rs' < Y) : qs' = qs ∧ rs' = rs := by
 obtain ⟨a,b⟩ := div_one e e' (val_nonneg k.1) l (val_nonneg k'.1) l';exact ⟨canon_inj h' h a,canon_inj k' k b⟩
theorem specW_one (xs : List Int) (W : Int) : zjA (zWF xs W) := by
 rintro qs rs r N E qs' rs' r' N' E' ⟨rfl,rfl,h⟩ ⟨rfl,rfl,h'⟩;rcases h with ⟨h0,rfl,rfl,rfl⟩ | ⟨h0,h1,h2,h3,h4,rfl⟩ <;> rcases h' with ⟨g0,rfl,rfl,rfl⟩ | ⟨g0,g1,g2,g3,g4,rfl⟩
 ·exact ⟨rfl,rfl,rfl,rfl,rfl⟩
 ·omega
 ·omega
 ·obtain ⟨a,b⟩ := div_one h4 g4 h2.1 h3 g2.1 g3
  exact ⟨canon_inj g1 h1 a,rfl,b,rfl,rfl⟩
theorem specD_one (xs ys : List Int) : zjA (zcF xs ys) := by
 rintro qs rs r N E qs' rs' r' N' E' ⟨rfl,rfl,h⟩ ⟨rfl,rfl,h'⟩;rcases h with ⟨h0,rfl,rfl,rfl⟩ | ⟨h0,h1,h2,h3,h4,rfl⟩ <;> rcases h' with ⟨g0,rfl,rfl,rfl⟩ | ⟨g0,g1,g2,g3,g4,rfl⟩
 ·exact ⟨rfl,rfl,rfl,rfl,rfl⟩
 ·exact absurd h0 g0
 ·exact absurd g0 h0
 ·obtain ⟨a,b⟩ := zDE h1 h2 g1 g2 h3 h4 g3 g4
  exact ⟨a,b,rfl,rfl,rfl⟩
theorem specE_one (xs ys : List Int) : zjA (zSF xs ys) := by
 rintro qs rs r N E qs' rs' r' N' E' ⟨rfl,rfl,rfl,h⟩ ⟨rfl,rfl,rfl,h'⟩;rcases h with ⟨h0,rfl,rfl⟩ | ⟨h0,q0,r0,h1,h2,h3,h4,h5⟩ <;> rcases h' with ⟨g0,rfl,rfl⟩ | ⟨g0,q1,r1,g1,g2,g3,g4,g5⟩
 ·exact ⟨rfl,rfl,rfl,rfl,rfl⟩
 ·exact absurd h0 g0
 ·exact absurd g0 h0
 ·obtain ⟨rfl,rfl⟩ := zDE h1 h2 g1 g2 h3 h4 g3 g4
  rcases h5 with ⟨a,rfl,rfl⟩ | ⟨a,rfl,rfl⟩ <;> rcases g5 with ⟨b,rfl,rfl⟩ | ⟨b,rfl,rfl⟩
  ·exact ⟨rfl,rfl,rfl,rfl,rfl⟩
  ·exact absurd a b
  ·exact absurd b a
  ·exact ⟨rfl,rfl,rfl,rfl,rfl⟩
theorem zUD {y z z' : Int} {n n' : Nat} (hy : 2 ≤ y) (hz : zQD y z) (h : y ^ n * z = y ^ n' * z') : ¬ n < n' := fun hlt => by
 obtain ⟨d,rfl⟩ : ∃ d,n' = n + (d + 1) := ⟨n' - n - 1,by omega⟩
 rw [Int.pow_add,Int.mul_assoc] at h;have hp : y ^ n ≠ 0 := Int.ne_of_gt (Int.pow_pos (by omega));have h2 := Int.eq_of_mul_eq_mul_left hp h;rw [Int.pow_succ,Int.mul_comm (y ^ d),Int.mul_assoc] at h2;exact hz _ h2
theorem strip_one {y z z' : Int} {n n' : Nat} (hy : 2 ≤ y) (hz : zQD y z) (hz' : zQD y z') (h : y ^ n * z = y ^ n' * z') : n' = n ∧ z' = z := by
 have h1 := zUD hy hz h;have h2 := zUD hy hz' h.symm;obtain rfl : n' = n := by omega
 exact ⟨rfl,(Int.eq_of_mul_eq_mul_left (Int.ne_of_gt (Int.pow_pos (by omega))) h).symm⟩
def zaF : zcC := fun qs rs r N E => qs = [] ∧ rs = [] ∧ r = 0 ∧ N = 0 ∧ E = 0
def zbF (xs ys : List Int) : zcC := fun qs rs r N E => rs = [] ∧ r = 0 ∧ N = 0 ∧ E = 0 ∧ zEA qs ∧ val qs = (ig (val xs) (val ys) : Int)
def zZF (xs : List Int) : zcC := fun qs rs r N E => r = 0 ∧ N = 0 ∧ E = 0 ∧ ∃ t : Nat,zdA t (vn xs) 2 ∧ zEA qs ∧ zEA rs ∧ val qs = (t : Int) ∧ val rs = ((vn xs - t * t : Nat) : Int)
def zXF (xs ys : List Int) : zcC := fun qs rs r N E => rs = [] ∧ r = 0 ∧ (((val xs = 0 ∨ val ys ≤ 1) ∧ qs = [] ∧ N = 0 ∧ E = 3) ∨ (0 < val xs ∧ 2 ≤ val ys ∧ E = 0 ∧ ∃ n : Nat,N = (n : Int) ∧ zEA qs ∧ val xs = val ys ^ n * val qs ∧ zQD (val ys) (val qs)))
def zYF (xs : List Int) (K : Int) : zcC := fun qs rs r N E => rs = [] ∧ r = 0 ∧ N = 0 ∧ ((K < 1 ∧ qs = [] ∧ E = 3) ∨ (1 ≤ K ∧ E = 0 ∧ ∃ k t : Nat,K = (k : Int) ∧ zdA t (vn xs) k ∧ zEA qs ∧ val qs = (t : Int)))
theorem specN_one : zjA zaF := by
 rintro qs rs r N E qs' rs' r' N' E' ⟨rfl,rfl,rfl,rfl,rfl⟩ ⟨rfl,rfl,rfl,rfl,rfl⟩;exact ⟨rfl,rfl,rfl,rfl,rfl⟩
theorem specG_one (xs ys : List Int) : zjA (zbF xs ys) := by
 rintro qs rs r N E qs' rs' r' N' E' ⟨rfl,rfl,rfl,rfl,h1,h2⟩ ⟨rfl,rfl,rfl,rfl,g1,g2⟩;exact ⟨canon_inj g1 h1 (by rw [g2,h2]),rfl,rfl,rfl,rfl⟩
theorem specQ_one (xs : List Int) : zjA (zZF xs) := by
 rintro qs rs r N E qs' rs' r' N' E' ⟨rfl,rfl,rfl,t,h0,h1,h2,h3,h4⟩ ⟨rfl,rfl,rfl,t',g0,g1,g2,g3,g4⟩;have e := zhB g0 h0;subst e;exact ⟨canon_inj g1 h1 (by rw [g3,h3]),canon_inj g2 h2 (by rw [g4,h4]),rfl,rfl,rfl⟩
theorem specS_one (xs ys : List Int) : zjA (zXF xs ys) := by
 rintro qs rs r N E qs' rs' r' N' E' ⟨rfl,rfl,h⟩ ⟨rfl,rfl,h'⟩;rcases h with ⟨h0,rfl,rfl,rfl⟩ | ⟨h0,h1,rfl,n,rfl,h2,h3,h4⟩ <;> rcases h' with ⟨g0,rfl,rfl,rfl⟩ | ⟨g0,g1,rfl,n',rfl,g2,g3,g4⟩
 ·exact ⟨rfl,rfl,rfl,rfl,rfl⟩
 ·omega
 ·omega
 ·obtain ⟨a,b⟩ := strip_one h1 h4 g4 (h3.symm.trans g3)
  exact ⟨canon_inj g2 h2 b,rfl,rfl,by rw [a],rfl⟩
theorem zpD (xs : List Int) (K : Int) : zjA (zYF xs K) := by
 rintro qs rs r N E qs' rs' r' N' E' ⟨rfl,rfl,rfl,h⟩ ⟨rfl,rfl,rfl,h'⟩;rcases h with ⟨h0,rfl,rfl⟩ | ⟨h0,rfl,k,t,h1,h2,h3,h4⟩ <;> rcases h' with ⟨g0,rfl,rfl⟩ | ⟨g0,rfl,k',t',g1,g2,g3,g4⟩
 ·exact ⟨rfl,rfl,rfl,rfl,rfl⟩
 ·omega
 ·omega
 ·obtain rfl : k = k' := by omega
  have e := zhB g2 h2;subst e;exact ⟨canon_inj g3 h3 (by rw [g4,h4]),rfl,rfl,rfl,rfl⟩
abbrev Rightly (w : World) (e : Ending) (w' : World) : Prop := e = .returned (.bool true) ∧ Below w.heap.size w w'
def zKC (kind : Int) (xs ys : List Int) (W K : Int) (S : zcC) : Prop := zjA S ∧
 (∀ (w : World) (va vb : Value),Sl w.heap.size w va xs → Sl w.heap.size w vb ys → Calls Try.prog 9 #[.agg #[.int .i64 kind,va,vb,.int .u64 W,.int .i64 K]] w (zUC S w)) ∧
 (∀ (w : World) (va vb : Value),Sl w.heap.size w va xs → Sl w.heap.size w vb ys → Calls Try.prog 10 #[.agg #[.int .i64 kind,va,vb,.int .u64 W,.int .i64 K]] w (zUC S w))
theorem called_none {xs ys : List Int} {kind W K : Int} (hk : kind < 1 ∨ 7 < kind) : zKC kind xs ys W K zaF :=
 ⟨specN_one,fun w va vb a b => (wants0_any hk a b).mono fun e w'' h => ⟨[],[],0,0,0,⟨rfl,rfl,rfl,rfl,rfl⟩,h⟩,
  fun w va vb a b => (plays0_any hk a b).mono fun e w'' h => ⟨[],[],0,0,0,⟨rfl,rfl,rfl,rfl,rfl⟩,h⟩⟩
theorem called_word {xs ys : List Int} {W K : Int} (la : xs.length ≤ 1048576) (lb : ys.length ≤ 1048576) (hW : IsW W) : zKC 1 xs ys W K (zWF xs W) := by
 have hW0 := hW.1;refine ⟨specW_one xs W,fun w va vb a b => ?_,fun w va vb a b => ?_⟩
 ·by_cases h0 : W = 0
  ·exact (wants1_zero a b (by omega) (by omega) h0).mono fun e w'' h => ⟨[],[],0,0,4,⟨rfl,rfl,.inl ⟨h0,rfl,rfl,rfl⟩⟩,h⟩
  ·exact (wants1_any a b (by omega) (by omega) hW (by omega)).mono fun e w'' ⟨qs,r,h1,h2,h3,h4,h⟩ => ⟨qs,[],r,0,0,⟨rfl,rfl,.inr ⟨by omega,h1,h2,h3,h4,rfl⟩⟩,h⟩
 ·by_cases h0 : W = 0
  ·exact (plays1_zero a b (by omega) (by omega) h0).mono fun e w'' h => ⟨[],[],0,0,4,⟨rfl,rfl,.inl ⟨h0,rfl,rfl,rfl⟩⟩,h⟩
  ·exact (plays1_any a b (by omega) (by omega) hW (by omega)).mono fun e w'' ⟨qs,r,h1,h2,h3,h4,h⟩ => ⟨qs,[],r,0,0,⟨rfl,rfl,.inr ⟨by omega,h1,h2,h3,h4,rfl⟩⟩,h⟩
theorem called_divMod {xs ys : List Int} {W K : Int} (la : xs.length ≤ 1048576) (lb : ys.length ≤ 1048576) : zKC 2 xs ys W K (zcF xs ys) := by
 refine ⟨specD_one xs ys,fun w va vb a b => ?_,fun w va vb a b => ?_⟩
 ·by_cases h0 : wid ys = 0
  ·exact (wants2_zero a b (by omega) (by omega) h0).mono fun e w'' h => ⟨[],[],0,0,4,⟨rfl,rfl,.inl ⟨h0,rfl,rfl,rfl⟩⟩,h⟩
  ·exact (wants2_any a b (by omega) (by omega) h0).mono fun e w'' ⟨qs,rs,h1,h2,h3,h4,h⟩ => ⟨qs,rs,0,0,0,⟨rfl,rfl,.inr ⟨h0,h1,h2,h3,h4,rfl⟩⟩,h⟩
 ·by_cases h0 : wid ys = 0
  ·exact (plays2_zero a b (by omega) (by omega) h0).mono fun e w'' h => ⟨[],[],0,0,4,⟨rfl,rfl,.inl ⟨h0,rfl,rfl,rfl⟩⟩,h⟩
  ·exact (plays2_any a b (by omega) (by omega) h0).mono fun e w'' ⟨qs,rs,h1,h2,h3,h4,h⟩ => ⟨qs,rs,0,0,0,⟨rfl,rfl,.inr ⟨h0,h1,h2,h3,h4,rfl⟩⟩,h⟩
theorem called_exact {xs ys : List Int} {W K : Int} (la : xs.length ≤ 1048576) (lb : ys.length ≤ 1048576) : zKC 3 xs ys W K (zSF xs ys) := by
 have key : ∀ (w' w'' : World) (e : Ending),wid ys ≠ 0 → (∃ qs rs,zEA qs ∧ zEA rs ∧ val xs = val ys * val qs + val rs ∧ val rs < val ys ∧ ((rs = [] ∧ Ans3 w' qs [] 0 0 0 e w'') ∨ (rs ≠ [] ∧ Ans3 w' [] [] 0 0 8 e w''))) → zUC (zSF xs ys) w' e w'' := fun w' w'' e h0 ⟨qs,rs,h1,h2,h3,h4,h⟩ => by
  rcases h with ⟨hr,h⟩ | ⟨hr,h⟩
  ·exact ⟨qs,[],0,0,0,⟨rfl,rfl,rfl,.inr ⟨h0,qs,rs,h1,h2,h3,h4,.inl ⟨hr,rfl,rfl⟩⟩⟩,h⟩
  ·exact ⟨[],[],0,0,8,⟨rfl,rfl,rfl,.inr ⟨h0,qs,rs,h1,h2,h3,h4,.inr ⟨hr,rfl,rfl⟩⟩⟩,h⟩
 refine ⟨specE_one xs ys,fun w va vb a b => ?_,fun w va vb a b => ?_⟩
 ·by_cases h0 : wid ys = 0
  ·exact (wants3_zero a b (by omega) (by omega) h0).mono fun e w'' h => ⟨[],[],0,0,4,⟨rfl,rfl,rfl,.inl ⟨h0,rfl,rfl⟩⟩,h⟩
  ·exact (wants3_any a b (by omega) (by omega) h0).mono fun e w'' h => key w w'' e h0 h
 ·by_cases h0 : wid ys = 0
  ·exact (plays3_zero a b (by omega) (by omega) h0).mono fun e w'' h => ⟨[],[],0,0,4,⟨rfl,rfl,rfl,.inl ⟨h0,rfl,rfl⟩⟩,h⟩
  ·exact (plays3_any a b (by omega) (by omega) h0).mono fun e w'' h => key w w'' e h0 h
theorem called_gcd {xs ys : List Int} {W K : Int} (la : xs.length ≤ 1048576) (lb : ys.length ≤ 1048576) : zKC 4 xs ys W K (zbF xs ys) :=
 ⟨specG_one xs ys,fun w va vb a b => (wants4_any a b (by omega) (by omega)).mono fun e w'' ⟨qs,h1,h2,h⟩ => ⟨qs,[],0,0,0,⟨rfl,rfl,rfl,rfl,h1,h2⟩,h⟩,
  fun w va vb a b => (plays4_any a b (by omega) (by omega)).mono fun e w'' ⟨qs,h1,h2,h⟩ => ⟨qs,[],0,0,0,⟨rfl,rfl,rfl,rfl,h1,h2⟩,h⟩⟩
theorem called_sqrt {xs ys : List Int} {W K : Int} (la : xs.length ≤ 1048576) (lb : ys.length ≤ 1048576) : zKC 5 xs ys W K (zZF xs) :=
 ⟨specQ_one xs,fun w va vb a b => (wants5_any a b (by omega) (by omega) la lb).mono fun e w'' ⟨t,qs,rs,h1,h2,h3,h4,h5,h⟩ => ⟨qs,rs,0,0,0,⟨rfl,rfl,rfl,t,h1,h2,h3,h4,h5⟩,h⟩,
  fun w va vb a b => (plays5_any a b (by omega) (by omega) la lb).mono fun e w'' ⟨t,qs,rs,h1,h2,h3,h4,h5,h⟩ => ⟨qs,rs,0,0,0,⟨rfl,rfl,rfl,t,h1,h2,h3,h4,h5⟩,h⟩⟩
theorem called_strip {xs ys : List Int} {W K : Int} (hx : WF xs) (la : xs.length ≤ 1048576) (lb : ys.length ≤ 1048576) : zKC 6 xs ys W K (zXF xs ys) := by
 have h0 := val_nonneg hx;refine ⟨specS_one xs ys,fun w va vb a b => ?_,fun w va vb a b => ?_⟩
 ·by_cases h : val xs = 0 ∨ val ys ≤ 1
  ·exact (wants6_bad a b (by omega) (by omega) la lb h).mono fun e w'' k => ⟨[],[],0,0,3,⟨rfl,rfl,.inl ⟨h,rfl,rfl,rfl⟩⟩,k⟩
  ·exact (wants6_any a b (by omega) (by omega) la lb (by omega) (by omega)).mono fun e w'' ⟨n,qs,h1,h2,h3,k⟩ => ⟨qs,[],0,n,0,⟨rfl,rfl,.inr ⟨by omega,by omega,rfl,n,rfl,h1,h2,h3⟩⟩,k⟩
 ·by_cases h : val xs = 0 ∨ val ys ≤ 1
  ·exact (plays6_bad a b (by omega) (by omega) la lb h).mono fun e w'' k => ⟨[],[],0,0,3,⟨rfl,rfl,.inl ⟨h,rfl,rfl,rfl⟩⟩,k⟩
  ·exact (plays6_any a b (by omega) (by omega) la lb (by omega) (by omega)).mono fun e w'' ⟨n,qs,h1,h2,h3,k⟩ => ⟨qs,[],0,n,0,⟨rfl,rfl,.inr ⟨by omega,by omega,rfl,n,rfl,h1,h2,h3⟩⟩,k⟩
theorem called_root {xs ys : List Int} {W K : Int} (la : xs.length ≤ 1048576) (lb : ys.length ≤ 1048576) (hK : -9223372036854775808 ≤ K ∧ K ≤ 9223372036854775807) : zKC 7 xs ys W K (zYF xs K) := by
 obtain ⟨k0,k1⟩ := hK
 by_cases h : K < 1
 ·exact ⟨zpD xs K,fun w va vb a b => (wants7_bad a b (by omega) (by omega) h k0).mono fun e w'' k => ⟨[],[],0,0,3,⟨rfl,rfl,rfl,.inl ⟨h,rfl,rfl⟩⟩,k⟩,
   fun w va vb a b => (plays7_bad a b (by omega) (by omega) h k0).mono fun e w'' k => ⟨[],[],0,0,3,⟨rfl,rfl,rfl,.inl ⟨h,rfl,rfl⟩⟩,k⟩⟩
 ·obtain ⟨k,rfl⟩ : ∃ k : Nat,K = (k : Int) := ⟨K.toNat,by omega⟩
  obtain ⟨t,ht⟩ := zeC (k := k) (by omega) (vn xs);exact ⟨zpD xs k,fun w va vb a b => (wants7_any a b (by omega) (by omega) la lb (by omega) (by omega) ht rfl).mono fun e w'' ⟨qs,h1,h2,g⟩ => ⟨qs,[],0,0,0,⟨rfl,rfl,rfl,.inr ⟨by omega,rfl,k,t,rfl,ht,h1,h2⟩⟩,g⟩,
   fun w va vb a b => (plays7_any a b (by omega) (by omega) la lb (by omega) (by omega) ht rfl).mono fun e w'' ⟨qs,h1,h2,g⟩ => ⟨qs,[],0,0,0,⟨rfl,rfl,rfl,.inr ⟨by omega,rfl,k,t,rfl,ht,h1,h2⟩⟩,g⟩⟩
theorem called_all {xs ys : List Int} {kind W K : Int} (hx : WF xs) (la : xs.length ≤ 1048576) (lb : ys.length ≤ 1048576) (hW : IsW W) (hK : -9223372036854775808 ≤ K ∧ K ≤ 9223372036854775807) : ∃ S,zKC kind xs ys W K S := by
 by_cases h1 : kind = 1
 ·subst h1;exact ⟨_,called_word la lb hW⟩
 by_cases h2 : kind = 2
 ·subst h2;exact ⟨_,called_divMod la lb⟩
 by_cases h3 : kind = 3
 ·subst h3;exact ⟨_,called_exact la lb⟩
 by_cases h4 : kind = 4
 ·subst h4;exact ⟨_,called_gcd la lb⟩
 by_cases h5 : kind = 5
 ·subst h5;exact ⟨_,called_sqrt la lb⟩
 by_cases h6 : kind = 6
 ·subst h6;exact ⟨_,called_strip hx la lb⟩
 by_cases h7 : kind = 7
 ·subst h7;exact ⟨_,called_root la lb hK⟩
 ·exact ⟨_,called_none (by omega)⟩
theorem right_all {w : World} {va vb : Value} {xs ys : List Int} {kind W K : Int} (ha : Sl w.heap.size w va xs) (hb : Sl w.heap.size w vb ys) (la : xs.length ≤ 1048576) (lb : ys.length ≤ 1048576) (hW : IsW W) (hK : -9223372036854775808 ≤ K ∧ K ≤ 9223372036854775807) :
  Calls Try.prog 6 #[.agg #[.int .i64 kind,va,vb,.int .u64 W,.int .i64 K]] w (Rightly w) := by
 obtain ⟨S,h1,h2,h3⟩ := called_all (kind := kind) ha.1 la lb hW hK;exact right3_any ha hb h1 (fun w' a b => h2 w' va vb a b) (fun w' a b => h3 w' va vb a b)
end Go.Proofs.Ytlhjogiefbjklaa
