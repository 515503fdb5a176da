/-
 QDividesToCalls7: Divides, Calls7, joined.
-/
import Derived.Test.YtppddlbkdoebmaaQRight3ToTrim
import Derived.Test.YtppddlbkdoebmaaQPlays7
import Derived.Test.YtppddlbkdoebmaaQSqOToStrip

set_option maxRecDepth 100000
set_option maxHeartbeats 6400000
set_option linter.unusedVariables false
set_option linter.unusedSimpArgs false
namespace Go.Proofs.Ytppddlbkdoebmaa
open Go.RowKit
def zUG (xs : List Int) (W : Int) : zMC := fun qs rs r N E => rs = [] ∧ N = 0 ∧ ((W = 0 ∧ qs = [] ∧ r = 0 ∧ E = 4) ∨ (0 < W ∧ zFA qs ∧ IsW r ∧ r < W ∧ val xs = W * val qs + r ∧ E = 0))
def zZG (xs ys : List Int) : zMC := fun qs rs r N E => r = 0 ∧ N = 0 ∧ ((wid ys = 0 ∧ qs = [] ∧ rs = [] ∧ E = 4) ∨ (wid ys ≠ 0 ∧ zFA qs ∧ zFA rs ∧ val xs = val ys * val qs + val rs ∧ val rs < val ys ∧ E = 0))
def zQG (xs ys : List Int) : zMC := fun qs rs r N E => rs = [] ∧ r = 0 ∧ N = 0 ∧ ((wid ys = 0 ∧ qs = [] ∧ E = 4) ∨ (wid ys ≠ 0 ∧ ∃ q0 r0,zFA q0 ∧ zFA r0 ∧ val xs = val ys * val q0 + val r0 ∧ val r0 < val ys ∧ ((r0 = [] ∧ qs = q0 ∧ E = 0) ∨ (r0 ≠ [] ∧ qs = [] ∧ E = 8))))
theorem zHF {X Y : Int} {qs rs qs' rs' : List Int} (h : zFA qs) (k : zFA rs) (h' : zFA qs') (k' : zFA rs') (e : X = Y * val qs + val rs) (l : val rs < Y) (e' : X = Y * val qs' + val rs') (l' : val rs' < Y) : qs' = qs ∧ rs' = rs := by
 obtain ⟨a,b⟩ := div_one e e' (val_nonneg k.1) l (val_nonneg k'.1) l';exact ⟨canon_inj h' h a,canon_inj k' k b⟩
theorem specW_one (xs : List Int) (W : Int) : zzA (zUG xs W) := by
 rintro qs rs r N E qs' rs' r' N' E' ⟨rfl,rfl,h⟩ ⟨rfl,rfl,h'⟩;rcases h with ⟨h0,rfl,rfl,rfl⟩ | ⟨h0,h1,h2,h3,h4,rfl⟩ <;> rcases h' with ⟨g0,rfl,rfl,rfl⟩ | ⟨g0,g1,g2,g3,g4,rfl⟩
 ·exact ⟨rfl,rfl,rfl,rfl,rfl⟩
 ·omega
 ·omega
 ·obtain ⟨a,b⟩ := div_one h4 g4 h2.1 h3 g2.1 g3
  exact ⟨canon_inj g1 h1 a,rfl,b,rfl,rfl⟩
theorem specD_one (xs ys : List Int) : zzA (zZG xs ys) := by
 rintro qs rs r N E qs' rs' r' N' E' ⟨rfl,rfl,h⟩ ⟨rfl,rfl,h'⟩;rcases h with ⟨h0,rfl,rfl,rfl⟩ | ⟨h0,h1,h2,h3,h4,rfl⟩ <;> rcases h' with ⟨g0,rfl,rfl,rfl⟩ | ⟨g0,g1,g2,g3,g4,rfl⟩
 ·exact ⟨rfl,rfl,rfl,rfl,rfl⟩
 ·exact absurd h0 g0
 ·exact absurd g0 h0
 ·obtain ⟨a,b⟩ := zHF h1 h2 g1 g2 h3 h4 g3 g4
  exact ⟨a,b,rfl,rfl,rfl⟩
theorem specE_one (xs ys : List Int) : zzA (zQG xs ys) := by
 rintro qs rs r N E qs' rs' r' N' E' ⟨rfl,rfl,rfl,h⟩ ⟨rfl,rfl,rfl,h'⟩;rcases h with ⟨h0,rfl,rfl⟩ | ⟨h0,q0,r0,h1,h2,h3,h4,h5⟩ <;> rcases h' with ⟨g0,rfl,rfl⟩ | ⟨g0,q1,r1,g1,g2,g3,g4,g5⟩
 ·exact ⟨rfl,rfl,rfl,rfl,rfl⟩
 ·exact absurd h0 g0
 ·exact absurd g0 h0
 ·obtain ⟨rfl,rfl⟩ := zHF h1 h2 g1 g2 h3 h4 g3 g4
  rcases h5 with ⟨a,rfl,rfl⟩ | ⟨a,rfl,rfl⟩ <;> rcases g5 with ⟨b,rfl,rfl⟩ | ⟨b,rfl,rfl⟩
  ·exact ⟨rfl,rfl,rfl,rfl,rfl⟩
  ·exact absurd a b
  ·exact absurd b a
  ·exact ⟨rfl,rfl,rfl,rfl,rfl⟩
theorem zGE {y z z' : Int} {n n' : Nat} (hy : 2 ≤ y) (hz : zBE y z) (h : y ^ n * z = y ^ n' * z') : ¬ n < n' := fun hlt => by
 obtain ⟨d,rfl⟩ : ∃ d,n' = n + (d + 1) := ⟨n' - n - 1,by omega⟩
 rw [Int.pow_add,Int.mul_assoc] at h;have hp : y ^ n ≠ 0 := Int.ne_of_gt (Int.pow_pos (by omega));have h2 := Int.eq_of_mul_eq_mul_left hp h;rw [Int.pow_succ,Int.mul_comm (y ^ d),Int.mul_assoc] at h2;exact hz _ h2
theorem strip_one {y z z' : Int} {n n' : Nat} (hy : 2 ≤ y) (hz : zBE y z) (hz' : zBE y z') (h : y ^ n * z = y ^ n' * z') : n' = n ∧ z' = z := by
 have h1 := zGE hy hz h;have h2 := zGE hy hz' h.symm;obtain rfl : n' = n := by omega
 exact ⟨rfl,(Int.eq_of_mul_eq_mul_left (Int.ne_of_gt (Int.pow_pos (by omega))) h).symm⟩
def zYG (xs ys : List Int) : zMC := fun qs rs r N E => rs = [] ∧ r = 0 ∧ N = 0 ∧ E = 0 ∧ zFA qs ∧ val qs = (ig (val xs) (val ys) : Int)
def zXG (xs : List Int) : zMC := fun qs rs r N E => r = 0 ∧ N = 0 ∧ E = 0 ∧ ∃ t : Nat,zlA t (vn xs) 2 ∧ zFA qs ∧ zFA rs ∧ val qs = (t : Int) ∧ val rs = ((vn xs - t * t : Nat) : Int)
def zVG (xs ys : List Int) : zMC := fun qs rs r N E => rs = [] ∧ r = 0 ∧ (((val xs = 0 ∨ val ys ≤ 1) ∧ qs = [] ∧ N = 0 ∧ E = 3) ∨ (0 < val xs ∧ 2 ≤ val ys ∧ E = 0 ∧ ∃ n : Nat,N = (n : Int) ∧ zFA qs ∧ val xs = val ys ^ n * val qs ∧ zBE (val ys) (val qs)))
def zWG (xs : List Int) (K : Int) : zMC := fun qs rs r N E => rs = [] ∧ r = 0 ∧ N = 0 ∧ ((K < 1 ∧ qs = [] ∧ E = 3) ∨ (1 ≤ K ∧ E = 0 ∧ ∃ k t : Nat,K = (k : Int) ∧ zlA t (vn xs) k ∧ zFA qs ∧ val qs = (t : Int)))
theorem specG_one (xs ys : List Int) : zzA (zYG xs ys) := by
 rintro qs rs r N E qs' rs' r' N' E' ⟨rfl,rfl,rfl,rfl,h1,h2⟩ ⟨rfl,rfl,rfl,rfl,g1,g2⟩;exact ⟨canon_inj g1 h1 (by rw [g2,h2]),rfl,rfl,rfl,rfl⟩
theorem specQ_one (xs : List Int) : zzA (zXG xs) := by
 rintro qs rs r N E qs' rs' r' N' E' ⟨rfl,rfl,rfl,t,h0,h1,h2,h3,h4⟩ ⟨rfl,rfl,rfl,t',g0,g1,g2,g3,g4⟩;have e := zGC g0 h0;subst e;exact ⟨canon_inj g1 h1 (by rw [g3,h3]),canon_inj g2 h2 (by rw [g4,h4]),rfl,rfl,rfl⟩
theorem specS_one (xs ys : List Int) : zzA (zVG xs ys) := by
 rintro qs rs r N E qs' rs' r' N' E' ⟨rfl,rfl,h⟩ ⟨rfl,rfl,h'⟩;rcases h with ⟨h0,rfl,rfl,rfl⟩ | ⟨h0,h1,rfl,n,rfl,h2,h3,h4⟩ <;> rcases h' with ⟨g0,rfl,rfl,rfl⟩ | ⟨g0,g1,rfl,n',rfl,g2,g3,g4⟩
 ·exact ⟨rfl,rfl,rfl,rfl,rfl⟩
 ·omega
 ·omega
 ·obtain ⟨a,b⟩ := strip_one h1 h4 g4 (h3.symm.trans g3)
  exact ⟨canon_inj g2 h2 b,rfl,rfl,by rw [a],rfl⟩
theorem zoE (xs : List Int) (K : Int) : zzA (zWG xs K) := by
 rintro qs rs r N E qs' rs' r' N' E' ⟨rfl,rfl,rfl,h⟩ ⟨rfl,rfl,rfl,h'⟩;rcases h with ⟨h0,rfl,rfl⟩ | ⟨h0,rfl,k,t,h1,h2,h3,h4⟩ <;> rcases h' with ⟨g0,rfl,rfl⟩ | ⟨g0,rfl,k',t',g1,g2,g3,g4⟩
 ·exact ⟨rfl,rfl,rfl,rfl,rfl⟩
 ·omega
 ·omega
 ·obtain rfl : k = k' := by omega
  have e := zGC g2 h2;subst e;exact ⟨canon_inj g3 h3 (by rw [g4,h4]),rfl,rfl,rfl,rfl⟩
abbrev zYB (w : World) (e : Ending) (w' : World) : Prop := e = .returned (.bool true) ∧ Below w.heap.size w w'
def zuA (kind : Int) (xs ys : List Int) (W K : Int) (S : zMC) : Prop := zzA S ∧
 (∀ (w : World) (va vb : Value),Sl w.heap.size w va xs → Sl w.heap.size w vb ys → Calls Try.prog 9 #[.agg #[.int .i64 kind,va,vb,.int .u64 W,.int .i64 K]] w (zAE S w)) ∧
 (∀ (w : World) (va vb : Value),Sl w.heap.size w va xs → Sl w.heap.size w vb ys → Calls Try.prog 10 #[.agg #[.int .i64 kind,va,vb,.int .u64 W,.int .i64 K]] w (zAE S w))
theorem called_word {xs ys : List Int} {W K : Int} (la : xs.length ≤ 1048576) (lb : ys.length ≤ 1048576) (hW : IsW W) : zuA 1 xs ys W K (zUG xs W) := by
 have hW0 := hW.1;refine ⟨specW_one xs W,fun w va vb a b => ?_,fun w va vb a b => ?_⟩
 ·by_cases h0 : W = 0
  ·exact (wants1_zero a b (by omega) (by omega) h0).mono fun e w'' h => ⟨[],[],0,0,4,⟨rfl,rfl,.inl ⟨h0,rfl,rfl,rfl⟩⟩,h⟩
  ·exact (wants1_any a b (by omega) (by omega) hW (by omega)).mono fun e w'' ⟨qs,r,h1,h2,h3,h4,h⟩ => ⟨qs,[],r,0,0,⟨rfl,rfl,.inr ⟨by omega,h1,h2,h3,h4,rfl⟩⟩,h⟩
 ·by_cases h0 : W = 0
  ·exact (plays1_zero a b (by omega) (by omega) h0).mono fun e w'' h => ⟨[],[],0,0,4,⟨rfl,rfl,.inl ⟨h0,rfl,rfl,rfl⟩⟩,h⟩
  ·exact (plays1_any a b (by omega) (by omega) hW (by omega)).mono fun e w'' ⟨qs,r,h1,h2,h3,h4,h⟩ => ⟨qs,[],r,0,0,⟨rfl,rfl,.inr ⟨by omega,h1,h2,h3,h4,rfl⟩⟩,h⟩
theorem called_divMod {xs ys : List Int} {W K : Int} (la : xs.length ≤ 1048576) (lb : ys.length ≤ 1048576) : zuA 2 xs ys W K (zZG xs ys) := by
 refine ⟨specD_one xs ys,fun w va vb a b => ?_,fun w va vb a b => ?_⟩
 ·by_cases h0 : wid ys = 0
  ·exact (wants2_zero a b (by omega) (by omega) h0).mono fun e w'' h => ⟨[],[],0,0,4,⟨rfl,rfl,.inl ⟨h0,rfl,rfl,rfl⟩⟩,h⟩
  ·exact (wants2_any a b (by omega) (by omega) h0).mono fun e w'' ⟨qs,rs,h1,h2,h3,h4,h⟩ => ⟨qs,rs,0,0,0,⟨rfl,rfl,.inr ⟨h0,h1,h2,h3,h4,rfl⟩⟩,h⟩
 ·by_cases h0 : wid ys = 0
  ·exact (plays2_zero a b (by omega) (by omega) h0).mono fun e w'' h => ⟨[],[],0,0,4,⟨rfl,rfl,.inl ⟨h0,rfl,rfl,rfl⟩⟩,h⟩
  ·exact (plays2_any a b (by omega) (by omega) h0).mono fun e w'' ⟨qs,rs,h1,h2,h3,h4,h⟩ => ⟨qs,rs,0,0,0,⟨rfl,rfl,.inr ⟨h0,h1,h2,h3,h4,rfl⟩⟩,h⟩
theorem called_exact {xs ys : List Int} {W K : Int} (la : xs.length ≤ 1048576) (lb : ys.length ≤ 1048576) : zuA 3 xs ys W K (zQG xs ys) := by
 have key : ∀ (w' w'' : World) (e : Ending),wid ys ≠ 0 → (∃ qs rs,zFA qs ∧ zFA rs ∧ val xs = val ys * val qs + val rs ∧ val rs < val ys ∧ ((rs = [] ∧ Ans3 w' qs [] 0 0 0 e w'') ∨ (rs ≠ [] ∧ Ans3 w' [] [] 0 0 8 e w''))) → zAE (zQG xs ys) w' e w'' := fun w' w'' e h0 ⟨qs,rs,h1,h2,h3,h4,h⟩ => by
  rcases h with ⟨hr,h⟩ | ⟨hr,h⟩
  ·exact ⟨qs,[],0,0,0,⟨rfl,rfl,rfl,.inr ⟨h0,qs,rs,h1,h2,h3,h4,.inl ⟨hr,rfl,rfl⟩⟩⟩,h⟩
  ·exact ⟨[],[],0,0,8,⟨rfl,rfl,rfl,.inr ⟨h0,qs,rs,h1,h2,h3,h4,.inr ⟨hr,rfl,rfl⟩⟩⟩,h⟩
 refine ⟨specE_one xs ys,fun w va vb a b => ?_,fun w va vb a b => ?_⟩
 ·by_cases h0 : wid ys = 0
  ·exact (wants3_zero a b (by omega) (by omega) h0).mono fun e w'' h => ⟨[],[],0,0,4,⟨rfl,rfl,rfl,.inl ⟨h0,rfl,rfl⟩⟩,h⟩
  ·exact (wants3_any a b (by omega) (by omega) h0).mono fun e w'' h => key w w'' e h0 h
 ·by_cases h0 : wid ys = 0
  ·exact (plays3_zero a b (by omega) (by omega) h0).mono fun e w'' h => ⟨[],[],0,0,4,⟨rfl,rfl,rfl,.inl ⟨h0,rfl,rfl⟩⟩,h⟩
  ·exact (plays3_any a b (by omega) (by omega) h0).mono fun e w'' h => key w w'' e h0 h
theorem called_gcd {xs ys : List Int} {W K : Int} (la : xs.length ≤ 1048576) (lb : ys.length ≤ 1048576) : zuA 4 xs ys W K (zYG xs ys) :=
 ⟨specG_one xs ys,fun w va vb a b => (wants4_any a b (by omega) (by omega)).mono fun e w'' ⟨qs,h1,h2,h⟩ => ⟨qs,[],0,0,0,⟨rfl,rfl,rfl,rfl,h1,h2⟩,h⟩,
  fun w va vb a b => (plays4_any a b (by omega) (by omega)).mono fun e w'' ⟨qs,h1,h2,h⟩ => ⟨qs,[],0,0,0,⟨rfl,rfl,rfl,rfl,h1,h2⟩,h⟩⟩
theorem called_sqrt {xs ys : List Int} {W K : Int} (la : xs.length ≤ 1048576) (lb : ys.length ≤ 1048576) : zuA 5 xs ys W K (zXG xs) :=
 ⟨specQ_one xs,fun w va vb a b => (wants5_any a b (by omega) (by omega) la lb).mono fun e w'' ⟨t,qs,rs,h1,h2,h3,h4,h5,h⟩ => ⟨qs,rs,0,0,0,⟨rfl,rfl,rfl,t,h1,h2,h3,h4,h5⟩,h⟩,
  fun w va vb a b => (plays5_any a b (by omega) (by omega) la lb).mono fun e w'' ⟨t,qs,rs,h1,h2,h3,h4,h5,h⟩ => ⟨qs,rs,0,0,0,⟨rfl,rfl,rfl,t,h1,h2,h3,h4,h5⟩,h⟩⟩
theorem called_strip {xs ys : List Int} {W K : Int} (hx : WF xs) (la : xs.length ≤ 1048576) (lb : ys.length ≤ 1048576) : zuA 6 xs ys W K (zVG xs ys) := by
 have h0 := val_nonneg hx;refine ⟨specS_one xs ys,fun w va vb a b => ?_,fun w va vb a b => ?_⟩
 ·by_cases h : val xs = 0 ∨ val ys ≤ 1
  ·exact (wants6_bad a b (by omega) (by omega) la lb h).mono fun e w'' k => ⟨[],[],0,0,3,⟨rfl,rfl,.inl ⟨h,rfl,rfl,rfl⟩⟩,k⟩
  ·exact (wants6_any a b (by omega) (by omega) la lb (by omega) (by omega)).mono fun e w'' ⟨n,qs,h1,h2,h3,k⟩ => ⟨qs,[],0,n,0,⟨rfl,rfl,.inr ⟨by omega,by omega,rfl,n,rfl,h1,h2,h3⟩⟩,k⟩
 ·by_cases h : val xs = 0 ∨ val ys ≤ 1
  ·exact (plays6_bad a b (by omega) (by omega) la lb h).mono fun e w'' k => ⟨[],[],0,0,3,⟨rfl,rfl,.inl ⟨h,rfl,rfl,rfl⟩⟩,k⟩
  ·exact (plays6_any a b (by omega) (by omega) la lb (by omega) (by omega)).mono fun e w'' ⟨n,qs,h1,h2,h3,k⟩ => ⟨qs,[],0,n,0,⟨rfl,rfl,.inr ⟨by omega,by omega,rfl,n,rfl,h1,h2,h3⟩⟩,k⟩
theorem called_root {xs ys : List Int} {W K : Int} (la : xs.length ≤ 1048576) (lb : ys.length ≤ 1048576) (hK : -9223372036854775808 ≤ K ∧ K ≤ 9223372036854775807) : zuA 7 xs ys W K (zWG xs K) := by
 obtain ⟨k0,k1⟩ := hK
 by_cases h : K < 1
 ·exact ⟨zoE xs K,fun w va vb a b => (wants7_bad a b (by omega) (by omega) h k0).mono fun e w'' k => ⟨[],[],0,0,3,⟨rfl,rfl,rfl,.inl ⟨h,rfl,rfl⟩⟩,k⟩,
   fun w va vb a b => (plays7_bad a b (by omega) (by omega) h k0).mono fun e w'' k => ⟨[],[],0,0,3,⟨rfl,rfl,rfl,.inl ⟨h,rfl,rfl⟩⟩,k⟩⟩
 ·obtain ⟨k,rfl⟩ : ∃ k : Nat,K = (k : Int) := ⟨K.toNat,by omega⟩
  obtain ⟨t,ht⟩ := zOD (k := k) (by omega) (vn xs);exact ⟨zoE xs k,fun w va vb a b => (wants7_any a b (by omega) (by omega) la lb (by omega) (by omega) ht rfl).mono fun e w'' ⟨qs,h1,h2,g⟩ => ⟨qs,[],0,0,0,⟨rfl,rfl,rfl,.inr ⟨by omega,rfl,k,t,rfl,ht,h1,h2⟩⟩,g⟩,
   fun w va vb a b => (plays7_any a b (by omega) (by omega) la lb (by omega) (by omega) ht rfl).mono fun e w'' ⟨qs,h1,h2,g⟩ => ⟨qs,[],0,0,0,⟨rfl,rfl,rfl,.inr ⟨by omega,rfl,k,t,rfl,ht,h1,h2⟩⟩,g⟩⟩
end Go.Proofs.Ytppddlbkdoebmaa
