import Derived.Test.YtkdobgbicnemcaaGreatDoorQPl5a
import Derived.Test.YtkdobgbicnemcaaGreatDoorQPl5b
import Derived.Test.YtkdobgbicnemcaaGreatDoorQR5Sym
import Derived.Test.YtkdobgbicnemcaaGreatDoorQR5Flr
import Derived.Test.YtkdobgbicnemcaaGreatDoorQPow5ToR5Pow
import Derived.Test.YtkdobgbicnemcaaGreatDoorQR5SmallToR5Sum
import Derived.Test.YtkdobgbicnemcaaGreatDoorQR5Read
import Derived.Test.YtkdobgbicnemcaaGreatDoorQZAdd
set_option maxRecDepth 100000
set_option maxHeartbeats 6400000
set_option linter.unusedVariables false
set_option linter.unusedSimpArgs false
namespace Go.Proofs.YtkdobgbicnemcaaGreatDoor
open Go.RowKit
theorem Zl.len5 {w : World} {v : Value} {zs : List Int} {k : Nat} (h : Zl w v zs k) : zs.length ≤ 1048576 := by
 obtain ⟨a,c,h1,h2,h3,_⟩ := h;exact h3
structure Ops5 (w : World) (a0 a1 b0 b1 c0 c1 vk vl : Value) (A B C N M : Int) (l : List UInt8) (KS LS : List Int) : Prop where
 za : Zi w (.agg #[a0,a1]) A 1048576
 zb : Zi w (.agg #[b0,b1]) B 1048576
 zc : Zi w (.agg #[c0,c1]) C 1048576
 hN : -9223372036854775808 ≤ N ∧ N ≤ 9223372036854775807
 hM : -9223372036854775808 ≤ M ∧ M ≤ 9223372036854775807
 hl : l.length ≤ 1048576
 zk : Zl w vk KS 1048576
 zl : Zl w vl LS 1048576
 sg : Sg w
def zyA (kind A B C N M : Int) (l : List UInt8) (KS LS : List Int) : Prop :=
 ∃ (z y V P Q : Int) (T : ByteArray) (E : Int),∀ (w : World) (a0 a1 b0 b1 c0 c1 vk vl : Value),Ops5 w a0 a1 b0 b1 c0 c1 vk vl A B C N M l KS LS →
  Calls Tryz.prog 8 #[.agg #[.int .i64 kind,a0,a1,b0,b1,c0,c1,.int .i64 N,.int .i64 M,.string ⟨l.toArray⟩,vk,vl]] w (AnsP w z y V P Q T E) ∧ Calls Tryz.prog 7 #[.agg #[.int .i64 kind,a0,a1,b0,b1,c0,c1,.int .i64 N,.int .i64 M,.string ⟨l.toArray⟩,vk,vl]] w (AnsP w z y V P Q T E)
theorem both5_1 {A B C N M : Int} {l : List UInt8} {KS LS : List Int} : zyA 1 A B C N M l KS LS :=
 ⟨A,0,0,0,0,⟨#[]⟩,0,fun w a0 a1 b0 b1 c0 c1 vk vl o => ⟨asked_1 (fun w' h => zyH (o.za.now h)),told_1 (fun w' h => zmF (o.za.now h) (by omega))⟩⟩
theorem both5_2 {A B C N M : Int} {l : List UInt8} {KS LS : List Int} : zyA 2 A B C N M l KS LS :=
 ⟨M,0,0,0,0,⟨#[]⟩,0,fun w a0 a1 b0 b1 c0 c1 vk vl o => ⟨asked_2 (fun w' h => of_z o.hM.1 o.hM.2 w'),told_2 (fun w' h => zTI o.hM.1 o.hM.2 w')⟩⟩
theorem both5_3 {A B C N M : Int} {l : List UInt8} {KS LS : List Int} : zyA 3 A B C N M l KS LS :=
 ⟨0,0,smv A,0,0,⟨#[]⟩,sme A,fun w a0 a1 b0 b1 c0 c1 vk vl o => ⟨asked_3 (fun w' h => small5_z (o.za.now h)),told_3 (fun w' h => rsmall5_z (o.za.now h) (by omega))⟩⟩
theorem both5_4 {A B C N M : Int} {l : List UInt8} {KS LS : List Int} : zyA 4 A B C N M l KS LS :=
 ⟨0,0,cmpI A 0,cmpI A B,cmpI (A.natAbs : Int) (B.natAbs : Int),⟨#[]⟩,0,fun w a0 a1 b0 b1 c0 c1 vk vl o => ⟨asked_4 (fun w' h => zbB (o.za.now h)) (fun w' h => zyE (o.za.now h) (o.zb.now h)) (fun w' h => zrC (o.za.now h) (o.zb.now h)),told_4 (fun w' h => zGB (o.za.now h) (by omega)) (fun w' h => rcmp_z (o.za.now h) (o.zb.now h) (by omega) (by omega)) (fun w' h => zPD (o.za.now h) (o.zb.now h) (by omega) (by omega))⟩⟩
theorem both5_5 {A B C N M : Int} {l : List UInt8} {KS LS : List Int} : zyA 5 A B C N M l KS LS :=
 ⟨-A,0,0,0,0,⟨#[]⟩,0,fun w a0 a1 b0 b1 c0 c1 vk vl o => ⟨asked_5 (fun w' h => neg_z (o.za.now h)),told_5 (fun w' h => rneg_z (o.za.now h) (by omega))⟩⟩
theorem both5_6 {A B C N M : Int} {l : List UInt8} {KS LS : List Int} : zyA 6 A B C N M l KS LS :=
 ⟨(A.natAbs : Int),0,0,0,0,⟨#[]⟩,0,fun w a0 a1 b0 b1 c0 c1 vk vl o => ⟨asked_6 (fun w' h => zqI (o.za.now h)),told_6 (fun w' h => zBH (o.za.now h) (by omega))⟩⟩
theorem both5_7 {A B C N M : Int} {l : List UInt8} {KS LS : List Int} : zyA 7 A B C N M l KS LS :=
 ⟨A + B,0,0,0,0,⟨#[]⟩,0,fun w a0 a1 b0 b1 c0 c1 vk vl o => ⟨asked_7 (fun w' h => zWG (o.za.now h) (o.zb.now h) (by omega) (by omega)),told_7 (fun w' h => zxC (o.za.now h) (o.zb.now h) (by omega) (by omega))⟩⟩
theorem both5_8 {A B C N M : Int} {l : List UInt8} {KS LS : List Int} : zyA 8 A B C N M l KS LS :=
 ⟨A - B,0,0,0,0,⟨#[]⟩,0,fun w a0 a1 b0 b1 c0 c1 vk vl o => ⟨asked_8 (fun w' h => zRI (o.za.now h) (o.zb.now h) (by omega) (by omega)),told_8 (fun w' h => ztG (o.za.now h) (o.zb.now h) (by omega) (by omega))⟩⟩
theorem both5_9 {A B C N M : Int} {l : List UInt8} {KS LS : List Int} : zyA 9 A B C N M l KS LS :=
 ⟨A * B,0,0,0,0,⟨#[]⟩,0,fun w a0 a1 b0 b1 c0 c1 vk vl o => ⟨asked_9 (fun w' h => zVI (o.za.now h) (o.zb.now h) (by omega)),told_9 (fun w' h => zcI (o.za.now h) (o.zb.now h) (by omega) (by omega))⟩⟩
theorem both5_10 {A B C N M : Int} {l : List UInt8} {KS LS : List Int} : zyA 10 A B C N M l KS LS :=
 ⟨A * B + C,0,0,0,0,⟨#[]⟩,0,fun w a0 a1 b0 b1 c0 c1 vk vl o => ⟨asked_10 (fun w' h => mulAdd_z (o.za.now h) (o.zb.now h) (o.zc.now h) (by omega) (by omega)),told_10 (fun w' h => zCG (o.za.now h) (o.zb.now h) (o.zc.now h) (by omega) (by omega))⟩⟩
theorem both5_11 {A B C N M : Int} {l : List UInt8} {KS LS : List Int} : zyA 11 A B C N M l KS LS :=
 ⟨zsum LS,0,0,0,0,⟨#[]⟩,0,fun w a0 a1 b0 b1 c0 c1 vk vl o => ⟨asked_11 (fun w' h => zwI (o.zl.now h) (by have := o.zl.len5;omega)),told_11 (fun w' h => rsum5_z (o.zl.now h) (by omega))⟩⟩
theorem both5_12 {A B C N M : Int} {l : List UInt8} {KS LS : List Int} (he : LS.length = KS.length) : zyA 12 A B C N M l KS LS :=
 ⟨dotv KS LS,0,0,0,0,⟨#[]⟩,0,fun w a0 a1 b0 b1 c0 c1 vk vl o => ⟨zXH (fun w' h => dot_any (o.zk.now h) (o.zl.now h) he (by have := o.zk.len5;omega)),zmH (fun w' h => rdot5_z (o.zk.now h) (o.zl.now h) he (by omega))⟩⟩
theorem both5_12n {A B C N M : Int} {l : List UInt8} {KS LS : List Int} (he : LS.length ≠ KS.length) : zyA 12 A B C N M l KS LS :=
 ⟨0,0,0,0,0,⟨#[]⟩,2,fun w a0 a1 b0 b1 c0 c1 vk vl o => ⟨zXH (fun w' h => dot5_fit (o.zk.now h) (o.zl.now h) he),zmH (fun w' h => rdot5_fit (o.zk.now h) (o.zl.now h) he)⟩⟩
theorem both5_13l {A B C N M : Int} {l : List UInt8} {KS LS : List Int} (hN : N < 0) : zyA 13 A B C N M l KS LS :=
 ⟨0,0,0,0,0,⟨#[]⟩,3,fun w a0 a1 b0 b1 c0 c1 vk vl o => ⟨zxF (fun w' h => pow5_z_neg (o.za.now h) hN),zZG (fun w' h => rpow5_z_neg (o.za.now h) hN)⟩⟩
theorem both5_13h {A B C N M : Int} {l : List UInt8} {KS LS : List Int} (hN : 256 < N) : zyA 13 A B C N M l KS LS :=
 ⟨0,0,0,0,0,⟨#[]⟩,5,fun w a0 a1 b0 b1 c0 c1 vk vl o => ⟨zxF (fun w' h => pow5_z_big (o.za.now h) hN),zZG (fun w' h => rpow5_z_big (o.za.now h) hN)⟩⟩
theorem both5_13 {A B C : Int} {n : Nat} {M : Int} {l : List UInt8} {KS LS : List Int} (hn : n ≤ 256) : zyA 13 A B C (n : Int) M l KS LS :=
 ⟨A ^ n,0,0,0,0,⟨#[]⟩,0,fun w a0 a1 b0 b1 c0 c1 vk vl o => ⟨zxF (fun w' h => pow5_z (o.za.now h) (by omega) hn),zZG (fun w' h => rpow5_z (o.za.now h) (by omega) hn)⟩⟩
theorem both5_14n {A B C N M : Int} {l : List UInt8} {KS LS : List Int} (hB : B = 0) : zyA 14 A B C N M l KS LS :=
 ⟨0,0,0,0,0,⟨#[]⟩,4,fun w a0 a1 b0 b1 c0 c1 vk vl o => ⟨zaA (by decide) fun w0 h0 => zDE (fun w' h => zfD (o.za.now (below_step h0 h)) (o.zb.now (below_step h0 h)) hB),zcA (by decide) fun w0 h0 => zZE (fun w' h => zLC (o.za.now (below_step h0 h)) (o.zb.now (below_step h0 h)) hB (by omega))⟩⟩
theorem both5_14 {A B C N M : Int} {l : List UInt8} {KS LS : List Int} (hB : B ≠ 0) : zyA 14 A B C N M l KS LS :=
 ⟨A.tdiv B,A.tmod B,0,0,0,⟨#[]⟩,0,fun w a0 a1 b0 b1 c0 c1 vk vl o => ⟨zaA (by decide) fun w0 h0 => zDE (fun w' h => zTE (o.za.now (below_step h0 h)) (o.zb.now (below_step h0 h)) hB (by omega) (by omega)),zcA (by decide) fun w0 h0 => zZE (fun w' h => zuB (o.za.now (below_step h0 h)) (o.zb.now (below_step h0 h)) hB (by omega) (by omega))⟩⟩
theorem both5_15n {A B C N M : Int} {l : List UInt8} {KS LS : List Int} (hB : B = 0) : zyA 15 A B C N M l KS LS :=
 ⟨0,0,0,0,0,⟨#[]⟩,4,fun w a0 a1 b0 b1 c0 c1 vk vl o => ⟨zaA (by decide) fun w0 h0 => zCE (fun w' h => floor_zero (o.za.now (below_step h0 h)) (o.zb.now (below_step h0 h)) hB),zcA (by decide) fun w0 h0 => zYE (fun w' h => rfloor5_none (o.za.now (below_step h0 h)) (o.zb.now (below_step h0 h)) (by omega) hB)⟩⟩
theorem both5_15 {A B C N M : Int} {l : List UInt8} {KS LS : List Int} (hB : B ≠ 0) : zyA 15 A B C N M l KS LS :=
 ⟨fdv A B,fmd A B,0,0,0,⟨#[]⟩,0,fun w a0 a1 b0 b1 c0 c1 vk vl o => ⟨zaA (by decide) fun w0 h0 => zCE (fun w' h => floor_z (o.za.now (below_step h0 h)) (o.zb.now (below_step h0 h)) hB (by omega) (by omega)),zcA (by decide) fun w0 h0 => zYE (fun w' h => rfloor5_z (o.za.now (below_step h0 h)) (o.zb.now (below_step h0 h)) (by omega) hB)⟩⟩
theorem both5_16n {A B C N M : Int} {l : List UInt8} {KS LS : List Int} (hB : B = 0) : zyA 16 A B C N M l KS LS :=
 ⟨0,0,0,0,0,⟨#[]⟩,4,fun w a0 a1 b0 b1 c0 c1 vk vl o => ⟨zaA (by decide) fun w0 h0 => zBE (fun w' h => zqE (o.za.now (below_step h0 h)) (o.zb.now (below_step h0 h)) hB),zcA (by decide) fun w0 h0 => zXE (fun w' h => zOD (o.za.now (below_step h0 h)) (o.zb.now (below_step h0 h)) (by omega) hB)⟩⟩
theorem both5_16 {A B C N M : Int} {l : List UInt8} {KS LS : List Int} (hB : B ≠ 0) : zyA 16 A B C N M l KS LS :=
 ⟨edv A B,A % B,0,0,0,⟨#[]⟩,0,fun w a0 a1 b0 b1 c0 c1 vk vl o => ⟨zaA (by decide) fun w0 h0 => zBE (fun w' h => euclid_z (o.za.now (below_step h0 h)) (o.zb.now (below_step h0 h)) hB (by omega) (by omega)),zcA (by decide) fun w0 h0 => zXE (fun w' h => zMF (o.za.now (below_step h0 h)) (o.zb.now (below_step h0 h)) (by omega) hB)⟩⟩
theorem both5_17n {A B C N M : Int} {l : List UInt8} {KS LS : List Int} (hB : B = 0) : zyA 17 A B C N M l KS LS :=
 ⟨0,0,0,0,0,⟨#[]⟩,4,fun w a0 a1 b0 b1 c0 c1 vk vl o => ⟨zaA (by decide) fun w0 h0 => zkC (fun w' h => exact_none (o.za.now (below_step h0 h)) (o.zb.now (below_step h0 h)) hB),zcA (by decide) fun w0 h0 => zBD (fun w' h => rexact_none (o.za.now (below_step h0 h)) (o.zb.now (below_step h0 h)) hB (by omega))⟩⟩
theorem both5_17 {A B C N M : Int} {l : List UInt8} {KS LS : List Int} (hB : B ≠ 0) (hr : A.tmod B = 0) : zyA 17 A B C N M l KS LS :=
 ⟨A.tdiv B,0,0,0,0,⟨#[]⟩,0,fun w a0 a1 b0 b1 c0 c1 vk vl o => ⟨zaA (by decide) fun w0 h0 => zkC (fun w' h => exact_yes (o.za.now (below_step h0 h)) (o.zb.now (below_step h0 h)) hB (by omega) (by omega) hr),zcA (by decide) fun w0 h0 => zBD (fun w' h => rexact_yes (o.za.now (below_step h0 h)) (o.zb.now (below_step h0 h)) hB (by omega) (by omega) hr)⟩⟩
theorem both5_17r {A B C N M : Int} {l : List UInt8} {KS LS : List Int} (hB : B ≠ 0) (hr : A.tmod B ≠ 0) : zyA 17 A B C N M l KS LS :=
 ⟨0,0,0,0,0,⟨#[]⟩,8,fun w a0 a1 b0 b1 c0 c1 vk vl o => ⟨zaA (by decide) fun w0 h0 => zkC (fun w' h => exact_no (o.za.now (below_step h0 h)) (o.zb.now (below_step h0 h)) hB (by omega) (by omega) hr),zcA (by decide) fun w0 h0 => zBD (fun w' h => rexact_no (o.za.now (below_step h0 h)) (o.zb.now (below_step h0 h)) hB (by omega) (by omega) hr)⟩⟩
theorem both5_18n {A B C N M : Int} {l : List UInt8} {KS LS : List Int} (hB : B = 0) : zyA 18 A B C N M l KS LS :=
 ⟨0,0,0,0,0,⟨#[]⟩,4,fun w a0 a1 b0 b1 c0 c1 vk vl o => ⟨zaA (by decide) fun w0 h0 => zAE (fun w' h => zHH (o.za.now (below_step h0 h)) (o.zb.now (below_step h0 h)) hB),zcA (by decide) fun w0 h0 => zWE (fun w' h => zLF (o.za.now (below_step h0 h)) (o.zb.now (below_step h0 h)) (by omega) hB)⟩⟩
theorem both5_18 {A B C N M : Int} {l : List UInt8} {KS LS : List Int} (hB : B ≠ 0) : zyA 18 A B C N M l KS LS :=
 ⟨A % B,0,0,0,0,⟨#[]⟩,0,fun w a0 a1 b0 b1 c0 c1 vk vl o => ⟨zaA (by decide) fun w0 h0 => zAE (fun w' h => znI (o.za.now (below_step h0 h)) (o.zb.now (below_step h0 h)) hB (by omega) (by omega)),zcA (by decide) fun w0 h0 => zWE (fun w' h => zbG (o.za.now (below_step h0 h)) (o.zb.now (below_step h0 h)) (by omega) hB)⟩⟩
theorem both5_19n {A B C N M : Int} {l : List UInt8} {KS LS : List Int} (hB : B = 0) : zyA 19 A B C N M l KS LS :=
 ⟨0,0,0,0,0,⟨#[]⟩,4,fun w a0 a1 b0 b1 c0 c1 vk vl o => ⟨zaA (by decide) fun w0 h0 => zzD (fun w' h => sym_none (o.za.now (below_step h0 h)) (o.zb.now (below_step h0 h)) hB (by omega) (by omega)),zcA (by decide) fun w0 h0 => zVE (fun w' h => rsym5_none (o.za.now (below_step h0 h)) (o.zb.now (below_step h0 h)) (by omega) hB)⟩⟩
theorem both5_19 {A B C N M : Int} {l : List UInt8} {KS LS : List Int} (hB : B ≠ 0) : zyA 19 A B C N M l KS LS :=
 ⟨symv A B,0,0,0,0,⟨#[]⟩,0,fun w a0 a1 b0 b1 c0 c1 vk vl o => ⟨zaA (by decide) fun w0 h0 => zzD (fun w' h => sym_z (o.za.now (below_step h0 h)) (o.zb.now (below_step h0 h)) hB (by omega) (by omega)),zcA (by decide) fun w0 h0 => zVE (fun w' h => rsym5_z (o.za.now (below_step h0 h)) (o.zb.now (below_step h0 h)) (by omega) hB)⟩⟩
theorem both5_20 {A B C N M : Int} {l : List UInt8} {KS LS : List Int} : zyA 20 A B C N M l KS LS :=
 ⟨0,0,0,0,0,ztxt A,0,fun w a0 a1 b0 b1 c0 c1 vk vl o => ⟨zaA (by decide) fun w0 h0 => askedMore_20 (fun w' h => zZI (o.za.now (below_step h0 h)) (Nat.le_refl _) (o.sg.now (below_step h0 h))),zcA (by decide) fun w0 h0 => toldMore_20 (fun w' h => rtext5_z (o.za.now (below_step h0 h)) (Nat.le_refl _))⟩⟩
theorem zDG {w : World} {l : List UInt8} {F : FuncId} {a : Array Value} (h : Calls Tryz.prog F a w (zEC w l)) (ht : zgA l) : Calls Tryz.prog F a w (zMA 0 w (sval l) 35184372088832) :=
 h.mono fun e w' q => by
  rcases q with ⟨_,r,h1,h2,h3⟩ | ⟨h1,_⟩
  ·exact ⟨r,h1,h2,h3⟩
  ·exact absurd ht h1
theorem zzG {w : World} {l : List UInt8} {F : FuncId} {a : Array Value} (h : Calls Tryz.prog F a w (zEC w l)) (ht : ¬ zgA l) : Calls Tryz.prog F a w (zMA 7 w 0 0) :=
 h.mono fun e w' q => by
  rcases q with ⟨h1,_⟩ | ⟨_,h1,h2⟩
  ·exact absurd h1 ht
  ·exact ⟨_,h1,zLA _ _ _,h2⟩
theorem both5_21 {A B C N M : Int} {l : List UInt8} {KS LS : List Int} (ht : zgA l) : zyA 21 A B C N M l KS LS :=
 ⟨sval l,0,0,0,0,⟨#[]⟩,0,fun w a0 a1 b0 b1 c0 c1 vk vl o => ⟨zaA (by decide) fun w0 h0 => zyD (fun w' h => zDG (zsH (o.sg.now (below_step h0 h)) (by have := o.hl;omega)) ht),zcA (by decide) fun w0 h0 => zUE (fun w' h => zDG (zvG (by have := o.hl;omega)) ht)⟩⟩
theorem both5_21n {A B C N M : Int} {l : List UInt8} {KS LS : List Int} (ht : ¬ zgA l) : zyA 21 A B C N M l KS LS :=
 ⟨0,0,0,0,0,⟨#[]⟩,7,fun w a0 a1 b0 b1 c0 c1 vk vl o => ⟨zaA (by decide) fun w0 h0 => zyD (fun w' h => zzG (zsH (o.sg.now (below_step h0 h)) (by have := o.hl;omega)) ht),zcA (by decide) fun w0 h0 => zUE (fun w' h => zzG (zvG (by have := o.hl;omega)) ht)⟩⟩
theorem both5_lo {kind A B C N M : Int} {l : List UInt8} {KS LS : List Int} (hk : kind < 1) : zyA kind A B C N M l KS LS :=
 ⟨0,0,0,0,0,⟨#[]⟩,0,fun w a0 a1 b0 b1 c0 c1 vk vl o => ⟨asked_none (.inl hk) (by omega),told_none (.inl hk) (by omega)⟩⟩
theorem both5_hi {kind A B C N M : Int} {l : List UInt8} {KS LS : List Int} (hk : 21 < kind) : zyA kind A B C N M l KS LS :=
 ⟨0,0,0,0,0,⟨#[]⟩,0,fun w a0 a1 b0 b1 c0 c1 vk vl o => ⟨zaA (by omega) fun w0 h0 => askedMore_none (.inr hk),zcA (by omega) fun w0 h0 => toldMore_none (.inr hk)⟩⟩
theorem both5 {kind A B C N M : Int} {l : List UInt8} {KS LS : List Int} : zyA kind A B C N M l KS LS := by
 by_cases h0 : kind < 1
 ·exact both5_lo h0
 by_cases h1 : 21 < kind
 ·exact both5_hi h1
 rcases (show kind = 1 ∨ kind = 2 ∨ kind = 3 ∨ kind = 4 ∨ kind = 5 ∨ kind = 6 ∨ kind = 7 ∨ kind = 8 ∨ kind = 9 ∨ kind = 10 ∨ kind = 11 ∨ kind = 12 ∨ kind = 13 ∨ kind = 14 ∨ kind = 15 ∨ kind = 16 ∨ kind = 17 ∨ kind = 18 ∨ kind = 19 ∨ kind = 20 ∨ kind = 21 by omega) with rfl | rfl | rfl | rfl | rfl | rfl | rfl | rfl | rfl | rfl | rfl | rfl | rfl | rfl | rfl | rfl | rfl | rfl | rfl | rfl | rfl
 ·exact both5_1
 ·exact both5_2
 ·exact both5_3
 ·exact both5_4
 ·exact both5_5
 ·exact both5_6
 ·exact both5_7
 ·exact both5_8
 ·exact both5_9
 ·exact both5_10
 ·exact both5_11
 ·by_cases h : LS.length = KS.length
  ·exact both5_12 h
  ·exact both5_12n h
 ·by_cases h : N < 0
  ·exact both5_13l h
  by_cases h2 : 256 < N
  ·exact both5_13h h2
  obtain ⟨n,rfl⟩ : ∃ n : Nat,N = (n : Int) := ⟨N.toNat,by omega⟩
  exact both5_13 (by omega)
 ·by_cases h : B = 0
  ·exact both5_14n h
  ·exact both5_14 h
 ·by_cases h : B = 0
  ·exact both5_15n h
  ·exact both5_15 h
 ·by_cases h : B = 0
  ·exact both5_16n h
  ·exact both5_16 h
 ·by_cases h : B = 0
  ·exact both5_17n h
  by_cases h2 : A.tmod B = 0
  ·exact both5_17 h h2
  ·exact both5_17r h h2
 ·by_cases h : B = 0
  ·exact both5_18n h
  ·exact both5_18 h
 ·by_cases h : B = 0
  ·exact both5_19n h
  ·exact both5_19 h
 ·exact both5_20
 ·by_cases h : zgA l
  ·exact both5_21 h
  ·exact both5_21n h
end Go.Proofs.YtkdobgbicnemcaaGreatDoor
