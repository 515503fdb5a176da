/-
 QAlikeToShift: Alike, OpenZ, OpenV8, Fresh, Far, DivPure, Shift, joined.
-/
import Derived.Test.YtkdobgbicnemcaaGreatDoorQZAdd
import Derived.Test.YtkdobgbicnemcaaGreatDoorQMulAllToOnes
import Derived.Test.YtkdobgbicnemcaaGreatDoorQWordsToCarry
import Derived.ChangeSame
import Derived.Deep.Slices
import Derived.Test.YtkdobgbicnemcaaGreatDoorQTrimToMul
import Derived.Laws.AppendOwn
import Derived.Laws.AppendOwnNone
import Derived.Deep.RegionLaw
import Derived.Deep.RegionHeldLaw
import Derived.Test.YtkdobgbicnemcaaGreatDoorQByteRowToLen2
import Derived.Shelf.Spec.TrailingZeros

set_option maxRecDepth 100000
set_option maxHeartbeats 6400000
set_option linter.unusedVariables false
set_option linter.unusedSimpArgs false
namespace Go.Proofs.YtkdobgbicnemcaaGreatDoor
open Go.RowKit
theorem zVG {B B' : Nat} {w : World} {v u : Value} {z y : Int} {k l : Nat} (h : Zm B w v z k) (h' : Zm B' w u y l) (hzy : z = y) :
  Calls Tryz.prog 53 #[v,u] w fun e w' => e = .returned (.bool true) ∧ Below w.heap.size w w' := by
 subst hzy;obtain ⟨n,xs,a,c,rfl,s0,q0,e0,z0,k0⟩ := h;obtain ⟨m,ys,b,d,rfl,s1,q1,e1,z1,k1⟩ := h';obtain ⟨rfl,rfl⟩ := zfI (z0.trans z1.symm) q0 q1 e0 e1;have b0 := (zXA w (duo (.bool n) (.slice a xs.length c)) (duo (.bool n) (.slice b xs.length d))).1;have HC := hid (same_yes (s0.sl.now b0) (s1.sl.now b0) rfl);have B0 := hid b0;have hq : (n == n) = true := by simp
 clear s0 s1 z0 z1 b0 q0 q1 e0 e1;go_enter Tryz.func53,Tryz.ntmps53;go_wp2_with fail;refine HC.out.mono ?_;rintro e w1 ⟨rfl,b1⟩;have B1 := hid (below_step B0.out b1);clear b1 HC;go_wp2;go_ret;exact ⟨rfl,B1.out⟩
def Zl (w : World) (v : Value) (zs : List Int) (k : Nat) : Prop :=
 ∃ a c,v = .slice a zs.length c ∧ zs.length ≤ c ∧ zs.length ≤ 1048576 ∧ (zs = [] ∨ ∃ b off,a = some ⟨b,off,none⟩ ∧ b < w.heap.size ∧ ∀ j (h : j < zs.length),∃ x y,w.cell? ⟨b,off + 2 * j,none⟩ = some x ∧ w.cell? ⟨b,off + 2 * j + 1,none⟩ = some y ∧ Zi w (.agg #[x,y]) zs[j] k)
theorem Zl.now {w w' : World} {v : Value} {zs : List Int} {k : Nat} (h : Zl w v zs k) (hb : Below w.heap.size w w') : Zl w' v zs k := by
 obtain ⟨a,c,h1,h2,h3,h4⟩ := h;refine ⟨a,c,h1,h2,h3,?_⟩;rcases h4 with h4 | ⟨b,off,h5,h6,h7⟩
 ·exact .inl h4
 ·refine .inr ⟨b,off,h5,Nat.lt_of_lt_of_le h6 hb.size,fun j hj => ?_⟩
  obtain ⟨x,y,q1,q2,q3⟩ := h7 j hj;exact ⟨x,y,(hb.cell (p := ⟨b,off + 2 * j,none⟩) h6).trans q1,(hb.cell (p := ⟨b,off + 2 * j + 1,none⟩) h6).trans q2,q3.now hb⟩
def zsum (zs : List Int) : Int := zs.foldr (· + ·) 0
theorem zKE (xs ys : List Int) : zsum (xs ++ ys) = zsum xs + zsum ys := by
 induction xs with
 | nil => simp [zsum]
 | cons x r ih => simp [zsum] at ih ⊢;omega
def zyI (N : Nat) : Prop := ∀ (w : World) (v : Value) (zs : List Int) (k : Nat),Zl w v zs k → k + zs.length < 35184372088832 → zs.length < N → Calls Tryz.prog 49 #[v] w (zOA w (zsum zs) (k + zs.length))
theorem Zl.taken {w : World} {a : Option Addr} {len c : Nat} {zs : List Int} {k : Nat} (h : Zl w (.slice a len c) zs k) {n : Nat} (hn : n ≤ zs.length) : Zl w (.slice a n c) (zs.take n) k := by
 obtain ⟨a',c',he,h2,h2',h3⟩ := h;simp only [Value.slice.injEq] at he;obtain ⟨rfl,rfl,rfl⟩ := he;have e : (zs.take n).length = n := by simp;omega
 refine ⟨a,c,by rw [e],by omega,by omega,?_⟩;rcases h3 with rfl | ⟨b,off,h4,h5,h6⟩
 ·exact .inl (by simp)
 ·refine .inr ⟨b,off,h4,h5,fun j hj => ?_⟩
  rw [e] at hj;have := h6 j (by omega)
  simpa using this
theorem Zl.dropped {w : World} {b off : Nat} {len c : Nat} {zs : List Int} {k : Nat} (h : Zl w (.slice (some ⟨b,off,none⟩) len c) zs k) {n : Nat} (hn : n ≤ zs.length) : Zl w (.slice (some ⟨b,off + 2 * n,none⟩) (len - n) (c - n)) (zs.drop n) k := by
 obtain ⟨a',c',he,h2,h2',h3⟩ := h;simp only [Value.slice.injEq] at he;obtain ⟨rfl,rfl,rfl⟩ := he;have e : (zs.drop n).length = zs.length - n := by simp
 refine ⟨_,_,by rw [e],by omega,by omega,?_⟩;rcases h3 with rfl | ⟨b',off',h4,h5,h6⟩
 ·exact .inl (by simp)
 ·simp only [Option.some.injEq,Addr.mk.injEq,and_true] at h4
  obtain ⟨rfl,rfl⟩ := h4;refine .inr ⟨b,off + 2 * n,rfl,h5,fun j hj => ?_⟩;rw [e] at hj;have := h6 (n + j) (by omega);rw [Nat.mul_add,← Nat.add_assoc] at this
  simpa using this
theorem slice_lo (w : World) (b off n c mid : Nat) (h : mid ≤ c) : (Instr.slice 27 (.slice (some ⟨b,off,none⟩) n c) none (some (.int .i64 (mid : Int))) none).run Tryz.prog w = .ok (.slice (some ⟨b,off,none⟩) mid c) w := by
 have i3 : (mid : Int) ≤ (c : Int) := by omega
 have i1 : (0 : Int) ≤ (mid : Int) := by omega
 go_simp
theorem slice_hi (w : World) (b off n c mid : Nat) (h : mid ≤ n) (h2 : mid < c) : (Instr.slice 27 (.slice (some ⟨b,off,none⟩) n c) (some (.int .i64 (mid : Int))) none none).run Tryz.prog w = .ok (.slice (some ⟨b,off + 2 * mid,none⟩) (n - mid) (c - mid)) w := by
 have i3 : (mid : Int) ≤ (n : Int) := by omega
 have i1 : (0 : Int) ≤ (mid : Int) := by omega
 have i4 : ¬ c = mid := by omega
 go_simp
theorem sum_none {w : World} {v : Value} {k : Nat} (h : Zl w v [] k) : Calls Tryz.prog 49 #[v] w (zOA w (zsum []) k) := by
 obtain ⟨a,c,rfl,h2,_,_⟩ := h;have hz : ((0 : Int) == 0) = true := rfl;have K := hid ((Below.refl w.heap.size w).alloc (Nat.le_refl _) zbox);go_enter Tryz.func49,Tryz.ntmps49;go_wp2;exact bodyPost_ret (zBB Tryz.results49 (Duo.new w _ _) _ (by rfl)) rfl ⟨_,rfl,⟨false,[],none,0,rfl,Mine.nil _ _,⟨WF.nil,rfl⟩,fun _ => rfl,by simp [iv,val,zsum],Nat.zero_le _⟩,K.out⟩
theorem sum_one {w : World} {v : Value} {z : Int} {k : Nat} (h : Zl w v [z] k) : Calls Tryz.prog 49 #[v] w (zOA w (zsum [z]) (k + 1)) := by
 obtain ⟨a,c,rfl,h2,_,e | ⟨b,off,rfl,h5,h6⟩⟩ := h
 ·cases e
 obtain ⟨x,y,h7,h8,h9⟩ := h6 0 (by simp);have b0 : Below w.heap.size w (w.alloc zbox) := (Below.refl _ _).alloc (Nat.le_refl _) _;have c0 : (w.alloc zbox).cell? ⟨b,off,none⟩ = some x := (b0.cell (p := ⟨b,off,none⟩) h5).trans h7;have c1 : (w.alloc zbox).cell? ⟨b,off + 1,none⟩ = some y := (b0.cell (p := ⟨b,off + 1,none⟩) h5).trans h8;have hz : ((1 : Int) == 0) = false := rfl;have hz1 : ((1 : Int) == 1) = true := rfl;have HL := hid (zyH (h9.now b0));have HKR : Hid (∀ w',Below (w.alloc zbox).heap.size (w.alloc zbox) w' → Duo w' w.heap.size (.bool false) (.slice none 0 0)) := fun w' h => (Duo.new w _ _).below h (by simp)
 have B0 := hid b0;have ez : zsum [z] = z := by simp [zsum]
 rw [ez];clear h6 h7 h8 h9 b0;go_enter Tryz.func49,Tryz.ntmps49;go_wp2_with fail;refine HL.out.mono ?_;rintro e w1 ⟨r,rfl,m1,b1⟩;have HM := hid (m1.more (Nat.le_succ k));obtain ⟨n1,t1,a1,q1,rfl,-,-,-,-,-⟩ := m1;have r0 := (HKR.out w1 b1).c0;have r1 := (HKR.out w1 b1).c1;have f0 := (HKR.out w1 b1).fz 0;have f1 := (HKR.out w1 b1).fz 1;have HP1 := hid b1;clear b1 HL c0 c1;go_wp2;exact bodyPost_ret (zBB Tryz.results49 ((HKR.out w1 HP1.out).set _ _) _ (by rfl)) rfl (zWB HM.out (below_step B0.out HP1.out) (Nat.le_refl _) (by simp))
theorem sum_more {w : World} {v : Value} {zs : List Int} {k : Nat} (h : Zl w v zs k) (hk : k + zs.length < 35184372088832) (hn : 2 ≤ zs.length) (IH : zyI zs.length) :
  Calls Tryz.prog 49 #[v] w (zOA w (zsum zs) (k + zs.length)) := by
 have HL := hid h;obtain ⟨a,c,rfl,h2,h2',e | ⟨b,off,rfl,h5,h6⟩⟩ := h
 ·subst e;simp at hn
 have b0 : Below w.heap.size w (w.alloc zbox) := (Below.refl _ _).alloc (Nat.le_refl _) _;obtain ⟨n,hnn⟩ : ∃ n,zs.length = n := ⟨_,rfl⟩
 have HT := hid (HL.out.taken (n := zs.length / 2) (by omega));have HD := hid (HL.out.dropped (n := zs.length / 2) (by omega));have LT : Hid ((zs.take (zs.length / 2)).length = n / 2) := by unfold Hid;rw [List.length_take,hnn];omega
 have LD : Hid ((zs.drop (zs.length / 2)).length = n - n / 2) := by unfold Hid;rw [List.length_drop,hnn]
 have PV : Hid (zsum zs = zsum (zs.take (zs.length / 2)) + zsum (zs.drop (zs.length / 2))) := by unfold Hid;rw [← zKE,List.take_append_drop]
 generalize zs.take (zs.length / 2) = X1 at *;generalize zs.drop (zs.length / 2) = X2 at *;obtain ⟨W0,hW0⟩ : ∃ W0,w.alloc zbox = W0 := ⟨_,rfl⟩
 have pR : Duo W0 w.heap.size (.bool false) (.slice none 0 0) := by rw [← hW0];exact Duo.new w _ _
 have sz0 : W0.heap.size = w.heap.size + 1 := by rw [← hW0];simp
 rw [hW0] at b0;have HI : Hid (∀ w',Below W0.heap.size W0 w' → Calls Tryz.prog 49 #[.slice (some ⟨b,off,none⟩) (zs.length / 2) c] w' (zOA w' (zsum X1) (k + zs.length / 2))) := fun w' hb => by
  have := IH w' _ _ _ ((HT.out.now b0).now hb) (by rw [LT.out];omega) (by rw [LT.out];omega);rw [LT.out,← hnn] at this;exact this
 have HJ : Hid (∀ w',Below W0.heap.size W0 w' → Calls Tryz.prog 49 #[.slice (some ⟨b,off + 2 * (zs.length / 2),none⟩) (zs.length - zs.length / 2) (c - zs.length / 2)] w' (zOA w' (zsum X2) (k + (zs.length - zs.length / 2)))) := fun w' hb => by
  have := IH w' _ _ _ ((HD.out.now b0).now hb) (by rw [LD.out];omega) (by rw [LD.out];omega);rw [LD.out,← hnn] at this;exact this
 have HA : Hid (∀ w1 r1,Below W0.heap.size W0 w1 → ∀ w2 r2 w',Zm W0.heap.size w1 r1 (zsum X1) (k + zs.length / 2) → Zm w1.heap.size w2 r2 (zsum X2) (k + (zs.length - zs.length / 2)) → Below w1.heap.size w1 w2 → Below w2.heap.size w2 w' → Calls Tryz.prog 46 #[r1,r2] w' (zOA w' (zsum zs) (k + zs.length))) := fun w1 r1 h1 w2 r2 w' m1 m2 h2 h3 => by
  refine (zWG ((m1.zi.now h2).now h3) (m2.zi.now h3) (by omega) (by omega)).mono fun e w'' q => ?_
  rw [PV.out];obtain ⟨r,q1,q2,q3⟩ := q;exact ⟨r,q1,q2.more (by omega),q3⟩
 have HKR : Hid (∀ w',Below W0.heap.size W0 w' → Duo w' w.heap.size (.bool false) (.slice none 0 0)) := fun w' h => pR.below h (by omega)
 have EW := hid hW0;have B0 := hid b0;rw [hnn] at h2 h2' hn HI HJ HA ⊢;have hz : ((n : Int) == 0) = false := by rw [beq_eq_false_iff_ne];omega
 have hz1 : ((n : Int) == 1) = false := by rw [beq_eq_false_iff_ne];omega
 have hh : (n : Int) / 2 = ((n / 2 : Nat) : Int) := by omega
 have hlt : n / 2 < n := by omega
 have hpos : 0 < n / 2 := by omega
 generalize n / 2 = mid at *;have HS1 := fun wx => slice_lo wx b off n c mid (by omega)
 have HS2 := fun wx => slice_hi wx b off n c mid (by omega) (by omega)
 clear h6 HL HT HD IH LT LD PV hW0 pR b0;go_enter Tryz.func49,Tryz.ntmps49;go_wp2_with fail;rw [EW.out];go_region_held3 (fun _ => True) (trivial)
  (first
   | (have _ := HP2;go_at_call 46;refine (HA.out w1 _ HP1.out w2 _ _ HM1.out HM2.out HB12.out ?_).mono ?_;(repeat (first | exact Below.refl _ _ | apply Below.drew));rintro e3 w3 ⟨r3,rfl,m3,b3⟩;have HB23 : Hid (Below w2.heap.size w2 w3) := below_step (w0 := w2) (by repeat (first | exact Below.refl _ _ | apply Below.drew)) b3;have HP3 := hid (below_step HP2.out HB23.out);have HM3 := hid m3;obtain ⟨n3,t3,a3,q3,rfl,-,-,-,-,-⟩ := m3;have y0 := (HKR.out w3 HP3.out).c0;have y1 := (HKR.out w3 HP3.out).c1;have f0 := (HKR.out w3 HP3.out).fz 0;have f1 := (HKR.out w3 HP3.out).fz 1)
   | (have _ := HP1;go_at_call 49;refine (HJ.out _ ?_).mono ?_;(repeat (first | exact HP1.out | apply Below.drew));rintro e2 w2 ⟨r2,rfl,m2,b2⟩;have HB12 : Hid (Below w1.heap.size w1 w2) := below_step (w0 := w1) (by repeat (first | exact Below.refl _ _ | apply Below.drew)) b2;have HP2 := hid (below_step HP1.out HB12.out);have HM2 := hid m2;obtain ⟨n2,t2,a2,q2,rfl,-,-,-,-,-⟩ := m2)
   | (go_at_call 49;refine (HI.out _ ?_).mono ?_;(repeat (first | exact Below.refl _ _ | apply Below.drew));rintro e1 w1 ⟨r1,rfl,m1,b1⟩;have HP1 := hid (below_step (w0 := W0) (by repeat (first | exact Below.refl _ _ | apply Below.drew)) b1);have HM1 := hid m1;obtain ⟨n1,t1,a1,q1,rfl,-,-,-,-,-⟩ := m1))
 all_goals go_wp2
 all_goals exact bodyPost_ret (zBB Tryz.results49 ((HKR.out w3 HP3.out).set _ _) _ (by rfl)) rfl (zWB (HM3.out.mono HP2.out.size) (below_step B0.out HP3.out) (by omega) (by omega))
theorem zaI : ∀ N,zyI N
 | 0 => fun w v zs k _ _ h => absurd h (Nat.not_lt_zero _)
 | N + 1 => fun w v zs k h hk hN => by
  match zs,h,hk,hN with
  | [],h,_,_ => exact sum_none h
  | [x],h,_,_ => exact sum_one h
  | x :: y :: r,h,hk,hN => exact sum_more h hk (by simp) (fun w v zs k h1 h2 h3 => zaI N w v zs k h1 h2 (by omega))
theorem zwI {w : World} {v : Value} {zs : List Int} {k : Nat} (h : Zl w v zs k) (hk : k + zs.length < 35184372088832) : Calls Tryz.prog 49 #[v] w (zOA w (zsum zs) (k + zs.length)) := zaI _ w v zs k h hk (Nat.lt_succ_self _)
open Go.ChangeShapes Go.WideShapes Go.ChangeAt Go.RowKit
theorem Tryz.cellsZ : Tryz.prog.cellsOf 26 = 2 := by kernel_rfl
theorem Tryz.cellsZb : Tryz.prog.cellsOf 4 = 1 := by kernel_rfl
theorem Tryz.cellsZs : Tryz.prog.cellsOf 24 = 1 := by kernel_rfl
theorem trod_struct2 {H : Type} {enc : TypeId × Value → H} {P : Program} {w : World} {base : Nat} {spare : Nat → Bool} {held : Bool} {t : TypeId} {f0 f1 : Field} {fuel : Nat} {cs : List Value} {x : DataW H × List MemPlace} (ht : P.underlying t = some (.struct #[f0,f1]))
  (h : DataW.trod enc P w base spare held fuel t cs = some x) :
  ∃ y0 y1 n,x.1 = .agg [y0.1,y1.1] ∧ cs.length = P.cellsOf t ∧ DataW.trod enc P w base spare held n f0.type ((cs.drop f0.offset).take (P.cellsOf f0.type)) = some y0 ∧ DataW.trod enc P w base spare held n f1.type ((cs.drop f1.offset).take (P.cellsOf f1.type)) = some y1 := by
 obtain ⟨xs,n,_,rfl,hl,hlen,hf⟩ := DataW.trod_struct ht h
 match xs,hlen with
 | [y0,y1],_ => exact ⟨y0,y1,n,by simp,hl,by simpa using hf 0 f0 rfl,by simpa using hf 1 f1 rfl⟩
def Zw (w : World) (v : Value) (zs : List Int) (ks : List Nat) : Prop :=
 ks.length = zs.length ∧ ∃ a c,v = .slice a zs.length c ∧ zs.length ≤ c ∧ zs.length ≤ 1048576 ∧ (zs = [] ∨ ∃ b off,a = some ⟨b,off,none⟩ ∧ b < w.heap.size ∧ ∀ j z k,zs[j]? = some z → ks[j]? = some k → ∃ x y,w.cell? ⟨b,off + 2 * j,none⟩ = some x ∧ w.cell? ⟨b,off + 2 * j + 1,none⟩ = some y ∧ Zi w (.agg #[x,y]) z k)
def ksum (ks : List Nat) : Nat := ks.foldr (· + ·) 0
theorem zlE (k : Nat) (ks : List Nat) : ksum (k :: ks) = k + ksum ks := rfl
theorem zzH : ∀ {ks : List Nat} {j k : Nat},ks[j]? = some k → k ≤ ksum ks
 | [],j,k,h => by simp at h
 | x :: r,0,k,h => by
  simp only [List.getElem?_cons_zero,Option.some.injEq] at h;rw [zlE];omega
 | x :: r,j + 1,k,h => by
  simp only [List.getElem?_cons_succ] at h;have := zzH h;rw [zlE];omega
theorem Zw.zl {w : World} {v : Value} {zs : List Int} {ks : List Nat} {K : Nat} (h : Zw w v zs ks) (hK : ksum ks ≤ K) : Zl w v zs K := by
 obtain ⟨h0,a,c,h1,h2,h3,h4⟩ := h;refine ⟨a,c,h1,h2,h3,?_⟩;rcases h4 with h4 | ⟨b,off,h5,h6,h7⟩
 ·exact .inl h4
 ·refine .inr ⟨b,off,h5,h6,fun j hj => ?_⟩
  have hk : ks[j]? = some ks[j] := List.getElem?_eq_getElem (by omega);obtain ⟨x,y,q1,q2,q3⟩ := h7 j _ _ (List.getElem?_eq_getElem hj) hk;exact ⟨x,y,q1,q2,q3.more (Nat.le_trans (zzH hk) hK)⟩
theorem zMG {H : Type} {D : Nat → DataW H} {q : Nat → Nat} : ∀ l : List Nat,(∀ i ∈ l,q i + 1 ≤ Rows.uptoBulk (D i)) → ksum (l.map q) + l.length ≤ Rows.uptoBulkAll (l.map D)
 | [],_ => by simp [ksum]
 | i :: r,h => by
  have h1 := h i (by simp);have h2 := zMG r (fun j hj => h j (by simp [hj]));simp only [List.map_cons,zlE,Rows.uptoBulkAll,List.length_cons];omega
theorem zRD {H : Type} {enc : TypeId × Value → H} {W : World} {fuel : Nat} {cs : List Value} {x : DataW H × List MemPlace}
  (hf : DataW.trod enc Tryz.prog W 0 (fun _ => true) true fuel 26 cs = some x) (hb : Rows.uptoBulk x.1 ≤ 1048576) :
  ∃ x0 x1 z k,cs = [x0,x1] ∧ Zi W (.agg #[x0,x1]) z k ∧ k + 1 ≤ Rows.uptoBulk x.1 := by
 obtain ⟨y0,y1,n,hx,hl,t0,t1⟩ := trod_struct2 Tryz.underlying26 hf;rw [Tryz.cellsZ] at hl;rw [hx] at hb ⊢;simp only [Rows.uptoBulk,Rows.uptoBulkAll] at hb ⊢;obtain ⟨c0,c1,rfl⟩ : ∃ c0 c1,cs = [c0,c1] := by
  match cs,hl with
  | [c0,c1],_ => exact ⟨c0,c1,rfl⟩
 simp only [Tryz.cellsZb,Tryz.cellsZs,List.drop_zero,List.drop_succ_cons,List.take_succ_cons,List.take_zero] at t0 t1;obtain ⟨k,e0,_⟩ := DataW.trod_bool Tryz.underlying4 t0;obtain ⟨xs,sx,lx,fx⟩ := open_words3 t1 (by omega);simp only [List.cons.injEq,and_true] at e0;subst e0;obtain ⟨a,c,rfl⟩ : ∃ a c,c1 = .slice a xs.length c := by obtain ⟨_,a,c,e,_⟩ := sx;exact ⟨a,c,e⟩
 have := zHE y0.1;exact ⟨_,_,iv k xs,xs.length,rfl,⟨k,xs,a,c,rfl,sx,rfl,Nat.le_refl _⟩,by omega⟩
theorem zkD {H : Type} {enc : TypeId × Value → H} {W : World} {fuel : Nat} {v : Value} {y : DataW H × List MemPlace}
  (hf : DataW.trod enc Tryz.prog W 0 (fun _ => true) true fuel 27 [v] = some y) (hb : Rows.uptoBulk y.1 ≤ 1048576) :
  ∃ zs ks,Zw W v zs ks ∧ zs.length + ksum ks + 1 ≤ Rows.uptoBulk y.1 := by
 rcases Deep.open_slice Tryz.underlying27 hf with ⟨hcs,_⟩ | ⟨x,len,cap,m,n,D,Pl,hcs,_,hl,hm,hmm,hx,hel⟩
 ·simp only [List.cons.injEq,and_true] at hcs
  subst hcs;exact ⟨[],[],⟨rfl,none,0,rfl,Nat.le_refl _,Nat.zero_le _,.inl rfl⟩,zHE _⟩
 ·simp only [List.cons.injEq,and_true] at hcs
  subst hcs;simp only [if_true] at hmm;subst hmm;rw [hx] at hb ⊢;simp only [Rows.uptoBulk] at hb ⊢;have e1 := zvC ((List.range len).map D);simp only [List.length_map,List.length_range] at e1;rw [Tryz.cellsZ] at hel;obtain ⟨q,hq⟩ := Deep.choose_lt (α := Value × Value × Int × Nat) (n := len) (p := fun i q => W.cells? 0 (x.add (i * 2)) 2 = some [q.1,q.2.1] ∧ Zi W (.agg #[q.1,q.2.1]) q.2.2.1 q.2.2.2 ∧ q.2.2.2 + 1 ≤ Rows.uptoBulk (D i)) (fun i hi => by
    obtain ⟨cs',h1,h2⟩ := hel i (by omega);have hbi : Rows.uptoBulk (D i) ≤ 1048576 := by
     have := bulk_in (List.mem_map_of_mem (f := D) (List.mem_range.2 hi));omega
    obtain ⟨x0,x1,z,k,rfl,s1,s2⟩ := zRD (x := (D i,Pl i)) h2 hbi;exact ⟨(x0,x1,z,k),h1,s1,s2⟩)
  have ht := zMG (D := D) (q := fun i => (q i).2.2.2) (List.range len) (fun i hi => (hq i (List.mem_range.1 hi)).2.2);simp only [List.length_range] at ht;refine ⟨(List.range len).map fun i => (q i).2.2.1,(List.range len).map fun i => (q i).2.2.2,⟨by simp,some x,m,by simp,by simpa using hl,by simp;omega,?_⟩,by simp;omega⟩
  by_cases he : len = 0
  ·exact .inl (by simp [he])
  ·obtain ⟨b,off,spot⟩ := x
   have hc := (World.cells?_some (hq 0 (by omega)).1).2.2 0 (by omega);rw [Deep.add_add] at hc;simp only [Nat.zero_mul,Nat.add_zero,List.getElem?_cons_zero] at hc;have hspot : spot = none := by simpa [Addr.add] using World.cell?_spot hc
   subst hspot;refine .inr ⟨b,off,rfl,?_,fun j z k hz hk => ?_⟩
   ·have := World.block_lt_of_cell? W _ hc
    simpa [Addr.add] using this
   ·have hj : j < len := by
     have := (List.getElem?_eq_some_iff.1 hz).1
     simpa using this
    have ea : ∀ j,(⟨b,off,none⟩ : Addr).add j = ⟨b,off + j,none⟩ := fun j => by unfold Addr.add;split <;> simp_all
    have k0 := (World.cells?_some (hq j hj).1).2.2 0 (by omega);have k1 := (World.cells?_some (hq j hj).1).2.2 1 (by omega);rw [Deep.add_add,ea] at k0 k1;simp only [Nat.add_zero,List.getElem?_cons_zero,List.getElem?_cons_succ] at k0 k1;simp only [List.getElem?_map,List.getElem?_range hj,Option.map_some,Option.some.injEq] at hz hk;subst hz hk;refine ⟨(q j).1,(q j).2.1,?_,?_,(hq j hj).2.1⟩
    ·rw [Nat.mul_comm 2 j];exact k0
    ·rw [Nat.mul_comm 2 j,Nat.add_assoc];exact k1
theorem open_ints {H : Type} {enc : TypeId × Value → H} {W : World} {a : Option Addr} {len cap : Nat} {d : DataW H} {p : List MemPlace}
  (h0 : DataW.Trod enc Tryz.prog W 0 (fun _ => true) true 27 (.slice a len cap) d p) (hb : Rows.uptoBulk d ≤ 1048576) :
  ∃ zs ks,Zw W (.slice a len cap) zs ks ∧ zs.length + ksum ks ≤ 1048576 := by
 obtain ⟨fuel,hf⟩ := h0;obtain ⟨zs,ks,h1,h2⟩ := zkD (y := (d,p)) hf hb;have h2' : zs.length + ksum ks + 1 ≤ Rows.uptoBulk d := h2;exact ⟨zs,ks,h1,by omega⟩
end Go.Proofs.YtkdobgbicnemcaaGreatDoor
namespace Go.Proofs.YtkdobgbicnemcaaGreatDoor
open Go.RowKit
def Far (B : Nat) (w : World) (v : Value) (zs : List Int) : Prop :=
 WF zs ∧ zPI v ∧ ∃ a cap,v = .slice a zs.length cap ∧ zs.length ≤ cap ∧ zs.length ≤ 35184372088832 ∧ (zs = [] ∨ ∃ g r,B ≤ g ∧ a = some ⟨g,0,none⟩ ∧ Row w g (ws zs ++ r))
theorem Far.sl {B : Nat} {w : World} {v : Value} {zs : List Int} (h : Far B w v zs) : Sl w.heap.size w v zs := by
 obtain ⟨hw,_,a,cap,h1,h2,h3,h4⟩ := h;refine ⟨hw,a,cap,h1,h2,h3,?_⟩;rcases h4 with e | ⟨g,r,_,h5,h6⟩
 ·exact .inl e
 ·exact .inr ⟨g,0,h5,h6.lt,fun j hj => by rw [Nat.zero_add];exact h6.word hj⟩
theorem Far.form {B : Nat} {w : World} {v : Value} {zs : List Int} (h : Far B w v zs) : ∃ a cap,v = .slice a zs.length cap := by obtain ⟨_,_,a,cap,h1,_⟩ := h;exact ⟨a,cap,h1⟩
theorem run_append_empty (w : World) (ty : TypeId) (g : Nat) {B : Nat} {v : Value} {xs : List Int} (hsl : Sl B w v xs) (hf : zPI v) (hmx : xs.length ≤ 17592186044416) :
  ∃ v' w',(Builtin.append_ #[24,24] ty #[.slice (some ⟨g,0,none⟩) 0 0,v]).run Tryz.prog w = .ok v' w' ∧ Far w.heap.size w' v' xs ∧ Below w.heap.size w w' := by
 obtain ⟨i,hi,hz,hsz,hb⟩ := info_parts Tryz.infoW;have ht := Tryz.underlying24;obtain ⟨hw,ad,cap,rfl,hlc,hcm,hm⟩ := hsl;rcases hf with e | ⟨ad',n',c',e⟩
 ·simp only [Value.slice.injEq] at e
  obtain ⟨rfl,e2,rfl⟩ := e;obtain rfl : xs = [] := List.eq_nil_of_length_eq_zero e2;refine ⟨.slice (some ⟨g,0,none⟩) 0 0,w,?_,⟨WF.nil,.inr ⟨_,_,_,rfl⟩,_,0,rfl,Nat.le_refl _,Nat.zero_le _,.inl rfl⟩,Below.refl _ _⟩;simp [Builtin.append_,run_underlying ht,sizeOf,typeInfo,hi,Builtin.lenOf,Builtin.firstCells,storeCells]
 ·simp only [Value.slice.injEq] at e
  obtain ⟨rfl,_,_⟩ := e
  by_cases h0 : xs = []
  ·subst h0
   refine ⟨.slice (some ⟨g,0,none⟩) 0 0,w,?_,⟨WF.nil,.inr ⟨_,_,_,rfl⟩,_,0,rfl,Nat.le_refl _,Nat.zero_le _,.inl rfl⟩,Below.refl _ _⟩;simp [Builtin.append_,run_underlying ht,sizeOf,typeInfo,hi,Builtin.lenOf,Builtin.firstCells,loadCells,loadCellsFrom,storeCells]
  ·have hpos : 0 < xs.length := by cases xs with
    | nil => exact absurd rfl h0
    | cons x r => simp
   have hnews : ∀ j u,(ws xs)[j]? = some u → w.cell? (ad'.add j) = some u := fun j u hj => by
    have hj' : j < xs.length := by
     have := (List.getElem?_eq_some_iff.1 hj).1
     simpa [zNA] using this
    rcases hm with e | ⟨b,off,h1,h2,h3⟩
    ·exact absurd e h0
    ·simp only [Option.some.injEq] at h1
     subst h1;have e : (⟨b,off,none⟩ : Addr).add j = ⟨b,off + j,none⟩ := by unfold Addr.add;split <;> simp_all
     rw [e,h3 j hj',← hj];simp [ws,hj']
   have hfit : Builtin.nextslicecap (0 + xs.length) 0 * i.bytes ≤ 281474976710656 := by
    unfold Builtin.nextslicecap;rw [if_pos (by omega),hb];omega
   have hr := run_append_grow (P := Tryz.prog) w 24 ty 53 i (.int .u64 0) ht hi hz ⟨g,0,none⟩ 0 0 [] (by simp) (fun j v hj => by simp at hj) ad' xs.length cap (ws xs) (by rw [zNA,hsz];omega) hnews (by omega) (by omega) hfit;have hge := grownCap_ge w (0 + xs.length) 0 53;refine ⟨_,_,hr,⟨hw,.inr ⟨_,_,_,rfl⟩,_,grownCap w (0 + xs.length) 0 53,by rw [Nat.zero_add],by omega,hcm,.inr ⟨w.heap.size,(Builtin.zeroCells (Value.int .u64 0).cells (grownCap w (0 + xs.length) 0 53 - (0 + xs.length))).toList,Nat.le_refl _,rfl,?_⟩⟩,?_⟩
   ·have := heap_alloc_new w.drew (.cells (([] : List Value).toArray ++ (ws xs).toArray ++ Builtin.zeroCells (Value.int .u64 0).cells (grownCap w (0 + xs.length) 0 53 - (0 + xs.length))) 53)
    unfold Row;refine Eq.trans this ?_
    simp
   ·exact ((Below.refl w.heap.size w).drew).alloc (Nat.le_refl _) _
def zoB (y1 y0 u d q r : Nat) : Prop := q * y1 + r = u ∧ u * 4294967296 + d < (q + 1) * (y1 * 4294967296 + y0)
def zXI (y1 y0 u d q : Nat) : Prop := q < 4294967296 ∧ q * (y1 * 4294967296 + y0) ≤ u * 4294967296 + d ∧ u * 4294967296 + d < (q + 1) * (y1 * 4294967296 + y0)
theorem mul_two (q y1 y0 : Nat) : q * (y1 * 4294967296 + y0) = q * y1 * 4294967296 + q * y0 := by rw [Nat.mul_add,Nat.mul_assoc]
theorem over_aux {B y1 y0 u d q r : Nat} (h1 : q * y1 + r = u) (ht : r * B + d < q * y0) : u * B + d < q * (y1 * B + y0) := by
 subst h1;rw [Nat.mul_add,← Nat.mul_assoc,Nat.add_mul];omega
theorem zqG {B y1 y0 u d q r : Nat} (h1 : q * y1 + r = u) (ht : q * y0 ≤ r * B + d) : q * (y1 * B + y0) ≤ u * B + d := by
 subst h1;rw [Nat.mul_add,← Nat.mul_assoc,Nat.add_mul];omega
theorem zoB.start {y1 y0 u d : Nat} (hy : 0 < y1) (hd : d < 4294967296) : zoB y1 y0 u d (u / y1) (u % y1) := by
 have h1 := Nat.div_add_mod u y1;have h2 := Nat.mod_lt u hy;rw [Nat.mul_comm] at h1;refine ⟨h1,?_⟩;rw [mul_two,Nat.add_mul,Nat.one_mul];omega
theorem zoB.over {y1 y0 u d q r : Nat} (h : zoB y1 y0 u d q r) (hu : u < y1 * 4294967296 + y0) (hd : d < 4294967296) (ht : 4294967296 ≤ q ∨ r * 4294967296 + d < q * y0) :
  ∃ k,q = k + 1 ∧ zoB y1 y0 u d k (r + y1) := by
 obtain ⟨h1,h2⟩ := h;have h3 : u * 4294967296 + d < q * (y1 * 4294967296 + y0) := by
  rcases ht with ht | ht
  ·obtain ⟨Y,hY⟩ : ∃ Y,Y = y1 * 4294967296 + y0 := ⟨_,rfl⟩
   rw [← hY] at hu ⊢;have h5 := Nat.mul_le_mul_right Y ht;obtain ⟨m,hm⟩ : ∃ m,m = q * Y := ⟨_,rfl⟩
   rw [← hm] at h5 ⊢;have h6 : 4294967296 * (u + 1) ≤ 4294967296 * Y := Nat.mul_le_mul_left _ hu;have h7 := Nat.le_trans h6 h5;clear hm h2 h1 hY h5 h6 hu ht;omega
  ·exact over_aux h1 ht
 have h4 : q ≠ 0 := fun e => by subst e;simp at h3
 obtain ⟨k,rfl⟩ := Nat.exists_eq_succ_of_ne_zero h4;refine ⟨k,rfl,?_,h3⟩;rw [Nat.succ_mul] at h1;omega
theorem zoB.small {y1 y0 u d q r : Nat} (h : zoB y1 y0 u d q r) (hu : u < y1 * 4294967296 + y0) (hy0 : y0 < 4294967296) (hr : 4294967296 ≤ r) : zXI y1 y0 u d q := by
 obtain ⟨h1,h2⟩ := h;have hq : q < 4294967296 := by
  refine Nat.lt_of_not_le fun hq => ?_
  have := Nat.mul_le_mul_right y1 hq;omega
 refine ⟨hq,zqG h1 ?_,h2⟩;have h5 : q * y0 ≤ 4294967295 * 4294967295 := Nat.mul_le_mul (by omega) (by omega);exact Nat.le_trans h5 (by clear h5 h1 h2;omega)
theorem zoB.stop {y1 y0 u d q r : Nat} (h : zoB y1 y0 u d q r) (hq : q < 4294967296) (ht : q * y0 ≤ r * 4294967296 + d) : zXI y1 y0 u d q := by
 obtain ⟨h1,h2⟩ := h;exact ⟨hq,zqG h1 ht,h2⟩
theorem zXI.rest {y1 y0 u d q : Nat} (h : zXI y1 y0 u d q) : ∃ v,q * (y1 * 4294967296 + y0) + v = u * 4294967296 + d ∧ v < y1 * 4294967296 + y0 := by
 obtain ⟨h1,h2,h3⟩ := h;rw [Nat.add_mul,Nat.one_mul] at h3;exact ⟨u * 4294967296 + d - q * (y1 * 4294967296 + y0),by omega,by omega⟩
theorem zoB.mul_fits {y0 q : Nat} (hq : q < 4294967296) (hy0 : y0 < 4294967296) : q * y0 < 18446744073709551616 := by
 have : q * y0 ≤ 4294967295 * 4294967295 := Nat.mul_le_mul (by omega) (by omega);omega
theorem zTC {x lo y P Y u un q1 q0 v z : Nat} (hP : 0 < P) (hY : Y = y * P) (hu : u * 18446744073709551616 + un = (x * 18446744073709551616 + lo) * P)
  (h1 : q1 * Y + v = u * 4294967296 + un / 4294967296) (h0 : q0 * Y + z = v * 4294967296 + un % 4294967296) (hz : z < Y) :
  ∃ r,z = r * P ∧ r < y ∧ (q1 * 4294967296 + q0) * y + r = x * 18446744073709551616 + lo := by
 have e1 : (q1 * 4294967296 + q0) * Y + z = (x * 18446744073709551616 + lo) * P := by
  rw [Nat.add_mul,Nat.mul_right_comm,← hu];clear hu hY;obtain ⟨a,ha⟩ : ∃ a,a = q1 * Y := ⟨_,rfl⟩
  obtain ⟨b,hb⟩ : ∃ b,b = q0 * Y := ⟨_,rfl⟩
  rw [← ha] at h1 ⊢;rw [← hb] at h0 ⊢;clear ha hb;omega
 subst hY;rw [← Nat.mul_assoc] at e1;obtain ⟨A,hA⟩ : ∃ A,A = (q1 * 4294967296 + q0) * y := ⟨_,rfl⟩
 obtain ⟨T,hT⟩ : ∃ T,T = x * 18446744073709551616 + lo := ⟨_,rfl⟩
 rw [← hA,← hT] at e1;rw [← hA,← hT];clear hA hT h1 h0 hu;have hle : A ≤ T := by
  refine Nat.le_of_mul_le_mul_right (c := P) ?_ hP;omega
 obtain ⟨r,rfl⟩ := Nat.exists_eq_add_of_le hle;rw [Nat.add_mul] at e1;refine ⟨r,by omega,?_,rfl⟩;have : z = r * P := by omega
 rw [this] at hz;exact Nat.lt_of_mul_lt_mul_right hz
theorem lead_up {y : Nat} (h0 : y ≠ 0) (h : y < 2 ^ 64) : bitLen y ≤ 64 ∧ 0 < bitLen y ∧ y * 2 ^ (64 - bitLen y) < 18446744073709551616 ∧ 9223372036854775808 ≤ y * 2 ^ (64 - bitLen y) := by
 have e : bitLen y = Nat.log2 y + 1 := by unfold bitLen;rw [if_neg h0]
 have h1 : Nat.log2 y < 64 := (Nat.log2_lt h0).2 h;have h2 : y < 2 ^ (Nat.log2 y + 1) := Nat.lt_log2_self;have h3 : 2 ^ Nat.log2 y ≤ y := Nat.log2_self_le h0;have h4 := Nat.mul_lt_mul_of_pos_right h2 (Nat.two_pow_pos (64 - (Nat.log2 y + 1)));have h5 := Nat.mul_le_mul_right (2 ^ (64 - (Nat.log2 y + 1))) h3;rw [← Nat.pow_add,show Nat.log2 y + 1 + (64 - (Nat.log2 y + 1)) = 64 by omega] at h4;rw [← Nat.pow_add,show Nat.log2 y + (64 - (Nat.log2 y + 1)) = 63 by omega] at h5;rw [e];exact ⟨by omega,by omega,by omega,by omega⟩
theorem zNF : ∀ k,pw k = 2 ^ (64 * k)
 | 0 => by simp [pw]
 | k + 1 => by rw [pw,zNF k,show 64 * (k + 1) = 64 + 64 * k by omega,Int.pow_add];rfl
theorem zFG (a b : Nat) : pw (a + b) = pw a * pw b := by rw [zNF,zNF,zNF,Nat.mul_add,Int.pow_add]
theorem two_split (n : Nat) : (2 : Int) ^ n = pw (n / 64) * 2 ^ (n % 64) := by rw [zNF,← Int.pow_add,show 64 * (n / 64) + n % 64 = n by omega]
theorem zFD (a b : Nat) (ha : a < 18446744073709551616) (hb : b < 18446744073709551616) : bits .or .u64 (a : Int) (b : Int) = ((a ||| b : Nat) : Int) := by
 have hx : a ||| b < 2 ^ 64 := Nat.or_lt_two_pow ha hb;have h1 : (BitVec.ofInt 64 (a : Int)).toNat = a := by
  rw [BitVec.ofInt_natCast,BitVec.toNat_ofNat];exact Nat.mod_eq_of_lt (by omega)
 have h2 : (BitVec.ofInt 64 (b : Int)).toNat = b := by
  rw [BitVec.ofInt_natCast,BitVec.toNat_ofNat];exact Nat.mod_eq_of_lt (by omega)
 show IntKind.u64.wrap ((BitVec.ofInt 64 (a : Int) ||| BitVec.ofInt 64 (b : Int)).toNat : Int) = _
 rw [BitVec.toNat_or,h1,h2,IntKind.wrap_u64];omega
theorem zfE {p : Nat} (hp : p ≤ 64) : 2 ^ p * 2 ^ (64 - p) = 18446744073709551616 := by rw [← Nat.pow_add,show p + (64 - p) = 64 by omega]
theorem zdA (p : Nat) : (2 : Int) ^ p = ((2 ^ p : Nat) : Int) := by simp
theorem shl_word {x c : Int} {p : Nat} (hx : IsW x) (hp : p < 64) (hc0 : 0 ≤ c) (hc : c < 2 ^ p) :
  IsW (bits BinOp.or IntKind.u64 (IntKind.u64.wrap (x * 2 ^ p)) c) ∧ 0 ≤ x / 2 ^ (64 - p) ∧ x / 2 ^ (64 - p) < 2 ^ p ∧
   bits BinOp.or IntKind.u64 (IntKind.u64.wrap (x * 2 ^ p)) c + wB * (x / 2 ^ (64 - p)) = 0 + x * 2 ^ p + c := by
 have hl := toNat_lt hx;obtain ⟨X,rfl⟩ := Int.eq_ofNat_of_zero_le hx.1;obtain ⟨C,rfl⟩ := Int.eq_ofNat_of_zero_le hc0;simp only [Int.toNat_natCast] at hl;have hs := zfE (p := p) (by omega);have hpp := Nat.two_pow_pos p;have hqp := Nat.two_pow_pos (64 - p);rw [zdA p,zdA (64 - p)] at *;generalize hP : 2 ^ p = P at *;generalize hQ : 2 ^ (64 - p) = Q at *;have hC : C < P := by omega
 have hm : X * P % 18446744073709551616 = P * (X % Q) := by rw [← hs,Nat.mul_comm X P,Nat.mul_mod_mul_left]
 have hXQ : X % Q < Q := Nat.mod_lt _ hqp;have hle : P * (X % Q) + P ≤ 18446744073709551616 := by
  rw [← hs,← Nat.mul_succ];exact Nat.mul_le_mul_left _ hXQ
 have hw : IntKind.u64.wrap ((X : Int) * (P : Int)) = ((P * (X % Q) : Nat) : Int) := by
  rw [IntKind.wrap_u64,← hm];simp
 have ho : P * (X % Q) ||| C = P * (X % Q) + C := by
  subst hP;exact (Nat.two_pow_add_eq_or_of_lt (by omega) _).symm
 have hd : (X : Int) / (Q : Int) = ((X / Q : Nat) : Int) := by simp
 rw [hw,zFD _ _ (by omega) (by omega),ho,hd];have hXd : X / Q < P := by rw [Nat.div_lt_iff_lt_mul hqp,hs];exact hl
 have hmain : P * (X % Q) + 18446744073709551616 * (X / Q) = X * P := by
  have := Nat.mod_add_div X Q;rw [← hs,Nat.mul_assoc,← Nat.mul_add,this,Nat.mul_comm]
 refine ⟨by unfold IsW wB;omega,by omega,by omega,?_⟩;have : ((P * (X % Q) + 18446744073709551616 * (X / Q) : Nat) : Int) = ((X * P : Nat) : Int) := by rw [hmain]
 unfold wB;rw [← Int.natCast_mul];omega
theorem shr_word {x y : Int} {p : Nat} (hx : IsW x) (hy : IsW y) (hp : p < 64) :
  IsW (bits BinOp.or IntKind.u64 (x / 2 ^ p) (IntKind.u64.wrap (y * 2 ^ (64 - p)))) ∧
   2 ^ p * bits BinOp.or IntKind.u64 (x / 2 ^ p) (IntKind.u64.wrap (y * 2 ^ (64 - p))) = x - x % 2 ^ p + wB * (y % 2 ^ p) := by
 have hl := toNat_lt hx;have hl' := toNat_lt hy;obtain ⟨X,rfl⟩ := Int.eq_ofNat_of_zero_le hx.1;obtain ⟨Y,rfl⟩ := Int.eq_ofNat_of_zero_le hy.1;simp only [Int.toNat_natCast] at hl hl';have hs := zfE (p := p) (by omega);have hpp := Nat.two_pow_pos p;have hqp := Nat.two_pow_pos (64 - p);rw [zdA p,zdA (64 - p)] at *;generalize hP : 2 ^ p = P at *;generalize hQ : 2 ^ (64 - p) = Q at *;have hm : Y * Q % 18446744073709551616 = Q * (Y % P) := by rw [← hs,Nat.mul_comm P Q,Nat.mul_comm Y Q,Nat.mul_mod_mul_left]
 have hYP : Y % P < P := Nat.mod_lt _ hpp;have hle : Q * (Y % P) + Q ≤ 18446744073709551616 := by
  rw [← hs,Nat.mul_comm P Q,← Nat.mul_succ];exact Nat.mul_le_mul_left _ hYP
 have hw : IntKind.u64.wrap ((Y : Int) * (Q : Int)) = ((Q * (Y % P) : Nat) : Int) := by
  rw [IntKind.wrap_u64,← hm];simp
 have hXd : X / P < Q := by rw [Nat.div_lt_iff_lt_mul hpp,Nat.mul_comm,hs];exact hl
 have ho : X / P ||| Q * (Y % P) = Q * (Y % P) + X / P := by
  rw [Nat.or_comm];subst hQ;exact (Nat.two_pow_add_eq_or_of_lt hXd _).symm
 have hd : (X : Int) / (P : Int) = ((X / P : Nat) : Int) := by simp
 rw [hw,hd,zFD _ _ (by omega) (by omega),ho];refine ⟨by unfold IsW wB;omega,?_⟩;have h1 := Nat.div_add_mod X P;have h2 : P * (Q * (Y % P) + X / P) = 18446744073709551616 * (Y % P) + P * (X / P) := by rw [Nat.mul_add,← Nat.mul_assoc,hs]
 have h3 : (X : Int) % (P : Int) = ((X % P : Nat) : Int) := by simp
 have h4 : (Y : Int) % (P : Int) = ((Y % P : Nat) : Int) := by simp
 rw [h3,h4,← Int.natCast_mul,h2];unfold wB;omega
def Own (B : Nat) (w : World) (v : Value) (zs : List Int) : Prop :=
 WF zs ∧ ((v = .slice none 0 0 ∧ zs = []) ∨ ∃ g r,B ≤ g ∧ zs.length + r.length ≤ 35184372088832 ∧ v = .slice (some ⟨g,0,none⟩) zs.length (zs.length + r.length) ∧ Row w g (ws zs ++ r))
theorem Own.form {B : Nat} {w : World} {v : Value} {zs : List Int} (h : Own B w v zs) : ∃ a cap,v = .slice a zs.length cap := by
 obtain ⟨_,⟨h1,h2⟩ | ⟨g,r,_,_,h1,_⟩⟩ := h
 ·subst h2;exact ⟨none,0,h1⟩
 ·exact ⟨_,_,h1⟩
theorem Own.sl {B : Nat} {w : World} {v : Value} {zs : List Int} (h : Own B w v zs) : Sl w.heap.size w v zs := by
 obtain ⟨hw,⟨h1,h2⟩ | ⟨g,r,h1,h2,h3,h4⟩⟩ := h
 ·subst h1 h2;exact Sl.nilAt w
 ·subst h3
  exact h4.sl hw (by omega) h2 h4.lt
end Go.Proofs.YtkdobgbicnemcaaGreatDoor
