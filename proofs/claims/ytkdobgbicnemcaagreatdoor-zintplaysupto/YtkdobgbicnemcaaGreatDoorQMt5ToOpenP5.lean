/-
 QMt5ToOpenP5: Mt5, Zp5, OpenP5, joined.
-/
import Derived.Test.YtkdobgbicnemcaaGreatDoorQPl5
import Derived.Test.YtkdobgbicnemcaaGreatDoorQAlikeToShift
import Derived.Test.YtkdobgbicnemcaaGreatDoorQCp5
import Derived.Test.YtkdobgbicnemcaaGreatDoorQReadDec4ToZWritten
import Derived.Test.YtkdobgbicnemcaaGreatDoorRows
import Derived.Test.YtkdobgbicnemcaaGreatDoorQWordsToCarry
import Derived.Test.YtkdobgbicnemcaaGreatDoorQByteRowToLen2
import Derived.Deep.Slices

set_option maxRecDepth 100000
set_option maxHeartbeats 6400000
set_option linter.unusedVariables false
set_option linter.unusedSimpArgs false
namespace Go.Proofs.YtkdobgbicnemcaaGreatDoor
open Go.RowKit
theorem matches5 {w : World} {x0 x1 y0 y1 u0 u1 v0 v1 : Value} {z y V P Q E : Int} {T : ByteArray} {B B' k l : Nat} (hx : Zm B w (.agg #[x0,x1]) z k) (hy : Zm B w (.agg #[y0,y1]) y k) (hu : Zm B' w (.agg #[u0,u1]) z l) (hv : Zm B' w (.agg #[v0,v1]) y l) :
  Calls Tryz.prog 9 #[anv5 x0 x1 y0 y1 V P Q T E,anv5 u0 u1 v0 v1 V P Q T E] w fun e w' => e = .returned (.bool true) ∧ Below w.heap.size w w' := by
 obtain ⟨W0,hW⟩ : ∃ W0,(w.alloc (anc5 x0 x1 y0 y1 V P Q T E)).alloc (anc5 u0 u1 v0 v1 V P Q T E) = W0 := ⟨_,rfl⟩
 obtain ⟨b00,sz0⟩ := zXA w (anc5 x0 x1 y0 y1 V P Q T E) (anc5 u0 u1 v0 v1 V P Q T E);rw [hW] at b00 sz0;have h1 : W0.heap[w.heap.size]? = some (anc5 x0 x1 y0 y1 V P Q T E) := by rw [← hW];exact (Below.heap_alloc _ _ _ (by simp)).trans (heap_alloc_new w _)
 have h2 : W0.heap[w.heap.size + 1]? = some (anc5 u0 u1 v0 v1 V P Q T E) := by
  rw [← hW];have := heap_alloc_new (w.alloc (anc5 x0 x1 y0 y1 V P Q T E)) (anc5 u0 u1 v0 v1 V P Q T E);rw [show (w.alloc (anc5 x0 x1 y0 y1 V P Q T E)).heap.size = w.heap.size + 1 by simp] at this;exact this
 have B1 := hid h1;have B2 := hid h2;have G := hid b00;have EW := hid hW;have HA := hid (zVG (hx.now b00) (hu.now b00) rfl);have HB : Hid (∀ w',Below W0.heap.size W0 w' → _) := fun w' h => zVG ((hy.now b00).now h) ((hv.now b00).now h) rfl
 obtain ⟨⟨r0,r1,-⟩,-⟩ := zKA h1;obtain ⟨⟨z0,z1,-⟩,-⟩ := zKA h2;rw [← hW] at r0 r1 z0 z1;have hV : (V == V) = true := beq_self_eq_true V;have hP : (P == P) = true := beq_self_eq_true P;have hQ : (Q == Q) = true := beq_self_eq_true Q;have hE : (E == E) = true := beq_self_eq_true E;clear hx hy hu hv h1 h2 b00 hW;go_enter Tryz.func9,Tryz.ntmps9;go_wp2_with fail;rw [EW.out];clear EW r0 r1 z0 z1;refine HA.out.mono ?_;rintro e w1 ⟨rfl,b⟩;have HB1 := hid (HB.out w1 b);replace B1 := hid (box5 B1.out b);replace B2 := hid (box5 B2.out b);replace G := hid (below_step G.out b);clear b HA HB;obtain ⟨⟨r0,r1,r2,r3,-⟩,-⟩ := zKA B1.out;obtain ⟨⟨z0,z1,z2,z3,-⟩,-⟩ := zKA B2.out;go_wp2_with fail;clear r0 r1 r2 r3 z0 z1 z2 z3;refine HB1.out.mono ?_;rintro e w2 ⟨rfl,b⟩;replace B1 := hid (box5 B1.out b);replace B2 := hid (box5 B2.out b);replace G := hid (below_step G.out b);clear b HB1;obtain ⟨⟨r0,r1,r2,r3,r4,r5,r6,r7,r8⟩,-⟩ := zKA B1.out;obtain ⟨⟨z0,z1,z2,z3,z4,z5,z6,z7,z8⟩,-⟩ := zKA B2.out;go_wp2;go_ret;exact ⟨rfl,G.out⟩
structure D5 where
 kind : Int
 a0 : Value
 a1 : Value
 b0 : Value
 b1 : Value
 c0 : Value
 c1 : Value
 N : Int
 M : Int
 l : List UInt8
 vk : Value
 vl : Value
 A : Int
 B : Int
 C : Int
 KS : List Int
 LS : List Int
def D5.ok (d : D5) (w : World) : Prop := Ops5 w d.a0 d.a1 d.b0 d.b1 d.c0 d.c1 d.vk d.vl d.A d.B d.C d.N d.M d.l d.KS d.LS
theorem Ops5.now {w w' : World} {a0 a1 b0 b1 c0 c1 vk vl : Value} {A B C N M : Int} {l : List UInt8} {KS LS : List Int} (h : Ops5 w a0 a1 b0 b1 c0 c1 vk vl A B C N M l KS LS) (hb : Below w.heap.size w w') : Ops5 w' a0 a1 b0 b1 c0 c1 vk vl A B C N M l KS LS :=
 ⟨h.za.now hb,h.zb.now hb,h.zc.now hb,h.hN,h.hM,h.hl,h.zk.now hb,h.zl.now hb,h.sg.now hb⟩
def zMI (w : World) (a : Option Addr) (len cap : Nat) (s : Nat → D5) : Prop :=
 len ≤ cap ∧ len ≤ 1048576 ∧ (∀ k,k < len → (s k).ok w) ∧ (len = 0 ∨ ∃ b off,a = some ⟨b,off,none⟩ ∧ b < w.heap.size ∧ ∀ k,k < len →
  w.cell? ⟨b,off + k * 12,none⟩ = some (.int .i64 (s k).kind) ∧ w.cell? ⟨b,off + k * 12 + 1,none⟩ = some (s k).a0 ∧ w.cell? ⟨b,off + k * 12 + 2,none⟩ = some (s k).a1 ∧ w.cell? ⟨b,off + k * 12 + 3,none⟩ = some (s k).b0 ∧ w.cell? ⟨b,off + k * 12 + 4,none⟩ = some (s k).b1 ∧ w.cell? ⟨b,off + k * 12 + 5,none⟩ = some (s k).c0 ∧
  w.cell? ⟨b,off + k * 12 + 6,none⟩ = some (s k).c1 ∧ w.cell? ⟨b,off + k * 12 + 7,none⟩ = some (.int .i64 (s k).N) ∧ w.cell? ⟨b,off + k * 12 + 8,none⟩ = some (.int .i64 (s k).M) ∧ w.cell? ⟨b,off + k * 12 + 9,none⟩ = some (.string ⟨(s k).l.toArray⟩) ∧ w.cell? ⟨b,off + k * 12 + 10,none⟩ = some (s k).vk ∧ w.cell? ⟨b,off + k * 12 + 11,none⟩ = some (s k).vl)
theorem zLE {w : World} {v0 v1 : Value} {z : Int} {k : Nat} (h : Zi w (.agg #[v0,v1]) z k) : ∃ n,∃ xs : List Int,∃ a c,v0 = .bool n ∧ v1 = .slice a xs.length c := by
 obtain ⟨n,xs,a,c,h1,_⟩ := h;simp only [Value.agg.injEq,Array.mk.injEq,List.cons.injEq,and_true] at h1;exact ⟨n,xs,a,c,h1.1,h1.2⟩
theorem zkG {w : World} {v : Value} {zs : List Int} {k : Nat} (h : Zl w v zs k) : ∃ a n c,v = .slice a n c := by
 obtain ⟨a,c,h1,_⟩ := h;exact ⟨a,_,c,h1⟩
theorem zintPlays_any {w : World} {a : Option Addr} {len cap : Nat} {s : Nat → D5} (h : zMI w a len cap s) (hT : Sg w) :
  Calls Tryz.prog 3 #[.slice a len cap] w fun e w' => e = .returned (.bool true) ∧ Below w.heap.size w w' := by
 obtain ⟨hlc,hcm,hst,hm⟩ := h;have HST := hid hst;have HM := hid hm;have HAW := hid (awake5_any hT);clear hst hm hT;go_enter Tryz.func3,Tryz.ntmps3;go_wp2_with fail;refine HAW.out.mono ?_;rintro e w1 ⟨rfl,k1⟩;have K1 := hid k1;clear k1 HAW;go_wp2_with fail
 go_loopw [3] (fun i wr => ∃ k : Nat,k ≤ len ∧ i = .int .i64 k ∧ Hid (Below w.heap.size w wr)) (fun i _ => len - (intOf i).toNat)
 case atStart => exact ⟨0,Nat.zero_le _,rfl,K1⟩
 case round =>
  clear K1;obtain ⟨k,hk,rfl,HB⟩ := hrel
  by_cases hlt : k < len
  ·rcases HM.out with e | ⟨b,off,rfl,hbg,hc⟩
   ·omega
   obtain ⟨d0,d1,d2,d3,d4,d5,d6,d7,d8,d9,d10,d11⟩ := hc k hlt;have c0 := (HB.out.cell (p := ⟨b,off + k * 12,none⟩) hbg).trans d0;have c1 := (HB.out.cell (p := ⟨b,off + k * 12 + 1,none⟩) hbg).trans d1;have c2 := (HB.out.cell (p := ⟨b,off + k * 12 + 2,none⟩) hbg).trans d2;have c3 := (HB.out.cell (p := ⟨b,off + k * 12 + 3,none⟩) hbg).trans d3;have c4 := (HB.out.cell (p := ⟨b,off + k * 12 + 4,none⟩) hbg).trans d4;have c5 := (HB.out.cell (p := ⟨b,off + k * 12 + 5,none⟩) hbg).trans d5;have c6 := (HB.out.cell (p := ⟨b,off + k * 12 + 6,none⟩) hbg).trans d6;have c7 := (HB.out.cell (p := ⟨b,off + k * 12 + 7,none⟩) hbg).trans d7;have c8 := (HB.out.cell (p := ⟨b,off + k * 12 + 8,none⟩) hbg).trans d8;have c9 := (HB.out.cell (p := ⟨b,off + k * 12 + 9,none⟩) hbg).trans d9;have c10 := (HB.out.cell (p := ⟨b,off + k * 12 + 10,none⟩) hbg).trans d10;have c11 := (HB.out.cell (p := ⟨b,off + k * 12 + 11,none⟩) hbg).trans d11;have hok := (HST.out k hlt : (s k).ok w)
   generalize s k = d at *;obtain ⟨kind,a0,a1,b0,b1,e0,e1,N,M,l,vk,vl,A,B,C,KS,LS⟩ := d;simp only [] at c0 c1 c2 c3 c4 c5 c6 c7 c8 c9 c10 c11;have HOK : Hid (Ops5 wr a0 a1 b0 b1 e0 e1 vk vl A B C N M l KS LS) := Ops5.now hok HB.out;have HC := hid (zxE (kind := kind) HOK.out);obtain ⟨z,y,V,P,Q,T,E,hboth⟩ := both5 (kind := kind) (A := A) (B := B) (C := C) (N := N) (M := M) (l := l) (KS := KS) (LS := LS);have HBO := hid hboth;have HCC : Hid (∀ (w' : World) (a0 a1 b0 b1 c0 c1 vk vl : Value),Ops5 w' a0 a1 b0 b1 c0 c1 vk vl A B C N M l KS LS → _) := fun w' a0 a1 b0 b1 c0 c1 vk vl o => zxE (kind := kind) o
   obtain ⟨S,hS⟩ : ∃ S,(⟨l.toArray⟩ : ByteArray) = S := ⟨_,rfl⟩
   unfold zjG at HC HCC;rw [hS] at c9 HC HCC HBO;clear hok hboth hS d0 d1 d2 d3 d4 d5 d6 d7 d8 d9 d10 d11 hc HOK;go_wp2_with fail;refine HC.out.mono ?_;rintro e w2 ⟨p0,p1,q0,q1,r0,r1,uk,ul,rfl,ok2,k2⟩;obtain ⟨n0,x0,ad0,cd0,rfl,rfl⟩ := zLE ok2.za;obtain ⟨n1,x1,ad1,cd1,rfl,rfl⟩ := zLE ok2.zb;obtain ⟨n2,x2,ad2,cd2,rfl,rfl⟩ := zLE ok2.zc;obtain ⟨ak,lk,ck,rfl⟩ := zkG ok2.zk;obtain ⟨al,ll,cl,rfl⟩ := zkG ok2.zl;clear HC c0 c1 c2 c3 c4 c5 c6 c7 c8 c9 c10 c11;obtain ⟨V1,hV1⟩ : ∃ V1,w2.alloc (opo5 kind (.bool n0) (.slice ad0 x0.length cd0) (.bool n1) (.slice ad1 x1.length cd1) (.bool n2) (.slice ad2 x2.length cd2) N M S (.slice ak lk ck) (.slice al ll cl)) = V1 := ⟨_,rfl⟩
   obtain ⟨kv,szv⟩ := zEB w2 (opo5 kind (.bool n0) (.slice ad0 x0.length cd0) (.bool n1) (.slice ad1 x1.length cd1) (.bool n2) (.slice ad2 x2.length cd2) N M S (.slice ak lk ck) (.slice al ll cl));have hb1 := heap_alloc_new w2 (opo5 kind (.bool n0) (.slice ad0 x0.length cd0) (.bool n1) (.slice ad1 x1.length cd1) (.bool n2) (.slice ad2 x2.length cd2) N M S (.slice ak lk ck) (.slice al ll cl));rw [hV1] at kv szv hb1;have BX := hid hb1;have OK2 := hid (ok2.now kv);have HB2 := hid (below_step (below_step HB.out k2) kv);obtain ⟨o0,o1,o2,o3,o4,o5,o6,o7,o8,o9,o10,o11⟩ := tw5 hb1;rw [← hV1] at o0 o1 o2 o3 o4 o5 o6 o7 o8 o9 o10 o11;have EV := hid hV1;clear ok2 k2 kv szv hb1 hV1 HB;go_wp2_with fail;rw [EV.out];clear EV o0 o1 o2 o3 o4 o5 o6 o7 o8 o9 o10 o11;refine (HCC.out V1 _ _ _ _ _ _ _ _ OK2.out).mono ?_;rintro e w3 ⟨p0,p1,q0,q1,r0,r1,uk,ul,rfl,ok3,k3⟩;have HTO := hid (HBO.out w3 p0 p1 q0 q1 r0 r1 uk ul ok3).2;replace OK2 := hid (OK2.out.now k3);replace BX := hid (box5 BX.out k3);replace HB2 := hid (below_step HB2.out k3);clear ok3 k3 HCC;go_wp2_with fail;refine HTO.out.mono ?_;rintro e w4 ⟨f0,f1,g0,g1,kz,rfl,mf,mg,k4⟩;obtain ⟨n3,x3,ad3,cd3,rfl,rfl⟩ := zUB mf;obtain ⟨n4,x4,ad4,cd4,rfl,rfl⟩ := zUB mg;obtain ⟨V2,hV2⟩ : ∃ V2,w4.alloc (anc5 (.bool n3) (.slice ad3 x3.length cd3) (.bool n4) (.slice ad4 x4.length cd4) V P Q T E) = V2 := ⟨_,rfl⟩
   obtain ⟨kv,szv⟩ := zEB w4 (anc5 (.bool n3) (.slice ad3 x3.length cd3) (.bool n4) (.slice ad4 x4.length cd4) V P Q T E);have hb2 := heap_alloc_new w4 (anc5 (.bool n3) (.slice ad3 x3.length cd3) (.bool n4) (.slice ad4 x4.length cd4) V P Q T E);rw [hV2] at kv szv hb2;have BA := hid hb2;have MF := hid ((mf.now kv).mono (Nat.zero_le _));have MG := hid ((mg.now kv).mono (Nat.zero_le _));replace k4 := below_step k4 kv;replace OK2 := hid (OK2.out.now k4);replace BX := hid (box5 BX.out k4);replace HB2 := hid (below_step HB2.out k4);have HAS := hid (HBO.out V2 _ _ _ _ _ _ _ _ OK2.out).1;obtain ⟨o0,o1,o2,o3,o4,o5,o6,o7,o8,o9,o10,o11⟩ := tw5 BX.out;rw [← hV2] at o0 o1 o2 o3 o4 o5 o6 o7 o8 o9 o10 o11;have EV := hid hV2;clear mf mg k4 kv szv hb2 hV2 HTO HBO;go_wp2_with fail;rw [EV.out];clear EV o0 o1 o2 o3 o4 o5 o6 o7 o8 o9 o10 o11;refine HAS.out.mono ?_;rintro e w5 ⟨f0,f1,g0,g1,ky,rfl,mp,mq,k5⟩;obtain ⟨n5,x5,ad5,cd5,rfl,rfl⟩ := zUB mp;obtain ⟨n6,x6,ad6,cd6,rfl,rfl⟩ := zUB mq;obtain ⟨V3,hV3⟩ : ∃ V3,w5.alloc (anc5 (.bool n5) (.slice ad5 x5.length cd5) (.bool n6) (.slice ad6 x6.length cd6) V P Q T E) = V3 := ⟨_,rfl⟩
   obtain ⟨kv,szv⟩ := zEB w5 (anc5 (.bool n5) (.slice ad5 x5.length cd5) (.bool n6) (.slice ad6 x6.length cd6) V P Q T E);have hb3 := heap_alloc_new w5 (anc5 (.bool n5) (.slice ad5 x5.length cd5) (.bool n6) (.slice ad6 x6.length cd6) V P Q T E);rw [hV3] at kv szv hb3;have MP := hid ((mp.now kv).mono (Nat.zero_le _));have MQ := hid ((mq.now kv).mono (Nat.zero_le _));replace k5 := below_step k5 kv;replace BA := hid (box5 BA.out k5);replace MF := hid (MF.out.now k5);replace MG := hid (MG.out.now k5);replace HB2 := hid (below_step HB2.out k5);have HMM := hid (matches5 (V := V) (P := P) (Q := Q) (E := E) (T := T) MP.out MQ.out MF.out MG.out);obtain ⟨⟨t0,t1,t2,t3,t4,t5,t6,t7,t8⟩,-⟩ := zKA BA.out;obtain ⟨⟨v0,v1,v2,v3,v4,v5,v6,v7,v8⟩,-⟩ := zKA hb3;rw [← hV3] at t0 t1 t2 t3 t4 t5 t6 t7 t8 v0 v1 v2 v3 v4 v5 v6 v7 v8;have EV := hid hV3;clear mp mq k5 kv szv hb3 hV3 HAS OK2 BX BA MP MQ MF MG;go_wp2_with fail;rw [EV.out];clear EV t0 t1 t2 t3 t4 t5 t6 t7 t8 v0 v1 v2 v3 v4 v5 v6 v7 v8;refine HMM.out.mono ?_;rintro e w6 ⟨rfl,k6⟩;have HB3 := hid (below_step HB2.out k6);clear k6 HMM HB2;go_wp2;go_roundw
   case rel => exact ⟨k + 1,by omega,by go_num,HB3⟩
   case measure => first | (simp [intOf];done) | (simp [intOf];omega)
  ·go_wp2
   go_ret;exact ⟨rfl,HB.out⟩
open Go.ChangeShapes Go.WideShapes Go.ChangeAt Go.RowKit
theorem Tryz.cellsOp5 : Tryz.prog.cellsOf 29 = 12 := by kernel_rfl
theorem Tryz.cellsI5 : Tryz.prog.cellsOf 3 = 1 := by kernel_rfl
theorem Tryz.cellsJ5 : Tryz.prog.cellsOf 2 = 1 := by kernel_rfl
theorem Tryz.cellsS5 : Tryz.prog.cellsOf 9 = 1 := by kernel_rfl
theorem Tryz.cellsL5 : Tryz.prog.cellsOf 27 = 1 := by kernel_rfl
theorem trod_struct9 {H : Type} {enc : TypeId × Value → H} {P : Program} {w : World} {base : Nat} {spare : Nat → Bool} {held : Bool} {t : TypeId} {f0 f1 f2 f3 f4 f5 f6 f7 f8 : Field} {fuel : Nat} {cs : List Value} {x : DataW H × List MemPlace} (ht : P.underlying t = some (.struct #[f0,f1,f2,f3,f4,f5,f6,f7,f8]))
  (h : DataW.trod enc P w base spare held fuel t cs = some x) :
  ∃ y0 y1 y2 y3 y4 y5 y6 y7 y8 n,x.1 = .agg [y0.1,y1.1,y2.1,y3.1,y4.1,y5.1,y6.1,y7.1,y8.1] ∧ cs.length = P.cellsOf t ∧
   DataW.trod enc P w base spare held n f0.type ((cs.drop f0.offset).take (P.cellsOf f0.type)) = some y0 ∧ DataW.trod enc P w base spare held n f1.type ((cs.drop f1.offset).take (P.cellsOf f1.type)) = some y1 ∧
   DataW.trod enc P w base spare held n f2.type ((cs.drop f2.offset).take (P.cellsOf f2.type)) = some y2 ∧ DataW.trod enc P w base spare held n f3.type ((cs.drop f3.offset).take (P.cellsOf f3.type)) = some y3 ∧
   DataW.trod enc P w base spare held n f4.type ((cs.drop f4.offset).take (P.cellsOf f4.type)) = some y4 ∧ DataW.trod enc P w base spare held n f5.type ((cs.drop f5.offset).take (P.cellsOf f5.type)) = some y5 ∧
   DataW.trod enc P w base spare held n f6.type ((cs.drop f6.offset).take (P.cellsOf f6.type)) = some y6 ∧ DataW.trod enc P w base spare held n f7.type ((cs.drop f7.offset).take (P.cellsOf f7.type)) = some y7 ∧
   DataW.trod enc P w base spare held n f8.type ((cs.drop f8.offset).take (P.cellsOf f8.type)) = some y8 := by
 obtain ⟨xs,n,_,rfl,hl,hlen,hf⟩ := DataW.trod_struct ht h
 match xs,hlen with
 | [y0,y1,y2,y3,y4,y5,y6,y7,y8],_ => exact ⟨y0,y1,y2,y3,y4,y5,y6,y7,y8,n,by simp,hl,by simpa using hf 0 f0 rfl,by simpa using hf 1 f1 rfl,by simpa using hf 2 f2 rfl,by simpa using hf 3 f3 rfl,by simpa using hf 4 f4 rfl,by simpa using hf 5 f5 rfl,by simpa using hf 6 f6 rfl,by simpa using hf 7 f7 rfl,by simpa using hf 8 f8 rfl⟩
def D5.cells (d : D5) : List Value := [.int .i64 d.kind,d.a0,d.a1,d.b0,d.b1,d.c0,d.c1,.int .i64 d.N,.int .i64 d.M,.string ⟨d.l.toArray⟩,d.vk,d.vl]
theorem open_step5 {H : Type} {enc : TypeId × Value → H} {W : World} {fuel : Nat} {cs : List Value} {x : DataW H × List MemPlace} (hS : Sg W)
  (hf : DataW.trod enc Tryz.prog W 0 (fun _ => true) true fuel 29 cs = some x) (hb : Rows.uptoBulk x.1 ≤ 1048576) :
  ∃ d : D5,cs = d.cells ∧ d.ok W := by
 obtain ⟨y0,y1,y2,y3,y4,y5,y6,y7,y8,n,hx,hl,t0,t1,t2,t3,t4,t5,t6,t7,t8⟩ := trod_struct9 Tryz.underlying29 hf;rw [Tryz.cellsOp5] at hl;rw [hx] at hb;simp only [Rows.uptoBulk,Rows.uptoBulkAll] at hb
 match cs,hl with
 | [u0,u1,u2,u3,u4,u5,u6,u7,u8,u9,u10,u11],_ =>
  simp only [Tryz.cellsI5,Tryz.cellsJ5,Tryz.cellsS5,Tryz.cellsL5,Tryz.cellsZ,List.drop_zero,List.drop_succ_cons,List.take_succ_cons,List.take_zero] at t0 t1 t2 t3 t4 t5 t6 t7 t8;obtain ⟨k,e0,_,_⟩ := DataW.trod_int Tryz.underlying3 t0;obtain ⟨a0,a1,A,ka,e1,za,la⟩ := zRD t1 (by omega);obtain ⟨b0,b1,B,kb,e2,zb,lb⟩ := zRD t2 (by omega);obtain ⟨c0,c1,C,kc,e3,zc,lc⟩ := zRD t3 (by omega);obtain ⟨N,e4,_,w4⟩ := DataW.trod_int Tryz.underlying3 t4;obtain ⟨M,e5,_,w5⟩ := DataW.trod_int Tryz.underlying2 t5;obtain ⟨st,e6,e6',_⟩ := DataW.trod_string Tryz.underlying9 t6;obtain ⟨KS,kk,zk,lk⟩ := zkD t7 (by omega);obtain ⟨LS,kl,zl,ll⟩ := zkD t8 (by omega);have hst : st.size ≤ 1048576 := by
   have hb2 : Rows.uptoBulk y6.1 ≤ 1048576 := by omega
   rw [e6'] at hb2;exact text_bulk hb2
  simp only [List.cons.injEq,and_true] at e0 e1 e2 e3 e4 e5 e6;obtain ⟨rfl,rfl⟩ := e1;obtain ⟨rfl,rfl⟩ := e2;obtain ⟨rfl,rfl⟩ := e3;subst e0 e4 e5 e6;refine ⟨⟨k,u1,u2,u3,u4,u5,u6,N,M,st.data.toList,u10,u11,A,B,C,KS,LS⟩,rfl,za.more (by omega),zb.more (by omega),zc.more (by omega),zYF w4,zYF w5,?_,zk.zl (by omega),zl.zl (by omega),hS⟩
  show st.data.toList.length ≤ 1048576
  have : st.data.toList.length = st.size := by simp
  omega
theorem open_script5 {H : Type} {enc : TypeId × Value → H} {W : World} {a : Option Addr} {len cap : Nat} {d : DataW H} {p : List MemPlace} (hS : Sg W)
  (h0 : DataW.Trod enc Tryz.prog W 0 (fun _ => true) true 22 (.slice a len cap) d p) (hb : Rows.uptoBulk d ≤ 1048576) :
  ∃ s,zMI W a len cap s := by
 obtain ⟨fuel,hf⟩ := h0;rcases Deep.open_slice Tryz.underlying22 hf with ⟨hcs,_⟩ | ⟨x,l,c,m,n,D,Pl,hcs,_,hl,hm,hmm,hx,hel⟩
 ·simp [Value.cells] at hcs
  obtain ⟨rfl,rfl,rfl⟩ := hcs;exact ⟨fun _ => ⟨0,undef,undef,undef,undef,undef,undef,0,0,[],undef,undef,0,0,0,[],[]⟩,Nat.le_refl _,Nat.zero_le _,fun k hk => absurd hk (Nat.not_lt_zero _),.inl rfl⟩
 ·simp [Value.cells] at hcs
  obtain ⟨rfl,rfl,rfl⟩ := hcs;simp only [if_true] at hmm;subst hmm;have hd : d = .slice ((List.range len).map D) ((List.range (m - len)).map fun j => D (len + j)) := congrArg Prod.fst hx;rw [hd] at hb;simp only [Rows.uptoBulk] at hb;have e1 := zvC ((List.range len).map D);have e2 := zvC ((List.range (m - len)).map fun j => D (len + j));simp only [List.length_map,List.length_range] at e1 e2;rw [Tryz.cellsOp5] at hel
  haveI : Inhabited D5 := ⟨⟨0,undef,undef,undef,undef,undef,undef,0,0,[],undef,undef,0,0,0,[],[]⟩⟩
  obtain ⟨q,hq⟩ := Deep.choose_lt (α := D5) (n := len) (p := fun i q => W.cells? 0 (x.add (i * 12)) 12 = some q.cells ∧ q.ok W) (fun i hi => by
    obtain ⟨cs',h1,h2⟩ := hel i (by omega);have hbi : Rows.uptoBulk (D i) ≤ 1048576 := by
     have := bulk_in (List.mem_map_of_mem (f := D) (List.mem_range.2 hi));omega
    obtain ⟨q,rfl,hq⟩ := open_step5 hS h2 hbi;exact ⟨q,h1,hq⟩)
  refine ⟨q,hl,by omega,fun k hk => (hq k hk).2,?_⟩
  by_cases he : len = 0
  ·exact .inl he
  ·obtain ⟨b,off,spot⟩ := x
   have hc := (World.cells?_some (hq 0 (by omega)).1).2.2 0 (by omega);rw [Deep.add_add] at hc;simp only [D5.cells,Nat.zero_mul,Nat.add_zero,List.getElem?_cons_zero] at hc;have hspot : spot = none := by simpa [Addr.add] using World.cell?_spot hc
   subst hspot;refine .inr ⟨b,off,rfl,?_,fun k hk => ?_⟩
   ·have := World.block_lt_of_cell? W _ hc
    simpa [Addr.add] using this
   ·have hk' := (World.cells?_some (hq k hk).1).2.2
    have e : ∀ j,(⟨b,off,none⟩ : Addr).add j = ⟨b,off + j,none⟩ := fun j => by unfold Addr.add;split <;> simp_all
    have c0 := hk' 0 (by omega);have c1 := hk' 1 (by omega);have c2 := hk' 2 (by omega);have c3 := hk' 3 (by omega);have c4 := hk' 4 (by omega);have c5 := hk' 5 (by omega);have c6 := hk' 6 (by omega);have c7 := hk' 7 (by omega);have c8 := hk' 8 (by omega);have c9 := hk' 9 (by omega);have c10 := hk' 10 (by omega);have c11 := hk' 11 (by omega);simp only [e] at c0 c1 c2 c3 c4 c5 c6 c7 c8 c9 c10 c11;exact ⟨c0,c1,c2,c3,c4,c5,c6,c7,c8,c9,c10,c11⟩
end Go.Proofs.YtkdobgbicnemcaaGreatDoor
