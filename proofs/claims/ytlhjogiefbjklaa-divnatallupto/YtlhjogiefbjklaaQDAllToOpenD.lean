/-
 QDAllToOpenD: DAll, Ints, OpenD, joined.
-/
import Derived.Test.YtlhjogiefbjklaaQDividesToCalls7
import Derived.Test.YtlhjogiefbjklaaQExact0ToRDivMod
import Derived.Test.YtlhjogiefbjklaaQBaseToBulk
import Derived.Deep.Slices
import Derived.ChangeSame

set_option maxRecDepth 100000
set_option maxHeartbeats 6400000
set_option linter.unusedVariables false
set_option linter.unusedSimpArgs false
namespace Go.Proofs.Ytlhjogiefbjklaa
open Go.RowKit
structure OpD3 where
 kind : Int
 va : Value
 xs : List Int
 vb : Value
 ys : List Int
 W : Int
 K : Int
structure zqE (w : World) (d : OpD3) : Prop where
 sa : Sl w.heap.size w d.va d.xs
 sb : Sl w.heap.size w d.vb d.ys
 la : d.xs.length ≤ 1048576
 lb : d.ys.length ≤ 1048576
 hW : IsW d.W
 hK : -9223372036854775808 ≤ d.K ∧ d.K ≤ 9223372036854775807
theorem zqE.now {w w' : World} {d : OpD3} (h : zqE w d) (hb : Below w.heap.size w w') : zqE w' d := ⟨h.sa.now hb,h.sb.now hb,h.la,h.lb,h.hW,h.hK⟩
def zDF (w : World) (a : Option Addr) (len cap : Nat) (s : Nat → OpD3) : Prop :=
 len ≤ cap ∧ len ≤ 1048576 ∧ (∀ k,k < len → zqE w (s k)) ∧
 (len = 0 ∨ ∃ b off,a = some ⟨b,off,none⟩ ∧ b < w.heap.size ∧ ∀ k,k < len → w.cell? ⟨b,off + k * 5,none⟩ = some (.int .i64 (s k).kind) ∧ w.cell? ⟨b,off + k * 5 + 1,none⟩ = some (s k).va ∧ w.cell? ⟨b,off + k * 5 + 2,none⟩ = some (s k).vb ∧ w.cell? ⟨b,off + k * 5 + 3,none⟩ = some (.int .u64 (s k).W) ∧
  w.cell? ⟨b,off + k * 5 + 4,none⟩ = some (.int .i64 (s k).K))
theorem divnatAll_any {w : World} {a : Option Addr} {len cap : Nat} {s : Nat → OpD3} (h : zDF w a len cap s) :
  Calls Try.prog 3 #[.slice a len cap] w fun e w' => e = .returned (.bool true) ∧ Below w.heap.size w w' := by
 obtain ⟨hlc,hcm,hst,hm⟩ := h;have HST := hid hst;have HM := hid hm;clear hst hm;go_enter Try.func3,Try.ntmps3;go_wp2_with fail;refine (wakes3_any _).mono ?_;rintro e w1 ⟨rfl,k1⟩;have K1 := hid k1;clear k1;go_wp2_with fail
 go_loopw [3] (fun i wr => ∃ k : Nat,k ≤ len ∧ i = .int .i64 k ∧ Hid (Below w.heap.size w wr)) (fun i _ => len - (intOf i).toNat)
 case atStart => exact ⟨0,Nat.zero_le _,rfl,K1⟩
 case round =>
  clear K1;obtain ⟨k,hk,rfl,HB⟩ := hrel
  by_cases hlt : k < len
  ·rcases HM.out with e | ⟨b,off,rfl,hbg,hc⟩
   ·omega
   obtain ⟨hc0,hc1,hc2,hc3,hc4⟩ := hc k hlt;have c0 := (HB.out.cell (p := ⟨b,off + k * 5,none⟩) hbg).trans hc0;have c1 := (HB.out.cell (p := ⟨b,off + k * 5 + 1,none⟩) hbg).trans hc1;have c2 := (HB.out.cell (p := ⟨b,off + k * 5 + 2,none⟩) hbg).trans hc2;have c3 := (HB.out.cell (p := ⟨b,off + k * 5 + 3,none⟩) hbg).trans hc3;have c4 := (HB.out.cell (p := ⟨b,off + k * 5 + 4,none⟩) hbg).trans hc4;have hok := (HST.out k hlt).now HB.out;generalize s k = d at *;obtain ⟨kind,va,xs,vb,ys,W,K⟩ := d;simp only [] at c0 c1 c2 c3 c4;have HR := hid (right_all (kind := kind) hok.sa hok.sb hok.la hok.lb hok.hW hok.hK);simp only [] at HR;obtain ⟨aa,ca,rfl⟩ : ∃ a c,va = .slice a xs.length c := by obtain ⟨_,a,c,e,_⟩ := hok.sa;exact ⟨a,c,e⟩
   obtain ⟨ab,cb,rfl⟩ : ∃ a c,vb = .slice a ys.length c := by obtain ⟨_,a,c,e,_⟩ := hok.sb;exact ⟨a,c,e⟩
   clear hc hc0 hc1 hc2 hc3 hc4 hok;go_wp2_with fail;refine HR.out.mono ?_;rintro e w2 ⟨rfl,k2⟩;have HB2 := hid (zAA HB.out k2);clear k2 HR c0 c1 c2 c3 c4 HB;go_wp2;go_roundw
   case rel => exact ⟨k + 1,by omega,by go_num,HB2⟩
   case measure => first | (simp [intOf];done) | (simp [intOf];omega)
  ·go_wp2
   go_ret;exact ⟨rfl,HB.out⟩
open Go.ChangeShapes Go.WideShapes Go.ChangeAt Go.RowKit
theorem Try.cellsI : Try.prog.cellsOf 3 = 1 := by kernel_rfl
theorem int_bounds {n : Int} (h : (Lit.int .i64 n).wf = true) : -9223372036854775808 ≤ n ∧ n ≤ 9223372036854775807 := by
 have h1 : IntKind.i64.min = -9223372036854775808 := rfl;have h2 : IntKind.i64.max = 9223372036854775807 := rfl;simp only [Lit.wf,Bool.and_eq_true,decide_eq_true_eq] at h;omega
theorem Try.cellsOp5 : Try.prog.cellsOf 28 = 5 := by kernel_rfl
theorem Try.cellsSl5 : Try.prog.cellsOf 25 = 1 := by kernel_rfl
theorem trod_struct5 {H : Type} {enc : TypeId × Value → H} {P : Program} {w : World} {base : Nat} {spare : Nat → Bool} {held : Bool} {t : TypeId} {f0 f1 f2 f3 f4 : Field} {fuel : Nat} {cs : List Value} {x : DataW H × List MemPlace} (ht : P.underlying t = some (.struct #[f0,f1,f2,f3,f4]))
  (h : DataW.trod enc P w base spare held fuel t cs = some x) :
  ∃ y0 y1 y2 y3 y4 n,x.1 = .agg [y0.1,y1.1,y2.1,y3.1,y4.1] ∧ cs.length = P.cellsOf t ∧ DataW.trod enc P w base spare held n f0.type ((cs.drop f0.offset).take (P.cellsOf f0.type)) = some y0 ∧ DataW.trod enc P w base spare held n f1.type ((cs.drop f1.offset).take (P.cellsOf f1.type)) = some y1 ∧
   DataW.trod enc P w base spare held n f2.type ((cs.drop f2.offset).take (P.cellsOf f2.type)) = some y2 ∧ DataW.trod enc P w base spare held n f3.type ((cs.drop f3.offset).take (P.cellsOf f3.type)) = some y3 ∧ DataW.trod enc P w base spare held n f4.type ((cs.drop f4.offset).take (P.cellsOf f4.type)) = some y4 := by
 obtain ⟨xs,n,_,rfl,hl,hlen,hf⟩ := DataW.trod_struct ht h
 match xs,hlen with
 | [y0,y1,y2,y3,y4],_ => exact ⟨y0,y1,y2,y3,y4,n,by simp,hl,by simpa using hf 0 f0 rfl,by simpa using hf 1 f1 rfl,by simpa using hf 2 f2 rfl,by simpa using hf 3 f3 rfl,by simpa using hf 4 f4 rfl⟩
theorem open_step5 {H : Type} {enc : TypeId × Value → H} {W : World} {fuel : Nat} {cs : List Value} {x : DataW H × List MemPlace}
  (hf : DataW.trod enc Try.prog W 0 (fun _ => true) true fuel 28 cs = some x) (hb : Rows.uptoBulk x.1 ≤ 1048576) :
  ∃ d : OpD3,cs = [.int .i64 d.kind,d.va,d.vb,.int .u64 d.W,.int .i64 d.K] ∧ zqE W d := by
 obtain ⟨y0,y1,y2,y3,y4,n,hx,hl,t0,t1,t2,t3,t4⟩ := trod_struct5 Try.underlying28 hf;rw [Try.cellsOp5] at hl;rw [hx] at hb;simp only [Rows.uptoBulk,Rows.uptoBulkAll] at hb
 match cs,hl with
 | [c0,c1,c2,c3,c4],_ =>
  simp only [Try.cellsI,Try.cellsW,Try.cellsSl5,List.drop_zero,List.drop_succ_cons,List.take_succ_cons,List.take_zero] at t0 t1 t2 t3 t4;obtain ⟨k,e0,_,_⟩ := DataW.trod_int Try.underlying3 t0;obtain ⟨u,e3,_,w3⟩ := DataW.trod_int Try.underlying26 t3;obtain ⟨m,e4,_,w4⟩ := DataW.trod_int Try.underlying3 t4;obtain ⟨xs,sx,lx,fx⟩ := zxC t1 (by omega);obtain ⟨ys,sy,ly,fy⟩ := zxC t2 (by omega);simp only [List.cons.injEq,and_true] at e0 e3 e4;subst e0 e3 e4;exact ⟨⟨k,c1,xs,c2,ys,u,m⟩,rfl,⟨sx,sy,lx,ly,zSD w3,int_bounds w4⟩⟩
theorem open_script3 {H : Type} {enc : TypeId × Value → H} {W : World} {a : Option Addr} {len cap : Nat} {d : DataW H} {p : List MemPlace}
  (h0 : DataW.Trod enc Try.prog W 0 (fun _ => true) true 22 (.slice a len cap) d p) (hb : Rows.uptoBulk d ≤ 1048576) :
  ∃ s,zDF W a len cap s := by
 obtain ⟨fuel,hf⟩ := h0;rcases Deep.open_slice Try.underlying22 hf with ⟨hcs,_⟩ | ⟨x,l,c,m,n,D,Pl,hcs,_,hl,hm,hmm,hx,hel⟩
 ·simp [Value.cells] at hcs
  obtain ⟨rfl,rfl,rfl⟩ := hcs;exact ⟨fun _ => ⟨0,.slice none 0 0,[],.slice none 0 0,[],0,0⟩,Nat.le_refl _,Nat.zero_le _,fun k hk => absurd hk (Nat.not_lt_zero _),.inl rfl⟩
 ·simp [Value.cells] at hcs
  obtain ⟨rfl,rfl,rfl⟩ := hcs;simp only [if_true] at hmm;subst hmm;have hd : d = .slice ((List.range len).map D) ((List.range (m - len)).map fun j => D (len + j)) := congrArg Prod.fst hx;rw [hd] at hb;simp only [Rows.uptoBulk] at hb;have e1 := zkC ((List.range len).map D);simp only [List.length_map,List.length_range] at e1;rw [Try.cellsOp5] at hel
  haveI : Inhabited OpD3 := ⟨⟨0,.slice none 0 0,[],.slice none 0 0,[],0,0⟩⟩
  obtain ⟨q,hq⟩ := Deep.choose_lt (α := OpD3) (n := len) (p := fun i q => W.cells? 0 (x.add (i * 5)) 5 = some [.int .i64 q.kind,q.va,q.vb,.int .u64 q.W,.int .i64 q.K] ∧ zqE W q) (fun i hi => by
    obtain ⟨cs',h1,h2⟩ := hel i (by omega);have hbi : Rows.uptoBulk (D i) ≤ 1048576 := by
     have := bulk_in (List.mem_map_of_mem (f := D) (List.mem_range.2 hi));omega
    obtain ⟨q,rfl,hq⟩ := open_step5 h2 hbi;exact ⟨q,h1,hq⟩)
  refine ⟨q,hl,by omega,fun k hk => (hq k hk).2,?_⟩
  by_cases he : len = 0
  ·exact .inl he
  ·obtain ⟨b,off,spot⟩ := x
   have hc := (World.cells?_some (hq 0 (by omega)).1).2.2 0 (by omega);rw [Deep.add_add] at hc;simp only [Nat.zero_mul,Nat.add_zero,List.getElem?_cons_zero] at hc;have hspot : spot = none := by simpa [Addr.add] using World.cell?_spot hc
   subst hspot;refine .inr ⟨b,off,rfl,?_,fun k hk => ?_⟩
   ·have := World.block_lt_of_cell? W _ hc
    simpa [Addr.add] using this
   ·have hk' := (World.cells?_some (hq k hk).1).2.2
    have e : ∀ j,(⟨b,off,none⟩ : Addr).add j = ⟨b,off + j,none⟩ := fun j => by unfold Addr.add;split <;> simp_all
    have c0 := hk' 0 (by omega);have c1 := hk' 1 (by omega);have c2 := hk' 2 (by omega);have c3 := hk' 3 (by omega);have c4 := hk' 4 (by omega);simp only [e] at c0 c1 c2 c3 c4;exact ⟨c0,c1,c2,c3,c4⟩
end Go.Proofs.Ytlhjogiefbjklaa
