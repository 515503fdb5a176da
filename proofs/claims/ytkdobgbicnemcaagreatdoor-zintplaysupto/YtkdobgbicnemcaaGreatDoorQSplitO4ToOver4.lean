/-
 QSplitO4ToOver4: SplitO4, Over4, joined.
-/
import Derived.Test.YtkdobgbicnemcaaGreatDoorQSplitToRDigits
import Derived.Test.YtkdobgbicnemcaaGreatDoorQJoinedToByr4
import Derived.Deep.LoopGhost

set_option maxRecDepth 100000
set_option maxHeartbeats 6400000
set_option linter.unusedVariables false
set_option linter.unusedSimpArgs false
namespace Go.Proofs.YtkdobgbicnemcaaGreatDoor
open Go.RowKit
theorem trim_is {B : Nat} {w : World} {a : Option Addr} {n0 cap : Nat} {xs : List Int} (h : SlI B w (.slice a n0 cap) xs) :
  Calls Tryz.prog 127 #[.slice a n0 cap] w fun e w' => e = .returned (.slice a (dwid xs) cap) ∧ w' = w := by
 obtain ⟨hw,a',cap',e0,hlc,hcm,hm⟩ := h;simp only [Value.slice.injEq] at e0;obtain ⟨rfl,rfl,rfl⟩ := e0;have HW : Hid (∀ n : Nat,n ≤ xs.length → (∀ j (h : j < xs.length),n ≤ j → xs[j] = 0) → (0 < n → ∀ h' : n - 1 < xs.length,xs[n - 1] ≠ 0) → dwid xs = n) := fun n h1 h2 h3 => ziC h1 h2 h3
 have HF : Hid (∀ n,dwid xs = n → (Ending.returned (.slice a n cap) = .returned (.slice a (dwid xs) cap))) := fun n hn => by rw [hn]
 have HM := hid hm;go_enter Tryz.func127,Tryz.ntmps127;go_wp2
 go_loop [3] (fun i => ∃ n : Nat,n ≤ xs.length ∧ i = .int .i64 n ∧ ∀ j (h : j < xs.length),n ≤ j → xs[j] = 0) (fun i => (intOf i).toNat)
 case atStart => exact ⟨xs.length,Nat.le_refl _,rfl,fun j h h' => by omega⟩
 case round =>
  obtain ⟨n,hn,rfl,hz⟩ := hrel;have HZ := hid hz;clear hz hm
  by_cases h0 : n = 0
  ·subst h0
   go_wp2;go_ret;exact ⟨HF.out 0 (HW.out 0 (by omega) HZ.out (by omega)),rfl⟩
  ·obtain ⟨k,rfl⟩ : ∃ k,n = k + 1 := ⟨n - 1,by omega⟩
   rcases HM.out with rfl | ⟨b,off,rfl,hb,hc⟩
   ·simp at hn
   ·have hk : k < xs.length := by omega
    have hck := hc k hk;obtain ⟨x,hx⟩ : ∃ x,x = xs[k] := ⟨_,rfl⟩
    rw [← hx] at hck;have HX : Hid (x = xs[k]) := hx;clear hx hc h0
    by_cases hx0 : x = 0
    ·have ht : (x == 0) = true := by simp [hx0]
     go_wp2;go_round
     case rel =>
      refine ⟨k,by omega,rfl,fun j h hj => ?_⟩
      by_cases e : j = k
      ·subst e;rw [← HX.out];exact hx0
      ·exact HZ.out j h (by omega)
     case measure => simp [intOf]
    ·have ht : (x == 0) = false := by simp [hx0]
     go_wp2;go_ret;exact ⟨HF.out (k + 1) (HW.out (k + 1) hn HZ.out (fun _ h' => by have := HX.out;simp at h' ⊢;rw [← this];exact hx0)),rfl⟩
theorem split_own {w : World} {v : Value} {xs : List Int} (h : Sl w.heap.size w v xs) (hlen : xs.length ≤ 8796093022208) :
  Calls Tryz.prog 98 #[v] w fun e w' => ∃ ds rest,e = .returned (.slice (some ⟨w.heap.size,0,none⟩) ds.length (4 * xs.length)) ∧ RowI w' w.heap.size (wi ds ++ rest) ∧ zlC ds ∧ dval ds = val xs ∧ ds.length ≤ 4 * xs.length ∧ Below w.heap.size w w' ∧ w.heap.size < w'.heap.size := by
 obtain ⟨hw,a,cap,rfl,hlc,hcm,hm⟩ := h;have HW := hid hw;have HM := hid hm;clear hm hw;go_enter Tryz.func98,Tryz.ntmps98;go_wp2_with (at_make;refine zfA _ rfl _ _ rfl _ _ 0 (4 * xs.length) rfl rfl rfl (by omega) (by omega) (by omega) ?_)
 intro w2 hrow hb2 hsz2;have hhs : w.heap.size < w2.heap.size := by have := hsz2.out;omega
 clear hsz2;go_wp2_with fail
 go_loopw [3,4] (fun d i wr => ∃ (k : Nat) (zs : List Int) (r : List Value),k ≤ xs.length ∧ i = .int .i64 k ∧ d = .slice (some ⟨w.heap.size,0,none⟩) (4 * k) (4 * xs.length) ∧ Hid (zs.length = 4 * k) ∧ Hid (r.length + 4 * k = 4 * xs.length) ∧ Hid (DF zs) ∧ Hid (dval zs = val (xs.take k)) ∧
   RowI wr w.heap.size (wi zs ++ r) ∧ Below w.heap.size w wr ∧ w.heap.size < wr.heap.size) (fun _ i _ => xs.length - (intOf i).toNat)
 case atStart => exact ⟨0,[],wi (List.replicate (4 * xs.length) 0),Nat.zero_le _,rfl,rfl,rfl,(by unfold Hid;simp [zUD]),DF.nil,rfl,(by simpa [wi] using hrow),hb2,hhs⟩
 case round =>
  clear hrow hb2 hhs;obtain ⟨k,zs,r,hk,rfl,rfl,HL,HR,HD,HV,hr,hb,hhs⟩ := hrel
  by_cases hlt : k < xs.length
  ·rcases HM.out with e | ⟨b,off,rfl,hbg,hc⟩
   ·subst e;simp at hlt
   have c1 : wr.cell? ⟨b,off + k,none⟩ = some (.int .u64 xs[k]) := (hb.cell (p := ⟨b,off + k,none⟩) hbg).trans (hc k hlt);have hx := HW.out.get hlt;have HTK := hid (zPA xs k hlt);clear hc;generalize xs[k] = x at *;unfold IsW wB at hx;obtain ⟨hx0,hx1⟩ := hx;have HV1 : Hid (dval zs + dpw (4 * k + 0) * x = val (xs.take k) + x * pw k) := by
    unfold Hid;rw [HV.out,Nat.add_zero,zqC,Int.mul_comm]
   have HB1 : Hid (x * 65536 ^ 0 ≤ 18446744073709551615) := by unfold Hid;simp;omega
   go_wp2_with fail
   go_loopw [3,5,6] (fun d y i wr => ∃ (j : Nat) (zs : List Int) (r : List Value) (yy : Int),j ≤ 4 ∧ i = .int .i64 j ∧ y = .int .u64 yy ∧ 0 ≤ yy ∧ yy ≤ 18446744073709551615 ∧ d = .slice (some ⟨w.heap.size,0,none⟩) (4 * k + j) (4 * xs.length) ∧ Hid (zs.length = 4 * k + j) ∧ Hid (r.length + 4 * k + j = 4 * xs.length) ∧ Hid (DF zs) ∧
     Hid (yy * 65536 ^ j ≤ 18446744073709551615) ∧ Hid (dval zs + dpw (4 * k + j) * yy = val (xs.take k) + x * pw k) ∧ RowI wr w.heap.size (wi zs ++ r) ∧ Below w.heap.size w wr ∧ w.heap.size < wr.heap.size) (fun _ _ i _ => 4 - (intOf i).toNat)
   case atStart => exact ⟨0,zs,r,x,by omega,rfl,rfl,hx0,by omega,rfl,HL,HR,HD,HB1,HV1,hr,hb,hhs⟩
   case round =>
    clear HL HR HD HB1 HV1 hr hb hhs HV;obtain ⟨j,zs,r,yy,hj,rfl,rfl,hy0,hy1,rfl,HL,HR,HD,HB,HV,hr,hb,hhs⟩ := hrel
    by_cases hj4 : j < 4
    ·have hrp : 0 < r.length := by have := HR.out;omega
     have hst := hid (zhD HL.out HD.out HV.out);have hbd := hid (zCD HB.out);go_wp2_with (at_builtin;refine zsB _ rfl (.tmp 25) (.tmp 29) rfl w.heap.size (4 * k + j) (4 * xs.length) zs r (yy % 65536) (hr.alloc _) HL.out hrp (by have := HR.out;omega) rfl ⟨wr.heap.size,0,none⟩ rfl (by simp) ?_)
     intro w5 hr5 hb5;have hb15 := hid ((hb.alloc (Nat.le_of_lt hhs) _).trans hb5);have hhs5 : w.heap.size < w5.heap.size := by have := hb5.size;simp at this;omega
     have HL5 : Hid ((zs ++ [yy % 65536]).length = 4 * k + (j + 1)) := by unfold Hid;simp;have := HL.out;omega
     have HR5 : Hid (r.tail.length + 4 * k + (j + 1) = 4 * xs.length) := by unfold Hid;simp;have := HR.out;omega
     clear hb5 hr hb HL HR HD HB HV;go_wp2;go_roundw
     case rel => exact ⟨j + 1,_,r.tail,yy / 65536,by omega,by go_num,rfl,by omega,by omega,rfl,HL5,HR5,hst.out.1,hbd,hst.out.2,hr5,hb15.out,hhs5⟩
     case measure => simp [intOf];omega
    ·obtain rfl : j = 4 := by omega
     have hy : yy = 0 := by
      have := HB.out;rw [show (65536 : Int) ^ 4 = 18446744073709551616 from by decide] at this;omega
     have HV5 : Hid (dval zs = val (xs.take (k + 1))) := by
      unfold Hid;have := HV.out;rw [hy] at this;rw [HTK.out];simpa using this
     clear hy HB HV;go_wp2;go_roundw
     case rel => exact ⟨k + 1,zs,r,by omega,by go_num,rfl,HL,(by unfold Hid;have := HR.out;omega),HD,HV5,hr,hb,hhs⟩
     case measure => simp [intOf];omega
  ·obtain rfl : k = xs.length := by omega
   have hsz := RowI.sl hr (fun p hp => by have := HD.out p hp;unfold IsD dwB at this;omega) (cap := 4 * xs.length) (by rw [HL.out];exact Nat.le_refl _) (by omega) hhs;rw [HL.out] at hsz;have HT := hid (trim_is hsz);have hrow : RowI wr w.heap.size (wi (dlst zs) ++ (wi (zs.drop (dwid zs)) ++ r)) := by
    have e : wi zs = wi (dlst zs) ++ wi (zs.drop (dwid zs)) := by
     unfold wi dlst;rw [← List.map_append,List.take_append_drop]
    rw [e,List.append_assoc] at hr;exact hr
   have HRW := hid hrow;clear hsz hr hrow;go_wp2_with fail;refine HT.out.mono ?_;rintro e w4 ⟨rfl,rfl⟩;go_wp2;go_ret;refine ⟨dlst zs,_,by simp [dlength_lst],HRW.out,dcanon_lst HD.out,?_,?_,hb,hhs⟩
   ·rw [zSC,HV.out,List.take_length]
   ·rw [dlength_lst];have := zPC zs;have := HL.out;omega
def zsI (w : World) (g n : Nat) (xs : List Int) (rr : List Value) (B : Nat) (gk : Nat) (s5 s6 : Value) (wx : World) : Prop :=
 ∃ (j : Nat) (rest : Int) (qs : List Int),gk = j ∧ s5 = .int .i64 rest ∧ s6 = .int .i64 ((j : Int) - 1) ∧ j ≤ n ∧ 0 ≤ rest ∧ rest < (B : Int) ∧ qs.length + j = n ∧ DF qs ∧ dval (xs.drop j) = (B : Int) * dval qs + rest ∧ RowI wx g (wi (xs.take j ++ qs) ++ rr) ∧ znA (· = g) w wx
def zjI (w : World) (g n : Nat) (xs : List Int) (rr : List Value) (B : Nat) (e : Ending) (w' : World) : Prop :=
 ∃ (rest : Int) (qs : List Int),e = .returned (.int .i64 rest) ∧ 0 ≤ rest ∧ rest < (B : Int) ∧ qs.length = n ∧ DF qs ∧ dval xs = (B : Int) * dval qs + rest ∧ RowI w' g (wi qs ++ rr) ∧ znA (· = g) w w'
theorem over_any {w : World} {g n cap B : Nat} {xs : List Int} {rr : List Value} (hr : RowI w g (wi xs ++ rr)) (hn : xs.length = n) (hd : DF xs) (hB : 2 ≤ B) (hB2 : B ≤ 36) (hl : n ≤ 1073741824) (hc : n ≤ cap) :
  Calls Tryz.prog 153 #[.slice (some ⟨g,0,none⟩) n cap,.int .i64 (B : Int)] w (zjI w g n xs rr B) := by
 have HN := hid hn;have HD := hid hd;have H0 : Hid (zsI w g n xs rr B n (.int .i64 0) (.int .i64 ((n : Int) - 1)) w) := ⟨n,0,[],rfl,rfl,rfl,Nat.le_refl _,Int.le_refl _,by omega,by simp,DF.nil,by rw [List.drop_of_length_le (by omega)];simp [dval],by rw [List.take_of_length_le (by omega),List.append_nil];exact hr,znA.refl _ _⟩
 have hw0 : IntKind.i64.wrap ((n : Int) - 1) = (n : Int) - 1 := by rw [zYA] <;> omega
 clear hn hd hr;go_enter Tryz.func153,Tryz.ntmps153;go_wp2_with fail
 go_loopg [5,6] n (fun gk s5 s6 wx => zsI w g n xs rr B gk s5 s6 wx)
 case atStart => exact H0.out
 case round =>
  clear H0 hw0;obtain ⟨j,rest,qs,hgk,rfl,rfl,hj,h0,h1,hq,hdq,hv,hrow,ht⟩ := hrel;have HG := hid hgk;clear hgk
  by_cases hj0 : 0 < j
  ·obtain ⟨i,rfl⟩ : ∃ i,j = i + 1 := ⟨j - 1,by omega⟩
   have hil : i < xs.length := by rw [HN.out];omega
   have hlen : (xs.take (i + 1) ++ qs).length = n := by rw [List.length_append,List.length_take,HN.out];omega
   have c0 := hrow.num (i := i) (by rw [hlen];omega);have e0 : (xs.take (i + 1) ++ qs)[i]'(by rw [hlen];omega) = xs[i] := by
    rw [List.getElem_append_left (by simp;omega),List.getElem_take]
   rw [e0] at c0;have hx := HD.out.get hil;have hst := over_step (by omega : (0 : Int) < (B : Int)) h0 h1 hx hv;have hdr := dval_drop hil;rw [← hdr] at hst;have hsn := fun z => hrow.setNum (i := i) (by rw [hlen];omega) z
   simp only [take_set_last hil] at hsn;have f0 := hrow.frozen i;generalize xs[i] = x at *;unfold IsD dwB at hx;obtain ⟨hx0,hx1⟩ := hx;have HST := hid hst;have HSN := hid hsn;have HTT := hid ht;have HQ := hid hq;have HDQ := hid hdq;have es : ((i + 1 : Nat) : Int) - 1 = (i : Int) := by omega
   rw [es];have hge : (0 : Int) ≤ (i : Int) := by omega
   have hin : (i : Int) < (n : Int) := by omega
   have hw1 : IntKind.i64.wrap (rest * 65536) = rest * 65536 := by rw [zYA] <;> omega
   have hw2 : IntKind.i64.wrap (rest * 65536 + x) = rest * 65536 + x := by rw [zYA] <;> omega
   have hs0 : 0 ≤ rest * 65536 + x := by omega
   obtain ⟨sv,hsv⟩ : ∃ sv,rest * 65536 + x = sv := ⟨_,rfl⟩
   rw [hsv] at hw2 hs0 HST;have hq1 : sv.tdiv (B : Int) = sv / (B : Int) := Int.tdiv_eq_ediv_of_nonneg hs0;have hq2 : sv.tmod (B : Int) = sv % (B : Int) := Int.tmod_eq_emod_of_nonneg hs0;have hqb : 0 ≤ sv / (B : Int) ∧ sv / (B : Int) < 65536 := by have := HST.out.1;unfold IsD dwB at this;exact this
   have hrb : 0 ≤ sv % (B : Int) ∧ sv % (B : Int) < (B : Int) := ⟨HST.out.2.1,HST.out.2.2.1⟩
   obtain ⟨qv,hqv⟩ : ∃ qv,sv / (B : Int) = qv := ⟨_,rfl⟩
   obtain ⟨rv,hrv⟩ : ∃ rv,sv % (B : Int) = rv := ⟨_,rfl⟩
   rw [hqv] at hq1 hqb HST;rw [hrv] at hq2 hrb HST;have hw3 : IntKind.i64.wrap qv = qv := by rw [zYA] <;> omega
   have hw4 : IntKind.i64.wrap rv = rv := by rw [zYA] <;> omega
   have hw5 : IntKind.i64.wrap ((i : Int) - 1) = (i : Int) - 1 := by rw [zYA] <;> omega
   have hbn : ¬ (B : Int) = 0 := by omega
   have E1 : Hid (wrap64 (rest * 65536 + x) = sv) := by unfold Hid;rw [hsv];unfold wrap64;omega
   have E2 : Hid (sv.tmod (B : Int) = rv) := hq2;have E3 : Hid (wrap64 (sv.tdiv (B : Int)) = qv) := by unfold Hid;rw [hq1];unfold wrap64;omega
   have HN1 : Hid (zsI w g n xs rr B i (.int .i64 rv) (.int .i64 ((i : Int) - 1)) (wr.setCell ⟨g,i,none⟩ (.int .i64 qv))) :=
    ⟨i,rv,qv :: qs,rfl,rfl,rfl,by omega,hrb.1,hrb.2,by have := HQ.out;simp;omega,DF.cons HST.out.1 HDQ.out,HST.out.2.2.2,HSN.out qv,HTT.out.setCell (.inr rfl) i _⟩
   clear hst hsn hdr hlen hq hdq ht hv hrow HST HSN HTT HQ HDQ hsv hqv hrv hqb hrb e0 es h0 h1 hil;have HMM : Hid (i < gk) := by unfold Hid;rw [HG.out];omega
   clear HG;go_wp2_with fail;go_roundg i
   case rel =>
    rw [E1.out,E2.out,E3.out];exact HN1.out
   case measure => exact HMM.out
  ·obtain rfl : j = 0 := by omega
   have hneg : ¬ (0 : Int) ≤ ((0 : Nat) : Int) - 1 := by omega
   have FIN : Hid (zjI w g n xs rr B (.returned (.int .i64 rest)) wr) := ⟨rest,qs,rfl,h0,h1,by omega,hdq,by simpa using hv,by simpa using hrow,ht⟩
   clear hq hdq hv hrow ht;go_wp2;go_ret;exact FIN.out
end Go.Proofs.YtkdobgbicnemcaaGreatDoor
