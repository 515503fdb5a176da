/-
 QBu3ToHm3: Bu3, Hm3, joined.
-/
import Derived.Test.YtppddlbkdoebmaaQTm3
import Derived.Test.YtppddlbkdoebmaaQMulAllToPow
import Derived.Deep.AppendLies

set_option maxRecDepth 100000
set_option maxHeartbeats 6400000
set_option linter.unusedVariables false
set_option linter.unusedSimpArgs false
namespace Go.Proofs.Ytppddlbkdoebmaa
open Go.RowKit
theorem Try.infoLs3 : (Try.prog.info? 25).map (fun i => (i.zero,i.size,i.bytes)) = some (some (.slice none 0 0),1,24) := by kernel_rfl
theorem zEF (g j : Nat) : (⟨g,0,none⟩ : Addr).add j = ⟨g,j,none⟩ := by unfold Addr.add;split <;> simp_all
theorem mineS_grown3 {B base n : Nat} {w w' : World} {u v : Value} {zs : List Int} {Us : List Value} (h : Mine B w u zs) (ho : w.ownsRow base 25 1 v n Us) (hg : w.grownBy w' v.ownBlock) : Mine B w' u zs := by
 obtain ⟨hw,h | ⟨g,r,cap,h1,h2,h3,h4,h5,h6⟩⟩ := h
 ·exact ⟨hw,.inl h⟩
 ·refine ⟨hw,.inr ⟨g,r,cap,h1,h2,h3,h4,h5,(hg.block g h6.lt fun e => ?_).trans h6⟩⟩
  obtain ⟨_,⟨q,_⟩ | ⟨g',cap',cur,q,_,q4,_⟩⟩ := ho
  ·rw [q] at e;cases e
  ·rw [q] at e
   simp only [Value.ownBlock,Option.some.injEq] at e;subst e;have := h6.symm.trans q4;simp at this
def Bun3 (B : Nat) (w : World) (v : Value) (Ps : List (List Int)) : Prop :=
 ∃ Us : List Value,w.ownsRow B 25 1 v Us.length Us ∧ Us.length = Ps.length ∧ ∀ j (h : j < Us.length) (h' : j < Ps.length),Mine 0 w Us[j] Ps[j]
theorem Bun3.nil (B : Nat) (w : World) : Bun3 B w (.slice none 0 0) [] := ⟨[],World.ownsRow_nil _ _ _ _,rfl,fun j h => by simp at h⟩
theorem Bun3.now {B : Nat} {w w' : World} {v : Value} {Ps : List (List Int)} (h : Bun3 B w v Ps) (hb : Below w.heap.size w w') : Bun3 B w' v Ps := by
 obtain ⟨Us,h1,h2,h3⟩ := h;refine ⟨Us,?_,h2,fun j a b => (h3 j a b).below hb⟩;obtain ⟨q1,q2 | ⟨g,cap,cur,q2,q3,q4,q5⟩⟩ := h1
 ·exact ⟨q1,.inl q2⟩
 ·exact ⟨q1,.inr ⟨g,cap,cur,q2,q3,(hb.block g (Array.getElem?_eq_some_iff.1 q4).1).trans q4,q5⟩⟩
theorem Bun3.form {B : Nat} {w : World} {v : Value} {Ps : List (List Int)} (h : Bun3 B w v Ps) : ∃ a cap,v = .slice a Ps.length cap ∧ Ps.length ≤ cap := by
 obtain ⟨Us,⟨q1,⟨q2,q3⟩ | ⟨g,cap,cur,q2,q3,q4,q5,q6⟩⟩,h2,h3⟩ := h
 ·exact ⟨none,0,by rw [q2,← h2,q3],by omega⟩
 ·exact ⟨_,cap,by rw [q2,h2],by omega⟩
theorem Bun3.at {B : Nat} {w : World} {a : Option Addr} {n cap : Nat} {Ps : List (List Int)} (h : Bun3 B w (.slice a n cap) Ps) {j : Nat} (hj : j < Ps.length) : ∃ g u,a = some ⟨g,0,none⟩ ∧ w.cell? ⟨g,j,none⟩ = some u ∧ Mine 0 w u Ps[j] := by
 obtain ⟨Us,h1,h2,h3⟩ := h;have h1' := h1;obtain ⟨q1,⟨q2,q3⟩ | ⟨g,cap',cur,q2,q3,q4,q5⟩⟩ := h1
 ·omega
 ·simp only [Value.slice.injEq] at q2
  obtain ⟨rfl,rfl,rfl⟩ := q2;have hj' : j < Us.length := by omega
  have := World.ownsRow.cells h1' (g := g) rfl j Us[j] (by simp [hj']);rw [zEF] at this;exact ⟨g,Us[j],rfl,this,h3 j hj' hj⟩
theorem wpList_append_bun3 (w : World) {ops : Array Oper} {rest : List Oper} {o : Oper} {a : Act} {Q : Exit → Act → World → Prop}
  (hgd : o.guard = none) (s x : Operand) (hop : o.op = .call { callee := .builtin .append,args := #[s,x],argTypes := #[41,41] })
  (B : Nat) (v u : Value) (Ps : List (List Int)) (zs : List Int) (hs : a.eval s = v) (hB : Bun3 B w v Ps) (g : Nat) (hx : a.eval x = .slice (some ⟨g,0,none⟩) 1 1) (hc : w.cell? ⟨g,0,none⟩ = some u) (hu : Mine 0 w u zs) (hlen : Ps.length ≤ 1000000000) (hBs : B ≤ w.heap.size)
  (hK : ∀ a' cap' w',Hid (Bun3 B w' (.slice a' (Ps.length + 1) cap') (Ps ++ [zs])) → Hid (∀ (u : Value) (zs : List Int) {E : Nat},Mine E w u zs → Mine E w' u zs) → Hid (Below B w w') → wpList Try.prog ops Q rest (a.put o.dst (.slice a' (Ps.length + 1) cap')) w') :
  wpList Try.prog ops Q (o :: rest) a w := by
 obtain ⟨i,hi,hz,hsz,hby⟩ := info_parts Try.infoLs3;obtain ⟨Us,h1,h2,h3⟩ := hB;have hone : u.oneCell' = true := by obtain ⟨a,c,rfl⟩ := hu.form;rfl
 refine wpList_append_lies w hgd s x 41 hop B 25 i (.slice none 0 0) 1 24 Try.underlying41 hi hz hsz hby rfl (by omega) v Us.length Us hs h1 ⟨g,0,none⟩ 1 1 [u] hx rfl ?_ ?_ (by omega) (by unfold maxLen;omega) (by omega) hBs w.heap.size rfl ?_
 ·intro j u' hj
  match j,hj with
  | 0,hj => simp at hj;subst hj;rw [zEF];exact hc
 ·intro u' hu'
  simp at hu';subst hu';exact hone
 ·intro g' cap' w' k1 k2 k3 k4
  have hl : (Us ++ [u]).length = Us.length + 1 := by simp
  have keep : ∀ (u : Value) (zs : List Int) {E : Nat},Mine E w u zs → Mine E w' u zs := fun u zs _ h => mineS_grown3 h h1 k2
  rw [h2] at k1 ⊢;refine hK _ _ w' ⟨Us ++ [u],by rw [hl,h2];exact k1,by simp [h2],fun j q1 q2 => ?_⟩ keep ?_
  ·rcases Nat.lt_or_ge j Us.length with q | q
   ·rw [List.getElem_append_left q,List.getElem_append_left (by omega)]
    exact keep _ _ (h3 j q (by omega))
   ·obtain rfl : j = Us.length := by simp at q1;omega
    rw [List.getElem_append_right (by omega),List.getElem_append_right (by omega)];simp only [h2,Nat.sub_self,List.getElem_cons_zero];exact keep _ _ hu
  ·refine ⟨k2.os,k2.tape,k2.output,k2.size,fun k hk => k2.block k (by omega) (fun e => ?_)⟩
   obtain ⟨_,⟨q,_⟩ | ⟨g1,cap1,cur,q,q3,_⟩⟩ := h1
   ·rw [q] at e;cases e
   ·rw [q] at e
    obtain rfl : k = g1 := by simpa [Value.ownBlock] using e
    omega
theorem halves3_mine {w : World} {v : Value} {xs : List Int} (h : Sl w.heap.size w v xs) (hlen : xs.length ≤ 8796093022208) :
  Calls Try.prog 41 #[v] w fun e w' => ∃ D r,e = .returned r ∧ Mine w.heap.size w' r D ∧ zMA D ∧ hval D = val xs ∧ D.length ≤ 2 * xs.length ∧ Below w.heap.size w w' := by
 have hs := h;obtain ⟨hw,a,cap,rfl,hlc,hcm,hm⟩ := h;have HT := zZA hs;have l1 := zIA xs;have hsl := zkB hs;obtain ⟨_,a',cap',he,_,_,hm'⟩ := hsl;simp only [Value.slice.injEq] at he;obtain ⟨rfl,_,rfl⟩ := he;have HM := hid hm';have HL := hid (length_lst xs);have HWL := hid (canon_lst hw).1;have HVL := hid (val_lst xs);generalize lst xs = L at *;obtain ⟨n,hn⟩ : ∃ n,wid xs = n := ⟨_,rfl⟩
 rw [hn] at HT HL l1;clear hm hm' hs hn;go_enter Try.func41,Try.ntmps41;go_wp2_with fail;refine HT.mono ?_;rintro e w1 ⟨rfl,rfl⟩;clear HT;go_wp2_with (at_make;refine wpList_make_words _ rfl _ _ rfl _ _ (2 * n) (2 * n) rfl rfl (by first | rfl | (simp;done) | omega) (by first | rfl | (simp;done) | omega) (Nat.le_refl _) (by omega) ?_)
 intro w2 hrow hb2 hsz2;have hrow' := hid hrow;have hb2' := hid hb2;clear hrow hb2 hsz2;go_wp2_with fail
 go_loopw [4] (fun i wr => ∃ (k : Nat),k ≤ n ∧ i = .int .i64 k ∧ Row wr w1.heap.size (ws (pairs (L.take k) ++ List.replicate (2 * (n - k)) 0)) ∧ Below w1.heap.size w1 wr) (fun i _ => n - (intOf i).toNat)
 case atStart => exact ⟨0,Nat.zero_le _,rfl,by simpa [pairs] using hrow'.out,hb2'.out⟩
 case round =>
  clear hrow' hb2';obtain ⟨k,hk,rfl,hr,hb⟩ := hrel
  by_cases hlt : k < n
  ·have hk2 : k < L.length := by have := HL.out;omega
   rcases HM.out with e | ⟨b,off,rfl,hbg,hcy⟩
   ·subst e;simp at hk2
   have hst := zME hk2;rw [HL.out] at hst;have hxw := HWL.out.get hk2;unfold IsW wB at hxw;obtain ⟨hx0,hx1⟩ := hxw;have lD : (pairs (L.take k) ++ List.replicate (2 * (n - k)) 0).length = 2 * n := by rw [List.length_append,zqA,List.length_take,List.length_replicate];have := HL.out;omega
   generalize pairs (L.take k) ++ List.replicate (2 * (n - k)) 0 = D at *;have c2 : wr.cell? ⟨b,off + k,none⟩ = some (.int .u64 L[k]) := (hb.cell (p := ⟨b,off + k,none⟩) hbg).trans (hcy k hk2);have c1 : wr.cell? ⟨w1.heap.size,2 * k,none⟩ = some (.int .u64 (D[2 * k]'(by omega))) := Row.word (r := []) (by simpa using hr) (by omega);have cf : wr.frozen? ⟨w1.heap.size,2 * k,none⟩ = false := hr.frozen _;have hr1 : Row (wr.setCell ⟨w1.heap.size,2 * k,none⟩ (.int .u64 (L[k] % 4294967296))) w1.heap.size (ws (D.set (2 * k) (L[k] % 4294967296))) := by
    have := Row.setWord (r := []) (by simpa using hr) (show 2 * k < D.length by omega) (L[k] % 4294967296)
    simpa using this
   have hb1 := hb.setCell (p := ⟨w1.heap.size,2 * k,none⟩) (Nat.le_refl _) (.int .u64 (L[k] % 4294967296));have c2' : (wr.setCell ⟨w1.heap.size,2 * k,none⟩ (.int .u64 (L[k] % 4294967296))).cell? ⟨b,off + k,none⟩ = some (.int .u64 L[k]) := (hb1.cell (p := ⟨b,off + k,none⟩) hbg).trans (hcy k hk2);have c1' : (wr.setCell ⟨w1.heap.size,2 * k,none⟩ (.int .u64 (L[k] % 4294967296))).cell? ⟨w1.heap.size,2 * k + 1,none⟩ = some (.int .u64 ((D.set (2 * k) (L[k] % 4294967296))[2 * k + 1]'(by rw [List.length_set];omega))) := Row.word (r := []) (by simpa using hr1) (by rw [List.length_set];omega);have cf' : (wr.setCell ⟨w1.heap.size,2 * k,none⟩ (.int .u64 (L[k] % 4294967296))).frozen? ⟨w1.heap.size,2 * k + 1,none⟩ = false := hr1.frozen _;have HR2 : Hid (Row ((wr.setCell ⟨w1.heap.size,2 * k,none⟩ (.int .u64 (L[k] % 4294967296))).setCell ⟨w1.heap.size,2 * k + 1,none⟩ (.int .u64 (L[k] / 4294967296))) w1.heap.size (ws (pairs (L.take (k + 1)) ++ List.replicate (2 * (n - (k + 1))) 0))) := by
    have := Row.setWord (r := []) (by simpa using hr1) (show 2 * k + 1 < (D.set (2 * k) (L[k] % 4294967296)).length by rw [List.length_set];omega) (L[k] / 4294967296);rw [hst] at this;unfold Hid;simpa using this
   have HB2 := hid (hb1.setCell (p := ⟨w1.heap.size,2 * k + 1,none⟩) (Nat.le_refl _) (.int .u64 (L[k] / 4294967296)));generalize (D.set (2 * k) (L[k] % 4294967296))[2 * k + 1]'(by rw [List.length_set];omega) = z1 at *;generalize D[2 * k]'(by omega) = z0 at *;clear hcy hr hb hr1 hb1 hst;generalize L[k] = x at *;have i0 : (0 : Int) ≤ (k : Int) := by omega
   go_wp2;go_roundw
   case rel => exact ⟨k + 1,by omega,by go_num,HR2.out,HB2.out⟩
   case measure => simp [intOf];omega
  ·obtain rfl : k = n := by omega
   have e0 : L.take k = L := by rw [← HL.out];simp
   rw [Nat.sub_self,Nat.mul_zero,List.replicate_zero,List.append_nil,e0] at hr;have hD := zaE HWL.out;have hDl : (pairs L).length = 2 * k := by rw [zqA,HL.out]
   have hsd := Row.sl (r := []) (by simpa using hr) hD.word (cap := 2 * k) (by rw [hDl];exact Nat.le_refl _) (by omega) hr.lt;rw [hDl] at hsd;have HT2 := hid (zZA hsd);have HS2 := hid (zkB hsd);have l2 := zIA (pairs L);have HB := hid hb;have HMI := hid (zkF (n := 2 * k) (by simpa using hr) hD.word (by rw [hDl]) (by omega) (Nat.le_refl _));clear hr hsd e0 hb HM;go_wp2_with fail;refine HT2.out.mono ?_;rintro e w3 ⟨rfl,rfl⟩;go_wp2;go_ret;exact ⟨lst (pairs L),_,rfl,HMI.out,hcanon_lst' hD,by rw [hval_lst',pairs_val,HVL.out],by rw [length_lst];omega,HB.out⟩
end Go.Proofs.Ytppddlbkdoebmaa
