/-
  Rn25: the law LexerRuns.
-/
import Derived.Test.YtdfnehngffajiabDoorQAw25ToPn25
import Derived.Test.YtdfnehngffajiabDoorQRq25ToBp25
import Derived.Test.YtdfnehngffajiabDoorQTk25ToTx25
import Derived.Deep.LoopGhost
import Derived.Laws.Concat
namespace Go.Proofs.YtdfnehngffajiabDoor
open Go.RowKit
set_option linter.unusedVariables false

def Bls (w : World) (a : Option Addr) (len cap : Nat) (f : Nat → Bool) : Prop := len ≤ cap ∧ len ≤ 1048576 ∧ (len = 0 ∨ ∃ b off, a = some ⟨b, off, none⟩ ∧ b < w.heap.size ∧ ∀ k, k < len → w.cell? ⟨b, off + k, none⟩ = some (.bool (f k)))
def Bts (w : World) (a : Option Addr) (len cap : Nat) (f : Nat → Nat) : Prop := len ≤ cap ∧ len ≤ 1048576 ∧ (∀ k, f k ≤ 255) ∧ (len = 0 ∨ ∃ b off, a = some ⟨b, off, none⟩ ∧ b < w.heap.size ∧ ∀ k, k < len → w.cell? ⟨b, off + k, none⟩ = some (.int .u8 (f k : Int)))
def padT (f : Nat → Bool) (i : Nat) : ByteArray := catB ((List.range i).map fun j => padP (f j))
def runT (h : Nat → Nat) (i : Nat) : ByteArray := catB ((List.range i).map fun j => letB (h j))
def numL (h : Nat → Nat) (i : Nat) : List ByteArray := ((List.range i).filter fun j => numJ (h j)).map fun j => letB (h j)
def numT (h : Nat → Nat) (i : Nat) : ByteArray := catB (numL h i)
theorem catB_one (p : ByteArray) : catB [p] = p := app_nil p
theorem padT_next (f : Nat → Bool) (i : Nat) : padT f (i + 1) = padT f i ++ padP (f i) := by
  unfold padT
  rw [List.range_succ, List.map_append, catB_app, List.map_singleton, catB_one]
theorem runT_next (h : Nat → Nat) (i : Nat) : runT h (i + 1) = runT h i ++ letB (h i) := by
  unfold runT
  rw [List.range_succ, List.map_append, catB_app, List.map_singleton, catB_one]
theorem numT_yes {h : Nat → Nat} {i : Nat} (q : numJ (h i) = true) : numT h (i + 1) = numT h i ++ letB (h i) := by
  unfold numT numL
  rw [List.range_succ, List.filter_append, List.map_append, catB_app, List.filter_cons, if_pos q]
  congr 1
  exact catB_one _
theorem numT_no {h : Nat → Nat} {i : Nat} (q : numJ (h i) = false) : numT h (i + 1) = numT h i := by
  unfold numT numL
  rw [List.range_succ, List.filter_append, List.map_append, catB_app, List.filter_cons, if_neg (by rw [q]; decide)]
  exact app_nil _
theorem padT_size (f : Nat → Bool) (i : Nat) : (padT f i).size ≤ 2 * i := by
  have := catB_size (m := 2) ((List.range i).map fun j => padP (f j)) (fun p hp => by
    obtain ⟨j, _, rfl⟩ := List.mem_map.1 hp
    cases f j <;> decide)
  simpa [padT] using this
theorem runT_size (h : Nat → Nat) (i : Nat) : (runT h i).size ≤ 2 * i := by
  have := catB_size (m := 2) ((List.range i).map fun j => letB (h j)) (fun p hp => by
    obtain ⟨j, _, rfl⟩ := List.mem_map.1 hp
    exact let_two)
  simpa [runT] using this
theorem numL_len (h : Nat → Nat) (i : Nat) : (numL h i).length ≤ i := by
  unfold numL
  rw [List.length_map]
  exact Nat.le_trans (List.length_filter_le _ _) (by simp)
theorem ones_size : ∀ L : List ByteArray, (∀ p ∈ L, p.size = 1) → (catB L).size = L.length
  | [], _ => rfl
  | p :: r, h => by
    show (p ++ catB r).size = r.length + 1
    rw [app_size, h p (List.mem_cons_self ..), ones_size r fun q hq => h q (List.mem_cons_of_mem _ hq)]
    omega
theorem numL_ok {h : Nat → Nat} (hh : ∀ j, h j < 10) (i : Nat) : ∀ q ∈ numL h i, (Ch1 q ∧ okC true (chS q 0).1 = true) ∧ q.size = 1 := fun q hq => by
  obtain ⟨j, hj, rfl⟩ := List.mem_map.1 hq
  have := (List.mem_filter.1 hj).2
  exact ⟨num_ok (hh j) this, num_one (hh j) this⟩
theorem numT_len {h : Nat → Nat} (hh : ∀ j, h j < 10) (i : Nat) : (numT h i).size = (numL h i).length := ones_size _ fun q hq => (numL_ok hh i q hq).2
theorem data_catB : ∀ L : List ByteArray, (catB L).data.toList = L.flatMap fun p => p.data.toList
  | [] => rfl
  | p :: r => by
    show (p ++ catB r).data.toList = _
    rw [ByteArray.data_append, Array.toList_append, data_catB r, List.flatMap_cons]
theorem num_bytes {j : Nat} (h : j < 10) (hn : numJ j = true) : ∀ c ∈ (letB j).data.toList, (48 ≤ c.toNat ∧ c.toNat ≤ 57) ∨ c = 95 := by
  obtain rfl | rfl | rfl | rfl | rfl | rfl | rfl | rfl | rfl | rfl : j = 0 ∨ j = 1 ∨ j = 2 ∨ j = 3 ∨ j = 4 ∨ j = 5 ∨ j = 6 ∨ j = 7 ∨ j = 8 ∨ j = 9 := by omega
  all_goals first | (exact absurd hn (by decide)) | (intro c hc; simp only [letB, List.mem_singleton] at hc; subst hc; decide)
theorem numT_num {h : Nat → Nat} (hh : ∀ j, h j < 10) (i : Nat) : NumT (one1 ++ numT h i) := by
  have e : (one1 ++ numT h i).data.toList = 49 :: (numT h i).data.toList := by
    rw [ByteArray.data_append, Array.toList_append]
    rfl
  refine ⟨by rw [app_size]; show 0 < 1 + _; omega, fun c hc => ?_, by rw [e]; simp⟩
  rw [e] at hc
  rcases List.mem_cons.1 hc with rfl | hc
  · exact .inl (by decide)
  · unfold numT at hc
    rw [data_catB] at hc
    obtain ⟨q, hq, hc⟩ := List.mem_flatMap.1 hc
    obtain ⟨j, hj, rfl⟩ := List.mem_map.1 hq
    exact num_bytes (hh j) (List.mem_filter.1 hj).2 c hc
theorem padL_ok (f : Nat → Bool) (k : Nat) : ∀ p ∈ (List.range k).map (fun j => padP (f j)), Ch1 p ∧ blkS (chS p 0).1 = true := fun p hp => by
  obtain ⟨j, _, rfl⟩ := List.mem_map.1 hp
  exact pad_ok (f j)
theorem runs_name {f : Nat → Bool} {h : Nat → Nat} (hh : ∀ j, h j < 10) (k i : Nat) :
    Tkn (padT f k ++ x1 ++ runT h i ++ sp1) gP 0 1 (if 32 < (runT h i).size + 1 then [] else [⟨2, x1 ++ runT h i, ((k + 1 : Nat) : Int)⟩]) (if 32 < (runT h i).size + 1 then ((k + 1 : Nat) : Int) else 0) (if 32 < (runT h i).size + 1 then 17 else 0) := by
  have t := tkn_name (g := gP) (L := (List.range i).map fun j => letB (h j)) (fun q hq => by
    obtain ⟨j, _, rfl⟩ := List.mem_map.1 hq
    exact let_ok (hh j))
  have hsz : (catB (x1 :: (List.range i).map fun j => letB (h j))).size = (runT h i).size + 1 := by
    show (x1 ++ runT h i).size = _
    rw [app_size, Nat.add_comm]
    rfl
  rw [hsz] at t
  have e : padT f k ++ x1 ++ runT h i ++ sp1 = catB ((List.range k).map fun j => padP (f j)) ++ (catB (x1 :: (List.range i).map fun j => letB (h j)) ++ sp1) := by
    show padT f k ++ x1 ++ runT h i ++ sp1 = padT f k ++ ((x1 ++ runT h i) ++ sp1)
    simp only [ByteArray.append_assoc]
  have p := tkn_pad t (fun q => by split <;> simp_all) _ (padL_ok f k)
  rw [← e, List.length_map, List.length_range] at p
  by_cases q : 32 < (runT h i).size + 1
  · simp only [if_pos q] at p ⊢
    simp only [if_neg (show ¬ (17 : Int) = 0 by decide), List.map_nil] at p
    rw [show ((k + 1 : Nat) : Int) = 1 + (k : Int) by omega]
    exact p
  · simp only [if_neg q] at p ⊢
    simp only [if_pos] at p
    have e2 : ([⟨2, catB (x1 :: (List.range i).map fun j => letB (h j)), 1⟩] : List Tok).map (shT k) = [⟨2, x1 ++ runT h i, ((k + 1 : Nat) : Int)⟩] := by
      show [(⟨2, x1 ++ runT h i, (1 : Int) + (k : Int)⟩ : Tok)] = _
      rw [show ((k + 1 : Nat) : Int) = 1 + (k : Int) by omega]
    rw [e2] at p
    exact p
theorem runs_ff {f : Nat → Bool} {h : Nat → Nat} (hh : ∀ j, h j < 10) (k i : Nat) :
    Tkn (padT f k ++ one1 ++ numT h i ++ spff) gP 0 1 [] (if gP (one1 ++ numT h i) = 0 then ((k + (numT h i).size + 3 : Nat) : Int) else ((k + 1 : Nat) : Int)) (if gP (one1 ++ numT h i) = 0 then 12 else 7) := by
  have t := tkn_numff (g := gP) (L := numL h i) (fun q hq => (numL_ok hh i q hq).1)
  have e : padT f k ++ one1 ++ numT h i ++ spff = catB ((List.range k).map fun j => padP (f j)) ++ (catB (one1 :: numL h i) ++ spff) := by
    show padT f k ++ one1 ++ numT h i ++ spff = padT f k ++ ((one1 ++ numT h i) ++ spff)
    simp only [ByteArray.append_assoc]
  have p := tkn_pad t (fun _ => rfl) _ (padL_ok f k)
  rw [← e, List.length_map, List.length_range, List.map_nil] at p
  change Tkn _ gP 0 1 [] (if (if gP (one1 ++ numT h i) = 0 then 12 else 7) = (0 : Int) then _ else (if gP (one1 ++ numT h i) = 0 then (((numL h i).length + 3 : Nat) : Int) else 1) + (k : Int)) (if gP (one1 ++ numT h i) = 0 then 12 else 7) at p
  rw [numT_len hh]
  by_cases q : gP (one1 ++ numT h i) = 0
  · simp only [if_pos q] at p ⊢
    rw [if_neg (by decide)] at p
    rw [show ((k + (numL h i).length + 3 : Nat) : Int) = (((numL h i).length + 3 : Nat) : Int) + (k : Int) by omega]
    exact p
  · simp only [if_neg q] at p ⊢
    rw [if_neg (by decide)] at p
    rw [show ((k + 1 : Nat) : Int) = 1 + (k : Int) by omega]
    exact p
theorem runs_num {f : Nat → Bool} {h : Nat → Nat} (hh : ∀ j, h j < 10) (k i : Nat) (hg : gP (one1 ++ numT h i) = 0) :
    Tkn (padT f k ++ one1 ++ numT h i) gP 0 1 [⟨1, one1 ++ numT h i, ((k + 1 : Nat) : Int)⟩] 0 0 := by
  have t := tkn_num (g := gP) (L := numL h i) (fun q hq => (numL_ok hh i q hq).1) hg
  have e : padT f k ++ one1 ++ numT h i = catB ((List.range k).map fun j => padP (f j)) ++ catB (one1 :: numL h i) := by
    show padT f k ++ one1 ++ numT h i = padT f k ++ (one1 ++ numT h i)
    simp only [ByteArray.append_assoc]
  have p := tkn_pad t (fun _ => absurd rfl ‹_›) _ (padL_ok f k)
  rw [← e, List.length_map, List.length_range] at p
  have e2 : ([⟨1, catB (one1 :: numL h i), 1⟩] : List Tok).map (shT k) = [⟨1, one1 ++ numT h i, ((k + 1 : Nat) : Int)⟩] := by
    show [(⟨1, one1 ++ numT h i, (1 : Int) + (k : Int)⟩ : Tok)] = _
    rw [show ((k + 1 : Nat) : Int) = 1 + (k : Int) by omega]
  rw [e2] at p
  exact p
theorem toks_one (w : World) (k : Int) (x : ByteArray) (c : Int) : Toks w.heap.size (w.alloc (.cells #[.int .i64 k, .string x, .int .i64 c] 30)) (.slice (some ⟨w.heap.size, 0, none⟩) 1 1) [⟨k, x, c⟩] :=
  ⟨rfl, .inr ⟨w.heap.size, 1, #[.int .i64 k, .string x, .int .i64 c], rfl, Nat.le_refl _, heap_alloc_new w _, Nat.le_refl _, by unfold maxLen; omega, rfl, rfl⟩⟩
theorem gP_two (x : ByteArray) : gP x = 0 ∨ gP x = 7 := by
  unfold gP
  split
  · exact .inl rfl
  · exact .inr rfl
set_option maxHeartbeats 6400000 in
set_option maxRecDepth 100000 in
theorem lexerRuns_any {w : World} {a0 a1 : Option Addr} {n0 n1 c0 c1 : Nat} {f : Nat → Bool} {p : Nat → Nat} (hm : MaxL w) (hT : Sg w) (hb : Bls w a0 n0 c0 f) (hp : Bts w a1 n1 c1 p) : Calls Tryd.prog 4 #[.slice a0 n0 c0, .slice a1 n1 c1] w (Well25 w) := by
  have A0 := hid (awake_now hm)
  have MX : Hid (∀ wx : World, Below w.heap.size w wx → MaxL wx) := hid fun wx hb => hm.on hb
  have ST := hid hT
  obtain ⟨hb0, hb1, hb2⟩ := hb
  obtain ⟨hp0, hp1, hp2, hp3⟩ := hp
  have HB := hid hb2
  have HP := hid hp3
  have HP2 := hid hp2
  clear hm hT hb2 hp3 hp2
  unfold Well25 at A0 ⊢
  go_enter Tryd.func4, Tryd.ntmps4
  go_wp2_with fail
  refine A0.out.mono ?_
  rintro e w1 ⟨rfl, b1⟩
  have B1 := hid b1
  clear A0 b1
  have hz1 := B1.out.size
  have HC2 : Hid (Ce (w1.alloc (.cells #[.string ⟨#[97]⟩, .string ⟨#[90]⟩, .string ⟨#[95]⟩, .string ⟨#[48]⟩, .string ⟨#[57]⟩, .string ⟨#[195, 169]⟩, .string ⟨#[202, 175]⟩, .string ⟨#[205, 191]⟩, .string ⟨#[207, 191]⟩, .string ⟨#[55]⟩] 9)) w1.heap.size 9 [.string ⟨#[97]⟩, .string ⟨#[90]⟩, .string ⟨#[95]⟩, .string ⟨#[48]⟩, .string ⟨#[57]⟩, .string ⟨#[195, 169]⟩, .string ⟨#[202, 175]⟩, .string ⟨#[205, 191]⟩, .string ⟨#[207, 191]⟩, .string ⟨#[55]⟩]) := hid (heap_alloc_new w1 _)
  have B2 : Hid (Below w.heap.size w (w1.alloc (.cells #[.string ⟨#[97]⟩, .string ⟨#[90]⟩, .string ⟨#[95]⟩, .string ⟨#[48]⟩, .string ⟨#[57]⟩, .string ⟨#[195, 169]⟩, .string ⟨#[202, 175]⟩, .string ⟨#[205, 191]⟩, .string ⟨#[207, 191]⟩, .string ⟨#[55]⟩] 9))) := hid (B1.out.alloc hz1 _)
  clear hz1 B1
  go_wp2_with fail
  generalize w1.alloc (.cells #[.string ⟨#[97]⟩, .string ⟨#[90]⟩, .string ⟨#[95]⟩, .string ⟨#[48]⟩, .string ⟨#[57]⟩, .string ⟨#[195, 169]⟩, .string ⟨#[202, 175]⟩, .string ⟨#[205, 191]⟩, .string ⟨#[207, 191]⟩, .string ⟨#[55]⟩] 9) = w2 at *
  obtain ⟨G, hG⟩ : ∃ G, w1.heap.size = G := ⟨_, rfl⟩
  rw [hG] at HC2
  rw [hG]
  clear hG
  go_loopg [7, 8] n0 (fun gk s7 s8 wr => ∃ k : Nat, s7 = .string (padT f k) ∧ s8 = .int .i64 (k : Int) ∧ k ≤ n0 ∧ gk = n0 - k ∧ Hid (Ce wr G 9 [.string ⟨#[97]⟩, .string ⟨#[90]⟩, .string ⟨#[95]⟩, .string ⟨#[48]⟩, .string ⟨#[57]⟩, .string ⟨#[195, 169]⟩, .string ⟨#[202, 175]⟩, .string ⟨#[205, 191]⟩, .string ⟨#[207, 191]⟩, .string ⟨#[55]⟩]) ∧ Hid (Below w.heap.size w wr))
  case atStart => exact ⟨0, rfl, rfl, Nat.zero_le _, rfl, HC2, B2⟩
  case round =>
    clear HC2 B2
    obtain ⟨k, rfl, rfl, hk, hgk, HC, B⟩ := hrel
    have HGK := hid hgk
    clear hgk
    by_cases hlt : k < n0
    · have hlt' : (k : Int) < (n0 : Int) := by omega
      have gi : IntKind.i64.wrap ((k : Int) + 1) = ((k + 1 : Nat) : Int) := by rw [wrap_is] <;> omega
      rcases HB.out with h | ⟨b, off, rfl, hbl, hcb⟩
      · omega
      have cb := (B.out.cell (World.block_lt_of_cell? _ _ (hcb k hlt))).trans (hcb k hlt)
      have hsz := padT_size f k
      have NX := hid (padT_next f k)
      clear hbl hcb
      cases hf : f k
      case false =>
        rw [hf] at cb
        have hc1 : ¬ (9223372036854775807 < (padT f k).size + (⟨#[32]⟩ : ByteArray).size) := by show ¬ (_ < _ + 1); omega
        clear hsz
        go_wp2
        go_roundg (n0 - (k + 1))
        case rel => exact ⟨k + 1, by rw [NX.out, hf]; rfl, by first | rfl | go_num, by omega, rfl, HC, B⟩
        case measure => have := HGK.out; omega
      case true =>
        rw [hf] at cb
        have hc1 : ¬ (9223372036854775807 < (padT f k).size + (⟨#[194, 160]⟩ : ByteArray).size) := by show ¬ (_ < _ + 2); omega
        clear hsz
        go_wp2
        go_roundg (n0 - (k + 1))
        case rel => exact ⟨k + 1, by rw [NX.out, hf]; rfl, by first | rfl | go_num, by omega, rfl, HC, B⟩
        case measure => have := HGK.out; omega
    · have hlt' : ¬ (k : Int) < (n0 : Int) := by omega
      obtain rfl : k = n0 := by omega
      clear HGK hlt hk HB
      have hps := padT_size f k
      obtain ⟨h, hh⟩ : ∃ h : Nat → Nat, (fun j => p j % 10) = h := ⟨_, rfl⟩
      have HH : Hid (∀ j, p j % 10 = h j) := hid fun j => by rw [← hh]
      clear hh
      go_wp2_with fail
      go_loopg [9, 10, 11] n1 (fun gk s9 s10 s11 wr => ∃ i : Nat, s9 = .string (runT h i) ∧ s10 = .string (numT h i) ∧ s11 = .int .i64 (i : Int) ∧ i ≤ n1 ∧ gk = n1 - i ∧ Hid (Ce wr G 9 [.string ⟨#[97]⟩, .string ⟨#[90]⟩, .string ⟨#[95]⟩, .string ⟨#[48]⟩, .string ⟨#[57]⟩, .string ⟨#[195, 169]⟩, .string ⟨#[202, 175]⟩, .string ⟨#[205, 191]⟩, .string ⟨#[207, 191]⟩, .string ⟨#[55]⟩]) ∧ Hid (Below w.heap.size w wr))
      case atStart => exact ⟨0, rfl, rfl, rfl, Nat.zero_le _, rfl, HC, B⟩
      case round =>
        clear HC B
        obtain ⟨i, rfl, rfl, rfl, hi, hgk, HC, B⟩ := hrel
        have HGK := hid hgk
        clear hgk
        by_cases hlt : i < n1
        · have hlt2 : (i : Int) < (n1 : Int) := by omega
          have gi : IntKind.i64.wrap ((i : Int) + 1) = ((i + 1 : Nat) : Int) := by rw [wrap_is] <;> omega
          rcases HP.out with h0 | ⟨b, off, rfl, hbl, hcb⟩
          · omega
          have cb := (B.out.cell (World.block_lt_of_cell? _ _ (hcb i hlt))).trans (hcb i hlt)
          have hsr := runT_size h i
          have hsn := Nat.le_trans (Nat.le_of_eq (numT_len (h := h) (fun j => by rw [← HH.out j]; omega) i)) (numL_len h i)
          have hd1 := HP2.out i
          have hd2 := HH.out i
          have HN := hid (runT_next h i)
          have HY : Hid (numJ (h i) = true → numT h (i + 1) = numT h i ++ letB (h i)) := hid numT_yes
          have HO : Hid (numJ (h i) = false → numT h (i + 1) = numT h i) := hid numT_no
          clear hbl hcb
          obtain ⟨d, hd⟩ : ∃ d, p i = d := ⟨_, rfl⟩
          rw [hd] at cb hd1 hd2
          clear hd
          have gw : IntKind.i64.wrap (d : Int) = (d : Int) := by rw [wrap_is] <;> omega
          have gm : ((d : Int).tmod 10) = ((d % 10 : Nat) : Int) := by rw [Int.tmod_eq_emod_of_nonneg (by omega)]; omega
          rw [hd2] at gm
          have hj : h i < 10 := by omega
          obtain ⟨j, hj2⟩ : ∃ j, h i = j := ⟨_, rfl⟩
          rw [hj2] at gm hj HN HY HO
          clear hd2 hj2
          obtain rfl | rfl | rfl | rfl | rfl | rfl | rfl | rfl | rfl | rfl : j = 0 ∨ j = 1 ∨ j = 2 ∨ j = 3 ∨ j = 4 ∨ j = 5 ∨ j = 6 ∨ j = 7 ∨ j = 8 ∨ j = 9 := by omega
          · have cl := HC.out.at (i := 0) rfl
            have e0 : ((⟨#[97]⟩ : ByteArray).toList == (⟨#[95]⟩ : ByteArray).toList) = false := by decide +kernel
            have e1 : ((⟨#[97]⟩ : ByteArray).toList == (⟨#[48]⟩ : ByteArray).toList) = false := by decide +kernel
            have e2 : ((⟨#[97]⟩ : ByteArray).toList == (⟨#[57]⟩ : ByteArray).toList) = false := by decide +kernel
            have e3 : ((⟨#[97]⟩ : ByteArray).toList == (⟨#[55]⟩ : ByteArray).toList) = false := by decide +kernel
            have hc1 : ¬ (9223372036854775807 < (runT h i).size + (⟨#[97]⟩ : ByteArray).size) := by show ¬ (_ < _ + 1); omega
            have hc2 : ¬ (9223372036854775807 < (numT h i).size + (⟨#[97]⟩ : ByteArray).size) := by show ¬ (_ < _ + 1); omega
            have q0 : ((0 : Nat) : Int) = 0 := rfl
            rw [q0] at gm
            have NN : Hid (numT h (i + 1) = numT h i) := hid (HO.out (by decide))
            clear hsr hsn HY HO hj q0
            go_wp2
            go_roundg (n1 - (i + 1))
            case rel => exact ⟨i + 1, by rw [HN.out]; rfl, by rw [NN.out], by first | rfl | go_num, by omega, rfl, HC, B⟩
            case measure => have := HGK.out; omega
          · have cl := HC.out.at (i := 1) rfl
            have e0 : ((⟨#[90]⟩ : ByteArray).toList == (⟨#[95]⟩ : ByteArray).toList) = false := by decide +kernel
            have e1 : ((⟨#[90]⟩ : ByteArray).toList == (⟨#[48]⟩ : ByteArray).toList) = false := by decide +kernel
            have e2 : ((⟨#[90]⟩ : ByteArray).toList == (⟨#[57]⟩ : ByteArray).toList) = false := by decide +kernel
            have e3 : ((⟨#[90]⟩ : ByteArray).toList == (⟨#[55]⟩ : ByteArray).toList) = false := by decide +kernel
            have hc1 : ¬ (9223372036854775807 < (runT h i).size + (⟨#[90]⟩ : ByteArray).size) := by show ¬ (_ < _ + 1); omega
            have hc2 : ¬ (9223372036854775807 < (numT h i).size + (⟨#[90]⟩ : ByteArray).size) := by show ¬ (_ < _ + 1); omega
            have q1 : ((1 : Nat) : Int) = 1 := rfl
            rw [q1] at gm
            have NN : Hid (numT h (i + 1) = numT h i) := hid (HO.out (by decide))
            clear hsr hsn HY HO hj q1
            go_wp2
            go_roundg (n1 - (i + 1))
            case rel => exact ⟨i + 1, by rw [HN.out]; rfl, by rw [NN.out], by first | rfl | go_num, by omega, rfl, HC, B⟩
            case measure => have := HGK.out; omega
          · have cl := HC.out.at (i := 2) rfl
            have e0 : ((⟨#[95]⟩ : ByteArray).toList == (⟨#[95]⟩ : ByteArray).toList) = true := by decide +kernel
            have e1 : ((⟨#[95]⟩ : ByteArray).toList == (⟨#[48]⟩ : ByteArray).toList) = false := by decide +kernel
            have e2 : ((⟨#[95]⟩ : ByteArray).toList == (⟨#[57]⟩ : ByteArray).toList) = false := by decide +kernel
            have e3 : ((⟨#[95]⟩ : ByteArray).toList == (⟨#[55]⟩ : ByteArray).toList) = false := by decide +kernel
            have hc1 : ¬ (9223372036854775807 < (runT h i).size + (⟨#[95]⟩ : ByteArray).size) := by show ¬ (_ < _ + 1); omega
            have hc2 : ¬ (9223372036854775807 < (numT h i).size + (⟨#[95]⟩ : ByteArray).size) := by show ¬ (_ < _ + 1); omega
            have q2 : ((2 : Nat) : Int) = 2 := rfl
            rw [q2] at gm
            have NN : Hid (numT h (i + 1) = numT h i ++ letB 2) := hid (HY.out (by decide))
            clear hsr hsn HY HO hj q2
            go_wp2
            go_roundg (n1 - (i + 1))
            case rel => exact ⟨i + 1, by rw [HN.out]; rfl, by rw [NN.out]; rfl, by first | rfl | go_num, by omega, rfl, HC, B⟩
            case measure => have := HGK.out; omega
          · have cl := HC.out.at (i := 3) rfl
            have e0 : ((⟨#[48]⟩ : ByteArray).toList == (⟨#[95]⟩ : ByteArray).toList) = false := by decide +kernel
            have e1 : ((⟨#[48]⟩ : ByteArray).toList == (⟨#[48]⟩ : ByteArray).toList) = true := by decide +kernel
            have e2 : ((⟨#[48]⟩ : ByteArray).toList == (⟨#[57]⟩ : ByteArray).toList) = false := by decide +kernel
            have e3 : ((⟨#[48]⟩ : ByteArray).toList == (⟨#[55]⟩ : ByteArray).toList) = false := by decide +kernel
            have hc1 : ¬ (9223372036854775807 < (runT h i).size + (⟨#[48]⟩ : ByteArray).size) := by show ¬ (_ < _ + 1); omega
            have hc2 : ¬ (9223372036854775807 < (numT h i).size + (⟨#[48]⟩ : ByteArray).size) := by show ¬ (_ < _ + 1); omega
            have q3 : ((3 : Nat) : Int) = 3 := rfl
            rw [q3] at gm
            have NN : Hid (numT h (i + 1) = numT h i ++ letB 3) := hid (HY.out (by decide))
            clear hsr hsn HY HO hj q3
            go_wp2
            go_roundg (n1 - (i + 1))
            case rel => exact ⟨i + 1, by rw [HN.out]; rfl, by rw [NN.out]; rfl, by first | rfl | go_num, by omega, rfl, HC, B⟩
            case measure => have := HGK.out; omega
          · have cl := HC.out.at (i := 4) rfl
            have e0 : ((⟨#[57]⟩ : ByteArray).toList == (⟨#[95]⟩ : ByteArray).toList) = false := by decide +kernel
            have e1 : ((⟨#[57]⟩ : ByteArray).toList == (⟨#[48]⟩ : ByteArray).toList) = false := by decide +kernel
            have e2 : ((⟨#[57]⟩ : ByteArray).toList == (⟨#[57]⟩ : ByteArray).toList) = true := by decide +kernel
            have e3 : ((⟨#[57]⟩ : ByteArray).toList == (⟨#[55]⟩ : ByteArray).toList) = false := by decide +kernel
            have hc1 : ¬ (9223372036854775807 < (runT h i).size + (⟨#[57]⟩ : ByteArray).size) := by show ¬ (_ < _ + 1); omega
            have hc2 : ¬ (9223372036854775807 < (numT h i).size + (⟨#[57]⟩ : ByteArray).size) := by show ¬ (_ < _ + 1); omega
            have q4 : ((4 : Nat) : Int) = 4 := rfl
            rw [q4] at gm
            have NN : Hid (numT h (i + 1) = numT h i ++ letB 4) := hid (HY.out (by decide))
            clear hsr hsn HY HO hj q4
            go_wp2
            go_roundg (n1 - (i + 1))
            case rel => exact ⟨i + 1, by rw [HN.out]; rfl, by rw [NN.out]; rfl, by first | rfl | go_num, by omega, rfl, HC, B⟩
            case measure => have := HGK.out; omega
          · have cl := HC.out.at (i := 5) rfl
            have e0 : ((⟨#[195, 169]⟩ : ByteArray).toList == (⟨#[95]⟩ : ByteArray).toList) = false := by decide +kernel
            have e1 : ((⟨#[195, 169]⟩ : ByteArray).toList == (⟨#[48]⟩ : ByteArray).toList) = false := by decide +kernel
            have e2 : ((⟨#[195, 169]⟩ : ByteArray).toList == (⟨#[57]⟩ : ByteArray).toList) = false := by decide +kernel
            have e3 : ((⟨#[195, 169]⟩ : ByteArray).toList == (⟨#[55]⟩ : ByteArray).toList) = false := by decide +kernel
            have hc1 : ¬ (9223372036854775807 < (runT h i).size + (⟨#[195, 169]⟩ : ByteArray).size) := by show ¬ (_ < _ + 2); omega
            have hc2 : ¬ (9223372036854775807 < (numT h i).size + (⟨#[195, 169]⟩ : ByteArray).size) := by show ¬ (_ < _ + 2); omega
            have q5 : ((5 : Nat) : Int) = 5 := rfl
            rw [q5] at gm
            have NN : Hid (numT h (i + 1) = numT h i) := hid (HO.out (by decide))
            clear hsr hsn HY HO hj q5
            go_wp2
            go_roundg (n1 - (i + 1))
            case rel => exact ⟨i + 1, by rw [HN.out]; rfl, by rw [NN.out], by first | rfl | go_num, by omega, rfl, HC, B⟩
            case measure => have := HGK.out; omega
          · have cl := HC.out.at (i := 6) rfl
            have e0 : ((⟨#[202, 175]⟩ : ByteArray).toList == (⟨#[95]⟩ : ByteArray).toList) = false := by decide +kernel
            have e1 : ((⟨#[202, 175]⟩ : ByteArray).toList == (⟨#[48]⟩ : ByteArray).toList) = false := by decide +kernel
            have e2 : ((⟨#[202, 175]⟩ : ByteArray).toList == (⟨#[57]⟩ : ByteArray).toList) = false := by decide +kernel
            have e3 : ((⟨#[202, 175]⟩ : ByteArray).toList == (⟨#[55]⟩ : ByteArray).toList) = false := by decide +kernel
            have hc1 : ¬ (9223372036854775807 < (runT h i).size + (⟨#[202, 175]⟩ : ByteArray).size) := by show ¬ (_ < _ + 2); omega
            have hc2 : ¬ (9223372036854775807 < (numT h i).size + (⟨#[202, 175]⟩ : ByteArray).size) := by show ¬ (_ < _ + 2); omega
            have q6 : ((6 : Nat) : Int) = 6 := rfl
            rw [q6] at gm
            have NN : Hid (numT h (i + 1) = numT h i) := hid (HO.out (by decide))
            clear hsr hsn HY HO hj q6
            go_wp2
            go_roundg (n1 - (i + 1))
            case rel => exact ⟨i + 1, by rw [HN.out]; rfl, by rw [NN.out], by first | rfl | go_num, by omega, rfl, HC, B⟩
            case measure => have := HGK.out; omega
          · have cl := HC.out.at (i := 7) rfl
            have e0 : ((⟨#[205, 191]⟩ : ByteArray).toList == (⟨#[95]⟩ : ByteArray).toList) = false := by decide +kernel
            have e1 : ((⟨#[205, 191]⟩ : ByteArray).toList == (⟨#[48]⟩ : ByteArray).toList) = false := by decide +kernel
            have e2 : ((⟨#[205, 191]⟩ : ByteArray).toList == (⟨#[57]⟩ : ByteArray).toList) = false := by decide +kernel
            have e3 : ((⟨#[205, 191]⟩ : ByteArray).toList == (⟨#[55]⟩ : ByteArray).toList) = false := by decide +kernel
            have hc1 : ¬ (9223372036854775807 < (runT h i).size + (⟨#[205, 191]⟩ : ByteArray).size) := by show ¬ (_ < _ + 2); omega
            have hc2 : ¬ (9223372036854775807 < (numT h i).size + (⟨#[205, 191]⟩ : ByteArray).size) := by show ¬ (_ < _ + 2); omega
            have q7 : ((7 : Nat) : Int) = 7 := rfl
            rw [q7] at gm
            have NN : Hid (numT h (i + 1) = numT h i) := hid (HO.out (by decide))
            clear hsr hsn HY HO hj q7
            go_wp2
            go_roundg (n1 - (i + 1))
            case rel => exact ⟨i + 1, by rw [HN.out]; rfl, by rw [NN.out], by first | rfl | go_num, by omega, rfl, HC, B⟩
            case measure => have := HGK.out; omega
          · have cl := HC.out.at (i := 8) rfl
            have e0 : ((⟨#[207, 191]⟩ : ByteArray).toList == (⟨#[95]⟩ : ByteArray).toList) = false := by decide +kernel
            have e1 : ((⟨#[207, 191]⟩ : ByteArray).toList == (⟨#[48]⟩ : ByteArray).toList) = false := by decide +kernel
            have e2 : ((⟨#[207, 191]⟩ : ByteArray).toList == (⟨#[57]⟩ : ByteArray).toList) = false := by decide +kernel
            have e3 : ((⟨#[207, 191]⟩ : ByteArray).toList == (⟨#[55]⟩ : ByteArray).toList) = false := by decide +kernel
            have hc1 : ¬ (9223372036854775807 < (runT h i).size + (⟨#[207, 191]⟩ : ByteArray).size) := by show ¬ (_ < _ + 2); omega
            have hc2 : ¬ (9223372036854775807 < (numT h i).size + (⟨#[207, 191]⟩ : ByteArray).size) := by show ¬ (_ < _ + 2); omega
            have q8 : ((8 : Nat) : Int) = 8 := rfl
            rw [q8] at gm
            have NN : Hid (numT h (i + 1) = numT h i) := hid (HO.out (by decide))
            clear hsr hsn HY HO hj q8
            go_wp2
            go_roundg (n1 - (i + 1))
            case rel => exact ⟨i + 1, by rw [HN.out]; rfl, by rw [NN.out], by first | rfl | go_num, by omega, rfl, HC, B⟩
            case measure => have := HGK.out; omega
          · have cl := HC.out.at (i := 9) rfl
            have e0 : ((⟨#[55]⟩ : ByteArray).toList == (⟨#[95]⟩ : ByteArray).toList) = false := by decide +kernel
            have e1 : ((⟨#[55]⟩ : ByteArray).toList == (⟨#[48]⟩ : ByteArray).toList) = false := by decide +kernel
            have e2 : ((⟨#[55]⟩ : ByteArray).toList == (⟨#[57]⟩ : ByteArray).toList) = false := by decide +kernel
            have e3 : ((⟨#[55]⟩ : ByteArray).toList == (⟨#[55]⟩ : ByteArray).toList) = true := by decide +kernel
            have hc1 : ¬ (9223372036854775807 < (runT h i).size + (⟨#[55]⟩ : ByteArray).size) := by show ¬ (_ < _ + 1); omega
            have hc2 : ¬ (9223372036854775807 < (numT h i).size + (⟨#[55]⟩ : ByteArray).size) := by show ¬ (_ < _ + 1); omega
            have q9 : ((9 : Nat) : Int) = 9 := rfl
            rw [q9] at gm
            have NN : Hid (numT h (i + 1) = numT h i ++ letB 9) := hid (HY.out (by decide))
            clear hsr hsn HY HO hj q9
            go_wp2
            go_roundg (n1 - (i + 1))
            case rel => exact ⟨i + 1, by rw [HN.out]; rfl, by rw [NN.out]; rfl, by first | rfl | go_num, by omega, rfl, HC, B⟩
            case measure => have := HGK.out; omega
        · have hlt2 : ¬ (i : Int) < (n1 : Int) := by omega
          obtain rfl : i = n1 := by omega
          clear HGK hlt hi HP HP2
          have hr1 := runT_size h i
          have hhj : ∀ j, h j < 10 := fun j => by rw [← HH.out j]; omega
          have hn1 : (numT h i).size ≤ i := by rw [numT_len hhj]; exact numL_len h i
          have T1 := hid (runs_name (f := f) hhj k i)
          have T2 := hid (runs_ff (f := f) hhj k i)
          have T3 : Hid (gP (one1 ++ numT h i) = 0 → Tkn (padT f k ++ one1 ++ numT h i) gP 0 1 [⟨1, one1 ++ numT h i, ((k + 1 : Nat) : Int)⟩] 0 0) := hid fun q => runs_num (f := f) hhj k i q
          have NT := hid (numT_num hhj i)
          clear hhj HH
          obtain ⟨P, hP⟩ : ∃ P, padT f k = P := ⟨_, rfl⟩
          obtain ⟨R, hR⟩ : ∃ R, runT h i = R := ⟨_, rfl⟩
          obtain ⟨N, hN⟩ : ∃ N, numT h i = N := ⟨_, rfl⟩
          rw [hP] at hps T1 T2 T3
          rw [hR] at hr1 T1
          rw [hN] at hn1 T2 T3 NT
          rw [hP, hR, hN]
          clear hP hR hN HC
          unfold x1 sp1 at T1
          unfold one1 spff at T2
          unfold one1 at T3 NT
          have PT1 : Hid (∀ w, MaxL w → Calls Tryd.prog 6 #[.string (P ++ ⟨#[120]⟩ ++ R ++ ⟨#[32]⟩)] w (TokD (P ++ ⟨#[120]⟩ ++ R ++ ⟨#[32]⟩) gP w)) := hid fun w h => tokens25p w h (by rw [app_size, app_size, app_size]; show _ + 1 + _ + 1 ≤ _; omega) (grP_own _)
          have PT2 : Hid (∀ w, MaxL w → Calls Tryd.prog 6 #[.string (P ++ ⟨#[49]⟩ ++ N ++ ⟨#[32, 255]⟩)] w (TokD (P ++ ⟨#[49]⟩ ++ N ++ ⟨#[32, 255]⟩) gP w)) := hid fun w h => tokens25p w h (by rw [app_size, app_size, app_size]; show _ + 1 + _ + 2 ≤ _; omega) (grP_own _)
          have PT3 : Hid (∀ w, MaxL w → Calls Tryd.prog 6 #[.string (P ++ ⟨#[49]⟩ ++ N)] w (TokD (P ++ ⟨#[49]⟩ ++ N) gP w)) := hid fun w h => tokens25p w h (by rw [app_size, app_size]; show _ + 1 + _ ≤ _; omega) (grP_own _)
          have PR : Hid (∀ w, Sg w → Calls Tryd.prog 10 #[.string (⟨#[49]⟩ ++ N)] w fun e w' => ∃ v, e = .returned (.tuple #[v, .int .i64 (gP (⟨#[49]⟩ ++ N))]) ∧ Below w.heap.size w w') := hid fun w h => readG25 NT.out (by rw [app_size]; show 1 + _ ≤ _; omega) h
          unfold TokD at PT1 PT2 PT3
          have ha1 : ¬ (9223372036854775807 < P.size + (⟨#[120]⟩ : ByteArray).size) := by show ¬ (_ < _ + 1); omega
          have ha2 : ¬ (9223372036854775807 < (P ++ ⟨#[120]⟩).size + R.size) := by rw [app_size]; show ¬ (_ < _ + 1 + _); omega
          have ha3 : ¬ (9223372036854775807 < (P ++ ⟨#[120]⟩ ++ R).size + (⟨#[32]⟩ : ByteArray).size) := by rw [app_size, app_size]; show ¬ (_ < _ + 1 + _ + 1); omega
          have ha4 : ¬ (9223372036854775807 < (⟨#[120]⟩ : ByteArray).size + R.size) := by show ¬ (_ < 1 + _); omega
          have ha5 : ¬ (9223372036854775807 < (⟨#[49]⟩ : ByteArray).size + N.size) := by show ¬ (_ < 1 + _); omega
          have ha6 : ¬ (9223372036854775807 < P.size + (⟨#[49]⟩ : ByteArray).size) := by show ¬ (_ < _ + 1); omega
          have ha7 : ¬ (9223372036854775807 < (P ++ ⟨#[49]⟩).size + N.size) := by rw [app_size]; show ¬ (_ < _ + 1 + _); omega
          have ha8 : ¬ (9223372036854775807 < (P ++ ⟨#[49]⟩ ++ N).size + (⟨#[32, 255]⟩ : ByteArray).size) := by rw [app_size, app_size]; show ¬ (_ < _ + 1 + _ + 2); omega
          have gr : IntKind.i64.wrap ((R.size : Int) + 1) = ((R.size + 1 : Nat) : Int) := by rw [wrap_is] <;> omega
          have gk : IntKind.i64.wrap ((k : Int) + 1) = ((k + 1 : Nat) : Int) := by rw [wrap_is] <;> omega
          have gn : IntKind.i64.wrap ((k : Int) + (N.size : Int)) = (k : Int) + (N.size : Int) := by rw [wrap_is] <;> omega
          have gm : IntKind.i64.wrap ((k : Int) + (N.size : Int) + 3) = ((k + N.size + 3 : Nat) : Int) := by rw [wrap_is] <;> omega
          have B3 := B
          clear B hps hr1 hn1 NT
          go_wp2_with fail
          refine (PT1.out _ (MX.out _ B3.out)).mono ?_
          rintro e w3 ⟨v3, L3, a3, e3, rfl, t3, k3, b3⟩
          obtain ⟨q1, q2, q3⟩ := tkn_one t3 T1.out
          clear T1 PT1 t3
          have B4 := hid (below_on25 B3.out b3)
          by_cases q : 32 < R.size + 1
          · rw [if_pos q] at q1 q2 q3
            subst q1 q2 q3
            have q' : (32 : Int) < ((R.size + 1 : Nat) : Int) := by omega
            obtain ⟨aa3, cc3, rfl⟩ := k3.form
            simp only [List.length_nil] at k3 ⊢
            have B5 := B4
            clear k3 b3 B4 B3 q
            go_wp2_with fail
            refine (PR.out _ (ST.out.now B5.out)).mono ?_
            rintro e w6 ⟨vr, rfl, b6⟩
            have B6 := hid (below_on25 B5.out b6)
            clear b6 B5 PR
            obtain ⟨F, hF⟩ : ∃ F, gP (⟨#[49]⟩ ++ N) = F := ⟨_, rfl⟩
            have hF2 := gP_two (⟨#[49]⟩ ++ N)
            rw [hF] at hF2 T2 T3
            rw [hF]
            clear hF
            go_wp2_with fail
            refine (PT2.out _ (MX.out _ B6.out)).mono ?_
            rintro e w7 ⟨v7, L7, a7, e7, rfl, t7, k7, b7⟩
            obtain ⟨q1, q2, q3⟩ := tkn_one t7 T2.out
            have B7 := hid (below_on25 B6.out b7)
            clear T2 PT2 t7 b7 B6
            subst q1
            obtain ⟨aa7, cc7, rfl⟩ := k7.form
            simp only [List.length_nil] at k7 ⊢
            clear k7
            rcases hF2 with rfl | rfl
            · rw [if_pos rfl] at q2 q3
              subst q2 q3
              have T4 := hid (T3.out rfl)
              clear T3
              go_wp2_with fail
              refine (PT3.out _ (MX.out _ B7.out)).mono ?_
              rintro e w8 ⟨v8, L8, a8, e8, rfl, t8, k8, b8⟩
              obtain ⟨q1, q2, q3⟩ := tkn_one t8 T4.out
              have B8 := hid (below_on25 B7.out b8)
              clear T4 PT3 t8 b8 B7
              subst q1 q2 q3
              have K8 := hid k8
              clear k8
              have K9 := hid (K8.out.now ((Below.refl w8.heap.size w8).alloc (Nat.le_refl _) (.cells #[.int .i64 1, .string (⟨#[49]⟩ ++ N), .int .i64 ((k + 1 : Nat) : Int)] 30)))
              have K10 := hid (toks_one w8 1 (⟨#[49]⟩ ++ N) ((k + 1 : Nat) : Int))
              have B9 := hid (B8.out.alloc B8.out.size (.cells #[.int .i64 1, .string (⟨#[49]⟩ ++ N), .int .i64 ((k + 1 : Nat) : Int)] 30))
              clear K8 B8
              go_wp2_with fail
              refine (tokens25 K9.out K10.out (by simp)).mono ?_
              rintro e w10 ⟨rfl, n10, rfl⟩
              clear K9 K10
              go_wp2
              go_ret
              exact ⟨rfl, below_dr25 n10 B9.out⟩
            · rw [if_neg (by decide)] at q2 q3
              subst q2 q3
              clear T3 PT3
              go_wp2
              go_ret
              exact ⟨rfl, B7.out⟩
          · rw [if_neg q] at q1 q2 q3
            subst q1 q2 q3
            have q' : ¬ (32 : Int) < ((R.size + 1 : Nat) : Int) := by omega
            have K3 := hid k3
            clear k3 b3 B3 q
            have K4 := hid (K3.out.now ((Below.refl w3.heap.size w3).alloc (Nat.le_refl _) (.cells #[.int .i64 2, .string (⟨#[120]⟩ ++ R), .int .i64 ((k + 1 : Nat) : Int)] 30)))
            have K5 := hid (toks_one w3 2 (⟨#[120]⟩ ++ R) ((k + 1 : Nat) : Int))
            have B4a := hid (B4.out.alloc B4.out.size (.cells #[.int .i64 2, .string (⟨#[120]⟩ ++ R), .int .i64 ((k + 1 : Nat) : Int)] 30))
            clear K3 B4
            go_wp2_with fail
            refine (tokens25 K4.out K5.out (by simp)).mono ?_
            rintro e w5 ⟨rfl, n5, rfl⟩
            have B5 := hid (below_dr25 n5 B4a.out)
            clear K4 K5 B4a
            go_wp2_with fail
            refine (PR.out _ (ST.out.now B5.out)).mono ?_
            rintro e w6 ⟨vr, rfl, b6⟩
            have B6 := hid (below_on25 B5.out b6)
            clear b6 B5 PR
            obtain ⟨F, hF⟩ : ∃ F, gP (⟨#[49]⟩ ++ N) = F := ⟨_, rfl⟩
            have hF2 := gP_two (⟨#[49]⟩ ++ N)
            rw [hF] at hF2 T2 T3
            rw [hF]
            clear hF
            go_wp2_with fail
            refine (PT2.out _ (MX.out _ B6.out)).mono ?_
            rintro e w7 ⟨v7, L7, a7, e7, rfl, t7, k7, b7⟩
            obtain ⟨q1, q2, q3⟩ := tkn_one t7 T2.out
            have B7 := hid (below_on25 B6.out b7)
            clear T2 PT2 t7 b7 B6
            subst q1
            obtain ⟨aa7, cc7, rfl⟩ := k7.form
            simp only [List.length_nil] at k7 ⊢
            clear k7
            rcases hF2 with rfl | rfl
            · rw [if_pos rfl] at q2 q3
              subst q2 q3
              have T4 := hid (T3.out rfl)
              clear T3
              go_wp2_with fail
              refine (PT3.out _ (MX.out _ B7.out)).mono ?_
              rintro e w8 ⟨v8, L8, a8, e8, rfl, t8, k8, b8⟩
              obtain ⟨q1, q2, q3⟩ := tkn_one t8 T4.out
              have B8 := hid (below_on25 B7.out b8)
              clear T4 PT3 t8 b8 B7
              subst q1 q2 q3
              have K8 := hid k8
              clear k8
              have K9 := hid (K8.out.now ((Below.refl w8.heap.size w8).alloc (Nat.le_refl _) (.cells #[.int .i64 1, .string (⟨#[49]⟩ ++ N), .int .i64 ((k + 1 : Nat) : Int)] 30)))
              have K10 := hid (toks_one w8 1 (⟨#[49]⟩ ++ N) ((k + 1 : Nat) : Int))
              have B9 := hid (B8.out.alloc B8.out.size (.cells #[.int .i64 1, .string (⟨#[49]⟩ ++ N), .int .i64 ((k + 1 : Nat) : Int)] 30))
              clear K8 B8
              go_wp2_with fail
              refine (tokens25 K9.out K10.out (by simp)).mono ?_
              rintro e w10 ⟨rfl, n10, rfl⟩
              clear K9 K10
              go_wp2
              go_ret
              exact ⟨rfl, below_dr25 n10 B9.out⟩
            · rw [if_neg (by decide)] at q2 q3
              subst q2 q3
              clear T3 PT3
              go_wp2
              go_ret
              exact ⟨rfl, B7.out⟩
end Go.Proofs.YtdfnehngffajiabDoor
