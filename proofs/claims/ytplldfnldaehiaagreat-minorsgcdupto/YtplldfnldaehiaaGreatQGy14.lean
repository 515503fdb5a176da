import Derived.Test.YtplldfnldaehiaaGreatQGh14
set_option maxRecDepth 100000
set_option maxHeartbeats 6400000
set_option linter.unusedVariables false
set_option linter.unusedSimpArgs false
namespace Go.Proofs.YtplldfnldaehiaaGreat
open Go.RowKit
theorem minorsGcd_any {w : World} {va : Value} {ra ca kv iv jv : Int} {la : Nat} {xs : List Int} (ha : Raw w va ra ca la xs) :
  Calls Tryz.prog 4 #[va, .int .i64 kv, .int .i64 iv, .int .i64 jv] w (Tru w) := by
 by_cases hsa : Snd ra ca la
 ·obtain ⟨r, c, rfl, rfl⟩ := snd13 hsa
  obtain ⟨ma, hla⟩ := ha.mx13 hsa; have hxl : xs.length = r * c := by obtain ⟨_, _, _, _, _, h, _⟩ := ma; exact h
  subst hla
  by_cases hk : kv < 0 ∨ (r : Int) < kv ∨ (c : Int) < kv
  ·exact mgc_arg ma hsa hk
  ·obtain ⟨k, rfl⟩ : ∃ k : Nat, kv = (k : Int) := ⟨kv.toNat, by omega⟩
   have hkr : k ≤ r := by omega
   have hkc : k ≤ c := by omega
   by_cases hb : 4096 < cho r k * cho c k
   ·exact zMG ma (by decide) hsa hkr hkc hb
   ·exact mgc_yes ma (by decide) hxl hsa hkr hkc (by omega)
 ·exact mgc_un ha hsa
end Go.Proofs.YtplldfnldaehiaaGreat
