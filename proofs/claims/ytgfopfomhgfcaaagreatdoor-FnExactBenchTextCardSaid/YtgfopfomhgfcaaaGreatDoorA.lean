/- WALKS: the small functions of numbers. -/
import Derived.Test.YtgfopfomhgfcaaaGreatDoorProg
import Derived.Test.YtgfopfomhgfcaaaGreatDoorMath
import Derived.WalkKit
import Derived.WalkSpells
import Derived.WalkLawsBesides
import Derived.Handy
import Derived.BigQuiet
import Derived.Deep.QuietTactic
namespace Go.Proofs.YtgfopfomhgfcaaaGreatDoor
open Go.RowKit

theorem hid {p : Prop} (h : p) : Hid p := h

theorem ret_int {k : IntKind} {a b : Int} (h : a = b) : Ending.returned (.int k a) = .returned (.int k b) := by rw [h]

def inB (n lo hi : Int) : Bool := decide (lo ≤ n) && decide (n ≤ hi)

set_option maxHeartbeats 400000 in
/-- spec.l00In -/
theorem in_any (n lo hi : Int) (w : World) :
    Calls Tryz.prog 54 #[.int .i64 n, .int .i64 lo, .int .i64 hi] w fun e w' => e = .returned (.bool (inB n lo hi)) ∧ w = w' := by
  unfold inB
  by_cases h1 : lo ≤ n
  · go_enter Tryz.func54, Tryz.ntmps54
    go_wp2
    go_ret
    exact ⟨by simp [h1], rfl⟩
  · have e : decide (lo ≤ n) = false := by simpa using h1
    rw [e]
    go_enter Tryz.func54, Tryz.ntmps54
    go_wp2
    go_ret
    exact ⟨by simp, rfl⟩

set_option maxHeartbeats 400000 in
/-- spec.l01Gcd -/
theorem gcd_any (a b : Int) (w : World) (ha : 0 ≤ a) (ha' : a ≤ 9223372036854775807) (hb : 0 ≤ b) (hb' : b ≤ 9223372036854775807) :
    Calls Tryz.prog 125 #[.int .i64 a, .int .i64 b] w fun e w' => e = .returned (.int .i64 (Int.gcd a b)) ∧ w = w' := by
  go_enter Tryz.func125, Tryz.ntmps125
  go_wp2
  go_loop [0, 1] (fun x y => ∃ a' b' : Int, 0 ≤ a' ∧ a' ≤ 9223372036854775807 ∧ 0 ≤ b' ∧ b' ≤ 9223372036854775807 ∧ Int.gcd a' b' = Int.gcd a b ∧ x = .int .i64 a' ∧ y = .int .i64 b') (fun _ y => (intOf y).toNat)
  case atStart => exact ⟨a, b, ha, ha', hb, hb', rfl, rfl, rfl⟩
  case round =>
    obtain ⟨a', b', h1, h2, h3, h4, h5, rfl, rfl⟩ := hrel
    have H5 := hid h5; clear h5
    by_cases hz : b' = 0
    · subst hz
      go_wp2
      go_ret
      exact ⟨by rw [← H5.out, Int.gcd_zero_right]; simp [Int.natAbs_of_nonneg h1], rfl⟩
    · have hlt : a' % b' < b' := Int.emod_lt_of_pos _ (by omega)
      have hge : 0 ≤ a' % b' := Int.emod_nonneg _ (by omega)
      go_wp2
      go_round
      case rel => exact ⟨b', a' % b', by omega, by omega, by omega, by omega, by rw [← H5.out, gcd_emod _ _ h1], rfl, rfl⟩
      case measure => simp [intOf]; omega

set_option maxHeartbeats 400000 in
/-- spec.l01Abs -/
theorem abs_any (n : Int) (w : World) (h1 : -9223372036854775807 ≤ n) (h2 : n ≤ 9223372036854775807) :
    Calls Tryz.prog 90 #[.int .i64 n] w fun e w' => e = .returned (.int .i64 (n.natAbs : Int)) ∧ w = w' := by
  by_cases h : n < 0
  · go_enter Tryz.func90, Tryz.ntmps90
    go_wp2
    go_ret
    exact ⟨ret_int (by omega), rfl⟩
  · go_enter Tryz.func90, Tryz.ntmps90
    go_wp2
    go_ret
    exact ⟨ret_int (by omega), rfl⟩

set_option maxHeartbeats 400000 in
/-- impl.commonDivisor -/
theorem cd_any (p q : Int) (w : World) (h1 : -9223372036854775807 ≤ p) (h2 : p ≤ 9223372036854775807) (h3 : -9223372036854775807 ≤ q) (h4 : q ≤ 9223372036854775807) :
    Calls Tryz.prog 123 #[.int .i64 p, .int .i64 q] w fun e w' => e = .returned (.int .i64 (Int.gcd p q)) ∧ w = w' := by
  go_enter Tryz.func123, Tryz.ntmps123
  go_wp2
  go_loop [0, 1] (fun x y => ∃ a b : Int, -9223372036854775807 ≤ a ∧ a ≤ 9223372036854775807 ∧ -9223372036854775807 ≤ b ∧ b ≤ 9223372036854775807 ∧ Int.gcd a b = Int.gcd p q ∧ x = .int .i64 a ∧ y = .int .i64 b) (fun x _ => (intOf x).natAbs)
  case atStart => exact ⟨p, q, h1, h2, h3, h4, rfl, rfl, rfl⟩
  case round =>
    obtain ⟨a, b, g1, g2, g3, g4, g5, rfl, rfl⟩ := hrel
    have H5 := hid g5; clear g5
    by_cases hz : a = 0
    · subst hz
      go_wp2
      all_goals (go_ret; exact ⟨ret_int (by rw [← H5.out, Int.gcd_zero_left]; omega), rfl⟩)
    · have hlt : (b.tmod a).natAbs < a.natAbs := tmod_lt a b hz
      have k1 : -9223372036854775807 ≤ b.tmod a := by omega
      have k2 : b.tmod a ≤ 9223372036854775807 := by omega
      have K := hid hlt; clear hlt
      go_wp2
      go_round
      case rel => exact ⟨b.tmod a, a, by omega, by omega, by omega, by omega, by rw [← H5.out]; exact gcd_tmod a b, rfl, rfl⟩
      case measure => simp [intOf]; exact Nat.mod_lt _ (by omega)
end Go.Proofs.YtgfopfomhgfcaaaGreatDoor
