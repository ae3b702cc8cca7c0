/- WALKS: a predicate over a slice of integers: slices.IndexFunc, slices.ContainsFunc. -/
import Derived.Test.YtpadjkgbeijkpaaJ
namespace Go.Proofs.Ytpadjkgbeijkpaa
open Go.RowKit Go.Sort

/-! a predicate over a slice of integers -/
set_option maxRecDepth 20000 in
set_option maxHeartbeats 1000000 in
theorem iIndexP (F : Nat) (f : Int → Bool) (A : Option Addr) (c : Nat) (xs : List Int) (w : World) (X : Hid (RdI w A xs)) (hn : xs.length ≤ 1048576)
    (hen : ∀ s w, (callFunc F #[.int .i64 s]).run Try.prog w = .ok (.enter F #[.int .i64 s]) w) (hF : ∀ s w, Calls Try.prog F #[.int .i64 s] w fun e w' => e = .returned (.bool (!f s)) ∧ w = w') :
    Calls Try.prog 158 #[.slice A xs.length c, .func (.func F) #[] #[]] w fun e w' => (∃ r : Int, e = .returned (.int .i64 r) ∧ decide (0 ≤ r) = !xs.all f) ∧ w = w' := by
  have HF := hid hF; clear hF
  go_enter Try.func158, Try.ntmps158
  go_wp2_with fail
  go_loopw [8] (fun u wr => ∃ (k : Nat), u = .int .i64 (k : Int) ∧ k ≤ xs.length ∧ (xs.take k).all f = true ∧ wr = w) (fun u _ => xs.length - (intOf u).toNat)
  case atStart => exact ⟨0, rfl, by omega, by simp, by simp⟩
  case round =>
    obtain ⟨k, rfl, hk, ha, rfl⟩ := hrel
    have HA := hid ha; clear ha
    by_cases hlt : k < xs.length
    · obtain ⟨p, hp⟩ : ∃ p, xs[k]? = some p := ⟨xs[k], List.getElem?_eq_getElem _⟩
      obtain ⟨ad, rfl, c1⟩ := X.out k p hp
      have HP := hid hp; clear hp
      cases hx : f p with
      | true =>
        have HX := hid hx
        go_wp2_with fail
        refine (HF.out _ _).mono ?_
        rintro e w1 ⟨rfl, rfl⟩
        rw [HX.out]
        go_wp2_with fail
        exact ⟨⟨k + 1, by simp, by omega, allI_take HP.out HA.out HX.out, by simp⟩, by simp [intOf]; omega⟩
      | false =>
        have HX := hid hx
        go_wp2_with fail
        refine (HF.out _ _).mono ?_
        rintro e w1 ⟨rfl, rfl⟩
        rw [HX.out]
        go_wp2_with fail
        go_ret
        exact ⟨⟨_, rfl, by rw [allI_not HP.out HX.out]; simp⟩, rfl⟩
    · have hke : k = xs.length := by omega
      have hall : xs.all f = true := by have := HA.out; rwa [hke, List.take_length] at this
      have HALL := hid hall; clear hall hke
      go_wp2_with fail
      go_ret
      exact ⟨⟨_, rfl, by rw [HALL.out]; simp⟩, by simp⟩
set_option maxRecDepth 20000 in
set_option maxHeartbeats 1000000 in
theorem iContP (F : Nat) (f : Int → Bool) (A : Option Addr) (c : Nat) (xs : List Int) (w : World) (X : Hid (RdI w A xs)) (hn : xs.length ≤ 1048576)
    (hen : ∀ s w, (callFunc F #[.int .i64 s]).run Try.prog w = .ok (.enter F #[.int .i64 s]) w) (hF : ∀ s w, Calls Try.prog F #[.int .i64 s] w fun e w' => e = .returned (.bool (!f s)) ∧ w = w') :
    Calls Try.prog 125 #[.slice A xs.length c, .func (.func F) #[] #[]] w fun e w' => e = .returned (.bool (!xs.all f)) ∧ w = w' := by
  have HI := hid (iIndexP F f A c xs w X hn hen hF); clear hen hF
  go_enter Try.func125, Try.ntmps125
  go_wp2_with fail
  refine HI.out.mono ?_
  rintro e w1 ⟨⟨r, rfl, hr⟩, rfl⟩
  have HR := hid hr; clear hr
  go_wp2_with fail
  go_ret
  exact ⟨ret_bool (by rw [← HR.out]), rfl⟩
end Go.Proofs.Ytpadjkgbeijkpaa
