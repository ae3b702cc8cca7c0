/- WALKS: spans of sums and differences: the reference's. -/
import Derived.Test.YtjcebojmfoppaaaQ
import Derived.Test.YtjcebojmfoppaaaI
namespace Go.Proofs.Ytjcebojmfoppaaa
open Go.RowKit Go.Sort

set_option maxRecDepth 20000 in
set_option maxHeartbeats 400000 in
theorem sboth_ok (p q p' q' : Int) (w : World) :
    Calls Try.prog 71 #[fr p q, .int .i64 0, fr p' q', .int .i64 0] w fun e w' => e = .returned (.tuple #[sp p q p' q', .int .i64 0]) ∧ Gr w w' := by
  go_enter Try.func71, Try.ntmps71
  go_wp2
  refine bodyPost_ret (v := .tuple #[sp p q p' q', .int .i64 0]) (by simp [results, Try.results71, go_sem, *]) rfl ⟨rfl, ?_⟩
  exact ((((Gr.refl _)).al _).al _).al _
set_option maxRecDepth 20000 in
set_option maxHeartbeats 400000 in
theorem sboth_n1 (p q p' q' c : Int) (w : World) :
    Calls Try.prog 71 #[fr p q, .int .i64 3, fr p' q', .int .i64 c] w fun e w' => e = .returned (.tuple #[sp 0 0 0 0, .int .i64 3]) ∧ Gr w w' := by
  go_enter Try.func71, Try.ntmps71
  go_wp2
  refine bodyPost_ret (v := .tuple #[sp 0 0 0 0, .int .i64 3]) (by simp [results, Try.results71, go_sem, *]) rfl ⟨rfl, ?_⟩
  exact ((((Gr.refl _)).al _).al _).al _
set_option maxRecDepth 20000 in
set_option maxHeartbeats 400000 in
theorem sboth_n2 (p q p' q' : Int) (w : World) :
    Calls Try.prog 71 #[fr p q, .int .i64 0, fr p' q', .int .i64 3] w fun e w' => e = .returned (.tuple #[sp 0 0 0 0, .int .i64 3]) ∧ Gr w w' := by
  go_enter Try.func71, Try.ntmps71
  go_wp2
  refine bodyPost_ret (v := .tuple #[sp 0 0 0 0, .int .i64 3]) (by simp [results, Try.results71, go_sem, *]) rfl ⟨rfl, ?_⟩
  exact ((((Gr.refl _)).al _).al _).al _

/-- What two sums tell together. -/
def bV (n1 d1 n2 d2 : Int) : Value := if okB (redP n1 d1) (redQ n1 d1) && okB (redP n2 d2) (redQ n2 d2) then .tuple #[sp (redP n1 d1) (redQ n1 d1) (redP n2 d2) (redQ n2 d2), .int .i64 0] else .tuple #[sp 0 0 0 0, .int .i64 3]
theorem sboth_any (n1 d1 n2 d2 : Int) (w : World) :
    Calls Try.prog 71 #[fr (rP n1 d1) (rQ n1 d1), .int .i64 (rC n1 d1), fr (rP n2 d2) (rQ n2 d2), .int .i64 (rC n2 d2)] w fun e w' => e = .returned (bV n1 d1 n2 d2) ∧ Gr w w' := by
  unfold bV rP rQ rC
  cases h1 : okB (redP n1 d1) (redQ n1 d1) with
  | false => exact sboth_n1 _ _ _ _ _ w
  | true =>
    cases h2 : okB (redP n2 d2) (redQ n2 d2) with
    | false => exact sboth_n2 _ _ _ _ w
    | true => exact sboth_ok _ _ _ _ w
theorem bV_form (n1 d1 n2 d2 : Int) : ∃ p q p' q' c : Int, bV n1 d1 n2 d2 = .tuple #[sp p q p' q', .int .i64 c] := by
  unfold bV; split <;> exact ⟨_, _, _, _, _, rfl⟩
end Go.Proofs.Ytjcebojmfoppaaa
