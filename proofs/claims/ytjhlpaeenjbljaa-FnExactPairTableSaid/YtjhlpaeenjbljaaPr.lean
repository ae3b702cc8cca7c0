/- WALKS: the observation of two numbers, of the program and of the reference. -/
import Derived.Test.YtjhlpaeenjbljaaOb
namespace Go.Proofs.Ytjhlpaeenjbljaa
open Go.RowKit Go.Sort

def cfO (i k j : Nat) : Int := if j = k then -1 else if j = i then 1 else 0
def pairO (i k : Nat) (p q : Int) : Obv := ⟨cfO i k 0, cfO i k 1, cfO i k 2, cfO i k 3, cfO i k 4, cfO i k 5, p, q, 1⟩
set_option maxRecDepth 20000 in
set_option maxHeartbeats 400000 in
theorem iPair0_1 (p q : Int) (w : World) :
    Calls Try.prog 136 #[.int .i64 0, .int .i64 1, fr p q] w fun e w' => e = .returned (vO (pairO 0 1 p q)) ∧ Gr w w' := by
  go_enter Try.func136, Try.ntmps136
  go_wp2
  refine bodyPost_ret (v := vO (pairO 0 1 p q)) (by simp [results, Try.results136, go_sem, pairO, cfO]) rfl ⟨rfl, ?_⟩
  exact (((Gr.refl _).al _).al _).al _
set_option maxRecDepth 20000 in
set_option maxHeartbeats 400000 in
theorem iPair0_2 (p q : Int) (w : World) :
    Calls Try.prog 136 #[.int .i64 0, .int .i64 2, fr p q] w fun e w' => e = .returned (vO (pairO 0 2 p q)) ∧ Gr w w' := by
  go_enter Try.func136, Try.ntmps136
  go_wp2
  refine bodyPost_ret (v := vO (pairO 0 2 p q)) (by simp [results, Try.results136, go_sem, pairO, cfO]) rfl ⟨rfl, ?_⟩
  exact (((Gr.refl _).al _).al _).al _
set_option maxRecDepth 20000 in
set_option maxHeartbeats 400000 in
theorem iPair0_3 (p q : Int) (w : World) :
    Calls Try.prog 136 #[.int .i64 0, .int .i64 3, fr p q] w fun e w' => e = .returned (vO (pairO 0 3 p q)) ∧ Gr w w' := by
  go_enter Try.func136, Try.ntmps136
  go_wp2
  refine bodyPost_ret (v := vO (pairO 0 3 p q)) (by simp [results, Try.results136, go_sem, pairO, cfO]) rfl ⟨rfl, ?_⟩
  exact (((Gr.refl _).al _).al _).al _
set_option maxRecDepth 20000 in
set_option maxHeartbeats 400000 in
theorem iPair0_4 (p q : Int) (w : World) :
    Calls Try.prog 136 #[.int .i64 0, .int .i64 4, fr p q] w fun e w' => e = .returned (vO (pairO 0 4 p q)) ∧ Gr w w' := by
  go_enter Try.func136, Try.ntmps136
  go_wp2
  refine bodyPost_ret (v := vO (pairO 0 4 p q)) (by simp [results, Try.results136, go_sem, pairO, cfO]) rfl ⟨rfl, ?_⟩
  exact (((Gr.refl _).al _).al _).al _
set_option maxRecDepth 20000 in
set_option maxHeartbeats 400000 in
theorem iPair0_5 (p q : Int) (w : World) :
    Calls Try.prog 136 #[.int .i64 0, .int .i64 5, fr p q] w fun e w' => e = .returned (vO (pairO 0 5 p q)) ∧ Gr w w' := by
  go_enter Try.func136, Try.ntmps136
  go_wp2
  refine bodyPost_ret (v := vO (pairO 0 5 p q)) (by simp [results, Try.results136, go_sem, pairO, cfO]) rfl ⟨rfl, ?_⟩
  exact (((Gr.refl _).al _).al _).al _
set_option maxRecDepth 20000 in
set_option maxHeartbeats 400000 in
theorem iPair1_0 (p q : Int) (w : World) :
    Calls Try.prog 136 #[.int .i64 1, .int .i64 0, fr p q] w fun e w' => e = .returned (vO (pairO 1 0 p q)) ∧ Gr w w' := by
  go_enter Try.func136, Try.ntmps136
  go_wp2
  refine bodyPost_ret (v := vO (pairO 1 0 p q)) (by simp [results, Try.results136, go_sem, pairO, cfO]) rfl ⟨rfl, ?_⟩
  exact (((Gr.refl _).al _).al _).al _
set_option maxRecDepth 20000 in
set_option maxHeartbeats 400000 in
theorem iPair1_2 (p q : Int) (w : World) :
    Calls Try.prog 136 #[.int .i64 1, .int .i64 2, fr p q] w fun e w' => e = .returned (vO (pairO 1 2 p q)) ∧ Gr w w' := by
  go_enter Try.func136, Try.ntmps136
  go_wp2
  refine bodyPost_ret (v := vO (pairO 1 2 p q)) (by simp [results, Try.results136, go_sem, pairO, cfO]) rfl ⟨rfl, ?_⟩
  exact (((Gr.refl _).al _).al _).al _
set_option maxRecDepth 20000 in
set_option maxHeartbeats 400000 in
theorem iPair1_3 (p q : Int) (w : World) :
    Calls Try.prog 136 #[.int .i64 1, .int .i64 3, fr p q] w fun e w' => e = .returned (vO (pairO 1 3 p q)) ∧ Gr w w' := by
  go_enter Try.func136, Try.ntmps136
  go_wp2
  refine bodyPost_ret (v := vO (pairO 1 3 p q)) (by simp [results, Try.results136, go_sem, pairO, cfO]) rfl ⟨rfl, ?_⟩
  exact (((Gr.refl _).al _).al _).al _
set_option maxRecDepth 20000 in
set_option maxHeartbeats 400000 in
theorem iPair1_4 (p q : Int) (w : World) :
    Calls Try.prog 136 #[.int .i64 1, .int .i64 4, fr p q] w fun e w' => e = .returned (vO (pairO 1 4 p q)) ∧ Gr w w' := by
  go_enter Try.func136, Try.ntmps136
  go_wp2
  refine bodyPost_ret (v := vO (pairO 1 4 p q)) (by simp [results, Try.results136, go_sem, pairO, cfO]) rfl ⟨rfl, ?_⟩
  exact (((Gr.refl _).al _).al _).al _
set_option maxRecDepth 20000 in
set_option maxHeartbeats 400000 in
theorem iPair1_5 (p q : Int) (w : World) :
    Calls Try.prog 136 #[.int .i64 1, .int .i64 5, fr p q] w fun e w' => e = .returned (vO (pairO 1 5 p q)) ∧ Gr w w' := by
  go_enter Try.func136, Try.ntmps136
  go_wp2
  refine bodyPost_ret (v := vO (pairO 1 5 p q)) (by simp [results, Try.results136, go_sem, pairO, cfO]) rfl ⟨rfl, ?_⟩
  exact (((Gr.refl _).al _).al _).al _
set_option maxRecDepth 20000 in
set_option maxHeartbeats 400000 in
theorem iPair2_0 (p q : Int) (w : World) :
    Calls Try.prog 136 #[.int .i64 2, .int .i64 0, fr p q] w fun e w' => e = .returned (vO (pairO 2 0 p q)) ∧ Gr w w' := by
  go_enter Try.func136, Try.ntmps136
  go_wp2
  refine bodyPost_ret (v := vO (pairO 2 0 p q)) (by simp [results, Try.results136, go_sem, pairO, cfO]) rfl ⟨rfl, ?_⟩
  exact (((Gr.refl _).al _).al _).al _
set_option maxRecDepth 20000 in
set_option maxHeartbeats 400000 in
theorem iPair2_3 (p q : Int) (w : World) :
    Calls Try.prog 136 #[.int .i64 2, .int .i64 3, fr p q] w fun e w' => e = .returned (vO (pairO 2 3 p q)) ∧ Gr w w' := by
  go_enter Try.func136, Try.ntmps136
  go_wp2
  refine bodyPost_ret (v := vO (pairO 2 3 p q)) (by simp [results, Try.results136, go_sem, pairO, cfO]) rfl ⟨rfl, ?_⟩
  exact (((Gr.refl _).al _).al _).al _
set_option maxRecDepth 20000 in
set_option maxHeartbeats 400000 in
theorem iPair2_4 (p q : Int) (w : World) :
    Calls Try.prog 136 #[.int .i64 2, .int .i64 4, fr p q] w fun e w' => e = .returned (vO (pairO 2 4 p q)) ∧ Gr w w' := by
  go_enter Try.func136, Try.ntmps136
  go_wp2
  refine bodyPost_ret (v := vO (pairO 2 4 p q)) (by simp [results, Try.results136, go_sem, pairO, cfO]) rfl ⟨rfl, ?_⟩
  exact (((Gr.refl _).al _).al _).al _
set_option maxRecDepth 20000 in
set_option maxHeartbeats 400000 in
theorem iPair2_5 (p q : Int) (w : World) :
    Calls Try.prog 136 #[.int .i64 2, .int .i64 5, fr p q] w fun e w' => e = .returned (vO (pairO 2 5 p q)) ∧ Gr w w' := by
  go_enter Try.func136, Try.ntmps136
  go_wp2
  refine bodyPost_ret (v := vO (pairO 2 5 p q)) (by simp [results, Try.results136, go_sem, pairO, cfO]) rfl ⟨rfl, ?_⟩
  exact (((Gr.refl _).al _).al _).al _
set_option maxRecDepth 20000 in
set_option maxHeartbeats 400000 in
theorem iPair3_0 (p q : Int) (w : World) :
    Calls Try.prog 136 #[.int .i64 3, .int .i64 0, fr p q] w fun e w' => e = .returned (vO (pairO 3 0 p q)) ∧ Gr w w' := by
  go_enter Try.func136, Try.ntmps136
  go_wp2
  refine bodyPost_ret (v := vO (pairO 3 0 p q)) (by simp [results, Try.results136, go_sem, pairO, cfO]) rfl ⟨rfl, ?_⟩
  exact (((Gr.refl _).al _).al _).al _
set_option maxRecDepth 20000 in
set_option maxHeartbeats 400000 in
theorem iPair3_4 (p q : Int) (w : World) :
    Calls Try.prog 136 #[.int .i64 3, .int .i64 4, fr p q] w fun e w' => e = .returned (vO (pairO 3 4 p q)) ∧ Gr w w' := by
  go_enter Try.func136, Try.ntmps136
  go_wp2
  refine bodyPost_ret (v := vO (pairO 3 4 p q)) (by simp [results, Try.results136, go_sem, pairO, cfO]) rfl ⟨rfl, ?_⟩
  exact (((Gr.refl _).al _).al _).al _
set_option maxRecDepth 20000 in
set_option maxHeartbeats 400000 in
theorem iPair3_5 (p q : Int) (w : World) :
    Calls Try.prog 136 #[.int .i64 3, .int .i64 5, fr p q] w fun e w' => e = .returned (vO (pairO 3 5 p q)) ∧ Gr w w' := by
  go_enter Try.func136, Try.ntmps136
  go_wp2
  refine bodyPost_ret (v := vO (pairO 3 5 p q)) (by simp [results, Try.results136, go_sem, pairO, cfO]) rfl ⟨rfl, ?_⟩
  exact (((Gr.refl _).al _).al _).al _
set_option maxRecDepth 20000 in
set_option maxHeartbeats 400000 in
theorem iPair4_0 (p q : Int) (w : World) :
    Calls Try.prog 136 #[.int .i64 4, .int .i64 0, fr p q] w fun e w' => e = .returned (vO (pairO 4 0 p q)) ∧ Gr w w' := by
  go_enter Try.func136, Try.ntmps136
  go_wp2
  refine bodyPost_ret (v := vO (pairO 4 0 p q)) (by simp [results, Try.results136, go_sem, pairO, cfO]) rfl ⟨rfl, ?_⟩
  exact (((Gr.refl _).al _).al _).al _
set_option maxRecDepth 20000 in
set_option maxHeartbeats 400000 in
theorem iPair4_5 (p q : Int) (w : World) :
    Calls Try.prog 136 #[.int .i64 4, .int .i64 5, fr p q] w fun e w' => e = .returned (vO (pairO 4 5 p q)) ∧ Gr w w' := by
  go_enter Try.func136, Try.ntmps136
  go_wp2
  refine bodyPost_ret (v := vO (pairO 4 5 p q)) (by simp [results, Try.results136, go_sem, pairO, cfO]) rfl ⟨rfl, ?_⟩
  exact (((Gr.refl _).al _).al _).al _
set_option maxRecDepth 20000 in
set_option maxHeartbeats 400000 in
theorem iPair5_0 (p q : Int) (w : World) :
    Calls Try.prog 136 #[.int .i64 5, .int .i64 0, fr p q] w fun e w' => e = .returned (vO (pairO 5 0 p q)) ∧ Gr w w' := by
  go_enter Try.func136, Try.ntmps136
  go_wp2
  refine bodyPost_ret (v := vO (pairO 5 0 p q)) (by simp [results, Try.results136, go_sem, pairO, cfO]) rfl ⟨rfl, ?_⟩
  exact (((Gr.refl _).al _).al _).al _
theorem iPairO (i k : Nat) (p q : Int) (w : World) (hk : k < 6) (h : (i < k) ∨ (k = 0 ∧ 0 < i ∧ i < 6)) :
    Calls Try.prog 136 #[.int .i64 (i : Int), .int .i64 (k : Int), fr p q] w fun e w' => e = .returned (vO (pairO i k p q)) ∧ Gr w w' := by
  have hi : i < 6 := by omega
  rcases (show i = 0 ∨ i = 1 ∨ i = 2 ∨ i = 3 ∨ i = 4 ∨ i = 5 by omega) with rfl | rfl | rfl | rfl | rfl | rfl
  · rcases (show k = 0 ∨ k = 1 ∨ k = 2 ∨ k = 3 ∨ k = 4 ∨ k = 5 by omega) with rfl | rfl | rfl | rfl | rfl | rfl
    · exact absurd h (by omega)
    · exact iPair0_1 p q w
    · exact iPair0_2 p q w
    · exact iPair0_3 p q w
    · exact iPair0_4 p q w
    · exact iPair0_5 p q w
  · rcases (show k = 0 ∨ k = 1 ∨ k = 2 ∨ k = 3 ∨ k = 4 ∨ k = 5 by omega) with rfl | rfl | rfl | rfl | rfl | rfl
    · exact iPair1_0 p q w
    · exact absurd h (by omega)
    · exact iPair1_2 p q w
    · exact iPair1_3 p q w
    · exact iPair1_4 p q w
    · exact iPair1_5 p q w
  · rcases (show k = 0 ∨ k = 1 ∨ k = 2 ∨ k = 3 ∨ k = 4 ∨ k = 5 by omega) with rfl | rfl | rfl | rfl | rfl | rfl
    · exact iPair2_0 p q w
    · exact absurd h (by omega)
    · exact absurd h (by omega)
    · exact iPair2_3 p q w
    · exact iPair2_4 p q w
    · exact iPair2_5 p q w
  · rcases (show k = 0 ∨ k = 1 ∨ k = 2 ∨ k = 3 ∨ k = 4 ∨ k = 5 by omega) with rfl | rfl | rfl | rfl | rfl | rfl
    · exact iPair3_0 p q w
    · exact absurd h (by omega)
    · exact absurd h (by omega)
    · exact absurd h (by omega)
    · exact iPair3_4 p q w
    · exact iPair3_5 p q w
  · rcases (show k = 0 ∨ k = 1 ∨ k = 2 ∨ k = 3 ∨ k = 4 ∨ k = 5 by omega) with rfl | rfl | rfl | rfl | rfl | rfl
    · exact iPair4_0 p q w
    · exact absurd h (by omega)
    · exact absurd h (by omega)
    · exact absurd h (by omega)
    · exact absurd h (by omega)
    · exact iPair4_5 p q w
  · rcases (show k = 0 ∨ k = 1 ∨ k = 2 ∨ k = 3 ∨ k = 4 ∨ k = 5 by omega) with rfl | rfl | rfl | rfl | rfl | rfl
    · exact iPair5_0 p q w
    · exact absurd h (by omega)
    · exact absurd h (by omega)
    · exact absurd h (by omega)
    · exact absurd h (by omega)
    · exact absurd h (by omega)
set_option maxRecDepth 20000 in
set_option maxHeartbeats 400000 in
theorem sPair0_1 (p q : Int) (w : World) :
    Calls Try.prog 95 #[.int .i64 0, .int .i64 1, fr p q] w fun e w' => e = .returned (vO (pairO 0 1 p q)) ∧ Gr w w' := by
  go_enter Try.func95, Try.ntmps95
  go_wp2
  refine bodyPost_ret (v := vO (pairO 0 1 p q)) (by simp [results, Try.results95, go_sem, pairO, cfO]) rfl ⟨rfl, ?_⟩
  exact (((Gr.refl _).al _).al _).al _
set_option maxRecDepth 20000 in
set_option maxHeartbeats 400000 in
theorem sPair0_2 (p q : Int) (w : World) :
    Calls Try.prog 95 #[.int .i64 0, .int .i64 2, fr p q] w fun e w' => e = .returned (vO (pairO 0 2 p q)) ∧ Gr w w' := by
  go_enter Try.func95, Try.ntmps95
  go_wp2
  refine bodyPost_ret (v := vO (pairO 0 2 p q)) (by simp [results, Try.results95, go_sem, pairO, cfO]) rfl ⟨rfl, ?_⟩
  exact (((Gr.refl _).al _).al _).al _
set_option maxRecDepth 20000 in
set_option maxHeartbeats 400000 in
theorem sPair0_3 (p q : Int) (w : World) :
    Calls Try.prog 95 #[.int .i64 0, .int .i64 3, fr p q] w fun e w' => e = .returned (vO (pairO 0 3 p q)) ∧ Gr w w' := by
  go_enter Try.func95, Try.ntmps95
  go_wp2
  refine bodyPost_ret (v := vO (pairO 0 3 p q)) (by simp [results, Try.results95, go_sem, pairO, cfO]) rfl ⟨rfl, ?_⟩
  exact (((Gr.refl _).al _).al _).al _
set_option maxRecDepth 20000 in
set_option maxHeartbeats 400000 in
theorem sPair0_4 (p q : Int) (w : World) :
    Calls Try.prog 95 #[.int .i64 0, .int .i64 4, fr p q] w fun e w' => e = .returned (vO (pairO 0 4 p q)) ∧ Gr w w' := by
  go_enter Try.func95, Try.ntmps95
  go_wp2
  refine bodyPost_ret (v := vO (pairO 0 4 p q)) (by simp [results, Try.results95, go_sem, pairO, cfO]) rfl ⟨rfl, ?_⟩
  exact (((Gr.refl _).al _).al _).al _
set_option maxRecDepth 20000 in
set_option maxHeartbeats 400000 in
theorem sPair0_5 (p q : Int) (w : World) :
    Calls Try.prog 95 #[.int .i64 0, .int .i64 5, fr p q] w fun e w' => e = .returned (vO (pairO 0 5 p q)) ∧ Gr w w' := by
  go_enter Try.func95, Try.ntmps95
  go_wp2
  refine bodyPost_ret (v := vO (pairO 0 5 p q)) (by simp [results, Try.results95, go_sem, pairO, cfO]) rfl ⟨rfl, ?_⟩
  exact (((Gr.refl _).al _).al _).al _
set_option maxRecDepth 20000 in
set_option maxHeartbeats 400000 in
theorem sPair1_0 (p q : Int) (w : World) :
    Calls Try.prog 95 #[.int .i64 1, .int .i64 0, fr p q] w fun e w' => e = .returned (vO (pairO 1 0 p q)) ∧ Gr w w' := by
  go_enter Try.func95, Try.ntmps95
  go_wp2
  refine bodyPost_ret (v := vO (pairO 1 0 p q)) (by simp [results, Try.results95, go_sem, pairO, cfO]) rfl ⟨rfl, ?_⟩
  exact (((Gr.refl _).al _).al _).al _
set_option maxRecDepth 20000 in
set_option maxHeartbeats 400000 in
theorem sPair1_2 (p q : Int) (w : World) :
    Calls Try.prog 95 #[.int .i64 1, .int .i64 2, fr p q] w fun e w' => e = .returned (vO (pairO 1 2 p q)) ∧ Gr w w' := by
  go_enter Try.func95, Try.ntmps95
  go_wp2
  refine bodyPost_ret (v := vO (pairO 1 2 p q)) (by simp [results, Try.results95, go_sem, pairO, cfO]) rfl ⟨rfl, ?_⟩
  exact (((Gr.refl _).al _).al _).al _
set_option maxRecDepth 20000 in
set_option maxHeartbeats 400000 in
theorem sPair1_3 (p q : Int) (w : World) :
    Calls Try.prog 95 #[.int .i64 1, .int .i64 3, fr p q] w fun e w' => e = .returned (vO (pairO 1 3 p q)) ∧ Gr w w' := by
  go_enter Try.func95, Try.ntmps95
  go_wp2
  refine bodyPost_ret (v := vO (pairO 1 3 p q)) (by simp [results, Try.results95, go_sem, pairO, cfO]) rfl ⟨rfl, ?_⟩
  exact (((Gr.refl _).al _).al _).al _
set_option maxRecDepth 20000 in
set_option maxHeartbeats 400000 in
theorem sPair1_4 (p q : Int) (w : World) :
    Calls Try.prog 95 #[.int .i64 1, .int .i64 4, fr p q] w fun e w' => e = .returned (vO (pairO 1 4 p q)) ∧ Gr w w' := by
  go_enter Try.func95, Try.ntmps95
  go_wp2
  refine bodyPost_ret (v := vO (pairO 1 4 p q)) (by simp [results, Try.results95, go_sem, pairO, cfO]) rfl ⟨rfl, ?_⟩
  exact (((Gr.refl _).al _).al _).al _
set_option maxRecDepth 20000 in
set_option maxHeartbeats 400000 in
theorem sPair1_5 (p q : Int) (w : World) :
    Calls Try.prog 95 #[.int .i64 1, .int .i64 5, fr p q] w fun e w' => e = .returned (vO (pairO 1 5 p q)) ∧ Gr w w' := by
  go_enter Try.func95, Try.ntmps95
  go_wp2
  refine bodyPost_ret (v := vO (pairO 1 5 p q)) (by simp [results, Try.results95, go_sem, pairO, cfO]) rfl ⟨rfl, ?_⟩
  exact (((Gr.refl _).al _).al _).al _
set_option maxRecDepth 20000 in
set_option maxHeartbeats 400000 in
theorem sPair2_0 (p q : Int) (w : World) :
    Calls Try.prog 95 #[.int .i64 2, .int .i64 0, fr p q] w fun e w' => e = .returned (vO (pairO 2 0 p q)) ∧ Gr w w' := by
  go_enter Try.func95, Try.ntmps95
  go_wp2
  refine bodyPost_ret (v := vO (pairO 2 0 p q)) (by simp [results, Try.results95, go_sem, pairO, cfO]) rfl ⟨rfl, ?_⟩
  exact (((Gr.refl _).al _).al _).al _
set_option maxRecDepth 20000 in
set_option maxHeartbeats 400000 in
theorem sPair2_3 (p q : Int) (w : World) :
    Calls Try.prog 95 #[.int .i64 2, .int .i64 3, fr p q] w fun e w' => e = .returned (vO (pairO 2 3 p q)) ∧ Gr w w' := by
  go_enter Try.func95, Try.ntmps95
  go_wp2
  refine bodyPost_ret (v := vO (pairO 2 3 p q)) (by simp [results, Try.results95, go_sem, pairO, cfO]) rfl ⟨rfl, ?_⟩
  exact (((Gr.refl _).al _).al _).al _
set_option maxRecDepth 20000 in
set_option maxHeartbeats 400000 in
theorem sPair2_4 (p q : Int) (w : World) :
    Calls Try.prog 95 #[.int .i64 2, .int .i64 4, fr p q] w fun e w' => e = .returned (vO (pairO 2 4 p q)) ∧ Gr w w' := by
  go_enter Try.func95, Try.ntmps95
  go_wp2
  refine bodyPost_ret (v := vO (pairO 2 4 p q)) (by simp [results, Try.results95, go_sem, pairO, cfO]) rfl ⟨rfl, ?_⟩
  exact (((Gr.refl _).al _).al _).al _
set_option maxRecDepth 20000 in
set_option maxHeartbeats 400000 in
theorem sPair2_5 (p q : Int) (w : World) :
    Calls Try.prog 95 #[.int .i64 2, .int .i64 5, fr p q] w fun e w' => e = .returned (vO (pairO 2 5 p q)) ∧ Gr w w' := by
  go_enter Try.func95, Try.ntmps95
  go_wp2
  refine bodyPost_ret (v := vO (pairO 2 5 p q)) (by simp [results, Try.results95, go_sem, pairO, cfO]) rfl ⟨rfl, ?_⟩
  exact (((Gr.refl _).al _).al _).al _
set_option maxRecDepth 20000 in
set_option maxHeartbeats 400000 in
theorem sPair3_0 (p q : Int) (w : World) :
    Calls Try.prog 95 #[.int .i64 3, .int .i64 0, fr p q] w fun e w' => e = .returned (vO (pairO 3 0 p q)) ∧ Gr w w' := by
  go_enter Try.func95, Try.ntmps95
  go_wp2
  refine bodyPost_ret (v := vO (pairO 3 0 p q)) (by simp [results, Try.results95, go_sem, pairO, cfO]) rfl ⟨rfl, ?_⟩
  exact (((Gr.refl _).al _).al _).al _
set_option maxRecDepth 20000 in
set_option maxHeartbeats 400000 in
theorem sPair3_4 (p q : Int) (w : World) :
    Calls Try.prog 95 #[.int .i64 3, .int .i64 4, fr p q] w fun e w' => e = .returned (vO (pairO 3 4 p q)) ∧ Gr w w' := by
  go_enter Try.func95, Try.ntmps95
  go_wp2
  refine bodyPost_ret (v := vO (pairO 3 4 p q)) (by simp [results, Try.results95, go_sem, pairO, cfO]) rfl ⟨rfl, ?_⟩
  exact (((Gr.refl _).al _).al _).al _
set_option maxRecDepth 20000 in
set_option maxHeartbeats 400000 in
theorem sPair3_5 (p q : Int) (w : World) :
    Calls Try.prog 95 #[.int .i64 3, .int .i64 5, fr p q] w fun e w' => e = .returned (vO (pairO 3 5 p q)) ∧ Gr w w' := by
  go_enter Try.func95, Try.ntmps95
  go_wp2
  refine bodyPost_ret (v := vO (pairO 3 5 p q)) (by simp [results, Try.results95, go_sem, pairO, cfO]) rfl ⟨rfl, ?_⟩
  exact (((Gr.refl _).al _).al _).al _
set_option maxRecDepth 20000 in
set_option maxHeartbeats 400000 in
theorem sPair4_0 (p q : Int) (w : World) :
    Calls Try.prog 95 #[.int .i64 4, .int .i64 0, fr p q] w fun e w' => e = .returned (vO (pairO 4 0 p q)) ∧ Gr w w' := by
  go_enter Try.func95, Try.ntmps95
  go_wp2
  refine bodyPost_ret (v := vO (pairO 4 0 p q)) (by simp [results, Try.results95, go_sem, pairO, cfO]) rfl ⟨rfl, ?_⟩
  exact (((Gr.refl _).al _).al _).al _
set_option maxRecDepth 20000 in
set_option maxHeartbeats 400000 in
theorem sPair4_5 (p q : Int) (w : World) :
    Calls Try.prog 95 #[.int .i64 4, .int .i64 5, fr p q] w fun e w' => e = .returned (vO (pairO 4 5 p q)) ∧ Gr w w' := by
  go_enter Try.func95, Try.ntmps95
  go_wp2
  refine bodyPost_ret (v := vO (pairO 4 5 p q)) (by simp [results, Try.results95, go_sem, pairO, cfO]) rfl ⟨rfl, ?_⟩
  exact (((Gr.refl _).al _).al _).al _
set_option maxRecDepth 20000 in
set_option maxHeartbeats 400000 in
theorem sPair5_0 (p q : Int) (w : World) :
    Calls Try.prog 95 #[.int .i64 5, .int .i64 0, fr p q] w fun e w' => e = .returned (vO (pairO 5 0 p q)) ∧ Gr w w' := by
  go_enter Try.func95, Try.ntmps95
  go_wp2
  refine bodyPost_ret (v := vO (pairO 5 0 p q)) (by simp [results, Try.results95, go_sem, pairO, cfO]) rfl ⟨rfl, ?_⟩
  exact (((Gr.refl _).al _).al _).al _
theorem sPairO (i k : Nat) (p q : Int) (w : World) (hk : k < 6) (h : (i < k) ∨ (k = 0 ∧ 0 < i ∧ i < 6)) :
    Calls Try.prog 95 #[.int .i64 (i : Int), .int .i64 (k : Int), fr p q] w fun e w' => e = .returned (vO (pairO i k p q)) ∧ Gr w w' := by
  have hi : i < 6 := by omega
  rcases (show i = 0 ∨ i = 1 ∨ i = 2 ∨ i = 3 ∨ i = 4 ∨ i = 5 by omega) with rfl | rfl | rfl | rfl | rfl | rfl
  · rcases (show k = 0 ∨ k = 1 ∨ k = 2 ∨ k = 3 ∨ k = 4 ∨ k = 5 by omega) with rfl | rfl | rfl | rfl | rfl | rfl
    · exact absurd h (by omega)
    · exact sPair0_1 p q w
    · exact sPair0_2 p q w
    · exact sPair0_3 p q w
    · exact sPair0_4 p q w
    · exact sPair0_5 p q w
  · rcases (show k = 0 ∨ k = 1 ∨ k = 2 ∨ k = 3 ∨ k = 4 ∨ k = 5 by omega) with rfl | rfl | rfl | rfl | rfl | rfl
    · exact sPair1_0 p q w
    · exact absurd h (by omega)
    · exact sPair1_2 p q w
    · exact sPair1_3 p q w
    · exact sPair1_4 p q w
    · exact sPair1_5 p q w
  · rcases (show k = 0 ∨ k = 1 ∨ k = 2 ∨ k = 3 ∨ k = 4 ∨ k = 5 by omega) with rfl | rfl | rfl | rfl | rfl | rfl
    · exact sPair2_0 p q w
    · exact absurd h (by omega)
    · exact absurd h (by omega)
    · exact sPair2_3 p q w
    · exact sPair2_4 p q w
    · exact sPair2_5 p q w
  · rcases (show k = 0 ∨ k = 1 ∨ k = 2 ∨ k = 3 ∨ k = 4 ∨ k = 5 by omega) with rfl | rfl | rfl | rfl | rfl | rfl
    · exact sPair3_0 p q w
    · exact absurd h (by omega)
    · exact absurd h (by omega)
    · exact absurd h (by omega)
    · exact sPair3_4 p q w
    · exact sPair3_5 p q w
  · rcases (show k = 0 ∨ k = 1 ∨ k = 2 ∨ k = 3 ∨ k = 4 ∨ k = 5 by omega) with rfl | rfl | rfl | rfl | rfl | rfl
    · exact sPair4_0 p q w
    · exact absurd h (by omega)
    · exact absurd h (by omega)
    · exact absurd h (by omega)
    · exact absurd h (by omega)
    · exact sPair4_5 p q w
  · rcases (show k = 0 ∨ k = 1 ∨ k = 2 ∨ k = 3 ∨ k = 4 ∨ k = 5 by omega) with rfl | rfl | rfl | rfl | rfl | rfl
    · exact sPair5_0 p q w
    · exact absurd h (by omega)
    · exact absurd h (by omega)
    · exact absurd h (by omega)
    · exact absurd h (by omega)
    · exact absurd h (by omega)
end Go.Proofs.Ytjhlpaeenjbljaa
