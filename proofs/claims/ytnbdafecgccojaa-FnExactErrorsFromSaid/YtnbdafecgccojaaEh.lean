/- WALKS: ErrorsFrom: the program, and both sides joined. -/
import Derived.Test.YtnbdafecgccojaaEg
namespace Go.Proofs.Ytnbdafecgccojaa
open Go.RowKit Go.Sort

set_option maxRecDepth 20000 in
set_option maxHeartbeats 400000 in
theorem iEF_0 (a b p q : Int) (A : Option Addr) (c : Nat) (xs : List (Int × Int)) (w : World) (h : okB a b = false) :
    Calls Try.prog 26 #[fr a b, fr p q, .slice A xs.length c] w fun e w' => e = .returned (.tuple #[scl 0 0 none 0 0, .int .i64 1]) ∧ Gr w w' := by
  have h := hid h
  go_enter Try.func26, Try.ntmps26
  go_wp2_with fail
  refine (iok_f _ _ _ h.out).mono ?_
  rintro e w1 ⟨rfl, hg1⟩
  obtain ⟨x1_0, x1_1, x1_2, x1_3, hz1, g1⟩ := alloc4 hg1
  obtain ⟨_, _⟩ := cells2 x1_0
  have _ := fz x1_0
  have _ := ltb x1_0
  obtain ⟨_, _⟩ := cells2 x1_1
  have _ := fz x1_1
  have _ := ltb x1_1
  have _ := cells1 x1_2
  have _ := fz x1_2
  have _ := ltb x1_2
  obtain ⟨_, _, _⟩ := cells3 x1_3
  have _ := fz x1_3
  have _ := ltb x1_3
  have X1_0 := hid x1_0; clear x1_0
  have X1_1 := hid x1_1; clear x1_1
  have X1_2 := hid x1_2; clear x1_2
  have X1_3 := hid x1_3; clear x1_3
  have G1 := hid (g1)
  clear hg1 g1
  go_wp2
  refine bodyPost_ret (v := .tuple #[scl 0 0 none 0 0, .int .i64 1]) (by simp [results, Try.results26, go_sem, *]) rfl ⟨rfl, ?_⟩
  exact (((G1.out).setCell (by simp <;> omega) _).setCell (by simp <;> omega) _).setCell (by simp <;> omega) _
set_option maxRecDepth 20000 in
set_option maxHeartbeats 400000 in
theorem iEF_1 (a b p q : Int) (A : Option Addr) (c : Nat) (xs : List (Int × Int)) (w : World) (h : okB a b = true) (h2 : okB p q = false) :
    Calls Try.prog 26 #[fr a b, fr p q, .slice A xs.length c] w fun e w' => e = .returned (.tuple #[scl 0 0 none 0 0, .int .i64 1]) ∧ Gr w w' := by
  have h := hid h; have h2 := hid h2
  go_enter Try.func26, Try.ntmps26
  go_wp2_with fail
  refine (iok_t _ _ _ h.out).mono ?_
  rintro e w1 ⟨rfl, hg1⟩
  obtain ⟨x1_0, x1_1, x1_2, x1_3, hz1, g1⟩ := alloc4 hg1
  obtain ⟨_, _⟩ := cells2 x1_0
  have _ := fz x1_0
  have _ := ltb x1_0
  obtain ⟨_, _⟩ := cells2 x1_1
  have _ := fz x1_1
  have _ := ltb x1_1
  have _ := cells1 x1_2
  have _ := fz x1_2
  have _ := ltb x1_2
  obtain ⟨_, _, _⟩ := cells3 x1_3
  have _ := fz x1_3
  have _ := ltb x1_3
  have X1_0 := hid x1_0; clear x1_0
  have X1_1 := hid x1_1; clear x1_1
  have X1_2 := hid x1_2; clear x1_2
  have X1_3 := hid x1_3; clear x1_3
  have G1 := hid (g1)
  clear hg1 g1
  go_wp2_with fail
  refine (iok_f _ _ _ h2.out).mono ?_
  rintro e w2 ⟨rfl, hg2⟩
  have x2_1 := hg2.keep X1_0.out
  have x2_2 := hg2.keep X1_1.out
  have x2_3 := hg2.keep X1_2.out
  have x2_4 := hg2.keep X1_3.out
  obtain ⟨_, _⟩ := cells2 x2_1
  have _ := fz x2_1
  have _ := ltb x2_1
  obtain ⟨_, _⟩ := cells2 x2_2
  have _ := fz x2_2
  have _ := ltb x2_2
  have _ := cells1 x2_3
  have _ := fz x2_3
  have _ := ltb x2_3
  obtain ⟨_, _, _⟩ := cells3 x2_4
  have _ := fz x2_4
  have _ := ltb x2_4
  have X2_1 := hid x2_1; clear x2_1
  have X2_2 := hid x2_2; clear x2_2
  have X2_3 := hid x2_3; clear x2_3
  have X2_4 := hid x2_4; clear x2_4
  have G2 := hid (G1.out.trans hg2)
  clear hg2
  go_wp2
  refine bodyPost_ret (v := .tuple #[scl 0 0 none 0 0, .int .i64 1]) (by simp [results, Try.results26, go_sem, *]) rfl ⟨rfl, ?_⟩
  exact (((G2.out).setCell (by simp <;> omega) _).setCell (by simp <;> omega) _).setCell (by simp <;> omega) _
set_option maxRecDepth 20000 in
set_option maxHeartbeats 400000 in
theorem iEF_2 (a b p q : Int) (A : Option Addr) (c : Nat) (xs : List (Int × Int)) (w : World) (X : Hid (RdF w A xs)) (hn : xs.length ≤ 1048576) (h : okB a b = true) (h2 : okB p q = true) (h3 : allF xs = false) :
    Calls Try.prog 26 #[fr a b, fr p q, .slice A xs.length c] w fun e w' => e = .returned (.tuple #[scl 0 0 none 0 0, .int .i64 1]) ∧ Gr w w' := by
  have h := hid h; have h2 := hid h2
  have HS := hid fun (w' : World) (Z : Hid (RdF w' A xs)) => h3 ▸ iFracs A c xs w' Z hn
  go_enter Try.func26, Try.ntmps26
  go_wp2_with fail
  refine (iok_t _ _ _ h.out).mono ?_
  rintro e w1 ⟨rfl, hg1⟩
  obtain ⟨x1_0, x1_1, x1_2, x1_3, hz1, g1⟩ := alloc4 hg1
  obtain ⟨_, _⟩ := cells2 x1_0
  have _ := fz x1_0
  have _ := ltb x1_0
  obtain ⟨_, _⟩ := cells2 x1_1
  have _ := fz x1_1
  have _ := ltb x1_1
  have _ := cells1 x1_2
  have _ := fz x1_2
  have _ := ltb x1_2
  obtain ⟨_, _, _⟩ := cells3 x1_3
  have _ := fz x1_3
  have _ := ltb x1_3
  have X1_0 := hid x1_0; clear x1_0
  have X1_1 := hid x1_1; clear x1_1
  have X1_2 := hid x1_2; clear x1_2
  have X1_3 := hid x1_3; clear x1_3
  have G1 := hid (g1)
  clear hg1 g1
  go_wp2_with fail
  refine (iok_t _ _ _ h2.out).mono ?_
  rintro e w2 ⟨rfl, hg2⟩
  have x2_1 := hg2.keep X1_0.out
  have x2_2 := hg2.keep X1_1.out
  have x2_3 := hg2.keep X1_2.out
  have x2_4 := hg2.keep X1_3.out
  obtain ⟨_, _⟩ := cells2 x2_1
  have _ := fz x2_1
  have _ := ltb x2_1
  obtain ⟨_, _⟩ := cells2 x2_2
  have _ := fz x2_2
  have _ := ltb x2_2
  have _ := cells1 x2_3
  have _ := fz x2_3
  have _ := ltb x2_3
  obtain ⟨_, _, _⟩ := cells3 x2_4
  have _ := fz x2_4
  have _ := ltb x2_4
  have X2_1 := hid x2_1; clear x2_1
  have X2_2 := hid x2_2; clear x2_2
  have X2_3 := hid x2_3; clear x2_3
  have X2_4 := hid x2_4; clear x2_4
  have G2 := hid (G1.out.trans hg2)
  clear hg2
  go_wp2_with fail
  refine (HS.out _ (hid (X.out.keep G2.out))).mono ?_
  rintro e w3 ⟨rfl, hg3⟩
  have x3_1 := hg3.keep X2_1.out
  have x3_2 := hg3.keep X2_2.out
  have x3_3 := hg3.keep X2_3.out
  have x3_4 := hg3.keep X2_4.out
  obtain ⟨_, _⟩ := cells2 x3_1
  have _ := fz x3_1
  have _ := ltb x3_1
  obtain ⟨_, _⟩ := cells2 x3_2
  have _ := fz x3_2
  have _ := ltb x3_2
  have _ := cells1 x3_3
  have _ := fz x3_3
  have _ := ltb x3_3
  obtain ⟨_, _, _⟩ := cells3 x3_4
  have _ := fz x3_4
  have _ := ltb x3_4
  have X3_1 := hid x3_1; clear x3_1
  have X3_2 := hid x3_2; clear x3_2
  have X3_3 := hid x3_3; clear x3_3
  have X3_4 := hid x3_4; clear x3_4
  have G3 := hid (G2.out.trans hg3)
  clear hg3
  go_wp2
  refine bodyPost_ret (v := .tuple #[scl 0 0 none 0 0, .int .i64 1]) (by simp [results, Try.results26, go_sem, *]) rfl ⟨rfl, ?_⟩
  exact (((G3.out).setCell (by simp <;> omega) _).setCell (by simp <;> omega) _).setCell (by simp <;> omega) _
set_option maxRecDepth 20000 in
set_option maxHeartbeats 400000 in
theorem iEF_3 (a b p q : Int) (A : Option Addr) (c : Nat) (xs : List (Int × Int)) (w : World) (X : Hid (RdF w A xs)) (hn : xs.length ≤ 1048576) (h : okB a b = true) (h2 : okB p q = true) (h3 : allF xs = true) (h4 : rangeB xs.length = false) :
    Calls Try.prog 26 #[fr a b, fr p q, .slice A xs.length c] w fun e w' => e = .returned (.tuple #[scl 0 0 none 0 0, .int .i64 2]) ∧ Gr w w' := by
  have h := hid h; have h2 := hid h2
  have HS := hid fun (w' : World) (Z : Hid (RdF w' A xs)) => h3 ▸ iFracs A c xs w' Z hn
  by_cases h1 : xs.length < 1
  · clear h4
    go_enter Try.func26, Try.ntmps26
    go_wp2_with fail
    refine (iok_t _ _ _ h.out).mono ?_
    rintro e w1 ⟨rfl, hg1⟩
    obtain ⟨x1_0, x1_1, x1_2, x1_3, hz1, g1⟩ := alloc4 hg1
    obtain ⟨_, _⟩ := cells2 x1_0
    have _ := fz x1_0
    have _ := ltb x1_0
    obtain ⟨_, _⟩ := cells2 x1_1
    have _ := fz x1_1
    have _ := ltb x1_1
    have _ := cells1 x1_2
    have _ := fz x1_2
    have _ := ltb x1_2
    obtain ⟨_, _, _⟩ := cells3 x1_3
    have _ := fz x1_3
    have _ := ltb x1_3
    have X1_0 := hid x1_0; clear x1_0
    have X1_1 := hid x1_1; clear x1_1
    have X1_2 := hid x1_2; clear x1_2
    have X1_3 := hid x1_3; clear x1_3
    have G1 := hid (g1)
    clear hg1 g1
    go_wp2_with fail
    refine (iok_t _ _ _ h2.out).mono ?_
    rintro e w2 ⟨rfl, hg2⟩
    have x2_1 := hg2.keep X1_0.out
    have x2_2 := hg2.keep X1_1.out
    have x2_3 := hg2.keep X1_2.out
    have x2_4 := hg2.keep X1_3.out
    obtain ⟨_, _⟩ := cells2 x2_1
    have _ := fz x2_1
    have _ := ltb x2_1
    obtain ⟨_, _⟩ := cells2 x2_2
    have _ := fz x2_2
    have _ := ltb x2_2
    have _ := cells1 x2_3
    have _ := fz x2_3
    have _ := ltb x2_3
    obtain ⟨_, _, _⟩ := cells3 x2_4
    have _ := fz x2_4
    have _ := ltb x2_4
    have X2_1 := hid x2_1; clear x2_1
    have X2_2 := hid x2_2; clear x2_2
    have X2_3 := hid x2_3; clear x2_3
    have X2_4 := hid x2_4; clear x2_4
    have G2 := hid (G1.out.trans hg2)
    clear hg2
    go_wp2_with fail
    refine (HS.out _ (hid (X.out.keep G2.out))).mono ?_
    rintro e w3 ⟨rfl, hg3⟩
    have x3_1 := hg3.keep X2_1.out
    have x3_2 := hg3.keep X2_2.out
    have x3_3 := hg3.keep X2_3.out
    have x3_4 := hg3.keep X2_4.out
    obtain ⟨_, _⟩ := cells2 x3_1
    have _ := fz x3_1
    have _ := ltb x3_1
    obtain ⟨_, _⟩ := cells2 x3_2
    have _ := fz x3_2
    have _ := ltb x3_2
    have _ := cells1 x3_3
    have _ := fz x3_3
    have _ := ltb x3_3
    obtain ⟨_, _, _⟩ := cells3 x3_4
    have _ := fz x3_4
    have _ := ltb x3_4
    have X3_1 := hid x3_1; clear x3_1
    have X3_2 := hid x3_2; clear x3_2
    have X3_3 := hid x3_3; clear x3_3
    have X3_4 := hid x3_4; clear x3_4
    have G3 := hid (G2.out.trans hg3)
    clear hg3
    go_wp2
    refine bodyPost_ret (v := .tuple #[scl 0 0 none 0 0, .int .i64 2]) (by simp [results, Try.results26, go_sem, *]) rfl ⟨rfl, ?_⟩
    exact (((G3.out).setCell (by simp <;> omega) _).setCell (by simp <;> omega) _).setCell (by simp <;> omega) _
  · have h5 : 59 < xs.length := by unfold rangeB inB at h4; simp at h4; omega
    clear h4
    go_enter Try.func26, Try.ntmps26
    go_wp2_with fail
    refine (iok_t _ _ _ h.out).mono ?_
    rintro e w1 ⟨rfl, hg1⟩
    obtain ⟨x1_0, x1_1, x1_2, x1_3, hz1, g1⟩ := alloc4 hg1
    obtain ⟨_, _⟩ := cells2 x1_0
    have _ := fz x1_0
    have _ := ltb x1_0
    obtain ⟨_, _⟩ := cells2 x1_1
    have _ := fz x1_1
    have _ := ltb x1_1
    have _ := cells1 x1_2
    have _ := fz x1_2
    have _ := ltb x1_2
    obtain ⟨_, _, _⟩ := cells3 x1_3
    have _ := fz x1_3
    have _ := ltb x1_3
    have X1_0 := hid x1_0; clear x1_0
    have X1_1 := hid x1_1; clear x1_1
    have X1_2 := hid x1_2; clear x1_2
    have X1_3 := hid x1_3; clear x1_3
    have G1 := hid (g1)
    clear hg1 g1
    go_wp2_with fail
    refine (iok_t _ _ _ h2.out).mono ?_
    rintro e w2 ⟨rfl, hg2⟩
    have x2_1 := hg2.keep X1_0.out
    have x2_2 := hg2.keep X1_1.out
    have x2_3 := hg2.keep X1_2.out
    have x2_4 := hg2.keep X1_3.out
    obtain ⟨_, _⟩ := cells2 x2_1
    have _ := fz x2_1
    have _ := ltb x2_1
    obtain ⟨_, _⟩ := cells2 x2_2
    have _ := fz x2_2
    have _ := ltb x2_2
    have _ := cells1 x2_3
    have _ := fz x2_3
    have _ := ltb x2_3
    obtain ⟨_, _, _⟩ := cells3 x2_4
    have _ := fz x2_4
    have _ := ltb x2_4
    have X2_1 := hid x2_1; clear x2_1
    have X2_2 := hid x2_2; clear x2_2
    have X2_3 := hid x2_3; clear x2_3
    have X2_4 := hid x2_4; clear x2_4
    have G2 := hid (G1.out.trans hg2)
    clear hg2
    go_wp2_with fail
    refine (HS.out _ (hid (X.out.keep G2.out))).mono ?_
    rintro e w3 ⟨rfl, hg3⟩
    have x3_1 := hg3.keep X2_1.out
    have x3_2 := hg3.keep X2_2.out
    have x3_3 := hg3.keep X2_3.out
    have x3_4 := hg3.keep X2_4.out
    obtain ⟨_, _⟩ := cells2 x3_1
    have _ := fz x3_1
    have _ := ltb x3_1
    obtain ⟨_, _⟩ := cells2 x3_2
    have _ := fz x3_2
    have _ := ltb x3_2
    have _ := cells1 x3_3
    have _ := fz x3_3
    have _ := ltb x3_3
    obtain ⟨_, _, _⟩ := cells3 x3_4
    have _ := fz x3_4
    have _ := ltb x3_4
    have X3_1 := hid x3_1; clear x3_1
    have X3_2 := hid x3_2; clear x3_2
    have X3_3 := hid x3_3; clear x3_3
    have X3_4 := hid x3_4; clear x3_4
    have G3 := hid (G2.out.trans hg3)
    clear hg3
    go_wp2
    refine bodyPost_ret (v := .tuple #[scl 0 0 none 0 0, .int .i64 2]) (by simp [results, Try.results26, go_sem, *]) rfl ⟨rfl, ?_⟩
    exact (((G3.out).setCell (by simp <;> omega) _).setCell (by simp <;> omega) _).setCell (by simp <;> omega) _
set_option maxRecDepth 20000 in
set_option maxHeartbeats 2000000 in
theorem iEF_4 (a b p q : Int) (A : Option Addr) (c : Nat) (xs : List (Int × Int)) (w : World) (X : Hid (RdF w A xs)) (hn : xs.length ≤ 1048576) (h : okB a b = true) (h2 : okB p q = true) (h3 : allF xs = true) (h4 : rangeB xs.length = true) :
    Calls Try.prog 26 #[fr a b, fr p q, .slice A xs.length c] w fun e w' => (EfOk p q xs ∧ ((sclB a b (efL p q xs (xs.length + 1)) = true ∧ GivesS w w' e a b (efL p q xs (xs.length + 1)) 0) ∨ (sclB a b (efL p q xs (xs.length + 1)) = false ∧ GivesS w w' e 0 0 [] 4))) ∨ (¬ EfOk p q xs ∧ GivesS w w' e 0 0 [] 3) := by
  have hl : xs.length ≤ 59 := by unfold rangeB inB at h4; simp at h4; omega
  have hl1 : 1 ≤ xs.length := by unfold rangeB inB at h4; simp at h4; omega
  have HCE := hid fun (w' : World) (k1 k2 k3 : Nat) (Z1 : Hid (w'.heap[k1]? = some (.cells #[.int .i64 a, .int .i64 b] 30))) (Z2 : Hid (w'.heap[k2]? = some (.cells #[.int .i64 p, .int .i64 q] 30))) (Z3 : Hid (w'.heap[k3]? = some (.cells #[.slice A xs.length c] 35))) (Z : Hid (RdF w' A xs)) => cef a b p q A c k1 k2 k3 xs w' _ Z1 Z2 Z3 Z hl h2 h3
  have HS := hid fun (w' : World) (Z : Hid (RdF w' A xs)) => h3 ▸ iFracs A c xs w' Z hn
  have h := hid h; have h2 := hid h2
  have hlen : (efL p q xs (xs.length + 1)).length ≤ 1048576 := by rw [efL_len]; omega
  clear h3 h4
  by_cases hok : EfOk p q xs
  · have HOK := hid hok; clear hok
    go_enter Try.func26, Try.ntmps26
    go_wp2_with fail
    refine (iok_t _ _ _ h.out).mono ?_
    rintro e w1 ⟨rfl, hg1⟩
    obtain ⟨x1_0, x1_1, x1_2, x1_3, hz1, g1⟩ := alloc4 hg1
    obtain ⟨_, _⟩ := cells2 x1_0
    have _ := fz x1_0
    have _ := ltb x1_0
    obtain ⟨_, _⟩ := cells2 x1_1
    have _ := fz x1_1
    have _ := ltb x1_1
    have _ := cells1 x1_2
    have _ := fz x1_2
    have _ := ltb x1_2
    obtain ⟨_, _, _⟩ := cells3 x1_3
    have _ := fz x1_3
    have _ := ltb x1_3
    have X1_0 := hid x1_0; clear x1_0
    have X1_1 := hid x1_1; clear x1_1
    have X1_2 := hid x1_2; clear x1_2
    have X1_3 := hid x1_3; clear x1_3
    have G1 := hid (g1)
    clear hg1 g1
    go_wp2_with fail
    refine (iok_t _ _ _ h2.out).mono ?_
    rintro e w2 ⟨rfl, hg2⟩
    have x2_1 := hg2.keep X1_0.out
    have x2_2 := hg2.keep X1_1.out
    have x2_3 := hg2.keep X1_2.out
    have x2_4 := hg2.keep X1_3.out
    obtain ⟨_, _⟩ := cells2 x2_1
    have _ := fz x2_1
    have _ := ltb x2_1
    obtain ⟨_, _⟩ := cells2 x2_2
    have _ := fz x2_2
    have _ := ltb x2_2
    have _ := cells1 x2_3
    have _ := fz x2_3
    have _ := ltb x2_3
    obtain ⟨_, _, _⟩ := cells3 x2_4
    have _ := fz x2_4
    have _ := ltb x2_4
    have X2_1 := hid x2_1; clear x2_1
    have X2_2 := hid x2_2; clear x2_2
    have X2_3 := hid x2_3; clear x2_3
    have X2_4 := hid x2_4; clear x2_4
    have G2 := hid (G1.out.trans hg2)
    clear hg2
    go_wp2_with fail
    refine (HS.out _ (hid (X.out.keep G2.out))).mono ?_
    rintro e w3 ⟨rfl, hg3⟩
    have x3_1 := hg3.keep X2_1.out
    have x3_2 := hg3.keep X2_2.out
    have x3_3 := hg3.keep X2_3.out
    have x3_4 := hg3.keep X2_4.out
    obtain ⟨_, _⟩ := cells2 x3_1
    have _ := fz x3_1
    have _ := ltb x3_1
    obtain ⟨_, _⟩ := cells2 x3_2
    have _ := fz x3_2
    have _ := ltb x3_2
    have _ := cells1 x3_3
    have _ := fz x3_3
    have _ := ltb x3_3
    obtain ⟨_, _, _⟩ := cells3 x3_4
    have _ := fz x3_4
    have _ := ltb x3_4
    have X3_1 := hid x3_1; clear x3_1
    have X3_2 := hid x3_2; clear x3_2
    have X3_3 := hid x3_3; clear x3_3
    have X3_4 := hid x3_4; clear x3_4
    have G3 := hid (G2.out.trans hg3)
    clear hg3
    go_wp2_with fail
    refine (toldS_ok 86 #[.pointer (some ⟨w.heap.size, 0, none⟩), .pointer (some ⟨w.heap.size + 1, 0, none⟩), .pointer (some ⟨w.heap.size + 1 + 1, 0, none⟩)] a b (xs.length + 1) (efL p q xs (xs.length + 1)) _ (fun _ => by kernel_rfl) fun w' hg' => (HCE.out w' _ _ _ (hid (hg'.keep X3_1.out)) (hid (hg'.keep X3_2.out)) (hid (hg'.keep X3_3.out)) (hid (X.out.keep (G3.out.trans hg')))).mono ?_).mono ?_
    · rintro e w'' ⟨⟨_, A', c', rfl, own⟩ | ⟨hv, _⟩, hg⟩
      · exact ⟨A', c', rfl, own, hg⟩
      · exact absurd HOK.out hv
    rintro e w4 ⟨A', c', rfl, own, hg4⟩
    have OWN := hid own; have G4 := hid (G3.out.trans hg4)
    have Y4 := hid (hg4.keep X3_4.out)
    have hb : w.heap.size + 1 + 1 + 1 < w3.heap.size := ltb X3_4.out
    have OWN4 := hid (own_gr OWN.out ((Gr.refl w4).al (.cells #[.int .i64 a, .int .i64 b, .slice A' (xs.length + 1) c'] 37)))
    have RO : Hid (RdF (w4.alloc (.cells #[.int .i64 a, .int .i64 b, .slice A' (xs.length + 1) c'] 37)) A' (efL p q xs (xs.length + 1))) := hid (RdF.of_ownF OWN4.out)
    have Y5 := hid (((Gr.refl w4).al (.cells #[.int .i64 a, .int .i64 b, .slice A' (xs.length + 1) c'] 37)).keep Y4.out)
    clear own hg4
    obtain ⟨_, _, _⟩ := cells3 Y4.out
    have _ := fz Y4.out
    have _ := ltb Y4.out
    cases hsc : sclB a b (efL p q xs (xs.length + 1)) with
    | true =>
      have HSC := hid hsc
      have HOR := hid fun (w' : World) (Z : Hid (RdF w' A' (efL p q xs (xs.length + 1)))) => (efL_len p q xs (xs.length + 1)) ▸ iOr_t 4 a b A' c' (efL p q xs (xs.length + 1)) w' Z hlen HSC.out
      go_wp2_with fail
      refine (HOR.out _ RO).mono ?_
      rintro e w7 ⟨rfl, hg7⟩
      have OWN7 := hid (own_gr OWN4.out hg7); have Z7 := hid (hg7.keep Y5.out); have G7 := hid ((G4.out.al (.cells #[.int .i64 a, .int .i64 b, .slice A' (xs.length + 1) c'] 37)).trans hg7)
      clear hg7 hsc
      obtain ⟨_, _, _⟩ := cells3 Z7.out
      have _ := fz Z7.out
      have _ := ltb Z7.out
      go_wp2_with fail
      refine bodyPost_ret (v := .tuple #[scl a b A' (xs.length + 1) c', .int .i64 0]) (by simp [results, Try.results26, go_sem, *]) rfl ?_
      exact .inl ⟨HOK.out, .inl ⟨HSC.out, A', c', by rw [efL_len], by rw [efL_len]; exact own_base (base' := w.heap.size) (own_low (own_low (own_low OWN7.out (by simpa using hb) _) (by simpa using hb) _) (by simpa using hb) _) (by omega), ((G7.out.setCell (by simp; omega) _).setCell (by simp; omega) _).setCell (by simp; omega) _⟩⟩
    | false =>
      have HSC := hid hsc
      have HOR := hid fun (w' : World) (Z : Hid (RdF w' A' (efL p q xs (xs.length + 1)))) => (efL_len p q xs (xs.length + 1)) ▸ iOr_f 4 a b A' c' (efL p q xs (xs.length + 1)) w' Z hlen HSC.out
      go_wp2_with fail
      refine (HOR.out _ RO).mono ?_
      rintro e w7 ⟨rfl, hg7⟩
      have Z7 := hid (hg7.keep Y5.out); have G7 := hid ((G4.out.al (.cells #[.int .i64 a, .int .i64 b, .slice A' (xs.length + 1) c'] 37)).trans hg7)
      clear hg7 hsc
      obtain ⟨_, _, _⟩ := cells3 Z7.out
      have _ := fz Z7.out
      have _ := ltb Z7.out
      go_wp2_with fail
      refine bodyPost_ret (v := .tuple #[scl 0 0 none 0 0, .int .i64 4]) (by simp [results, Try.results26, go_sem, *]) rfl ?_
      exact .inl ⟨HOK.out, .inr ⟨HSC.out, _, _, rfl, own_nilF _ _, ((G7.out.setCell (by simp; omega) _).setCell (by simp; omega) _).setCell (by simp; omega) _⟩⟩
  · have HOK := hid hok; clear hok
    go_enter Try.func26, Try.ntmps26
    go_wp2_with fail
    refine (iok_t _ _ _ h.out).mono ?_
    rintro e w1 ⟨rfl, hg1⟩
    obtain ⟨x1_0, x1_1, x1_2, x1_3, hz1, g1⟩ := alloc4 hg1
    obtain ⟨_, _⟩ := cells2 x1_0
    have _ := fz x1_0
    have _ := ltb x1_0
    obtain ⟨_, _⟩ := cells2 x1_1
    have _ := fz x1_1
    have _ := ltb x1_1
    have _ := cells1 x1_2
    have _ := fz x1_2
    have _ := ltb x1_2
    obtain ⟨_, _, _⟩ := cells3 x1_3
    have _ := fz x1_3
    have _ := ltb x1_3
    have X1_0 := hid x1_0; clear x1_0
    have X1_1 := hid x1_1; clear x1_1
    have X1_2 := hid x1_2; clear x1_2
    have X1_3 := hid x1_3; clear x1_3
    have G1 := hid (g1)
    clear hg1 g1
    go_wp2_with fail
    refine (iok_t _ _ _ h2.out).mono ?_
    rintro e w2 ⟨rfl, hg2⟩
    have x2_1 := hg2.keep X1_0.out
    have x2_2 := hg2.keep X1_1.out
    have x2_3 := hg2.keep X1_2.out
    have x2_4 := hg2.keep X1_3.out
    obtain ⟨_, _⟩ := cells2 x2_1
    have _ := fz x2_1
    have _ := ltb x2_1
    obtain ⟨_, _⟩ := cells2 x2_2
    have _ := fz x2_2
    have _ := ltb x2_2
    have _ := cells1 x2_3
    have _ := fz x2_3
    have _ := ltb x2_3
    obtain ⟨_, _, _⟩ := cells3 x2_4
    have _ := fz x2_4
    have _ := ltb x2_4
    have X2_1 := hid x2_1; clear x2_1
    have X2_2 := hid x2_2; clear x2_2
    have X2_3 := hid x2_3; clear x2_3
    have X2_4 := hid x2_4; clear x2_4
    have G2 := hid (G1.out.trans hg2)
    clear hg2
    go_wp2_with fail
    refine (HS.out _ (hid (X.out.keep G2.out))).mono ?_
    rintro e w3 ⟨rfl, hg3⟩
    have x3_1 := hg3.keep X2_1.out
    have x3_2 := hg3.keep X2_2.out
    have x3_3 := hg3.keep X2_3.out
    have x3_4 := hg3.keep X2_4.out
    obtain ⟨_, _⟩ := cells2 x3_1
    have _ := fz x3_1
    have _ := ltb x3_1
    obtain ⟨_, _⟩ := cells2 x3_2
    have _ := fz x3_2
    have _ := ltb x3_2
    have _ := cells1 x3_3
    have _ := fz x3_3
    have _ := ltb x3_3
    obtain ⟨_, _, _⟩ := cells3 x3_4
    have _ := fz x3_4
    have _ := ltb x3_4
    have X3_1 := hid x3_1; clear x3_1
    have X3_2 := hid x3_2; clear x3_2
    have X3_3 := hid x3_3; clear x3_3
    have X3_4 := hid x3_4; clear x3_4
    have G3 := hid (G2.out.trans hg3)
    clear hg3
    go_wp2_with fail
    refine (toldS_great 86 #[.pointer (some ⟨w.heap.size, 0, none⟩), .pointer (some ⟨w.heap.size + 1, 0, none⟩), .pointer (some ⟨w.heap.size + 1 + 1, 0, none⟩)] _ (fun _ => by kernel_rfl) fun w' hg' => (HCE.out w' _ _ _ (hid (hg'.keep X3_1.out)) (hid (hg'.keep X3_2.out)) (hid (hg'.keep X3_3.out)) (hid (X.out.keep (G3.out.trans hg')))).mono ?_).mono ?_
    · rintro e w'' ⟨⟨hv, _⟩ | ⟨_, hp⟩, hg⟩
      · exact absurd hv HOK.out
      · exact ⟨hp, hg⟩
    rintro e w4 ⟨rfl, hg4⟩
    have G4 := hid (G3.out.trans hg4)
    have Y4 := hid (hg4.keep X3_4.out)
    clear hg4
    obtain ⟨_, _, _⟩ := cells3 Y4.out
    have _ := fz Y4.out
    have _ := ltb Y4.out
    go_wp2_with fail
    refine bodyPost_ret (v := .tuple #[scl 0 0 none 0 0, .int .i64 3]) (by simp [results, Try.results26, go_sem, *]) rfl ?_
    exact .inr ⟨HOK.out, _, _, rfl, own_nilF _ _, (((G4.out.setCell (by simp; omega) _).setCell (by simp; omega) _).setCell (by simp; omega) _).al _⟩
theorem gives0 {w w' : World} {e : Ending} {C : Int} (h : e = .returned (.tuple #[scl 0 0 none 0 0, .int .i64 C]) ∧ Gr w w') : GivesS w w' e 0 0 [] C := ⟨none, 0, h.1, own_nilF _ _, h.2⟩
theorem bothErrorsFrom (a b p q : Int) (xs : List (Int × Int)) (hn : xs.length ≤ 1048576) : ∃ (u v : Int) (ys : List (Int × Int)) (C : Int), ys.length ≤ 1048576 ∧
    (∀ (A : Option Addr) (c : Nat) (w : World), Hid (RdF w A xs) → Calls Try.prog 24 #[fr a b, fr p q, .slice A xs.length c] w fun e w' => GivesS w w' e u v ys C) ∧
    (∀ (A : Option Addr) (c : Nat) (w : World), Hid (RdF w A xs) → Calls Try.prog 26 #[fr a b, fr p q, .slice A xs.length c] w fun e w' => GivesS w w' e u v ys C) := by
  cases h1 : okB a b with
  | false => exact ⟨0, 0, [], 1, by simp, fun A c w X => (sEF_0 a b p q A c xs w h1).mono fun e w' h => gives0 h, fun A c w X => (iEF_0 a b p q A c xs w h1).mono fun e w' h => gives0 h⟩
  | true =>
  cases h2 : okB p q with
  | false => exact ⟨0, 0, [], 1, by simp, fun A c w X => (sEF_1 a b p q A c xs w h1 h2).mono fun e w' h => gives0 h, fun A c w X => (iEF_1 a b p q A c xs w h1 h2).mono fun e w' h => gives0 h⟩
  | true =>
  cases h3 : allF xs with
  | false => exact ⟨0, 0, [], 1, by simp, fun A c w X => (sEF_2 a b p q A c xs w X hn h1 h2 h3).mono fun e w' h => gives0 h, fun A c w X => (iEF_2 a b p q A c xs w X hn h1 h2 h3).mono fun e w' h => gives0 h⟩
  | true =>
  cases h4 : rangeB xs.length with
  | false => exact ⟨0, 0, [], 2, by simp, fun A c w X => (sEF_3 a b p q A c xs w X hn h1 h2 h3 h4).mono fun e w' h => gives0 h, fun A c w X => (iEF_3 a b p q A c xs w X hn h1 h2 h3 h4).mono fun e w' h => gives0 h⟩
  | true =>
  have hl : xs.length ≤ 59 := by unfold rangeB inB at h4; simp at h4; omega
  by_cases hok : EfOk p q xs
  · cases hsc : sclB a b (efL p q xs (xs.length + 1)) with
    | true =>
      have pick : ∀ {w w' : World} {e : Ending}, ((EfOk p q xs ∧ ((sclB a b (efL p q xs (xs.length + 1)) = true ∧ GivesS w w' e a b (efL p q xs (xs.length + 1)) 0) ∨ (sclB a b (efL p q xs (xs.length + 1)) = false ∧ GivesS w w' e 0 0 [] 4))) ∨ (¬ EfOk p q xs ∧ GivesS w w' e 0 0 [] 3)) → GivesS w w' e a b (efL p q xs (xs.length + 1)) 0 := fun h =>
        h.elim (fun h => h.2.elim (fun h => h.2) (fun h => by rw [hsc] at h; cases h.1)) (fun h => absurd hok h.1)
      exact ⟨a, b, efL p q xs (xs.length + 1), 0, by rw [efL_len]; omega, fun A c w X => (sEF_4 a b p q A c xs w X hn h1 h2 h3 h4).mono fun e w' h => pick h, fun A c w X => (iEF_4 a b p q A c xs w X hn h1 h2 h3 h4).mono fun e w' h => pick h⟩
    | false =>
      have pick : ∀ {w w' : World} {e : Ending}, ((EfOk p q xs ∧ ((sclB a b (efL p q xs (xs.length + 1)) = true ∧ GivesS w w' e a b (efL p q xs (xs.length + 1)) 0) ∨ (sclB a b (efL p q xs (xs.length + 1)) = false ∧ GivesS w w' e 0 0 [] 4))) ∨ (¬ EfOk p q xs ∧ GivesS w w' e 0 0 [] 3)) → GivesS w w' e 0 0 [] 4 := fun h =>
        h.elim (fun h => h.2.elim (fun h => by rw [hsc] at h; cases h.1) (fun h => h.2)) (fun h => absurd hok h.1)
      exact ⟨0, 0, [], 4, by simp, fun A c w X => (sEF_4 a b p q A c xs w X hn h1 h2 h3 h4).mono fun e w' h => pick h, fun A c w X => (iEF_4 a b p q A c xs w X hn h1 h2 h3 h4).mono fun e w' h => pick h⟩
  · exact ⟨0, 0, [], 3, by simp, fun A c w X => (sEF_4 a b p q A c xs w X hn h1 h2 h3 h4).mono fun e w' h => h.elim (fun h => absurd h.1 hok) (fun h => h.2), fun A c w X => (iEF_4 a b p q A c xs w X hn h1 h2 h3 h4).mono fun e w' h => h.elim (fun h => absurd h.1 hok) (fun h => h.2)⟩
end Go.Proofs.Ytnbdafecgccojaa
