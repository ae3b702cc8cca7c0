/- WALKS: closing errors that are shared out evenly, of the reference, and of both sides joined. -/
import Derived.Test.YteeadoglbkociaaSe
namespace Go.Proofs.Yteeadoglbkociaa
open Go.RowKit Go.Sort

theorem madeF {w0 w : World} (h : w0.heap.size ≤ w.heap.size) : (w.alloc (.cells #[] 25)).ownsRow w0.heap.size 25 2 (.slice (some ⟨w.heap.size, 0, none⟩) ([] : List (Int × Int)).length 0) ([] : List (Int × Int)).length (flatL []) := World.ownsRow_made _ #[] 0 h (by simp [maxLen]) (by simp)
def rng64 (n : Nat) : Bool := inB (n : Int) 1 64
set_option maxRecDepth 20000 in
set_option maxHeartbeats 400000 in
theorem sSE_0 (g : Nat) (xs : List (Int × Int)) (t0 t1 : Int) (T : TypeId) (w : World) (X : Hid (w.heap[g]? = some (.cells (flatA xs) T))) (hn : xs.length ≤ 1048576) (h : allF xs = false) :
    Calls Try.prog 39 #[sl g xs.length, fr t0 t1] w fun e w' => GivesF w w' e [] 1 := by
  have HS := hid fun (w' : World) (Z : Hid (RdF w' (some ⟨g, 0, none⟩) xs)) => h ▸ sFracs (some ⟨g, 0, none⟩) xs.length xs w' Z hn
  go_enter Try.func39, Try.ntmps39
  go_wp2_with fail
  refine (HS.out _ (hid ((RdF.of_block X.out).keep ((Gr.refl w).al _)))).mono ?_
  rintro e w1 ⟨rfl, hg1⟩
  obtain ⟨x1_0, hz1, g1⟩ := alloc1 hg1
  obtain ⟨_, _⟩ := cells2 x1_0
  have _ := fz x1_0
  have _ := ltb x1_0
  have X1_0 := hid x1_0; clear x1_0
  have G1 := hid (g1)
  clear hg1 g1
  have hsz := G1.out.size
  go_wp2_with fail
  go_ret2
  exact ⟨_, _, rfl, madeF hsz, G1.out.al _⟩
set_option maxRecDepth 20000 in
set_option maxHeartbeats 400000 in
theorem sSE_1 (g : Nat) (xs : List (Int × Int)) (t0 t1 : Int) (T : TypeId) (w : World) (X : Hid (w.heap[g]? = some (.cells (flatA xs) T))) (hn : xs.length ≤ 1048576) (h : allF xs = true) (h2 : okB t0 t1 = false) :
    Calls Try.prog 39 #[sl g xs.length, fr t0 t1] w fun e w' => GivesF w w' e [] 1 := by
  have HS := hid fun (w' : World) (Z : Hid (RdF w' (some ⟨g, 0, none⟩) xs)) => h ▸ sFracs (some ⟨g, 0, none⟩) xs.length xs w' Z hn
  have h2 := hid h2
  go_enter Try.func39, Try.ntmps39
  go_wp2_with fail
  refine (HS.out _ (hid ((RdF.of_block X.out).keep ((Gr.refl w).al _)))).mono ?_
  rintro e w1 ⟨rfl, hg1⟩
  obtain ⟨x1_0, hz1, g1⟩ := alloc1 hg1
  obtain ⟨_, _⟩ := cells2 x1_0
  have _ := fz x1_0
  have _ := ltb x1_0
  have X1_0 := hid x1_0; clear x1_0
  have G1 := hid (g1)
  clear hg1 g1
  go_wp2_with fail
  refine (sok_f _ _ _ h2.out).mono ?_
  rintro e w2 ⟨rfl, hg2⟩
  have x2_1 := hg2.keep X1_0.out
  obtain ⟨_, _⟩ := cells2 x2_1
  have _ := fz x2_1
  have _ := ltb x2_1
  have X2_1 := hid x2_1; clear x2_1
  have G2 := hid (G1.out.trans hg2)
  clear hg2
  have hsz := G2.out.size
  go_wp2_with fail
  go_ret2
  exact ⟨_, _, rfl, madeF hsz, G2.out.al _⟩
theorem in64 (n : Nat) (b : Bool) (h : rng64 n = b) (w : World) : Calls Try.prog 68 #[.int .i64 (n : Int), .int .i64 1, .int .i64 64] w fun e w' => e = .returned (.bool b) ∧ Gr w w' :=
  (in_any (n : Int) 1 64 w).mono fun e w' hh => ⟨by rw [hh.1]; show Ending.returned (.bool (rng64 n)) = _; rw [h], hh.2 ▸ Gr.refl _⟩
set_option maxRecDepth 20000 in
set_option maxHeartbeats 400000 in
theorem sSE_2 (g : Nat) (xs : List (Int × Int)) (t0 t1 : Int) (T : TypeId) (w : World) (X : Hid (w.heap[g]? = some (.cells (flatA xs) T))) (hn : xs.length ≤ 1048576) (h : allF xs = true) (h2 : okB t0 t1 = true) (h3 : rng64 xs.length = false) :
    Calls Try.prog 39 #[sl g xs.length, fr t0 t1] w fun e w' => GivesF w w' e [] 2 := by
  have HS := hid fun (w' : World) (Z : Hid (RdF w' (some ⟨g, 0, none⟩) xs)) => h ▸ sFracs (some ⟨g, 0, none⟩) xs.length xs w' Z hn
  have h2 := hid h2
  have HI := hid (in64 _ _ h3)
  go_enter Try.func39, Try.ntmps39
  go_wp2_with fail
  refine (HS.out _ (hid ((RdF.of_block X.out).keep ((Gr.refl w).al _)))).mono ?_
  rintro e w1 ⟨rfl, hg1⟩
  obtain ⟨x1_0, hz1, g1⟩ := alloc1 hg1
  obtain ⟨_, _⟩ := cells2 x1_0
  have _ := fz x1_0
  have _ := ltb x1_0
  have X1_0 := hid x1_0; clear x1_0
  have G1 := hid (g1)
  clear hg1 g1
  go_wp2_with fail
  refine (sok_t _ _ _ h2.out).mono ?_
  rintro e w2 ⟨rfl, hg2⟩
  have x2_1 := hg2.keep X1_0.out
  obtain ⟨_, _⟩ := cells2 x2_1
  have _ := fz x2_1
  have _ := ltb x2_1
  have X2_1 := hid x2_1; clear x2_1
  have G2 := hid (G1.out.trans hg2)
  clear hg2
  go_wp2_with fail
  refine (HI.out _).mono ?_
  rintro e w3 ⟨rfl, hg3⟩
  have x3_1 := hg3.keep X2_1.out
  obtain ⟨_, _⟩ := cells2 x3_1
  have _ := fz x3_1
  have _ := ltb x3_1
  have X3_1 := hid x3_1; clear x3_1
  have G3 := hid (G2.out.trans hg3)
  clear hg3
  have hsz := G3.out.size
  go_wp2_with fail
  go_ret2
  exact ⟨_, _, rfl, madeF hsz, G3.out.al _⟩
set_option maxRecDepth 20000 in
set_option maxHeartbeats 400000 in
theorem sSE_3 (g : Nat) (xs : List (Int × Int)) (t0 t1  : Int) (T : TypeId) (w : World) (X : Hid (w.heap[g]? = some (.cells (flatA xs) T))) (hn : xs.length ≤ 1048576) (h : allF xs = true) (h2 : okB t0 t1 = true) (h3 : rng64 xs.length = true)
    (hS : ∀ (w' : World), Hid (w'.heap[g]? = some (.cells (flatA xs) T)) → Calls Try.prog 98 #[sl g xs.length] w' fun e w'' => e = .returned (.tuple #[fr 0 0, .int .i64 3]) ∧ Gr w' w'') :
    Calls Try.prog 39 #[sl g xs.length, fr t0 t1] w fun e w' => GivesF w w' e [] 3 := by
  have HS := hid fun (w' : World) (Z : Hid (RdF w' (some ⟨g, 0, none⟩) xs)) => h ▸ sFracs (some ⟨g, 0, none⟩) xs.length xs w' Z hn
  have h2 := hid h2
  have HI := hid (in64 _ _ h3)
  have HSM := hid hS
  clear hS
  go_enter Try.func39, Try.ntmps39
  go_wp2_with fail
  refine (HS.out _ (hid ((RdF.of_block X.out).keep ((Gr.refl w).al _)))).mono ?_
  rintro e w1 ⟨rfl, hg1⟩
  obtain ⟨x1_0, hz1, g1⟩ := alloc1 hg1
  obtain ⟨_, _⟩ := cells2 x1_0
  have _ := fz x1_0
  have _ := ltb x1_0
  have X1_0 := hid x1_0; clear x1_0
  have G1 := hid (g1)
  clear hg1 g1
  go_wp2_with fail
  refine (sok_t _ _ _ h2.out).mono ?_
  rintro e w2 ⟨rfl, hg2⟩
  have x2_1 := hg2.keep X1_0.out
  obtain ⟨_, _⟩ := cells2 x2_1
  have _ := fz x2_1
  have _ := ltb x2_1
  have X2_1 := hid x2_1; clear x2_1
  have G2 := hid (G1.out.trans hg2)
  clear hg2
  go_wp2_with fail
  refine (HI.out _).mono ?_
  rintro e w3 ⟨rfl, hg3⟩
  have x3_1 := hg3.keep X2_1.out
  obtain ⟨_, _⟩ := cells2 x3_1
  have _ := fz x3_1
  have _ := ltb x3_1
  have X3_1 := hid x3_1; clear x3_1
  have G3 := hid (G2.out.trans hg3)
  clear hg3
  go_wp2_with fail
  refine (HSM.out _ (hid (G3.out.keep X.out))).mono ?_
  rintro e w4 ⟨rfl, hg4⟩
  have x4_1 := hg4.keep X3_1.out
  obtain ⟨_, _⟩ := cells2 x4_1
  have _ := fz x4_1
  have _ := ltb x4_1
  have X4_1 := hid x4_1; clear x4_1
  have G4 := hid (G3.out.trans hg4)
  clear hg4
  have hsz := (G4.out.al (.cells #[.int .i64 0, .int .i64 0] 25)).size
  go_wp2_with fail
  go_ret2
  exact ⟨_, _, rfl, by simpa using madeF hsz, (G4.out.al _).al _⟩
set_option maxRecDepth 20000 in
set_option maxHeartbeats 400000 in
theorem sSE_4 (g : Nat) (xs : List (Int × Int)) (t0 t1 u0 u1 : Int) (T : TypeId) (w : World) (X : Hid (w.heap[g]? = some (.cells (flatA xs) T))) (hn : xs.length ≤ 1048576) (h : allF xs = true) (h2 : okB t0 t1 = true) (h3 : rng64 xs.length = true)
    (hS : ∀ (w' : World), Hid (w'.heap[g]? = some (.cells (flatA xs) T)) → Calls Try.prog 98 #[sl g xs.length] w' fun e w'' => e = .returned (.tuple #[fr u0 u1, .int .i64 0]) ∧ Gr w' w'') (hM : ∀ w, Calls Try.prog 99 #[fr u0 u1, fr t0 t1] w fun e w' => e = .returned (.tuple #[fr 0 0, .int .i64 3]) ∧ Gr w w') :
    Calls Try.prog 39 #[sl g xs.length, fr t0 t1] w fun e w' => GivesF w w' e [] 3 := by
  have HS := hid fun (w' : World) (Z : Hid (RdF w' (some ⟨g, 0, none⟩) xs)) => h ▸ sFracs (some ⟨g, 0, none⟩) xs.length xs w' Z hn
  have h2 := hid h2
  have HI := hid (in64 _ _ h3)
  have HSM := hid hS
  have HM := hid hM
  clear hS hM
  go_enter Try.func39, Try.ntmps39
  go_wp2_with fail
  refine (HS.out _ (hid ((RdF.of_block X.out).keep ((Gr.refl w).al _)))).mono ?_
  rintro e w1 ⟨rfl, hg1⟩
  obtain ⟨x1_0, hz1, g1⟩ := alloc1 hg1
  obtain ⟨_, _⟩ := cells2 x1_0
  have _ := fz x1_0
  have _ := ltb x1_0
  have X1_0 := hid x1_0; clear x1_0
  have G1 := hid (g1)
  clear hg1 g1
  go_wp2_with fail
  refine (sok_t _ _ _ h2.out).mono ?_
  rintro e w2 ⟨rfl, hg2⟩
  have x2_1 := hg2.keep X1_0.out
  obtain ⟨_, _⟩ := cells2 x2_1
  have _ := fz x2_1
  have _ := ltb x2_1
  have X2_1 := hid x2_1; clear x2_1
  have G2 := hid (G1.out.trans hg2)
  clear hg2
  go_wp2_with fail
  refine (HI.out _).mono ?_
  rintro e w3 ⟨rfl, hg3⟩
  have x3_1 := hg3.keep X2_1.out
  obtain ⟨_, _⟩ := cells2 x3_1
  have _ := fz x3_1
  have _ := ltb x3_1
  have X3_1 := hid x3_1; clear x3_1
  have G3 := hid (G2.out.trans hg3)
  clear hg3
  go_wp2_with fail
  refine (HSM.out _ (hid (G3.out.keep X.out))).mono ?_
  rintro e w4 ⟨rfl, hg4⟩
  have x4_1 := hg4.keep X3_1.out
  obtain ⟨_, _⟩ := cells2 x4_1
  have _ := fz x4_1
  have _ := ltb x4_1
  have X4_1 := hid x4_1; clear x4_1
  have G4 := hid (G3.out.trans hg4)
  clear hg4
  go_wp2_with fail
  refine (HM.out _).mono ?_
  rintro e w5 ⟨rfl, hg5⟩
  obtain ⟨x5_0, hz5, g5⟩ := alloc1 hg5
  have x5_1 := g5.keep X4_1.out
  obtain ⟨_, _⟩ := cells2 x5_1
  have _ := fz x5_1
  have _ := ltb x5_1
  obtain ⟨_, _⟩ := cells2 x5_0
  have _ := fz x5_0
  have _ := ltb x5_0
  have X5_1 := hid x5_1; clear x5_1
  have X5_0 := hid x5_0; clear x5_0
  have G5 := hid (G4.out.trans g5)
  clear hg5 g5
  have hsz := (G5.out.al (.cells #[.int .i64 0, .int .i64 0] 25)).size
  go_wp2_with fail
  go_ret2
  exact ⟨_, _, rfl, by simpa using madeF hsz, (G5.out.al _).al _⟩
set_option maxRecDepth 20000 in
set_option maxHeartbeats 400000 in
theorem sSE_5 (g : Nat) (xs : List (Int × Int)) (t0 t1 u0 u1 d0 d1 : Int) (T : TypeId) (w : World) (X : Hid (w.heap[g]? = some (.cells (flatA xs) T))) (hn : xs.length ≤ 1048576) (h : allF xs = true) (h2 : okB t0 t1 = true) (h3 : rng64 xs.length = true)
    (hS : ∀ (w' : World), Hid (w'.heap[g]? = some (.cells (flatA xs) T)) → Calls Try.prog 98 #[sl g xs.length] w' fun e w'' => e = .returned (.tuple #[fr u0 u1, .int .i64 0]) ∧ Gr w' w'') (hM : ∀ w, Calls Try.prog 99 #[fr u0 u1, fr t0 t1] w fun e w' => e = .returned (.tuple #[fr d0 d1, .int .i64 0]) ∧ Gr w w') (hO : ∀ w, Calls Try.prog 100 #[fr d0 d1, fr (xs.length : Int) 1] w fun e w' => e = .returned (.tuple #[fr 0 0, .int .i64 3]) ∧ Gr w w') :
    Calls Try.prog 39 #[sl g xs.length, fr t0 t1] w fun e w' => GivesF w w' e [] 3 := by
  have HS := hid fun (w' : World) (Z : Hid (RdF w' (some ⟨g, 0, none⟩) xs)) => h ▸ sFracs (some ⟨g, 0, none⟩) xs.length xs w' Z hn
  have h2 := hid h2
  have HI := hid (in64 _ _ h3)
  have HSM := hid hS
  have HM := hid hM
  have HO := hid hO
  clear hS hM hO
  go_enter Try.func39, Try.ntmps39
  go_wp2_with fail
  refine (HS.out _ (hid ((RdF.of_block X.out).keep ((Gr.refl w).al _)))).mono ?_
  rintro e w1 ⟨rfl, hg1⟩
  obtain ⟨x1_0, hz1, g1⟩ := alloc1 hg1
  obtain ⟨_, _⟩ := cells2 x1_0
  have _ := fz x1_0
  have _ := ltb x1_0
  have X1_0 := hid x1_0; clear x1_0
  have G1 := hid (g1)
  clear hg1 g1
  go_wp2_with fail
  refine (sok_t _ _ _ h2.out).mono ?_
  rintro e w2 ⟨rfl, hg2⟩
  have x2_1 := hg2.keep X1_0.out
  obtain ⟨_, _⟩ := cells2 x2_1
  have _ := fz x2_1
  have _ := ltb x2_1
  have X2_1 := hid x2_1; clear x2_1
  have G2 := hid (G1.out.trans hg2)
  clear hg2
  go_wp2_with fail
  refine (HI.out _).mono ?_
  rintro e w3 ⟨rfl, hg3⟩
  have x3_1 := hg3.keep X2_1.out
  obtain ⟨_, _⟩ := cells2 x3_1
  have _ := fz x3_1
  have _ := ltb x3_1
  have X3_1 := hid x3_1; clear x3_1
  have G3 := hid (G2.out.trans hg3)
  clear hg3
  go_wp2_with fail
  refine (HSM.out _ (hid (G3.out.keep X.out))).mono ?_
  rintro e w4 ⟨rfl, hg4⟩
  have x4_1 := hg4.keep X3_1.out
  obtain ⟨_, _⟩ := cells2 x4_1
  have _ := fz x4_1
  have _ := ltb x4_1
  have X4_1 := hid x4_1; clear x4_1
  have G4 := hid (G3.out.trans hg4)
  clear hg4
  go_wp2_with fail
  refine (HM.out _).mono ?_
  rintro e w5 ⟨rfl, hg5⟩
  obtain ⟨x5_0, hz5, g5⟩ := alloc1 hg5
  have x5_1 := g5.keep X4_1.out
  obtain ⟨_, _⟩ := cells2 x5_1
  have _ := fz x5_1
  have _ := ltb x5_1
  obtain ⟨_, _⟩ := cells2 x5_0
  have _ := fz x5_0
  have _ := ltb x5_0
  have X5_1 := hid x5_1; clear x5_1
  have X5_0 := hid x5_0; clear x5_0
  have G5 := hid (G4.out.trans g5)
  clear hg5 g5
  go_wp2_with fail
  refine wp_reg1s #[.int .i64 0, .int .i64 0] 10 8 10 9 55 (by kernel_rfl) (by kernel_rfl) rfl rfl (by simp) rfl rfl (by decide) (fun _ _ => by kernel_rfl) (by kernel_rfl) ?_
  apply Exists.intro; apply Exists.intro
  refine ⟨fun wb hb => ?_, ?_⟩
  · obtain ⟨_, _⟩ := hb.at2 (((Gr.refl _).al _).keep X5_1.out)
    obtain ⟨_, _⟩ := hb.at2 (((Gr.refl _).al _).keep X5_0.out)
    obtain ⟨_, _⟩ := hb.at2 (alloc1 (Gr.refl _)).1
    simp only [headOps, List.contains, List.elem, Nat.reduceAdd, Nat.reduceBEq, reduceIte, Bool.false_eq_true, dumOp]
    repeat (first | go_big_quiet_step (first | (go_at_call 101; exact Calls.of_gr (swhole1 _ _)) | (go_at_call 100; exact Calls.of_gr (HO.out _))) | quiet_step (fail))
    exact wpQuiet_nil rfl
  refine ⟨rfl, ⟨rfl, by simp [Value.oneCell']⟩, fun w6 b6 hg6 _ xb6 => ?_⟩
  obtain ⟨x6_0, hz6, g6⟩ := alloc1 hg6
  have x6_1 := g6.keep X5_1.out
  have x6_2 := g6.keep X5_0.out
  obtain ⟨_, _⟩ := cells2 x6_1
  have _ := fz x6_1
  have _ := ltb x6_1
  obtain ⟨_, _⟩ := cells2 x6_2
  have _ := fz x6_2
  have _ := ltb x6_2
  obtain ⟨_, _⟩ := cells2 x6_0
  have _ := fz x6_0
  have _ := ltb x6_0
  obtain ⟨_, _⟩ := cells2 xb6
  have _ := fz xb6
  have _ := ltb xb6
  have X6_1 := hid x6_1; clear x6_1
  have X6_2 := hid x6_2; clear x6_2
  have X6_0 := hid x6_0; clear x6_0
  have Xb6 := hid xb6; clear xb6
  have G6 := hid (G5.out.trans g6)
  clear hg6 g6
  have hsz := G6.out.size
  go_wp2_with fail
  go_ret2
  exact ⟨_, _, rfl, madeF hsz, G6.out.al _⟩
set_option maxRecDepth 20000 in
set_option maxHeartbeats 2000000 in
theorem sSE_6 (g : Nat) (xs : List (Int × Int)) (t0 t1 u0 u1 d0 d1 s t : Int) (T : TypeId) (w : World) (X : Hid (w.heap[g]? = some (.cells (flatA xs) T))) (hn : xs.length ≤ 1048576) (h : allF xs = true) (h2 : okB t0 t1 = true) (h3 : rng64 xs.length = true)
    (hS : ∀ (w' : World), Hid (w'.heap[g]? = some (.cells (flatA xs) T)) → Calls Try.prog 98 #[sl g xs.length] w' fun e w'' => e = .returned (.tuple #[fr u0 u1, .int .i64 0]) ∧ Gr w' w'') (hM : ∀ w, Calls Try.prog 99 #[fr u0 u1, fr t0 t1] w fun e w' => e = .returned (.tuple #[fr d0 d1, .int .i64 0]) ∧ Gr w w') (hO : ∀ w, Calls Try.prog 100 #[fr d0 d1, fr (xs.length : Int) 1] w fun e w' => e = .returned (.tuple #[fr s t, .int .i64 0]) ∧ Gr w w') (hst : okB s t = true) :
    Calls Try.prog 39 #[sl g xs.length, fr t0 t1] w fun e w' => (AllE s t xs ∧ GivesF w w' e (evs s t xs) 0) ∨ (¬ AllE s t xs ∧ GivesF w w' e [] 3) := by
  have HS := hid fun (w' : World) (Z : Hid (RdF w' (some ⟨g, 0, none⟩) xs)) => h ▸ sFracs (some ⟨g, 0, none⟩) xs.length xs w' Z hn
  have h2 := hid h2
  have HI := hid (in64 _ _ h3)
  obtain ⟨i0, hi, iz0, iz1, iz2⟩ : ∃ i, Try.prog.info? 25 = some i ∧ i.zero = some (fr 0 0) ∧ i.size = 2 ∧ i.bytes = 16 := ⟨_, rfl, rfl, rfl, rfl⟩
  have hl : xs.length ≤ 64 := by unfold rng64 inB at h3; simp at h3; omega
  have HALL := hid h; have HST := hid hst
  have HSM := hid hS
  have HM := hid hM
  have HO := hid hO
  clear hS hM hO
  go_enter Try.func39, Try.ntmps39
  go_wp2_with fail
  refine (HS.out _ (hid ((RdF.of_block X.out).keep ((Gr.refl w).al _)))).mono ?_
  rintro e w1 ⟨rfl, hg1⟩
  obtain ⟨x1_0, hz1, g1⟩ := alloc1 hg1
  obtain ⟨_, _⟩ := cells2 x1_0
  have _ := fz x1_0
  have _ := ltb x1_0
  have X1_0 := hid x1_0; clear x1_0
  have G1 := hid (g1)
  clear hg1 g1
  go_wp2_with fail
  refine (sok_t _ _ _ h2.out).mono ?_
  rintro e w2 ⟨rfl, hg2⟩
  have x2_1 := hg2.keep X1_0.out
  obtain ⟨_, _⟩ := cells2 x2_1
  have _ := fz x2_1
  have _ := ltb x2_1
  have X2_1 := hid x2_1; clear x2_1
  have G2 := hid (G1.out.trans hg2)
  clear hg2
  go_wp2_with fail
  refine (HI.out _).mono ?_
  rintro e w3 ⟨rfl, hg3⟩
  have x3_1 := hg3.keep X2_1.out
  obtain ⟨_, _⟩ := cells2 x3_1
  have _ := fz x3_1
  have _ := ltb x3_1
  have X3_1 := hid x3_1; clear x3_1
  have G3 := hid (G2.out.trans hg3)
  clear hg3
  go_wp2_with fail
  refine (HSM.out _ (hid (G3.out.keep X.out))).mono ?_
  rintro e w4 ⟨rfl, hg4⟩
  have x4_1 := hg4.keep X3_1.out
  obtain ⟨_, _⟩ := cells2 x4_1
  have _ := fz x4_1
  have _ := ltb x4_1
  have X4_1 := hid x4_1; clear x4_1
  have G4 := hid (G3.out.trans hg4)
  clear hg4
  go_wp2_with fail
  refine (HM.out _).mono ?_
  rintro e w5 ⟨rfl, hg5⟩
  obtain ⟨x5_0, hz5, g5⟩ := alloc1 hg5
  have x5_1 := g5.keep X4_1.out
  obtain ⟨_, _⟩ := cells2 x5_1
  have _ := fz x5_1
  have _ := ltb x5_1
  obtain ⟨_, _⟩ := cells2 x5_0
  have _ := fz x5_0
  have _ := ltb x5_0
  have X5_1 := hid x5_1; clear x5_1
  have X5_0 := hid x5_0; clear x5_0
  have G5 := hid (G4.out.trans g5)
  clear hg5 g5
  go_wp2_with fail
  refine wp_reg1s #[.int .i64 0, .int .i64 0] 10 8 10 9 55 (by kernel_rfl) (by kernel_rfl) rfl rfl (by simp) rfl rfl (by decide) (fun _ _ => by kernel_rfl) (by kernel_rfl) ?_
  apply Exists.intro; apply Exists.intro
  refine ⟨fun wb hb => ?_, ?_⟩
  · obtain ⟨_, _⟩ := hb.at2 (((Gr.refl _).al _).keep X5_1.out)
    obtain ⟨_, _⟩ := hb.at2 (((Gr.refl _).al _).keep X5_0.out)
    obtain ⟨_, _⟩ := hb.at2 (alloc1 (Gr.refl _)).1
    simp only [headOps, List.contains, List.elem, Nat.reduceAdd, Nat.reduceBEq, reduceIte, Bool.false_eq_true, dumOp]
    repeat (first | go_big_quiet_step (first | (go_at_call 101; exact Calls.of_gr (swhole1 _ _)) | (go_at_call 100; exact Calls.of_gr (HO.out _))) | quiet_step (fail))
    exact wpQuiet_nil rfl
  refine ⟨rfl, ⟨rfl, by simp [Value.oneCell']⟩, fun w6 b6 hg6 _ xb6 => ?_⟩
  obtain ⟨x6_0, hz6, g6⟩ := alloc1 hg6
  have x6_1 := g6.keep X5_1.out
  have x6_2 := g6.keep X5_0.out
  obtain ⟨_, _⟩ := cells2 x6_1
  have _ := fz x6_1
  have _ := ltb x6_1
  obtain ⟨_, _⟩ := cells2 x6_2
  have _ := fz x6_2
  have _ := ltb x6_2
  obtain ⟨_, _⟩ := cells2 x6_0
  have _ := fz x6_0
  have _ := ltb x6_0
  obtain ⟨_, _⟩ := cells2 xb6
  have _ := fz xb6
  have _ := ltb xb6
  have X6_1 := hid x6_1; clear x6_1
  have X6_2 := hid x6_2; clear x6_2
  have X6_0 := hid x6_0; clear x6_0
  have Xb6 := hid xb6; clear xb6
  have G6 := hid (G5.out.trans g6)
  clear hg6 g6
  have hw6 := G6.out.size
  go_wp2_with fail
  go_loopw [12, 13] (fun v u wr => ∃ (k : Nat) (A' : Option Addr) (c' : Nat), u = .int .i64 (k : Int) ∧ v = .slice A' k c' ∧ k ≤ xs.length ∧ Gr w6 wr ∧ wr.ownsRow w6.heap.size 25 2 (.slice A' k c') k (flatL ((evs s t xs).take k)) ∧ (∀ (i : Nat) (p q : Int), i < k → xs[i]? = some (p, q) → sbB p q s t = true)) (fun _ u _ => xs.length - (intOf u).toNat)
  case atStart => exact ⟨0, _, _, rfl, rfl, by omega, (Gr.refl _).al _, World.ownsRow_made _ #[] 0 (Nat.le_refl _) (by simp [maxLen]) (by simp), fun i p q h => by omega⟩
  case round =>
    obtain ⟨k, A', c', rfl, rfl, hk, hg, hown, hok⟩ := hrel
    have GW := hid hg; have OWN := hid hown; have HOK := hid hok
    have GV := hid (G6.out.trans hg)
    have YS := hid (hg.keep Xb6.out)
    clear hg hown hok
    by_cases hlt : k < xs.length
    · obtain ⟨⟨p, q⟩, hp⟩ : ∃ pq, xs[k]? = some pq := ⟨xs[k], List.getElem?_eq_getElem _⟩
      have HPQ := hid (allF_get2 HALL.out hp)
      obtain ⟨c1, c2⟩ := flat_cells (GV.out.keep X.out) hp
      have C1 := hid c1; have C2 := hid c2; have HP := hid hp
      have HTK := hid (evs_take (s := s) (t := t) hp)
      clear c1 c2 hp
      cases hd : sbB p q s t with
      | true =>
        have HD := hid hd
        have hmn := fun w => ssubv_t p q s t w HPQ.out HST.out HD.out
        obtain ⟨P, hP⟩ : ∃ P, sbP p q s t = P := ⟨_, rfl⟩
        obtain ⟨Q, hQ⟩ : ∃ Q, sbQ p q s t = Q := ⟨_, rfl⟩
        rw [hP, hQ] at hmn HTK
        have HMN := hid hmn
        clear hd hmn hP hQ
        go_wp2_with fail
        refine wp_reg1s #[.int .i64 0, .int .i64 0] 11 9 14 10 75 (by kernel_rfl) (by kernel_rfl) rfl rfl (by simp) rfl rfl (by decide) (fun _ _ => by kernel_rfl) (by kernel_rfl) ?_
        apply Exists.intro; apply Exists.intro
        refine ⟨fun wb hb => ?_, ?_⟩
        · obtain ⟨_, _⟩ := hb.at2 YS.out
          have _ := hb.atF C1.out; have _ := hb.atF C2.out
          simp only [headOps, List.contains, List.elem, Nat.reduceAdd, Nat.reduceBEq, reduceIte, Bool.false_eq_true, dumOp]
          repeat (first | go_big_quiet_step (first | (go_at_call 99; exact Calls.of_gr (HMN.out _))) | quiet_step (fail))
          exact wpQuiet_nil rfl
        refine ⟨rfl, ⟨rfl, by simp [Value.oneCell']⟩, fun w7 b7 hg7 _ xb7 => ?_⟩
        have OWN2 := hid (own_gr OWN.out (hg7.al (.cells #[.int .i64 P, .int .i64 Q] 25)))
        have NEW := hid (one_newsF (w := w7.alloc (.cells #[.int .i64 P, .int .i64 Q] 25)) (b := w7.heap.size) (alloc1 (Gr.refl _)).1)
        have G2' := hid ((GW.out.trans hg7).al (.cells #[.int .i64 P, .int .i64 Q] 25))
        have hsz := G2'.out.size
        obtain ⟨_, _⟩ := cells2 xb7
        have _ := fz xb7
        have _ := ltb xb7
        clear hg7 xb7 OWN
        go_wp2_with (at_builtin; refine (wpList_append_gr rfl _ _ 45 rfl w6.heap.size 25 i0 (fr 0 0) 2 16 Try.underlying45 hi iz0 iz1 iz2 rfl (by decide) _ k _ rfl OWN2.out ⟨w7.heap.size, 0, none⟩ 1 1 [.int .i64 P, .int .i64 Q] rfl rfl NEW.out (by simp [Value.oneCell']) (by decide) (by unfold maxLen; omega) (by omega) hsz ?_))
        intro v' w8 own8 _ _ hgr
        obtain ⟨A2, c2, rfl⟩ := own_form own8
        rw [flatL_app, ← HTK.out] at own8
        have OWN8 := hid own8
        have G8 := hid (hgr _ G2'.out (Nat.le_refl _))
        clear own8 hgr OWN2 NEW hsz
        go_wp2_with fail
        refine ⟨⟨k + 1, A2, c2, by simp, by simp, by omega, G8.out, OWN8.out, fun i p' q' hi hp' => ?_⟩, by simp [intOf]; omega⟩
        by_cases hik : i = k
        · subst hik
          have := HP.out.symm.trans hp'
          cases this
          exact HD.out
        · exact HOK.out i p' q' (by omega) hp'
      | false =>
        have HD := hid hd
        have HMN := hid fun w => ssubv_f p q s t w HPQ.out HST.out HD.out
        have HNA : Hid (¬ AllE s t xs) := hid fun h => by have := h k p q HP.out; rw [HD.out] at this; cases this
        clear hd
        go_wp2_with fail
        refine wp_reg1s #[.int .i64 0, .int .i64 0] 11 9 14 10 75 (by kernel_rfl) (by kernel_rfl) rfl rfl (by simp) rfl rfl (by decide) (fun _ _ => by kernel_rfl) (by kernel_rfl) ?_
        apply Exists.intro; apply Exists.intro
        refine ⟨fun wb hb => ?_, ?_⟩
        · obtain ⟨_, _⟩ := hb.at2 YS.out
          have _ := hb.atF C1.out; have _ := hb.atF C2.out
          simp only [headOps, List.contains, List.elem, Nat.reduceAdd, Nat.reduceBEq, reduceIte, Bool.false_eq_true, dumOp]
          repeat (first | go_big_quiet_step (first | (go_at_call 99; exact Calls.of_gr (HMN.out _))) | quiet_step (fail))
          exact wpQuiet_nil rfl
        refine ⟨rfl, ⟨rfl, by simp [Value.oneCell']⟩, fun w7 b7 hg7 _ xb7 => ?_⟩
        have G7 := hid (GV.out.trans hg7)
        have hsz := G7.out.size
        clear hg7 xb7
        go_wp2_with fail
        go_ret2
        exact .inr ⟨HNA.out, _, _, rfl, madeF hsz, G7.out.al _⟩
    · have hke : k = xs.length := by omega
      subst hke
      go_wp2_with fail
      go_ret2
      have h := OWN.out
      rw [← evs_len s t xs, List.take_length] at h
      exact .inl ⟨fun k p q hp => HOK.out k p q (List.getElem?_eq_some_iff.1 hp).1 hp, A', c', by rw [evs_len]; rfl, own_base h hw6, GV.out⟩
end Go.Proofs.Yteeadoglbkociaa
