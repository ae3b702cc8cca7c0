/- WALKS: a spindle is turned; TurnSpindle, of the program and of the reference. -/
import Derived.Test.YtjcebojmfoppaaaX3
import Derived.Test.YtjcebojmfoppaaaW
import Derived.Test.YtjcebojmfoppaaaB2
namespace Go.Proofs.Ytjcebojmfoppaaa
open Go.RowKit Go.Sort

/-- Where a spindle stands that has been at p / q, when t parts have been turned in all. -/
def atP (a b n c d t p q : Int) : Int := mnP (mxP p q (lP a b n c d t) (lQ a b n c d t)) (mxQ p q (lP a b n c d t) (lQ a b n c d t)) (nP a b n t) (nQ a b n t)
def atQ (a b n c d t p q : Int) : Int := mnQ (mxP p q (lP a b n c d t) (lQ a b n c d t)) (mxQ p q (lP a b n c d t) (lQ a b n c d t)) (nP a b n t) (nQ a b n t)
theorem cmp_swap {a b c d : Int} : cmpI a b c d < 0 ↔ 0 < cmpI c d a b := by
  unfold cmpI
  by_cases h : a * d < c * b
  · have h' : ¬ c * b < a * d := by omega
    simp [h, h']
  · by_cases h' : c * b < a * d
    · simp [h, h']
    · simp [h, h']
theorem spB_le {a b c d : Int} (h : spB a b c d = true) : cmpI a b c d ≤ 0 := (spB_ok h).2.2
/-- the nut has taken it along forward -/
theorem at_lo {a b n c d t p q : Int} (hs : scB a b n c d = true) (ge : eB a b n c d t = true) (h : cmpI p q (lP a b n c d t) (lQ a b n c d t) < 0) : atP a b n c d t p q = lP a b n c d t ∧ atQ a b n c d t p q = lQ a b n c d t := by
  have h1 := cmp_swap.1 h
  have h2 := spB_le (ends_ok hs ge)
  unfold atP atQ mxP mxQ
  simp only [if_pos h1]
  unfold mnP mnQ
  have h3 : ¬ cmpI (nP a b n t) (nQ a b n t) (lP a b n c d t) (lQ a b n c d t) < 0 := fun h => by have := cmp_swap.1 h; omega
  simp only [if_neg h3, and_self]
/-- the nut has taken it along back -/
theorem at_hi {a b n c d t p q : Int} (h : ¬ cmpI p q (lP a b n c d t) (lQ a b n c d t) < 0) (h' : 0 < cmpI p q (nP a b n t) (nQ a b n t)) : atP a b n c d t p q = nP a b n t ∧ atQ a b n c d t p q = nQ a b n t := by
  have h1 : ¬ 0 < cmpI (lP a b n c d t) (lQ a b n c d t) p q := fun h0 => h (cmp_swap.2 h0)
  have h2 := cmp_swap.2 h'
  unfold atP atQ mxP mxQ
  simp only [if_neg h1]
  unfold mnP mnQ
  simp only [if_pos h2, and_self]
/-- it stays -/
theorem at_mid {a b n c d t p q : Int} (h : ¬ cmpI p q (lP a b n c d t) (lQ a b n c d t) < 0) (h' : ¬ 0 < cmpI p q (nP a b n t) (nQ a b n t)) : atP a b n c d t p q = p ∧ atQ a b n c d t p q = q := by
  have h1 : ¬ 0 < cmpI (lP a b n c d t) (lQ a b n c d t) p q := fun h0 => h (cmp_swap.2 h0)
  have h2 : ¬ cmpI (nP a b n t) (nQ a b n t) p q < 0 := fun h0 => h' (cmp_swap.1 h0)
  unfold atP atQ mxP mxQ
  simp only [if_neg h1]
  unfold mnP mnQ
  simp only [if_neg h2, and_self]
set_option maxRecDepth 20000 in
set_option maxHeartbeats 400000 in
theorem sturn_f1 (a b n c d t p q y : Int) (w : World) (k : Nat) (X1 : Hid (w.heap[k]? = some (.cells #[.int .i64 a, .int .i64 b, .int .i64 n, .int .i64 c, .int .i64 d] 35))) (hy : inB y (-20000) 20000 = false) :
    Calls Try.prog 41 #[.pointer (some ⟨k, 0, none⟩), spi t p q, .int .i64 y] w fun e w' => e = .returned (.tuple #[spi 0 0 0, .int .i64 2]) ∧ Gr w w' := by
  have hy := hid hy
  go_enter Try.func41, Try.ntmps41
  obtain ⟨_, _, _, _, _⟩ := cells5 X1.out
  have _ := fz X1.out
  have _ := ltb X1.out
  go_wp2_with fail
  refine (in_f _ _ _ _ hy.out).mono ?_
  rintro e w1 ⟨rfl, hg1⟩
  obtain ⟨x1_0, x1_1, hz1, g1⟩ := alloc2 hg1
  have x1_2 := g1.keep X1.out
  obtain ⟨_, _, _⟩ := cells3 x1_0
  have _ := fz x1_0
  have _ := ltb x1_0
  obtain ⟨_, _, _⟩ := cells3 x1_1
  have _ := fz x1_1
  have _ := ltb x1_1
  obtain ⟨_, _, _, _, _⟩ := cells5 x1_2
  have _ := fz x1_2
  have _ := ltb x1_2
  have X1_0 := hid x1_0; clear x1_0
  have X1_1 := hid x1_1; clear x1_1
  have X1_2 := hid x1_2; clear x1_2
  have G1 := hid (g1)
  clear hg1 g1
  go_wp2
  refine bodyPost_ret (v := .tuple #[spi 0 0 0, .int .i64 2]) (by simp [results, Try.results41, go_sem, *]) rfl ⟨rfl, ?_⟩
  exact (((G1.out).setCell (by simp <;> omega) _).setCell (by simp <;> omega) _).setCell (by simp <;> omega) _
set_option maxRecDepth 20000 in
set_option maxHeartbeats 400000 in
theorem sturn_f2 (a b n c d t p q y : Int) (w : World) (k : Nat) (X1 : Hid (w.heap[k]? = some (.cells #[.int .i64 a, .int .i64 b, .int .i64 n, .int .i64 c, .int .i64 d] 35))) (t1 : -10000 ≤ t) (t2 : t ≤ 10000) (y1 : -20000 ≤ y) (y2 : y ≤ 20000) (hi : inB (t+y) (-10000) 10000 = false) :
    Calls Try.prog 41 #[.pointer (some ⟨k, 0, none⟩), spi t p q, .int .i64 y] w fun e w' => e = .returned (.tuple #[spi 0 0 0, .int .i64 2]) ∧ Gr w w' := by
  have hy := hid (show inB y (-20000) 20000 = true by unfold inB; simp; omega)
  have hi := hid hi
  go_enter Try.func41, Try.ntmps41
  obtain ⟨_, _, _, _, _⟩ := cells5 X1.out
  have _ := fz X1.out
  have _ := ltb X1.out
  go_wp2_with fail
  refine (in_t _ _ _ _ hy.out).mono ?_
  rintro e w1 ⟨rfl, hg1⟩
  obtain ⟨x1_0, x1_1, hz1, g1⟩ := alloc2 hg1
  have x1_2 := g1.keep X1.out
  obtain ⟨_, _, _⟩ := cells3 x1_0
  have _ := fz x1_0
  have _ := ltb x1_0
  obtain ⟨_, _, _⟩ := cells3 x1_1
  have _ := fz x1_1
  have _ := ltb x1_1
  obtain ⟨_, _, _, _, _⟩ := cells5 x1_2
  have _ := fz x1_2
  have _ := ltb x1_2
  have X1_0 := hid x1_0; clear x1_0
  have X1_1 := hid x1_1; clear x1_1
  have X1_2 := hid x1_2; clear x1_2
  have G1 := hid (g1)
  clear hg1 g1
  go_wp2_with fail
  refine (in_f _ _ _ _ hi.out).mono ?_
  rintro e w2 ⟨rfl, hg2⟩
  have x2_1 := hg2.keep X1_0.out
  have x2_2 := hg2.keep X1_1.out
  have x2_3 := hg2.keep X1_2.out
  obtain ⟨_, _, _⟩ := cells3 x2_1
  have _ := fz x2_1
  have _ := ltb x2_1
  obtain ⟨_, _, _⟩ := cells3 x2_2
  have _ := fz x2_2
  have _ := ltb x2_2
  obtain ⟨_, _, _, _, _⟩ := cells5 x2_3
  have _ := fz x2_3
  have _ := ltb x2_3
  have X2_1 := hid x2_1; clear x2_1
  have X2_2 := hid x2_2; clear x2_2
  have X2_3 := hid x2_3; clear x2_3
  have G2 := hid (G1.out.trans hg2)
  clear hg2
  go_wp2
  refine bodyPost_ret (v := .tuple #[spi 0 0 0, .int .i64 2]) (by simp [results, Try.results41, go_sem, *]) rfl ⟨rfl, ?_⟩
  exact (((G2.out).setCell (by simp <;> omega) _).setCell (by simp <;> omega) _).setCell (by simp <;> omega) _
set_option maxRecDepth 20000 in
set_option maxHeartbeats 400000 in
theorem sturn_f3 (a b n c d t p q y : Int) (w : World) (k : Nat) (X1 : Hid (w.heap[k]? = some (.cells #[.int .i64 a, .int .i64 b, .int .i64 n, .int .i64 c, .int .i64 d] 35))) (y1 : -20000 ≤ y) (y2 : y ≤ 20000) (hs : scB a b n c d = true) (i1 : -10000 ≤ t+y) (i2 : t+y ≤ 10000) (ge : eB a b n c d (t+y) = false) :
    Calls Try.prog 41 #[.pointer (some ⟨k, 0, none⟩), spi t p q, .int .i64 y] w fun e w' => e = .returned (.tuple #[spi 0 0 0, .int .i64 3]) ∧ Gr w w' := by
  have hy := hid (show inB y (-20000) 20000 = true by unfold inB; simp; omega)
  have hi := hid (show inB (t+y) (-10000) 10000 = true by unfold inB; simp; omega)
  have O := hid (scB_all hs)
  have ht := hid (ok_whole (t := t + y) (by omega) (by omega))
  have ge := hid ge
  clear hs
  go_enter Try.func41, Try.ntmps41
  obtain ⟨_, _, _, _, _⟩ := cells5 X1.out
  have _ := fz X1.out
  have _ := ltb X1.out
  go_wp2_with fail
  refine (in_t _ _ _ _ hy.out).mono ?_
  rintro e w1 ⟨rfl, hg1⟩
  obtain ⟨x1_0, x1_1, hz1, g1⟩ := alloc2 hg1
  have x1_2 := g1.keep X1.out
  obtain ⟨_, _, _⟩ := cells3 x1_0
  have _ := fz x1_0
  have _ := ltb x1_0
  obtain ⟨_, _, _⟩ := cells3 x1_1
  have _ := fz x1_1
  have _ := ltb x1_1
  obtain ⟨_, _, _, _, _⟩ := cells5 x1_2
  have _ := fz x1_2
  have _ := ltb x1_2
  have X1_0 := hid x1_0; clear x1_0
  have X1_1 := hid x1_1; clear x1_1
  have X1_2 := hid x1_2; clear x1_2
  have G1 := hid (g1)
  clear hg1 g1
  go_wp2_with fail
  refine (in_t _ _ _ _ hi.out).mono ?_
  rintro e w2 ⟨rfl, hg2⟩
  have x2_1 := hg2.keep X1_0.out
  have x2_2 := hg2.keep X1_1.out
  have x2_3 := hg2.keep X1_2.out
  obtain ⟨_, _, _⟩ := cells3 x2_1
  have _ := fz x2_1
  have _ := ltb x2_1
  obtain ⟨_, _, _⟩ := cells3 x2_2
  have _ := fz x2_2
  have _ := ltb x2_2
  obtain ⟨_, _, _, _, _⟩ := cells5 x2_3
  have _ := fz x2_3
  have _ := ltb x2_3
  have X2_1 := hid x2_1; clear x2_1
  have X2_2 := hid x2_2; clear x2_2
  have X2_3 := hid x2_3; clear x2_3
  have G2 := hid (G1.out.trans hg2)
  clear hg2
  go_wp2_with fail
  refine (sends_no _ _ _ _ _ _ _ _ (hid X2_3.out) O.out.1 ht.out O.out.2.1 O.out.2.2.1 O.out.2.2.2.1 ge.out).mono ?_
  rintro e w3 ⟨rfl, hg3⟩
  have x3_1 := hg3.keep X2_1.out
  have x3_2 := hg3.keep X2_2.out
  have x3_3 := hg3.keep X2_3.out
  obtain ⟨_, _, _⟩ := cells3 x3_1
  have _ := fz x3_1
  have _ := ltb x3_1
  obtain ⟨_, _, _⟩ := cells3 x3_2
  have _ := fz x3_2
  have _ := ltb x3_2
  obtain ⟨_, _, _, _, _⟩ := cells5 x3_3
  have _ := fz x3_3
  have _ := ltb x3_3
  have X3_1 := hid x3_1; clear x3_1
  have X3_2 := hid x3_2; clear x3_2
  have X3_3 := hid x3_3; clear x3_3
  have G3 := hid (G2.out.trans hg3)
  clear hg3
  go_wp2
  refine bodyPost_ret (v := .tuple #[spi 0 0 0, .int .i64 3]) (by simp [results, Try.results41, go_sem, *]) rfl ⟨rfl, ?_⟩
  exact ((((G3.out).setCell (by simp <;> omega) _).setCell (by simp <;> omega) _).setCell (by simp <;> omega) _).al _
set_option maxRecDepth 20000 in
set_option maxHeartbeats 400000 in
theorem sturn_y (a b n c d t p q y : Int) (w : World) (k : Nat) (X1 : Hid (w.heap[k]? = some (.cells #[.int .i64 a, .int .i64 b, .int .i64 n, .int .i64 c, .int .i64 d] 35))) (y1 : -20000 ≤ y) (y2 : y ≤ 20000) (hs : scB a b n c d = true) (i1 : -10000 ≤ t+y) (i2 : t+y ≤ 10000) (hp : okB p q = true) (ge : eB a b n c d (t+y) = true) :
    Calls Try.prog 41 #[.pointer (some ⟨k, 0, none⟩), spi t p q, .int .i64 y] w fun e w' => e = .returned (.tuple #[spi (t+y) (atP a b n c d (t+y) p q) (atQ a b n c d (t+y) p q), .int .i64 0]) ∧ Gr w w' := by
  have hy := hid (show inB y (-20000) 20000 = true by unfold inB; simp; omega)
  have hi := hid (show inB (t+y) (-10000) 10000 = true by unfold inB; simp; omega)
  have O := hid (scB_all hs)
  have ht := hid (ok_whole (t := t + y) (by omega) (by omega))
  have E := hid (eB_all ge)
  have E2 := hid (show okB (nP a b n (t + y)) (nQ a b n (t + y)) = true from (eB_all ge).2.1)
  have E3 := hid (show okB (lP a b n c d (t + y)) (lQ a b n c d (t + y)) = true from (eB_all ge).2.2)
  have SL : ∀ w, Calls Try.prog 60 #[fr (mxP p q (lP a b n c d (t + y)) (lQ a b n c d (t + y))) (mxQ p q (lP a b n c d (t + y)) (lQ a b n c d (t + y))), fr (nP a b n (t + y)) (nQ a b n (t + y))] w fun e w' => e = .returned (fr (atP a b n c d (t + y) p q) (atQ a b n c d (t + y) p q)) ∧ Gr w w' := fun w => sless _ _ _ _ w (ok_mx hp E3.out) E2.out
  have SL := hid SL
  have ge := hid ge
  have hp := hid hp
  clear hs
  go_enter Try.func41, Try.ntmps41
  obtain ⟨_, _, _, _, _⟩ := cells5 X1.out
  have _ := fz X1.out
  have _ := ltb X1.out
  go_wp2_with fail
  refine (in_t _ _ _ _ hy.out).mono ?_
  rintro e w1 ⟨rfl, hg1⟩
  obtain ⟨x1_0, x1_1, hz1, g1⟩ := alloc2 hg1
  have x1_2 := g1.keep X1.out
  obtain ⟨_, _, _⟩ := cells3 x1_0
  have _ := fz x1_0
  have _ := ltb x1_0
  obtain ⟨_, _, _⟩ := cells3 x1_1
  have _ := fz x1_1
  have _ := ltb x1_1
  obtain ⟨_, _, _, _, _⟩ := cells5 x1_2
  have _ := fz x1_2
  have _ := ltb x1_2
  have X1_0 := hid x1_0; clear x1_0
  have X1_1 := hid x1_1; clear x1_1
  have X1_2 := hid x1_2; clear x1_2
  have G1 := hid (g1)
  clear hg1 g1
  go_wp2_with fail
  refine (in_t _ _ _ _ hi.out).mono ?_
  rintro e w2 ⟨rfl, hg2⟩
  have x2_1 := hg2.keep X1_0.out
  have x2_2 := hg2.keep X1_1.out
  have x2_3 := hg2.keep X1_2.out
  obtain ⟨_, _, _⟩ := cells3 x2_1
  have _ := fz x2_1
  have _ := ltb x2_1
  obtain ⟨_, _, _⟩ := cells3 x2_2
  have _ := fz x2_2
  have _ := ltb x2_2
  obtain ⟨_, _, _, _, _⟩ := cells5 x2_3
  have _ := fz x2_3
  have _ := ltb x2_3
  have X2_1 := hid x2_1; clear x2_1
  have X2_2 := hid x2_2; clear x2_2
  have X2_3 := hid x2_3; clear x2_3
  have G2 := hid (G1.out.trans hg2)
  clear hg2
  go_wp2_with fail
  refine (sends_t _ _ _ _ _ _ _ _ (hid X2_3.out) O.out.1 ht.out O.out.2.1 O.out.2.2.1 O.out.2.2.2.1 E.out.1 E.out.2.1 E.out.2.2).mono ?_
  rintro e w3 ⟨rfl, hg3⟩
  have x3_1 := hg3.keep X2_1.out
  have x3_2 := hg3.keep X2_2.out
  have x3_3 := hg3.keep X2_3.out
  obtain ⟨_, _, _⟩ := cells3 x3_1
  have _ := fz x3_1
  have _ := ltb x3_1
  obtain ⟨_, _, _⟩ := cells3 x3_2
  have _ := fz x3_2
  have _ := ltb x3_2
  obtain ⟨_, _, _, _, _⟩ := cells5 x3_3
  have _ := fz x3_3
  have _ := ltb x3_3
  have X3_1 := hid x3_1; clear x3_1
  have X3_2 := hid x3_2; clear x3_2
  have X3_3 := hid x3_3; clear x3_3
  have G3 := hid (G2.out.trans hg3)
  clear hg3
  go_wp2_with fail
  refine wp_reg0 13 (by kernel_rfl) (by kernel_rfl) ?_
  apply Exists.intro
  refine ⟨fun wb hb => ?_, ?_⟩
  · have ey : IntKind.i64.wrap (t + y) = t + y := IntWalk.i64_in _ (by omega)
    obtain ⟨_, _, _⟩ := hb.at3 (((Gr.refl _).al _).keep X3_1.out)
    obtain ⟨_, _, _⟩ := hb.at3 (((Gr.refl _).al _).keep X3_2.out)
    obtain ⟨_, _, _, _, _⟩ := hb.at5 (((Gr.refl _).al _).keep X3_3.out)
    obtain ⟨_, _, _, _⟩ := hb.at4 (alloc1 (Gr.refl _)).1
    simp only [headOps, List.contains, List.elem, reduceIte, Bool.false_eq_true]
    repeat (first | go_big_quiet_step (first | (go_at_call 61; with_reducible exact Calls.of_gr (smore p q (lP a b n c d (t + y)) (lQ a b n c d (t + y)) _ hp.out E3.out)) | (go_at_call 60; exact Calls.of_gr (SL.out _))) | quiet_step (fail))
    exact wpQuiet_nil rfl
  intro w4 hg4
  obtain ⟨x4_0, hz4, g4⟩ := alloc1 hg4
  have x4_1 := g4.keep X3_1.out
  have x4_2 := g4.keep X3_2.out
  have x4_3 := g4.keep X3_3.out
  obtain ⟨_, _, _⟩ := cells3 x4_1
  have _ := fz x4_1
  have _ := ltb x4_1
  obtain ⟨_, _, _⟩ := cells3 x4_2
  have _ := fz x4_2
  have _ := ltb x4_2
  obtain ⟨_, _, _, _, _⟩ := cells5 x4_3
  have _ := fz x4_3
  have _ := ltb x4_3
  obtain ⟨_, _, _, _⟩ := cells4 x4_0
  have _ := fz x4_0
  have _ := ltb x4_0
  have X4_1 := hid x4_1; clear x4_1
  have X4_2 := hid x4_2; clear x4_2
  have X4_3 := hid x4_3; clear x4_3
  have X4_0 := hid x4_0; clear x4_0
  have G4 := hid (G3.out.trans g4)
  clear hg4 g4
  go_wp2
  refine bodyPost_ret (v := .tuple #[spi (t+y) (atP a b n c d (t+y) p q) (atQ a b n c d (t+y) p q), .int .i64 0]) (by simp [results, Try.results41, go_sem, *]) rfl ⟨rfl, ?_⟩
  exact (((G4.out).setCell (by simp <;> omega) _).setCell (by simp <;> omega) _).setCell (by simp <;> omega) _
set_option maxRecDepth 20000 in
set_option maxHeartbeats 400000 in
theorem cturn_ok (a b n c d s : Int) (w : World) (k k2 : Nat) (T : TypeId) (X1 : Hid (w.heap[k]? = some (.cells #[.int .i64 a, .int .i64 b, .int .i64 n, .int .i64 c, .int .i64 d] 35))) (X2 : Hid (w.heap[k2]? = some (.cells #[.int .i64 s] T))) (h1 : okB a b = true) (ht : okB s 1 = true) (hn : okB n 1 = true) (hz : n ≠ 0) (h2 : okB c d = true) (g : eB a b n c d s = true) :
    Calls Try.prog 62 #[.pointer (some ⟨k, 0, none⟩), .pointer (some ⟨k2, 0, none⟩)] w fun e w' => e = .returned (sp (lP a b n c d s) (lQ a b n c d s) (nP a b n s) (nQ a b n s)) ∧ Gr w w' := by
  have h1 := hid h1
  have ht := hid ht
  have hn := hid hn
  have hz := hid hz
  have h2 := hid h2
  have g := hid g
  go_enter Try.func62, Try.ntmps62
  obtain ⟨_, _, _, _, _⟩ := cells5 X1.out
  have _ := fz X1.out
  have _ := ltb X1.out
  have _ := cells1 X2.out
  have _ := fz X2.out
  have _ := ltb X2.out
  go_wp2_with fail
  refine (ifree_ok _ _ _ _ _ _ _ h1.out ht.out hn.out hz.out h2.out (eB_all g.out).1 (eB_all g.out).2.1 (eB_all g.out).2.2).mono ?_
  rintro e w1 ⟨rfl, hg1⟩
  obtain ⟨x1_0, hz1, g1⟩ := alloc1 hg1
  have x1_1 := g1.keep X1.out
  have x1_2 := g1.keep X2.out
  obtain ⟨_, _, _, _⟩ := cells4 x1_0
  have _ := fz x1_0
  have _ := ltb x1_0
  obtain ⟨_, _, _, _, _⟩ := cells5 x1_1
  have _ := fz x1_1
  have _ := ltb x1_1
  have _ := cells1 x1_2
  have _ := fz x1_2
  have _ := ltb x1_2
  have X1_0 := hid x1_0; clear x1_0
  have X1_1 := hid x1_1; clear x1_1
  have X1_2 := hid x1_2; clear x1_2
  have G1 := hid (g1)
  clear hg1 g1
  go_wp2
  refine bodyPost_ret (v := sp (lP a b n c d s) (lQ a b n c d s) (nP a b n s) (nQ a b n s)) (by simp [results, Try.results62, go_sem, *]) rfl ⟨rfl, ?_⟩
  exact ((((G1.out).setCell (by simp <;> omega) _).setCell (by simp <;> omega) _).setCell (by simp <;> omega) _).setCell (by simp <;> omega) _
set_option maxRecDepth 20000 in
set_option maxHeartbeats 400000 in
theorem cturn_no (a b n c d s : Int) (w : World) (k k2 : Nat) (T : TypeId) (X1 : Hid (w.heap[k]? = some (.cells #[.int .i64 a, .int .i64 b, .int .i64 n, .int .i64 c, .int .i64 d] 35))) (X2 : Hid (w.heap[k2]? = some (.cells #[.int .i64 s] T))) (h1 : okB a b = true) (ht : okB s 1 = true) (hn : okB n 1 = true) (hz : n ≠ 0) (h2 : okB c d = true) (g : eB a b n c d s = false) :
    Calls Try.prog 62 #[.pointer (some ⟨k, 0, none⟩), .pointer (some ⟨k2, 0, none⟩)] w fun e w' => (∃ x y, e = .panicked [{ v := .iface 111 (fr x y), recovered := false }]) ∧ Gr w w' := by
  have h1 := hid h1
  have ht := hid ht
  have hn := hid hn
  have hz := hid hz
  have h2 := hid h2
  have g := hid g
  go_enter Try.func62, Try.ntmps62
  obtain ⟨_, _, _, _, _⟩ := cells5 X1.out
  have _ := fz X1.out
  have _ := ltb X1.out
  have _ := cells1 X2.out
  have _ := fz X2.out
  have _ := ltb X2.out
  go_wp2_with fail
  refine (ifree_no _ _ _ _ _ _ _ h1.out ht.out hn.out hz.out h2.out g.out).mono ?_
  rintro e w1 ⟨⟨xp, yp, rfl⟩, hg1⟩
  obtain ⟨x1_0, hz1, g1⟩ := alloc1 hg1
  have x1_1 := g1.keep X1.out
  have x1_2 := g1.keep X2.out
  obtain ⟨_, _, _, _⟩ := cells4 x1_0
  have _ := fz x1_0
  have _ := ltb x1_0
  obtain ⟨_, _, _, _, _⟩ := cells5 x1_1
  have _ := fz x1_1
  have _ := ltb x1_1
  have _ := cells1 x1_2
  have _ := fz x1_2
  have _ := ltb x1_2
  have X1_0 := hid x1_0; clear x1_0
  have X1_1 := hid x1_1; clear x1_1
  have X1_2 := hid x1_2; clear x1_2
  have G1 := hid (g1)
  clear hg1 g1
  exact ⟨rfl, ⟨xp, yp, rfl⟩, G1.out⟩
set_option maxRecDepth 20000 in
set_option maxHeartbeats 400000 in
theorem place_loose (p q : Int) (w : World) :
    Calls Try.prog 97 #[fr p q] w fun e w' => e = .returned (fr p q) ∧ Gr w w' := by
  go_enter Try.func97, Try.ntmps97
  go_wp2
  refine bodyPost_ret (v := fr p q) (by simp [results, Try.results97, go_sem, *]) rfl ⟨rfl, ?_⟩
  exact (((Gr.refl _)).al _).al _
set_option maxRecDepth 20000 in
set_option maxHeartbeats 400000 in
theorem place_pulled (p q p2 q2 : Int) (w : World) :
    Calls Try.prog 98 #[sp p q p2 q2] w fun e w' => e = .returned (fr p q) ∧ Gr w w' := by
  go_enter Try.func98, Try.ntmps98
  go_wp2
  refine bodyPost_ret (v := fr p q) (by simp [results, Try.results98, go_sem, *]) rfl ⟨rfl, ?_⟩
  exact (((Gr.refl _)).al _).al _
set_option maxRecDepth 20000 in
set_option maxHeartbeats 400000 in
theorem place_pushed (p q p2 q2 : Int) (w : World) :
    Calls Try.prog 99 #[sp p2 q2 p q] w fun e w' => e = .returned (fr p q) ∧ Gr w w' := by
  go_enter Try.func99, Try.ntmps99
  go_wp2
  refine bodyPost_ret (v := fr p q) (by simp [results, Try.results99, go_sem, *]) rfl ⟨rfl, ?_⟩
  exact (((Gr.refl _)).al _).al _
set_option maxRecDepth 20000 in
set_option maxHeartbeats 400000 in
theorem iturn_f2 (a b n c d t p q y : Int) (w : World) (t1 : -10000 ≤ t) (t2 : t ≤ 10000) (y1 : -20000 ≤ y) (y2 : y ≤ 20000) (hi : gtB (t+y) 10000 = true) :
    Calls Try.prog 42 #[sc a b n c d, spi t p q, .int .i64 y] w fun e w' => e = .returned (.tuple #[spi 0 0 0, Value.nilIface, .int .i64 2]) ∧ Gr w w' := by
  have hi := hid hi
  go_enter Try.func42, Try.ntmps42
  go_wp2_with fail
  refine (igt_t _ _ _ (by omega) (by omega) hi.out).mono ?_
  rintro e w1 ⟨rfl, hg1⟩
  obtain ⟨x1_0, x1_1, x1_2, x1_3, hz1, g1⟩ := alloc4 hg1
  obtain ⟨_, _, _, _, _⟩ := cells5 x1_0
  have _ := fz x1_0
  have _ := ltb x1_0
  obtain ⟨_, _, _⟩ := cells3 x1_1
  have _ := fz x1_1
  have _ := ltb x1_1
  obtain ⟨_, _, _⟩ := cells3 x1_2
  have _ := fz x1_2
  have _ := ltb x1_2
  have _ := cells1 x1_3
  have _ := fz x1_3
  have _ := ltb x1_3
  have X1_0 := hid x1_0; clear x1_0
  have X1_1 := hid x1_1; clear x1_1
  have X1_2 := hid x1_2; clear x1_2
  have X1_3 := hid x1_3; clear x1_3
  have G1 := hid (g1)
  clear hg1 g1
  go_wp2
  refine bodyPost_ret (v := .tuple #[spi 0 0 0, Value.nilIface, .int .i64 2]) (by simp [results, Try.results42, go_sem, *]) rfl ⟨rfl, ?_⟩
  exact (((G1.out).setCell (by simp <;> omega) _).setCell (by simp <;> omega) _).setCell (by simp <;> omega) _
set_option maxRecDepth 20000 in
set_option maxHeartbeats 400000 in
theorem iturn_f3 (a b n c d t p q y : Int) (w : World) (t1 : -10000 ≤ t) (t2 : t ≤ 10000) (y1 : -20000 ≤ y) (y2 : y ≤ 20000) (hs : scB a b n c d = true) (hi : gtB (t+y) 10000 = false) (ge : eB a b n c d (t+y) = false) :
    Calls Try.prog 42 #[sc a b n c d, spi t p q, .int .i64 y] w fun e w' => e = .returned (.tuple #[spi 0 0 0, Value.nilIface, .int .i64 3]) ∧ Gr w w' := by
  have O := hid (scB_all hs)
  have ht := hid (ok_whole (t := t + y) (by omega) (by omega))
  have hi := hid hi
  have ge := hid ge
  clear hs
  go_enter Try.func42, Try.ntmps42
  go_wp2_with fail
  refine (igt_f _ _ _ (by omega) (by omega) hi.out).mono ?_
  rintro e w1 ⟨rfl, hg1⟩
  obtain ⟨x1_0, x1_1, x1_2, x1_3, hz1, g1⟩ := alloc4 hg1
  obtain ⟨_, _, _, _, _⟩ := cells5 x1_0
  have _ := fz x1_0
  have _ := ltb x1_0
  obtain ⟨_, _, _⟩ := cells3 x1_1
  have _ := fz x1_1
  have _ := ltb x1_1
  obtain ⟨_, _, _⟩ := cells3 x1_2
  have _ := fz x1_2
  have _ := ltb x1_2
  have _ := cells1 x1_3
  have _ := fz x1_3
  have _ := ltb x1_3
  have X1_0 := hid x1_0; clear x1_0
  have X1_1 := hid x1_1; clear x1_1
  have X1_2 := hid x1_2; clear x1_2
  have X1_3 := hid x1_3; clear x1_3
  have G1 := hid (g1)
  clear hg1 g1
  go_wp2_with fail
  refine (told_great_S 62 _ _ (fun _ => by kernel_rfl) (fun w' hg' => cturn_no a b n c d (t+y) w' _ _ _ (hid (hg'.keep X1_0.out)) (hid (hg'.keep X1_3.out)) O.out.1 ht.out O.out.2.1 O.out.2.2.1 O.out.2.2.2.1 ge.out)).mono ?_
  rintro e w2 ⟨rfl, hg2⟩
  have x2_1 := hg2.keep X1_0.out
  have x2_2 := hg2.keep X1_1.out
  have x2_3 := hg2.keep X1_2.out
  have x2_4 := hg2.keep X1_3.out
  obtain ⟨_, _, _, _, _⟩ := cells5 x2_1
  have _ := fz x2_1
  have _ := ltb x2_1
  obtain ⟨_, _, _⟩ := cells3 x2_2
  have _ := fz x2_2
  have _ := ltb x2_2
  obtain ⟨_, _, _⟩ := cells3 x2_3
  have _ := fz x2_3
  have _ := ltb x2_3
  have _ := cells1 x2_4
  have _ := fz x2_4
  have _ := ltb x2_4
  have X2_1 := hid x2_1; clear x2_1
  have X2_2 := hid x2_2; clear x2_2
  have X2_3 := hid x2_3; clear x2_3
  have X2_4 := hid x2_4; clear x2_4
  have G2 := hid (G1.out.trans hg2)
  clear hg2
  go_wp2
  refine bodyPost_ret (v := .tuple #[spi 0 0 0, Value.nilIface, .int .i64 3]) (by simp [results, Try.results42, go_sem, *]) rfl ⟨rfl, ?_⟩
  exact ((((G2.out).setCell (by simp <;> omega) _).setCell (by simp <;> omega) _).setCell (by simp <;> omega) _).al _
set_option maxRecDepth 20000 in
set_option maxHeartbeats 400000 in
theorem iturn_lo (a b n c d t p q y : Int) (w : World) (t1 : -10000 ≤ t) (t2 : t ≤ 10000) (y1 : -20000 ≤ y) (y2 : y ≤ 20000) (hs : scB a b n c d = true) (hi : gtB (t+y) 10000 = false) (hp : okB p q = true) (ge : eB a b n c d (t+y) = true) (hd : decide (cmpI p q (lP a b n c d (t + y)) (lQ a b n c d (t + y)) < 0) = true) :
    Calls Try.prog 42 #[sc a b n c d, spi t p q, .int .i64 y] w fun e w' => e = .returned (.tuple #[spi (t+y) (lP a b n c d (t + y)) (lQ a b n c d (t + y)), .iface 104 (sp (lP a b n c d (t + y)) (lQ a b n c d (t + y)) (nP a b n (t + y)) (nQ a b n (t + y))), .int .i64 0]) ∧ Gr w w' := by
  have O := hid (scB_all hs)
  have ht := hid (ok_whole (t := t + y) (by omega) (by omega))
  have E := hid (eB_all ge)
  have hi := hid hi
  have ge := hid ge
  have hp := hid hp
  clear hs
  go_enter Try.func42, Try.ntmps42
  go_wp2_with fail
  refine (igt_f _ _ _ (by omega) (by omega) hi.out).mono ?_
  rintro e w1 ⟨rfl, hg1⟩
  obtain ⟨x1_0, x1_1, x1_2, x1_3, hz1, g1⟩ := alloc4 hg1
  obtain ⟨_, _, _, _, _⟩ := cells5 x1_0
  have _ := fz x1_0
  have _ := ltb x1_0
  obtain ⟨_, _, _⟩ := cells3 x1_1
  have _ := fz x1_1
  have _ := ltb x1_1
  obtain ⟨_, _, _⟩ := cells3 x1_2
  have _ := fz x1_2
  have _ := ltb x1_2
  have _ := cells1 x1_3
  have _ := fz x1_3
  have _ := ltb x1_3
  have X1_0 := hid x1_0; clear x1_0
  have X1_1 := hid x1_1; clear x1_1
  have X1_2 := hid x1_2; clear x1_2
  have X1_3 := hid x1_3; clear x1_3
  have G1 := hid (g1)
  clear hg1 g1
  go_wp2_with fail
  refine (told_ok_S 62 _ _ _ _ _ _ (fun _ => by kernel_rfl) (fun w' hg' => cturn_ok a b n c d (t+y) w' _ _ _ (hid (hg'.keep X1_0.out)) (hid (hg'.keep X1_3.out)) O.out.1 ht.out O.out.2.1 O.out.2.2.1 O.out.2.2.2.1 ge.out)).mono ?_
  rintro e w2 ⟨rfl, hg2⟩
  have x2_1 := hg2.keep X1_0.out
  have x2_2 := hg2.keep X1_1.out
  have x2_3 := hg2.keep X1_2.out
  have x2_4 := hg2.keep X1_3.out
  obtain ⟨_, _, _, _, _⟩ := cells5 x2_1
  have _ := fz x2_1
  have _ := ltb x2_1
  obtain ⟨_, _, _⟩ := cells3 x2_2
  have _ := fz x2_2
  have _ := ltb x2_2
  obtain ⟨_, _, _⟩ := cells3 x2_3
  have _ := fz x2_3
  have _ := ltb x2_3
  have _ := cells1 x2_4
  have _ := fz x2_4
  have _ := ltb x2_4
  have X2_1 := hid x2_1; clear x2_1
  have X2_2 := hid x2_2; clear x2_2
  have X2_3 := hid x2_3; clear x2_3
  have X2_4 := hid x2_4; clear x2_4
  have G2 := hid (G1.out.trans hg2)
  clear hg2
  go_wp2_with fail
  refine (iord _ _ _ _ _ hp.out E.out.2.2).mono ?_
  rintro e w3 ⟨rfl, hg3⟩
  obtain ⟨x3_0, hz3, g3⟩ := alloc1 hg3
  have x3_1 := g3.keep X2_1.out
  have x3_2 := g3.keep X2_2.out
  have x3_3 := g3.keep X2_3.out
  have x3_4 := g3.keep X2_4.out
  obtain ⟨_, _, _, _, _⟩ := cells5 x3_1
  have _ := fz x3_1
  have _ := ltb x3_1
  obtain ⟨_, _, _⟩ := cells3 x3_2
  have _ := fz x3_2
  have _ := ltb x3_2
  obtain ⟨_, _, _⟩ := cells3 x3_3
  have _ := fz x3_3
  have _ := ltb x3_3
  have _ := cells1 x3_4
  have _ := fz x3_4
  have _ := ltb x3_4
  obtain ⟨_, _, _, _⟩ := cells4 x3_0
  have _ := fz x3_0
  have _ := ltb x3_0
  have X3_1 := hid x3_1; clear x3_1
  have X3_2 := hid x3_2; clear x3_2
  have X3_3 := hid x3_3; clear x3_3
  have X3_4 := hid x3_4; clear x3_4
  have X3_0 := hid x3_0; clear x3_0
  have G3 := hid (G2.out.trans g3)
  clear hg3 g3
  go_wp2_with fail
  have M0 := hid (ne_of X3_1.out X3_3.out (by first | omega))
  have M1 := hid (ne_of X3_2.out X3_3.out (by first | omega))
  have M3 := hid (ne_of X3_4.out X3_3.out (by first | omega))
  have M4 := hid (ne_of X3_0.out X3_3.out (by first | omega))
  refine wp_regO 6 5 6 54 (by kernel_rfl) (by kernel_rfl) rfl (by decide) rfl rfl rfl rfl (by kernel_rfl) X3_3.out (by kernel_rfl) ?_
  apply Exists.intro; apply Exists.intro
  refine ⟨fun wb hb => ?_, ?_⟩
  · obtain ⟨_, _, _, _, _⟩ := atO5 hb X3_1.out M0.out
    obtain ⟨_, _, _⟩ := atO3 hb X3_2.out M1.out
    have _ := atO1 hb X3_4.out M3.out
    obtain ⟨_, _, _, _⟩ := atO4 hb X3_0.out M4.out
    have hm : ∀ (v : Value) (w : World), (method 236 104 v "loop.example/g01254/impl.place").run Try.prog w = .ok (98, v) w := fun _ _ => by kernel_rfl
    simp only [headOps, List.contains, List.elem, Nat.reduceAdd, Nat.reduceBEq, reduceIte, Bool.false_eq_true, dumOp]
    repeat (first | go_big_quiet_step (first | (exact Calls.of_gr (place_pulled _ _ _ _ _))) | quiet_step (fail))
    exact wpQuiet_nil rfl
  refine ⟨rfl, ⟨rfl, by simp [Value.oneCell']⟩, fun w4 hg4 => ?_⟩
  have x4_0 := hg4.keep (row_old X3_1.out M0.out)
  have x4_1 := hg4.keep (row_old X3_2.out M1.out)
  have x4_2 := hg4.keep (row_new X3_3.out)
  have x4_3 := hg4.keep (row_old X3_4.out M3.out)
  have x4_4 := hg4.keep (row_old X3_0.out M4.out)
  obtain ⟨_, _, _, _, _⟩ := cells5 x4_0
  have _ := fz x4_0
  have _ := ltb x4_0
  obtain ⟨_, _, _⟩ := cells3 x4_1
  have _ := fz x4_1
  have _ := ltb x4_1
  obtain ⟨_, _, _⟩ := cells3 x4_2
  have _ := fz x4_2
  have _ := ltb x4_2
  have _ := cells1 x4_3
  have _ := fz x4_3
  have _ := ltb x4_3
  obtain ⟨_, _, _, _⟩ := cells4 x4_4
  have _ := fz x4_4
  have _ := ltb x4_4
  have X4_0 := hid x4_0; clear x4_0
  have X4_1 := hid x4_1; clear x4_1
  have X4_2 := hid x4_2; clear x4_2
  have X4_3 := hid x4_3; clear x4_3
  have X4_4 := hid x4_4; clear x4_4
  have G4 := hid ((G3.out.setRow (by first | omega | (simp; done) | (simp; omega)) _).trans hg4); clear hg4
  go_wp2
  refine bodyPost_ret (v := .tuple #[spi (t+y) (lP a b n c d (t + y)) (lQ a b n c d (t + y)), .iface 104 (sp (lP a b n c d (t + y)) (lQ a b n c d (t + y)) (nP a b n (t + y)) (nQ a b n (t + y))), .int .i64 0]) (by simp [results, Try.results42, go_sem, *]) rfl ⟨rfl, ?_⟩
  exact G4.out
set_option maxRecDepth 20000 in
set_option maxHeartbeats 400000 in
theorem iturn_hi (a b n c d t p q y : Int) (w : World) (t1 : -10000 ≤ t) (t2 : t ≤ 10000) (y1 : -20000 ≤ y) (y2 : y ≤ 20000) (hs : scB a b n c d = true) (hi : gtB (t+y) 10000 = false) (hp : okB p q = true) (ge : eB a b n c d (t+y) = true) (hd : decide (cmpI p q (lP a b n c d (t + y)) (lQ a b n c d (t + y)) < 0) = false) (hd2 : decide (0 < cmpI p q (nP a b n (t + y)) (nQ a b n (t + y))) = true) :
    Calls Try.prog 42 #[sc a b n c d, spi t p q, .int .i64 y] w fun e w' => e = .returned (.tuple #[spi (t+y) (nP a b n (t + y)) (nQ a b n (t + y)), .iface 105 (sp (lP a b n c d (t + y)) (lQ a b n c d (t + y)) (nP a b n (t + y)) (nQ a b n (t + y))), .int .i64 0]) ∧ Gr w w' := by
  have O := hid (scB_all hs)
  have ht := hid (ok_whole (t := t + y) (by omega) (by omega))
  have E := hid (eB_all ge)
  have hi := hid hi
  have ge := hid ge
  have hp := hid hp
  clear hs
  go_enter Try.func42, Try.ntmps42
  go_wp2_with fail
  refine (igt_f _ _ _ (by omega) (by omega) hi.out).mono ?_
  rintro e w1 ⟨rfl, hg1⟩
  obtain ⟨x1_0, x1_1, x1_2, x1_3, hz1, g1⟩ := alloc4 hg1
  obtain ⟨_, _, _, _, _⟩ := cells5 x1_0
  have _ := fz x1_0
  have _ := ltb x1_0
  obtain ⟨_, _, _⟩ := cells3 x1_1
  have _ := fz x1_1
  have _ := ltb x1_1
  obtain ⟨_, _, _⟩ := cells3 x1_2
  have _ := fz x1_2
  have _ := ltb x1_2
  have _ := cells1 x1_3
  have _ := fz x1_3
  have _ := ltb x1_3
  have X1_0 := hid x1_0; clear x1_0
  have X1_1 := hid x1_1; clear x1_1
  have X1_2 := hid x1_2; clear x1_2
  have X1_3 := hid x1_3; clear x1_3
  have G1 := hid (g1)
  clear hg1 g1
  go_wp2_with fail
  refine (told_ok_S 62 _ _ _ _ _ _ (fun _ => by kernel_rfl) (fun w' hg' => cturn_ok a b n c d (t+y) w' _ _ _ (hid (hg'.keep X1_0.out)) (hid (hg'.keep X1_3.out)) O.out.1 ht.out O.out.2.1 O.out.2.2.1 O.out.2.2.2.1 ge.out)).mono ?_
  rintro e w2 ⟨rfl, hg2⟩
  have x2_1 := hg2.keep X1_0.out
  have x2_2 := hg2.keep X1_1.out
  have x2_3 := hg2.keep X1_2.out
  have x2_4 := hg2.keep X1_3.out
  obtain ⟨_, _, _, _, _⟩ := cells5 x2_1
  have _ := fz x2_1
  have _ := ltb x2_1
  obtain ⟨_, _, _⟩ := cells3 x2_2
  have _ := fz x2_2
  have _ := ltb x2_2
  obtain ⟨_, _, _⟩ := cells3 x2_3
  have _ := fz x2_3
  have _ := ltb x2_3
  have _ := cells1 x2_4
  have _ := fz x2_4
  have _ := ltb x2_4
  have X2_1 := hid x2_1; clear x2_1
  have X2_2 := hid x2_2; clear x2_2
  have X2_3 := hid x2_3; clear x2_3
  have X2_4 := hid x2_4; clear x2_4
  have G2 := hid (G1.out.trans hg2)
  clear hg2
  go_wp2_with fail
  refine (iord _ _ _ _ _ hp.out E.out.2.2).mono ?_
  rintro e w3 ⟨rfl, hg3⟩
  obtain ⟨x3_0, hz3, g3⟩ := alloc1 hg3
  have x3_1 := g3.keep X2_1.out
  have x3_2 := g3.keep X2_2.out
  have x3_3 := g3.keep X2_3.out
  have x3_4 := g3.keep X2_4.out
  obtain ⟨_, _, _, _, _⟩ := cells5 x3_1
  have _ := fz x3_1
  have _ := ltb x3_1
  obtain ⟨_, _, _⟩ := cells3 x3_2
  have _ := fz x3_2
  have _ := ltb x3_2
  obtain ⟨_, _, _⟩ := cells3 x3_3
  have _ := fz x3_3
  have _ := ltb x3_3
  have _ := cells1 x3_4
  have _ := fz x3_4
  have _ := ltb x3_4
  obtain ⟨_, _, _, _⟩ := cells4 x3_0
  have _ := fz x3_0
  have _ := ltb x3_0
  have X3_1 := hid x3_1; clear x3_1
  have X3_2 := hid x3_2; clear x3_2
  have X3_3 := hid x3_3; clear x3_3
  have X3_4 := hid x3_4; clear x3_4
  have X3_0 := hid x3_0; clear x3_0
  have G3 := hid (G2.out.trans g3)
  clear hg3 g3
  go_wp2_with fail
  refine (iord _ _ _ _ _ hp.out E.out.2.1).mono ?_
  rintro e w4 ⟨rfl, hg4⟩
  have x4_1 := hg4.keep X3_1.out
  have x4_2 := hg4.keep X3_2.out
  have x4_3 := hg4.keep X3_3.out
  have x4_4 := hg4.keep X3_4.out
  have x4_5 := hg4.keep X3_0.out
  obtain ⟨_, _, _, _, _⟩ := cells5 x4_1
  have _ := fz x4_1
  have _ := ltb x4_1
  obtain ⟨_, _, _⟩ := cells3 x4_2
  have _ := fz x4_2
  have _ := ltb x4_2
  obtain ⟨_, _, _⟩ := cells3 x4_3
  have _ := fz x4_3
  have _ := ltb x4_3
  have _ := cells1 x4_4
  have _ := fz x4_4
  have _ := ltb x4_4
  obtain ⟨_, _, _, _⟩ := cells4 x4_5
  have _ := fz x4_5
  have _ := ltb x4_5
  have X4_1 := hid x4_1; clear x4_1
  have X4_2 := hid x4_2; clear x4_2
  have X4_3 := hid x4_3; clear x4_3
  have X4_4 := hid x4_4; clear x4_4
  have X4_5 := hid x4_5; clear x4_5
  have G4 := hid (G3.out.trans hg4)
  clear hg4
  go_wp2_with fail
  have M0 := hid (ne_of X4_1.out X4_3.out (by first | omega))
  have M1 := hid (ne_of X4_2.out X4_3.out (by first | omega))
  have M3 := hid (ne_of X4_4.out X4_3.out (by first | omega))
  have M4 := hid (ne_of X4_5.out X4_3.out (by first | omega))
  refine wp_regO 6 5 6 54 (by kernel_rfl) (by kernel_rfl) rfl (by decide) rfl rfl rfl rfl (by kernel_rfl) X4_3.out (by kernel_rfl) ?_
  apply Exists.intro; apply Exists.intro
  refine ⟨fun wb hb => ?_, ?_⟩
  · obtain ⟨_, _, _, _, _⟩ := atO5 hb X4_1.out M0.out
    obtain ⟨_, _, _⟩ := atO3 hb X4_2.out M1.out
    have _ := atO1 hb X4_4.out M3.out
    obtain ⟨_, _, _, _⟩ := atO4 hb X4_5.out M4.out
    have hm : ∀ (v : Value) (w : World), (method 236 105 v "loop.example/g01254/impl.place").run Try.prog w = .ok (99, v) w := fun _ _ => by kernel_rfl
    simp only [headOps, List.contains, List.elem, Nat.reduceAdd, Nat.reduceBEq, reduceIte, Bool.false_eq_true, dumOp]
    repeat (first | go_big_quiet_step (first | (exact Calls.of_gr (place_pushed _ _ _ _ _))) | quiet_step (fail))
    exact wpQuiet_nil rfl
  refine ⟨rfl, ⟨rfl, by simp [Value.oneCell']⟩, fun w5 hg5 => ?_⟩
  have x5_0 := hg5.keep (row_old X4_1.out M0.out)
  have x5_1 := hg5.keep (row_old X4_2.out M1.out)
  have x5_2 := hg5.keep (row_new X4_3.out)
  have x5_3 := hg5.keep (row_old X4_4.out M3.out)
  have x5_4 := hg5.keep (row_old X4_5.out M4.out)
  obtain ⟨_, _, _, _, _⟩ := cells5 x5_0
  have _ := fz x5_0
  have _ := ltb x5_0
  obtain ⟨_, _, _⟩ := cells3 x5_1
  have _ := fz x5_1
  have _ := ltb x5_1
  obtain ⟨_, _, _⟩ := cells3 x5_2
  have _ := fz x5_2
  have _ := ltb x5_2
  have _ := cells1 x5_3
  have _ := fz x5_3
  have _ := ltb x5_3
  obtain ⟨_, _, _, _⟩ := cells4 x5_4
  have _ := fz x5_4
  have _ := ltb x5_4
  have X5_0 := hid x5_0; clear x5_0
  have X5_1 := hid x5_1; clear x5_1
  have X5_2 := hid x5_2; clear x5_2
  have X5_3 := hid x5_3; clear x5_3
  have X5_4 := hid x5_4; clear x5_4
  have G5 := hid ((G4.out.setRow (by first | omega | (simp; done) | (simp; omega)) _).trans hg5); clear hg5
  go_wp2
  refine bodyPost_ret (v := .tuple #[spi (t+y) (nP a b n (t + y)) (nQ a b n (t + y)), .iface 105 (sp (lP a b n c d (t + y)) (lQ a b n c d (t + y)) (nP a b n (t + y)) (nQ a b n (t + y))), .int .i64 0]) (by simp [results, Try.results42, go_sem, *]) rfl ⟨rfl, ?_⟩
  exact G5.out
set_option maxRecDepth 20000 in
set_option maxHeartbeats 400000 in
theorem iturn_mid (a b n c d t p q y : Int) (w : World) (t1 : -10000 ≤ t) (t2 : t ≤ 10000) (y1 : -20000 ≤ y) (y2 : y ≤ 20000) (hs : scB a b n c d = true) (hi : gtB (t+y) 10000 = false) (hp : okB p q = true) (ge : eB a b n c d (t+y) = true) (hd : decide (cmpI p q (lP a b n c d (t + y)) (lQ a b n c d (t + y)) < 0) = false) (hd2 : decide (0 < cmpI p q (nP a b n (t + y)) (nQ a b n (t + y))) = false) :
    Calls Try.prog 42 #[sc a b n c d, spi t p q, .int .i64 y] w fun e w' => e = .returned (.tuple #[spi (t+y) (p) (q), .iface 102 (fr p q), .int .i64 0]) ∧ Gr w w' := by
  have O := hid (scB_all hs)
  have ht := hid (ok_whole (t := t + y) (by omega) (by omega))
  have E := hid (eB_all ge)
  have hi := hid hi
  have ge := hid ge
  have hp := hid hp
  clear hs
  go_enter Try.func42, Try.ntmps42
  go_wp2_with fail
  refine (igt_f _ _ _ (by omega) (by omega) hi.out).mono ?_
  rintro e w1 ⟨rfl, hg1⟩
  obtain ⟨x1_0, x1_1, x1_2, x1_3, hz1, g1⟩ := alloc4 hg1
  obtain ⟨_, _, _, _, _⟩ := cells5 x1_0
  have _ := fz x1_0
  have _ := ltb x1_0
  obtain ⟨_, _, _⟩ := cells3 x1_1
  have _ := fz x1_1
  have _ := ltb x1_1
  obtain ⟨_, _, _⟩ := cells3 x1_2
  have _ := fz x1_2
  have _ := ltb x1_2
  have _ := cells1 x1_3
  have _ := fz x1_3
  have _ := ltb x1_3
  have X1_0 := hid x1_0; clear x1_0
  have X1_1 := hid x1_1; clear x1_1
  have X1_2 := hid x1_2; clear x1_2
  have X1_3 := hid x1_3; clear x1_3
  have G1 := hid (g1)
  clear hg1 g1
  go_wp2_with fail
  refine (told_ok_S 62 _ _ _ _ _ _ (fun _ => by kernel_rfl) (fun w' hg' => cturn_ok a b n c d (t+y) w' _ _ _ (hid (hg'.keep X1_0.out)) (hid (hg'.keep X1_3.out)) O.out.1 ht.out O.out.2.1 O.out.2.2.1 O.out.2.2.2.1 ge.out)).mono ?_
  rintro e w2 ⟨rfl, hg2⟩
  have x2_1 := hg2.keep X1_0.out
  have x2_2 := hg2.keep X1_1.out
  have x2_3 := hg2.keep X1_2.out
  have x2_4 := hg2.keep X1_3.out
  obtain ⟨_, _, _, _, _⟩ := cells5 x2_1
  have _ := fz x2_1
  have _ := ltb x2_1
  obtain ⟨_, _, _⟩ := cells3 x2_2
  have _ := fz x2_2
  have _ := ltb x2_2
  obtain ⟨_, _, _⟩ := cells3 x2_3
  have _ := fz x2_3
  have _ := ltb x2_3
  have _ := cells1 x2_4
  have _ := fz x2_4
  have _ := ltb x2_4
  have X2_1 := hid x2_1; clear x2_1
  have X2_2 := hid x2_2; clear x2_2
  have X2_3 := hid x2_3; clear x2_3
  have X2_4 := hid x2_4; clear x2_4
  have G2 := hid (G1.out.trans hg2)
  clear hg2
  go_wp2_with fail
  refine (iord _ _ _ _ _ hp.out E.out.2.2).mono ?_
  rintro e w3 ⟨rfl, hg3⟩
  obtain ⟨x3_0, hz3, g3⟩ := alloc1 hg3
  have x3_1 := g3.keep X2_1.out
  have x3_2 := g3.keep X2_2.out
  have x3_3 := g3.keep X2_3.out
  have x3_4 := g3.keep X2_4.out
  obtain ⟨_, _, _, _, _⟩ := cells5 x3_1
  have _ := fz x3_1
  have _ := ltb x3_1
  obtain ⟨_, _, _⟩ := cells3 x3_2
  have _ := fz x3_2
  have _ := ltb x3_2
  obtain ⟨_, _, _⟩ := cells3 x3_3
  have _ := fz x3_3
  have _ := ltb x3_3
  have _ := cells1 x3_4
  have _ := fz x3_4
  have _ := ltb x3_4
  obtain ⟨_, _, _, _⟩ := cells4 x3_0
  have _ := fz x3_0
  have _ := ltb x3_0
  have X3_1 := hid x3_1; clear x3_1
  have X3_2 := hid x3_2; clear x3_2
  have X3_3 := hid x3_3; clear x3_3
  have X3_4 := hid x3_4; clear x3_4
  have X3_0 := hid x3_0; clear x3_0
  have G3 := hid (G2.out.trans g3)
  clear hg3 g3
  go_wp2_with fail
  refine (iord _ _ _ _ _ hp.out E.out.2.1).mono ?_
  rintro e w4 ⟨rfl, hg4⟩
  have x4_1 := hg4.keep X3_1.out
  have x4_2 := hg4.keep X3_2.out
  have x4_3 := hg4.keep X3_3.out
  have x4_4 := hg4.keep X3_4.out
  have x4_5 := hg4.keep X3_0.out
  obtain ⟨_, _, _, _, _⟩ := cells5 x4_1
  have _ := fz x4_1
  have _ := ltb x4_1
  obtain ⟨_, _, _⟩ := cells3 x4_2
  have _ := fz x4_2
  have _ := ltb x4_2
  obtain ⟨_, _, _⟩ := cells3 x4_3
  have _ := fz x4_3
  have _ := ltb x4_3
  have _ := cells1 x4_4
  have _ := fz x4_4
  have _ := ltb x4_4
  obtain ⟨_, _, _, _⟩ := cells4 x4_5
  have _ := fz x4_5
  have _ := ltb x4_5
  have X4_1 := hid x4_1; clear x4_1
  have X4_2 := hid x4_2; clear x4_2
  have X4_3 := hid x4_3; clear x4_3
  have X4_4 := hid x4_4; clear x4_4
  have X4_5 := hid x4_5; clear x4_5
  have G4 := hid (G3.out.trans hg4)
  clear hg4
  go_wp2_with fail
  have M0 := hid (ne_of X4_1.out X4_3.out (by first | omega))
  have M1 := hid (ne_of X4_2.out X4_3.out (by first | omega))
  have M3 := hid (ne_of X4_4.out X4_3.out (by first | omega))
  have M4 := hid (ne_of X4_5.out X4_3.out (by first | omega))
  refine wp_regO 6 5 6 54 (by kernel_rfl) (by kernel_rfl) rfl (by decide) rfl rfl rfl rfl (by kernel_rfl) X4_3.out (by kernel_rfl) ?_
  apply Exists.intro; apply Exists.intro
  refine ⟨fun wb hb => ?_, ?_⟩
  · obtain ⟨_, _, _, _, _⟩ := atO5 hb X4_1.out M0.out
    obtain ⟨_, _, _⟩ := atO3 hb X4_2.out M1.out
    have _ := atO1 hb X4_4.out M3.out
    obtain ⟨_, _, _, _⟩ := atO4 hb X4_5.out M4.out
    have hm : ∀ (v : Value) (w : World), (method 236 102 v "loop.example/g01254/impl.place").run Try.prog w = .ok (97, v) w := fun _ _ => by kernel_rfl
    simp only [headOps, List.contains, List.elem, Nat.reduceAdd, Nat.reduceBEq, reduceIte, Bool.false_eq_true, dumOp]
    repeat (first | go_big_quiet_step (first | (exact Calls.of_gr (place_loose _ _ _))) | quiet_step (fail))
    exact wpQuiet_nil rfl
  refine ⟨rfl, ⟨rfl, by simp [Value.oneCell']⟩, fun w5 hg5 => ?_⟩
  have x5_0 := hg5.keep (row_old X4_1.out M0.out)
  have x5_1 := hg5.keep (row_old X4_2.out M1.out)
  have x5_2 := hg5.keep (row_new X4_3.out)
  have x5_3 := hg5.keep (row_old X4_4.out M3.out)
  have x5_4 := hg5.keep (row_old X4_5.out M4.out)
  obtain ⟨_, _, _, _, _⟩ := cells5 x5_0
  have _ := fz x5_0
  have _ := ltb x5_0
  obtain ⟨_, _, _⟩ := cells3 x5_1
  have _ := fz x5_1
  have _ := ltb x5_1
  obtain ⟨_, _, _⟩ := cells3 x5_2
  have _ := fz x5_2
  have _ := ltb x5_2
  have _ := cells1 x5_3
  have _ := fz x5_3
  have _ := ltb x5_3
  obtain ⟨_, _, _, _⟩ := cells4 x5_4
  have _ := fz x5_4
  have _ := ltb x5_4
  have X5_0 := hid x5_0; clear x5_0
  have X5_1 := hid x5_1; clear x5_1
  have X5_2 := hid x5_2; clear x5_2
  have X5_3 := hid x5_3; clear x5_3
  have X5_4 := hid x5_4; clear x5_4
  have G5 := hid ((G4.out.setRow (by first | omega | (simp; done) | (simp; omega)) _).trans hg5); clear hg5
  go_wp2
  refine bodyPost_ret (v := .tuple #[spi (t+y) (p) (q), .iface 102 (fr p q), .int .i64 0]) (by simp [results, Try.results42, go_sem, *]) rfl ⟨rfl, ?_⟩
  exact G5.out
set_option maxRecDepth 20000 in
set_option maxHeartbeats 400000 in
theorem sTurn_no (a b n c d t p q y : Int) (w : World) (h : sdB a b n c d t p q = false) :
    Calls Try.prog 19 #[sc a b n c d, spi t p q, .int .i64 y] w fun e w' => e = .returned (.tuple #[spi 0 0 0, .int .i64 1]) ∧ Gr w w' := by
  have h := hid h
  go_enter Try.func19, Try.ntmps19
  go_wp2_with fail
  refine (sspin_F _ _ _ _ _ _ _ _ _ _ _ (hid (alloc3 (Gr.refl _)).1) (hid (alloc3 (Gr.refl _)).2.1) h.out).mono ?_
  rintro e w1 ⟨rfl, hg1⟩
  obtain ⟨x1_0, x1_1, x1_2, hz1, g1⟩ := alloc3 hg1
  obtain ⟨_, _, _, _, _⟩ := cells5 x1_0
  have _ := fz x1_0
  have _ := ltb x1_0
  obtain ⟨_, _, _⟩ := cells3 x1_1
  have _ := fz x1_1
  have _ := ltb x1_1
  obtain ⟨_, _, _⟩ := cells3 x1_2
  have _ := fz x1_2
  have _ := ltb x1_2
  have X1_0 := hid x1_0; clear x1_0
  have X1_1 := hid x1_1; clear x1_1
  have X1_2 := hid x1_2; clear x1_2
  have G1 := hid (g1)
  clear hg1 g1
  go_wp2
  refine bodyPost_ret (v := .tuple #[spi 0 0 0, .int .i64 1]) (by simp [results, Try.results19, go_sem, *]) rfl ⟨rfl, ?_⟩
  exact (((G1.out).setCell (by simp <;> omega) _).setCell (by simp <;> omega) _).setCell (by simp <;> omega) _
set_option maxRecDepth 20000 in
set_option maxHeartbeats 400000 in
theorem sTurn_yes (a b n c d t p q y T P Q C : Int) (w : World) (h : sdB a b n c d t p q = true) (ht : ∀ (w : World) (k : Nat), Hid (w.heap[k]? = some (.cells #[.int .i64 a, .int .i64 b, .int .i64 n, .int .i64 c, .int .i64 d] 35)) → Calls Try.prog 41 #[.pointer (some ⟨k, 0, none⟩), spi t p q, .int .i64 y] w fun e w' => e = .returned (.tuple #[spi T P Q, .int .i64 C]) ∧ Gr w w') :
    Calls Try.prog 19 #[sc a b n c d, spi t p q, .int .i64 y] w fun e w' => e = .returned (.tuple #[spi T P Q, .int .i64 C]) ∧ Gr w w' := by
  have h := hid h; have ht := hid ht
  go_enter Try.func19, Try.ntmps19
  go_wp2_with fail
  refine (sspin_T _ _ _ _ _ _ _ _ _ _ _ (hid (alloc3 (Gr.refl _)).1) (hid (alloc3 (Gr.refl _)).2.1) h.out).mono ?_
  rintro e w1 ⟨rfl, hg1⟩
  obtain ⟨x1_0, x1_1, x1_2, hz1, g1⟩ := alloc3 hg1
  obtain ⟨_, _, _, _, _⟩ := cells5 x1_0
  have _ := fz x1_0
  have _ := ltb x1_0
  obtain ⟨_, _, _⟩ := cells3 x1_1
  have _ := fz x1_1
  have _ := ltb x1_1
  obtain ⟨_, _, _⟩ := cells3 x1_2
  have _ := fz x1_2
  have _ := ltb x1_2
  have X1_0 := hid x1_0; clear x1_0
  have X1_1 := hid x1_1; clear x1_1
  have X1_2 := hid x1_2; clear x1_2
  have G1 := hid (g1)
  clear hg1 g1
  go_wp2_with fail
  refine (ht.out _ _ (hid X1_0.out)).mono ?_
  rintro e w2 ⟨rfl, hg2⟩
  have x2_1 := hg2.keep X1_0.out
  have x2_2 := hg2.keep X1_1.out
  have x2_3 := hg2.keep X1_2.out
  obtain ⟨_, _, _, _, _⟩ := cells5 x2_1
  have _ := fz x2_1
  have _ := ltb x2_1
  obtain ⟨_, _, _⟩ := cells3 x2_2
  have _ := fz x2_2
  have _ := ltb x2_2
  obtain ⟨_, _, _⟩ := cells3 x2_3
  have _ := fz x2_3
  have _ := ltb x2_3
  have X2_1 := hid x2_1; clear x2_1
  have X2_2 := hid x2_2; clear x2_2
  have X2_3 := hid x2_3; clear x2_3
  have G2 := hid (G1.out.trans hg2)
  clear hg2
  go_wp2
  refine bodyPost_ret (v := .tuple #[spi T P Q, .int .i64 C]) (by simp [results, Try.results19, go_sem, *]) rfl ⟨rfl, ?_⟩
  exact (((G2.out).setCell (by simp <;> omega) _).setCell (by simp <;> omega) _).setCell (by simp <;> omega) _
set_option maxRecDepth 20000 in
set_option maxHeartbeats 400000 in
theorem iTurn_no (a b n c d t p q y : Int) (w : World) (h : sdB a b n c d t p q = false) :
    Calls Try.prog 20 #[sc a b n c d, spi t p q, .int .i64 y] w fun e w' => e = .returned (.tuple #[spi 0 0 0, .int .i64 1]) ∧ Gr w w' := by
  have h := hid h
  go_enter Try.func20, Try.ntmps20
  go_wp2_with fail
  refine (ispin_F _ _ _ _ _ _ _ _ _ h.out).mono ?_
  rintro e w1 ⟨rfl, hg1⟩
  obtain ⟨x1_0, x1_1, x1_2, hz1, g1⟩ := alloc3 hg1
  obtain ⟨_, _, _, _, _⟩ := cells5 x1_0
  have _ := fz x1_0
  have _ := ltb x1_0
  obtain ⟨_, _, _⟩ := cells3 x1_1
  have _ := fz x1_1
  have _ := ltb x1_1
  obtain ⟨_, _, _⟩ := cells3 x1_2
  have _ := fz x1_2
  have _ := ltb x1_2
  have X1_0 := hid x1_0; clear x1_0
  have X1_1 := hid x1_1; clear x1_1
  have X1_2 := hid x1_2; clear x1_2
  have G1 := hid (g1)
  clear hg1 g1
  go_wp2
  refine bodyPost_ret (v := .tuple #[spi 0 0 0, .int .i64 1]) (by simp [results, Try.results20, go_sem, *]) rfl ⟨rfl, ?_⟩
  exact (((G1.out).setCell (by simp <;> omega) _).setCell (by simp <;> omega) _).setCell (by simp <;> omega) _
set_option maxRecDepth 20000 in
set_option maxHeartbeats 400000 in
theorem iTurn_rng (a b n c d t p q y : Int) (w : World) (h : sdB a b n c d t p q = true) (hy : gtB y 20000 = true) :
    Calls Try.prog 20 #[sc a b n c d, spi t p q, .int .i64 y] w fun e w' => e = .returned (.tuple #[spi 0 0 0, .int .i64 2]) ∧ Gr w w' := by
  have h := hid h; have hy := hid hy
  go_enter Try.func20, Try.ntmps20
  go_wp2_with fail
  refine (ispin_T _ _ _ _ _ _ _ _ _ h.out).mono ?_
  rintro e w1 ⟨rfl, hg1⟩
  obtain ⟨x1_0, x1_1, x1_2, hz1, g1⟩ := alloc3 hg1
  obtain ⟨_, _, _, _, _⟩ := cells5 x1_0
  have _ := fz x1_0
  have _ := ltb x1_0
  obtain ⟨_, _, _⟩ := cells3 x1_1
  have _ := fz x1_1
  have _ := ltb x1_1
  obtain ⟨_, _, _⟩ := cells3 x1_2
  have _ := fz x1_2
  have _ := ltb x1_2
  have X1_0 := hid x1_0; clear x1_0
  have X1_1 := hid x1_1; clear x1_1
  have X1_2 := hid x1_2; clear x1_2
  have G1 := hid (g1)
  clear hg1 g1
  go_wp2_with fail
  refine (igt_t _ _ _ (by omega) (by omega) hy.out).mono ?_
  rintro e w2 ⟨rfl, hg2⟩
  have x2_1 := hg2.keep X1_0.out
  have x2_2 := hg2.keep X1_1.out
  have x2_3 := hg2.keep X1_2.out
  obtain ⟨_, _, _, _, _⟩ := cells5 x2_1
  have _ := fz x2_1
  have _ := ltb x2_1
  obtain ⟨_, _, _⟩ := cells3 x2_2
  have _ := fz x2_2
  have _ := ltb x2_2
  obtain ⟨_, _, _⟩ := cells3 x2_3
  have _ := fz x2_3
  have _ := ltb x2_3
  have X2_1 := hid x2_1; clear x2_1
  have X2_2 := hid x2_2; clear x2_2
  have X2_3 := hid x2_3; clear x2_3
  have G2 := hid (G1.out.trans hg2)
  clear hg2
  go_wp2
  refine bodyPost_ret (v := .tuple #[spi 0 0 0, .int .i64 2]) (by simp [results, Try.results20, go_sem, *]) rfl ⟨rfl, ?_⟩
  exact (((G2.out).setCell (by simp <;> omega) _).setCell (by simp <;> omega) _).setCell (by simp <;> omega) _
set_option maxRecDepth 20000 in
set_option maxHeartbeats 400000 in
theorem iTurn_yes (a b n c d t p q y T P Q C : Int) (v : Value) (w : World) (h : sdB a b n c d t p q = true) (hy : gtB y 20000 = false) (ht : ∀ w : World, Calls Try.prog 42 #[sc a b n c d, spi t p q, .int .i64 y] w fun e w' => e = .returned (.tuple #[spi T P Q, v, .int .i64 C]) ∧ Gr w w') :
    Calls Try.prog 20 #[sc a b n c d, spi t p q, .int .i64 y] w fun e w' => e = .returned (.tuple #[spi T P Q, .int .i64 C]) ∧ Gr w w' := by
  have h := hid h; have hy := hid hy; have ht := hid ht
  go_enter Try.func20, Try.ntmps20
  go_wp2_with fail
  refine (ispin_T _ _ _ _ _ _ _ _ _ h.out).mono ?_
  rintro e w1 ⟨rfl, hg1⟩
  obtain ⟨x1_0, x1_1, x1_2, hz1, g1⟩ := alloc3 hg1
  obtain ⟨_, _, _, _, _⟩ := cells5 x1_0
  have _ := fz x1_0
  have _ := ltb x1_0
  obtain ⟨_, _, _⟩ := cells3 x1_1
  have _ := fz x1_1
  have _ := ltb x1_1
  obtain ⟨_, _, _⟩ := cells3 x1_2
  have _ := fz x1_2
  have _ := ltb x1_2
  have X1_0 := hid x1_0; clear x1_0
  have X1_1 := hid x1_1; clear x1_1
  have X1_2 := hid x1_2; clear x1_2
  have G1 := hid (g1)
  clear hg1 g1
  go_wp2_with fail
  refine (igt_f _ _ _ (by omega) (by omega) hy.out).mono ?_
  rintro e w2 ⟨rfl, hg2⟩
  have x2_1 := hg2.keep X1_0.out
  have x2_2 := hg2.keep X1_1.out
  have x2_3 := hg2.keep X1_2.out
  obtain ⟨_, _, _, _, _⟩ := cells5 x2_1
  have _ := fz x2_1
  have _ := ltb x2_1
  obtain ⟨_, _, _⟩ := cells3 x2_2
  have _ := fz x2_2
  have _ := ltb x2_2
  obtain ⟨_, _, _⟩ := cells3 x2_3
  have _ := fz x2_3
  have _ := ltb x2_3
  have X2_1 := hid x2_1; clear x2_1
  have X2_2 := hid x2_2; clear x2_2
  have X2_3 := hid x2_3; clear x2_3
  have G2 := hid (G1.out.trans hg2)
  clear hg2
  go_wp2_with fail
  refine (ht.out _).mono ?_
  rintro e w3 ⟨rfl, hg3⟩
  have x3_1 := hg3.keep X2_1.out
  have x3_2 := hg3.keep X2_2.out
  have x3_3 := hg3.keep X2_3.out
  obtain ⟨_, _, _, _, _⟩ := cells5 x3_1
  have _ := fz x3_1
  have _ := ltb x3_1
  obtain ⟨_, _, _⟩ := cells3 x3_2
  have _ := fz x3_2
  have _ := ltb x3_2
  obtain ⟨_, _, _⟩ := cells3 x3_3
  have _ := fz x3_3
  have _ := ltb x3_3
  have X3_1 := hid x3_1; clear x3_1
  have X3_2 := hid x3_2; clear x3_2
  have X3_3 := hid x3_3; clear x3_3
  have G3 := hid (G2.out.trans hg3)
  clear hg3
  go_wp2
  refine bodyPost_ret (v := .tuple #[spi T P Q, .int .i64 C]) (by simp [results, Try.results20, go_sem, *]) rfl ⟨rfl, ?_⟩
  exact ((((G3.out).setCell (by simp <;> omega) _).setCell (by simp <;> omega) _).setCell (by simp <;> omega) _).al _
/-- A valid spindle is turned: both answer alike. -/
theorem both_turn (a b n c d t p q y : Int) (hs : scB a b n c d = true) (t1 : -10000 ≤ t) (t2 : t ≤ 10000) (hp : okB p q = true) (y1 : -20000 ≤ y) (y2 : y ≤ 20000) :
    ∃ (T P Q C : Int) (v : Value), (∀ (w : World) (k : Nat), Hid (w.heap[k]? = some (.cells #[.int .i64 a, .int .i64 b, .int .i64 n, .int .i64 c, .int .i64 d] 35)) → Calls Try.prog 41 #[.pointer (some ⟨k, 0, none⟩), spi t p q, .int .i64 y] w fun e w' => e = .returned (.tuple #[spi T P Q, .int .i64 C]) ∧ Gr w w') ∧
      (∀ w : World, Calls Try.prog 42 #[sc a b n c d, spi t p q, .int .i64 y] w fun e w' => e = .returned (.tuple #[spi T P Q, v, .int .i64 C]) ∧ Gr w w') := by
  cases hi : gtB (t + y) 10000 with
  | true =>
    have hi' : inB (t + y) (-10000) 10000 = false := by rw [gt_in', hi]; rfl
    exact ⟨0, 0, 0, 2, _, fun w k X => sturn_f2 a b n c d t p q y w k X t1 t2 y1 y2 hi', fun w => iturn_f2 a b n c d t p q y w t1 t2 y1 y2 hi⟩
  | false =>
    obtain ⟨i1, i2⟩ := gtb hi
    cases ge : eB a b n c d (t + y) with
    | false => exact ⟨0, 0, 0, 3, _, fun w k X => sturn_f3 a b n c d t p q y w k X y1 y2 hs i1 i2 ge, fun w => iturn_f3 a b n c d t p q y w t1 t2 y1 y2 hs hi ge⟩
    | true =>
      by_cases h1 : cmpI p q (lP a b n c d (t + y)) (lQ a b n c d (t + y)) < 0
      · obtain ⟨e1, e2⟩ := at_lo hs ge h1
        refine ⟨t + y, _, _, 0, .iface 104 (sp (lP a b n c d (t + y)) (lQ a b n c d (t + y)) (nP a b n (t + y)) (nQ a b n (t + y))), fun w k X => sturn_y a b n c d t p q y w k X y1 y2 hs i1 i2 hp ge, fun w => ?_⟩
        rw [e1, e2]
        exact iturn_lo a b n c d t p q y w t1 t2 y1 y2 hs hi hp ge (by simpa using h1)
      · by_cases h2 : 0 < cmpI p q (nP a b n (t + y)) (nQ a b n (t + y))
        · obtain ⟨e1, e2⟩ := at_hi h1 h2
          refine ⟨t + y, _, _, 0, .iface 105 (sp (lP a b n c d (t + y)) (lQ a b n c d (t + y)) (nP a b n (t + y)) (nQ a b n (t + y))), fun w k X => sturn_y a b n c d t p q y w k X y1 y2 hs i1 i2 hp ge, fun w => ?_⟩
          rw [e1, e2]
          exact iturn_hi a b n c d t p q y w t1 t2 y1 y2 hs hi hp ge (by simpa using h1) (by simpa using h2)
        · obtain ⟨e1, e2⟩ := at_mid h1 h2
          refine ⟨t + y, _, _, 0, .iface 102 (fr p q), fun w k X => sturn_y a b n c d t p q y w k X y1 y2 hs i1 i2 hp ge, fun w => ?_⟩
          rw [e1, e2]
          exact iturn_mid a b n c d t p q y w t1 t2 y1 y2 hs hi hp ge (by simpa using h1) (by simpa using h2)
theorem bothTurnSpindle (a b n c d t p q y : Int) : ∃ T P Q C : Int, (∀ w, Calls Try.prog 19 #[sc a b n c d, spi t p q, .int .i64 y] w fun e w' => e = .returned (.tuple #[spi T P Q, .int .i64 C]) ∧ Gr w w') ∧ (∀ w, Calls Try.prog 20 #[sc a b n c d, spi t p q, .int .i64 y] w fun e w' => e = .returned (.tuple #[spi T P Q, .int .i64 C]) ∧ Gr w w') := by
  cases h : sdB a b n c d t p q with
  | false => exact ⟨0, 0, 0, 1, fun w => sTurn_no _ _ _ _ _ _ _ _ _ w h, fun w => iTurn_no _ _ _ _ _ _ _ _ _ w h⟩
  | true =>
    obtain ⟨hs, ⟨t1, t2⟩, hp, _, _⟩ := sdB_all h
    cases hy : gtB y 20000 with
    | true =>
      have hy' : inB y (-20000) 20000 = false := by rw [gt_in', hy]; rfl
      exact ⟨0, 0, 0, 2, fun w => sTurn_yes _ _ _ _ _ _ _ _ _ _ _ _ _ w h fun w k X => sturn_f1 _ _ _ _ _ _ _ _ _ w k X hy', fun w => iTurn_rng _ _ _ _ _ _ _ _ _ w h hy⟩
    | false =>
      obtain ⟨y1, y2⟩ := gtb hy
      obtain ⟨T, P, Q, C, v, s1, s2⟩ := both_turn a b n c d t p q y hs t1 t2 hp y1 y2
      exact ⟨T, P, Q, C, fun w => sTurn_yes _ _ _ _ _ _ _ _ _ _ _ _ _ w h s1, fun w => iTurn_yes _ _ _ _ _ _ _ _ _ _ _ _ _ _ w h hy s2⟩
end Go.Proofs.Ytjcebojmfoppaaa
