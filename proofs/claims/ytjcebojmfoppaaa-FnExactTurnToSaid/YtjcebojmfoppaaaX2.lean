/- WALKS: where the nut of a spindle is, and between what it stands; of the program and of the reference. -/
import Derived.Test.YtjcebojmfoppaaaX1
import Derived.Test.YtjcebojmfoppaaaMath2
namespace Go.Proofs.Ytjcebojmfoppaaa
open Go.RowKit Go.Sort

def n1P (a b t : Int) : Int := redP (t * a) (1 * b)
def n1Q (a b t : Int) : Int := redQ (t * a) (1 * b)
def nP (a b n t : Int) : Int := redP (n1P a b t * 1) (n1Q a b t * n)
def nQ (a b n t : Int) : Int := redQ (n1P a b t * 1) (n1Q a b t * n)
def lP (a b n c d t : Int) : Int := redP (nP a b n t * d - c * nQ a b n t) (nQ a b n t * d)
def lQ (a b n c d t : Int) : Int := redQ (nP a b n t * d - c * nQ a b n t) (nQ a b n t * d)
/-- Can it be told where the nut is? and the least place? -/
def n1B (a b t : Int) : Bool := okB (n1P a b t) (n1Q a b t)
def nB (a b n t : Int) : Bool := okB (nP a b n t) (nQ a b n t)
def lB (a b n c d t : Int) : Bool := okB (lP a b n c d t) (lQ a b n c d t)
theorem ok_whole {t : Int} (h1 : -1000000000 ≤ t) (h2 : t ≤ 1000000000) : okB t 1 = true := by
  rw [okB_iff]; unfold Ok; simp; omega
theorem in_bd {t lo hi : Int} (h : inB t lo hi = true) : lo ≤ t ∧ t ≤ hi := by
  unfold inB at h; simpa using h
theorem smul_t (a b c d : Int) (w : World) (h1 : okB a b = true) (h2 : okB c d = true) (hk : okB (redP (a*c) (b*d)) (redQ (a*c) (b*d)) = true) :
    Calls Try.prog 63 #[fr a b, fr c d] w fun e w' => e = .returned (.tuple #[fr (redP (a*c) (b*d)) (redQ (a*c) (b*d)), .int .i64 0]) ∧ Gr w w' := by
  obtain ⟨b1, b2, b3, b4⟩ := okB_bd h1
  obtain ⟨d1, d2, d3, d4⟩ := okB_bd h2
  have h := sl01Mul a b c d w b1 b2 b3 b4 d1 d2 d3 d4
  unfold rP rQ rC at h
  rw [hk] at h
  simpa using h
theorem smul_f (a b c d : Int) (w : World) (h1 : okB a b = true) (h2 : okB c d = true) (hk : okB (redP (a*c) (b*d)) (redQ (a*c) (b*d)) = false) :
    Calls Try.prog 63 #[fr a b, fr c d] w fun e w' => e = .returned (.tuple #[fr 0 0, .int .i64 3]) ∧ Gr w w' := by
  obtain ⟨b1, b2, b3, b4⟩ := okB_bd h1
  obtain ⟨d1, d2, d3, d4⟩ := okB_bd h2
  have h := sl01Mul a b c d w b1 b2 b3 b4 d1 d2 d3 d4
  unfold rP rQ rC at h
  rw [hk] at h
  simpa using h
theorem sdiv_t (a b c d : Int) (w : World) (h1 : okB a b = true) (h2 : okB c d = true) (hz : c ≠ 0) (hk : okB (redP (a*d) (b*c)) (redQ (a*d) (b*c)) = true) :
    Calls Try.prog 65 #[fr a b, fr c d] w fun e w' => e = .returned (.tuple #[fr (redP (a*d) (b*c)) (redQ (a*d) (b*c)), .int .i64 0]) ∧ Gr w w' := by
  obtain ⟨b1, b2, b3, b4⟩ := okB_bd h1
  obtain ⟨d1, d2, d3, d4⟩ := okB_bd h2
  have h := sl01Div a b c d w b1 b2 b3 b4 d1 d2 d3 d4 hz
  unfold rP rQ rC at h
  rw [hk] at h
  simpa using h
theorem sdiv_f (a b c d : Int) (w : World) (h1 : okB a b = true) (h2 : okB c d = true) (hz : c ≠ 0) (hk : okB (redP (a*d) (b*c)) (redQ (a*d) (b*c)) = false) :
    Calls Try.prog 65 #[fr a b, fr c d] w fun e w' => e = .returned (.tuple #[fr 0 0, .int .i64 3]) ∧ Gr w w' := by
  obtain ⟨b1, b2, b3, b4⟩ := okB_bd h1
  obtain ⟨d1, d2, d3, d4⟩ := okB_bd h2
  have h := sl01Div a b c d w b1 b2 b3 b4 d1 d2 d3 d4 hz
  unfold rP rQ rC at h
  rw [hk] at h
  simpa using h
theorem ssub_t (a b c d : Int) (w : World) (h1 : okB a b = true) (h2 : okB c d = true) (hk : okB (redP (a*d-c*b) (b*d)) (redQ (a*d-c*b) (b*d)) = true) :
    Calls Try.prog 70 #[fr a b, fr c d] w fun e w' => e = .returned (.tuple #[fr (redP (a*d-c*b) (b*d)) (redQ (a*d-c*b) (b*d)), .int .i64 0]) ∧ Gr w w' := by
  obtain ⟨b1, b2, b3, b4⟩ := okB_bd h1
  obtain ⟨d1, d2, d3, d4⟩ := okB_bd h2
  have h := sl01Sub a b c d w b1 b2 b3 b4 d1 d2 d3 d4
  unfold rP rQ rC at h
  rw [hk] at h
  simpa using h
theorem ssub_f (a b c d : Int) (w : World) (h1 : okB a b = true) (h2 : okB c d = true) (hk : okB (redP (a*d-c*b) (b*d)) (redQ (a*d-c*b) (b*d)) = false) :
    Calls Try.prog 70 #[fr a b, fr c d] w fun e w' => e = .returned (.tuple #[fr 0 0, .int .i64 3]) ∧ Gr w w' := by
  obtain ⟨b1, b2, b3, b4⟩ := okB_bd h1
  obtain ⟨d1, d2, d3, d4⟩ := okB_bd h2
  have h := sl01Sub a b c d w b1 b2 b3 b4 d1 d2 d3 d4
  unfold rP rQ rC at h
  rw [hk] at h
  simpa using h
theorem in_t (n lo hi : Int) (w : World) (h : inB n lo hi = true) : Calls Try.prog 46 #[.int .i64 n, .int .i64 lo, .int .i64 hi] w fun e w' => e = .returned (.bool true) ∧ Gr w w' :=
  (in_any n lo hi w).mono fun e w' ⟨he, hg⟩ => ⟨by rw [he, h], hg ▸ Gr.refl _⟩
theorem in_f (n lo hi : Int) (w : World) (h : inB n lo hi = false) : Calls Try.prog 46 #[.int .i64 n, .int .i64 lo, .int .i64 hi] w fun e w' => e = .returned (.bool false) ∧ Gr w w' :=
  (in_any n lo hi w).mono fun e w' ⟨he, hg⟩ => ⟨by rw [he, h], hg ▸ Gr.refl _⟩
theorem mulw_t (a b t : Int) (w : World) (h1 : okB a b = true) (ht : okB t 1 = true) (g : n1B a b t = true) :
    Calls Try.prog 63 #[fr t 1, fr a b] w fun e w' => e = .returned (.tuple #[fr (n1P a b t) (n1Q a b t), .int .i64 0]) ∧ Gr w w' := smul_t t 1 a b w ht h1 g
theorem divw_t (a b n t : Int) (w : World) (hn : okB n 1 = true) (hz : n ≠ 0) (g : n1B a b t = true) (g2 : nB a b n t = true) :
    Calls Try.prog 65 #[fr (n1P a b t) (n1Q a b t), fr n 1] w fun e w' => e = .returned (.tuple #[fr (nP a b n t) (nQ a b n t), .int .i64 0]) ∧ Gr w w' := sdiv_t _ _ n 1 w g hn hz g2
theorem subw_t (a b n c d t : Int) (w : World) (h2 : okB c d = true) (g2 : nB a b n t = true) (g3 : lB a b n c d t = true) :
    Calls Try.prog 70 #[fr (nP a b n t) (nQ a b n t), fr c d] w fun e w' => e = .returned (.tuple #[fr (lP a b n c d t) (lQ a b n c d t), .int .i64 0]) ∧ Gr w w' := ssub_t _ _ c d w g2 h2 g3
theorem subw_f (a b n c d t : Int) (w : World) (h2 : okB c d = true) (g2 : nB a b n t = true) (g3 : lB a b n c d t = false) :
    Calls Try.prog 70 #[fr (nP a b n t) (nQ a b n t), fr c d] w fun e w' => e = .returned (.tuple #[fr 0 0, .int .i64 3]) ∧ Gr w w' := ssub_f _ _ c d w g2 h2 g3
theorem divw_f (a b n t : Int) (w : World) (hn : okB n 1 = true) (hz : n ≠ 0) (g : n1B a b t = true) (g2 : nB a b n t = false) :
    Calls Try.prog 65 #[fr (n1P a b t) (n1Q a b t), fr n 1] w fun e w' => e = .returned (.tuple #[fr 0 0, .int .i64 3]) ∧ Gr w w' := sdiv_f _ _ n 1 w g hn hz g2
set_option maxRecDepth 20000 in
set_option maxHeartbeats 400000 in
theorem snut_f1 (a b n c d t : Int) (w : World) (k : Nat) (X1 : Hid (w.heap[k]? = some (.cells #[.int .i64 a, .int .i64 b, .int .i64 n, .int .i64 c, .int .i64 d] 35))) (h1 : okB a b = true) (ht : okB t 1 = true) (g1 : n1B a b t = false) :
    Calls Try.prog 43 #[.pointer (some ⟨k, 0, none⟩), .int .i64 t] w fun e w' => e = .returned (.tuple #[fr 0 0, .int .i64 3]) ∧ Gr w w' := by
  have h1 := hid h1; have ht := hid ht; have g1 := hid g1
  go_enter Try.func43, Try.ntmps43
  obtain ⟨_, _, _, _, _⟩ := cells5 X1.out
  have _ := fz X1.out
  have _ := ltb X1.out
  go_wp2_with fail
  refine wp_reg1s #[.int .i64 0, .int .i64 0] 12 10 6 11 16 (by kernel_rfl) (by kernel_rfl) rfl rfl (by simp) rfl rfl (by decide) (fun _ _ => by kernel_rfl) (by kernel_rfl) ?_
  apply Exists.intro; apply Exists.intro
  refine ⟨fun wb hb => ?_, ?_⟩
  · obtain ⟨y0, _, _⟩ := alloc1 (Gr.refl _)
    obtain ⟨_, _⟩ := hb.at2 y0
    clear y0
    obtain ⟨_, _, _, _, _⟩ := hb.at5 (((Gr.refl _).al _).keep X1.out)
    simp only [headOps, List.contains, List.elem, Nat.reduceAdd, Nat.reduceBEq, reduceIte, Bool.false_eq_true, dumOp]
    repeat (first | go_big_quiet_step (first | (go_at_call 64; exact Calls.of_gr (swhole1 _ _)) | (go_at_call 63; exact Calls.of_gr (smul_f _ _ _ _ _ ht.out h1.out g1.out))) | quiet_step (fail))
    exact wpQuiet_nil rfl
  refine ⟨rfl, ⟨rfl, by simp [Value.oneCell']⟩, fun w1 b1 hg1 _ xb1 => ?_⟩
  obtain ⟨x1_0, hz1, g1⟩ := alloc1 hg1
  have x1_1 := g1.keep X1.out
  obtain ⟨_, _⟩ := cells2 x1_0
  have _ := fz x1_0
  have _ := ltb x1_0
  obtain ⟨_, _, _, _, _⟩ := cells5 x1_1
  have _ := fz x1_1
  have _ := ltb x1_1
  obtain ⟨_, _⟩ := cells2 xb1
  have _ := fz xb1
  have _ := ltb xb1
  have X1_0 := hid x1_0; clear x1_0
  have X1_1 := hid x1_1; clear x1_1
  have Xb1 := hid xb1; clear xb1
  have G1 := hid (g1)
  clear hg1 g1
  go_wp2
  refine bodyPost_ret (v := .tuple #[fr 0 0, .int .i64 3]) (by simp [results, Try.results43, go_sem, *]) rfl ⟨rfl, ?_⟩
  exact ((G1.out).setCell (by simp <;> omega) _).setCell (by simp <;> omega) _
set_option maxRecDepth 20000 in
set_option maxHeartbeats 400000 in
theorem snut_f2 (a b n c d t : Int) (w : World) (k : Nat) (X1 : Hid (w.heap[k]? = some (.cells #[.int .i64 a, .int .i64 b, .int .i64 n, .int .i64 c, .int .i64 d] 35))) (h1 : okB a b = true) (ht : okB t 1 = true) (hn : okB n 1 = true) (hz : n ≠ 0) (g1 : n1B a b t = true) (g2 : nB a b n t = false) :
    Calls Try.prog 43 #[.pointer (some ⟨k, 0, none⟩), .int .i64 t] w fun e w' => e = .returned (.tuple #[fr 0 0, .int .i64 3]) ∧ Gr w w' := by
  have h1 := hid h1; have ht := hid ht; have g1 := hid g1; have g2 := hid g2; have hn := hid hn; have hz := hid hz
  go_enter Try.func43, Try.ntmps43
  obtain ⟨_, _, _, _, _⟩ := cells5 X1.out
  have _ := fz X1.out
  have _ := ltb X1.out
  go_wp2_with fail
  refine wp_reg1s #[.int .i64 0, .int .i64 0] 12 10 6 11 16 (by kernel_rfl) (by kernel_rfl) rfl rfl (by simp) rfl rfl (by decide) (fun _ _ => by kernel_rfl) (by kernel_rfl) ?_
  apply Exists.intro; apply Exists.intro
  refine ⟨fun wb hb => ?_, ?_⟩
  · obtain ⟨y0, _, _⟩ := alloc1 (Gr.refl _)
    obtain ⟨_, _⟩ := hb.at2 y0
    clear y0
    obtain ⟨_, _, _, _, _⟩ := hb.at5 (((Gr.refl _).al _).keep X1.out)
    simp only [headOps, List.contains, List.elem, Nat.reduceAdd, Nat.reduceBEq, reduceIte, Bool.false_eq_true, dumOp]
    repeat (first | go_big_quiet_step (first | (go_at_call 64; exact Calls.of_gr (swhole1 _ _)) | (go_at_call 63; exact Calls.of_gr (mulw_t a b t _ h1.out ht.out g1.out))) | quiet_step (fail))
    exact wpQuiet_nil rfl
  refine ⟨rfl, ⟨rfl, by simp [Value.oneCell']⟩, fun w1 b1 hg1 _ xb1 => ?_⟩
  obtain ⟨x1_0, hz1, g1⟩ := alloc1 hg1
  have x1_1 := g1.keep X1.out
  obtain ⟨_, _⟩ := cells2 x1_0
  have _ := fz x1_0
  have _ := ltb x1_0
  obtain ⟨_, _, _, _, _⟩ := cells5 x1_1
  have _ := fz x1_1
  have _ := ltb x1_1
  obtain ⟨_, _⟩ := cells2 xb1
  have _ := fz xb1
  have _ := ltb xb1
  have X1_0 := hid x1_0; clear x1_0
  have X1_1 := hid x1_1; clear x1_1
  have Xb1 := hid xb1; clear xb1
  have G1 := hid (g1)
  clear hg1 g1
  go_wp2_with fail
  refine wp_reg0 9 (by kernel_rfl) (by kernel_rfl) ?_
  apply Exists.intro
  refine ⟨fun wb hb => ?_, ?_⟩
  · obtain ⟨_, _⟩ := hb.at2 X1_0.out
    obtain ⟨_, _, _, _, _⟩ := hb.at5 X1_1.out
    obtain ⟨_, _⟩ := hb.at2 Xb1.out
    simp only [headOps, List.contains, List.elem, reduceIte, Bool.false_eq_true]
    repeat (first | go_big_quiet_step (first | (go_at_call 64; exact Calls.of_gr (swhole1 _ _)) | (go_at_call 65; exact Calls.of_gr (divw_f a b n t _ hn.out hz.out g1.out g2.out))) | quiet_step (fail))
    exact wpQuiet_nil rfl
  intro w2 hg2
  have x2_1 := hg2.keep X1_0.out
  have x2_2 := hg2.keep X1_1.out
  have x2_3 := hg2.keep Xb1.out
  obtain ⟨_, _⟩ := cells2 x2_1
  have _ := fz x2_1
  have _ := ltb x2_1
  obtain ⟨_, _, _, _, _⟩ := cells5 x2_2
  have _ := fz x2_2
  have _ := ltb x2_2
  obtain ⟨_, _⟩ := cells2 x2_3
  have _ := fz x2_3
  have _ := ltb x2_3
  have X2_1 := hid x2_1; clear x2_1
  have X2_2 := hid x2_2; clear x2_2
  have X2_3 := hid x2_3; clear x2_3
  have G2 := hid (G1.out.trans hg2)
  clear hg2
  go_wp2
  refine bodyPost_ret (v := .tuple #[fr 0 0, .int .i64 3]) (by simp [results, Try.results43, go_sem, *]) rfl ⟨rfl, ?_⟩
  exact ((G2.out).setCell (by simp <;> omega) _).setCell (by simp <;> omega) _
set_option maxRecDepth 20000 in
set_option maxHeartbeats 400000 in
theorem snut_t (a b n c d t : Int) (w : World) (k : Nat) (X1 : Hid (w.heap[k]? = some (.cells #[.int .i64 a, .int .i64 b, .int .i64 n, .int .i64 c, .int .i64 d] 35))) (h1 : okB a b = true) (ht : okB t 1 = true) (hn : okB n 1 = true) (hz : n ≠ 0) (g1 : n1B a b t = true) (g2 : nB a b n t = true) :
    Calls Try.prog 43 #[.pointer (some ⟨k, 0, none⟩), .int .i64 t] w fun e w' => e = .returned (.tuple #[fr (nP a b n t) (nQ a b n t), .int .i64 0]) ∧ Gr w w' := by
  have h1 := hid h1; have ht := hid ht; have g1 := hid g1; have g2 := hid g2; have hn := hid hn; have hz := hid hz
  go_enter Try.func43, Try.ntmps43
  obtain ⟨_, _, _, _, _⟩ := cells5 X1.out
  have _ := fz X1.out
  have _ := ltb X1.out
  go_wp2_with fail
  refine wp_reg1s #[.int .i64 0, .int .i64 0] 12 10 6 11 16 (by kernel_rfl) (by kernel_rfl) rfl rfl (by simp) rfl rfl (by decide) (fun _ _ => by kernel_rfl) (by kernel_rfl) ?_
  apply Exists.intro; apply Exists.intro
  refine ⟨fun wb hb => ?_, ?_⟩
  · obtain ⟨y0, _, _⟩ := alloc1 (Gr.refl _)
    obtain ⟨_, _⟩ := hb.at2 y0
    clear y0
    obtain ⟨_, _, _, _, _⟩ := hb.at5 (((Gr.refl _).al _).keep X1.out)
    simp only [headOps, List.contains, List.elem, Nat.reduceAdd, Nat.reduceBEq, reduceIte, Bool.false_eq_true, dumOp]
    repeat (first | go_big_quiet_step (first | (go_at_call 64; exact Calls.of_gr (swhole1 _ _)) | (go_at_call 63; exact Calls.of_gr (mulw_t a b t _ h1.out ht.out g1.out))) | quiet_step (fail))
    exact wpQuiet_nil rfl
  refine ⟨rfl, ⟨rfl, by simp [Value.oneCell']⟩, fun w1 b1 hg1 _ xb1 => ?_⟩
  obtain ⟨x1_0, hz1, g1⟩ := alloc1 hg1
  have x1_1 := g1.keep X1.out
  obtain ⟨_, _⟩ := cells2 x1_0
  have _ := fz x1_0
  have _ := ltb x1_0
  obtain ⟨_, _, _, _, _⟩ := cells5 x1_1
  have _ := fz x1_1
  have _ := ltb x1_1
  obtain ⟨_, _⟩ := cells2 xb1
  have _ := fz xb1
  have _ := ltb xb1
  have X1_0 := hid x1_0; clear x1_0
  have X1_1 := hid x1_1; clear x1_1
  have Xb1 := hid xb1; clear xb1
  have G1 := hid (g1)
  clear hg1 g1
  go_wp2_with fail
  refine wp_reg0 9 (by kernel_rfl) (by kernel_rfl) ?_
  apply Exists.intro
  refine ⟨fun wb hb => ?_, ?_⟩
  · obtain ⟨_, _⟩ := hb.at2 X1_0.out
    obtain ⟨_, _, _, _, _⟩ := hb.at5 X1_1.out
    obtain ⟨_, _⟩ := hb.at2 Xb1.out
    simp only [headOps, List.contains, List.elem, reduceIte, Bool.false_eq_true]
    repeat (first | go_big_quiet_step (first | (go_at_call 64; exact Calls.of_gr (swhole1 _ _)) | (go_at_call 65; exact Calls.of_gr (divw_t a b n t _ hn.out hz.out g1.out g2.out))) | quiet_step (fail))
    exact wpQuiet_nil rfl
  intro w2 hg2
  have x2_1 := hg2.keep X1_0.out
  have x2_2 := hg2.keep X1_1.out
  have x2_3 := hg2.keep Xb1.out
  obtain ⟨_, _⟩ := cells2 x2_1
  have _ := fz x2_1
  have _ := ltb x2_1
  obtain ⟨_, _, _, _, _⟩ := cells5 x2_2
  have _ := fz x2_2
  have _ := ltb x2_2
  obtain ⟨_, _⟩ := cells2 x2_3
  have _ := fz x2_3
  have _ := ltb x2_3
  have X2_1 := hid x2_1; clear x2_1
  have X2_2 := hid x2_2; clear x2_2
  have X2_3 := hid x2_3; clear x2_3
  have G2 := hid (G1.out.trans hg2)
  clear hg2
  go_wp2
  refine bodyPost_ret (v := .tuple #[fr (nP a b n t) (nQ a b n t), .int .i64 0]) (by simp [results, Try.results43, go_sem, *]) rfl ⟨rfl, ?_⟩
  exact ((G2.out).setCell (by simp <;> omega) _).setCell (by simp <;> omega) _
/-- Can both ends be told? -/
def eB (a b n c d t : Int) : Bool := n1B a b t && (nB a b n t && lB a b n c d t)
set_option maxRecDepth 20000 in
set_option maxHeartbeats 400000 in
theorem sends_f1 (a b n c d t : Int) (w : World) (k : Nat) (X1 : Hid (w.heap[k]? = some (.cells #[.int .i64 a, .int .i64 b, .int .i64 n, .int .i64 c, .int .i64 d] 35))) (h1 : okB a b = true) (ht : okB t 1 = true)  (g1 : n1B a b t = false) :
    Calls Try.prog 55 #[.pointer (some ⟨k, 0, none⟩), .int .i64 t] w fun e w' => e = .returned (.tuple #[sp 0 0 0 0, .int .i64 3]) ∧ Gr w w' := by
  have h1 := hid h1; have ht := hid ht; have g1 := hid g1
  go_enter Try.func55, Try.ntmps55
  obtain ⟨_, _, _, _, _⟩ := cells5 X1.out
  have _ := fz X1.out
  have _ := ltb X1.out
  go_wp2_with fail
  refine (snut_f1 _ _ _ _ _ _ _ _ (hid (((Gr.refl _).al _).keep X1.out)) h1.out ht.out g1.out).mono ?_
  rintro e w1 ⟨rfl, hg1⟩
  obtain ⟨x1_0, hz1, g1⟩ := alloc1 hg1
  have x1_1 := g1.keep X1.out
  obtain ⟨_, _, _, _⟩ := cells4 x1_0
  have _ := fz x1_0
  have _ := ltb x1_0
  obtain ⟨_, _, _, _, _⟩ := cells5 x1_1
  have _ := fz x1_1
  have _ := ltb x1_1
  have X1_0 := hid x1_0; clear x1_0
  have X1_1 := hid x1_1; clear x1_1
  have G1 := hid (g1)
  clear hg1 g1
  go_wp2
  refine bodyPost_ret (v := .tuple #[sp 0 0 0 0, .int .i64 3]) (by simp [results, Try.results55, go_sem, *]) rfl ⟨rfl, ?_⟩
  exact (((((G1.out).setCell (by simp <;> omega) _).setCell (by simp <;> omega) _).setCell (by simp <;> omega) _).setCell (by simp <;> omega) _).al _
set_option maxRecDepth 20000 in
set_option maxHeartbeats 400000 in
theorem sends_f2 (a b n c d t : Int) (w : World) (k : Nat) (X1 : Hid (w.heap[k]? = some (.cells #[.int .i64 a, .int .i64 b, .int .i64 n, .int .i64 c, .int .i64 d] 35))) (h1 : okB a b = true) (ht : okB t 1 = true) (hn : okB n 1 = true) (hz : n ≠ 0) (g1 : n1B a b t = true) (g2 : nB a b n t = false) :
    Calls Try.prog 55 #[.pointer (some ⟨k, 0, none⟩), .int .i64 t] w fun e w' => e = .returned (.tuple #[sp 0 0 0 0, .int .i64 3]) ∧ Gr w w' := by
  have h1 := hid h1; have ht := hid ht; have g1 := hid g1; have hn := hid hn; have hz := hid hz; have g2 := hid g2
  go_enter Try.func55, Try.ntmps55
  obtain ⟨_, _, _, _, _⟩ := cells5 X1.out
  have _ := fz X1.out
  have _ := ltb X1.out
  go_wp2_with fail
  refine (snut_f2 _ _ _ _ _ _ _ _ (hid (((Gr.refl _).al _).keep X1.out)) h1.out ht.out hn.out hz.out g1.out g2.out).mono ?_
  rintro e w1 ⟨rfl, hg1⟩
  obtain ⟨x1_0, hz1, g1⟩ := alloc1 hg1
  have x1_1 := g1.keep X1.out
  obtain ⟨_, _, _, _⟩ := cells4 x1_0
  have _ := fz x1_0
  have _ := ltb x1_0
  obtain ⟨_, _, _, _, _⟩ := cells5 x1_1
  have _ := fz x1_1
  have _ := ltb x1_1
  have X1_0 := hid x1_0; clear x1_0
  have X1_1 := hid x1_1; clear x1_1
  have G1 := hid (g1)
  clear hg1 g1
  go_wp2
  refine bodyPost_ret (v := .tuple #[sp 0 0 0 0, .int .i64 3]) (by simp [results, Try.results55, go_sem, *]) rfl ⟨rfl, ?_⟩
  exact (((((G1.out).setCell (by simp <;> omega) _).setCell (by simp <;> omega) _).setCell (by simp <;> omega) _).setCell (by simp <;> omega) _).al _
set_option maxRecDepth 20000 in
set_option maxHeartbeats 400000 in
theorem sends_f3 (a b n c d t : Int) (w : World) (k : Nat) (X1 : Hid (w.heap[k]? = some (.cells #[.int .i64 a, .int .i64 b, .int .i64 n, .int .i64 c, .int .i64 d] 35))) (h1 : okB a b = true) (ht : okB t 1 = true) (hn : okB n 1 = true) (hz : n ≠ 0) (h2 : okB c d = true) (g1 : n1B a b t = true) (g2 : nB a b n t = true) (g3 : lB a b n c d t = false) :
    Calls Try.prog 55 #[.pointer (some ⟨k, 0, none⟩), .int .i64 t] w fun e w' => e = .returned (.tuple #[sp 0 0 0 0, .int .i64 3]) ∧ Gr w w' := by
  have h1 := hid h1; have ht := hid ht; have hn := hid hn; have hz := hid hz; have h2 := hid h2
  have g1 := hid g1; have g2 := hid g2; have g3 := hid g3
  go_enter Try.func55, Try.ntmps55
  obtain ⟨_, _, _, _, _⟩ := cells5 X1.out
  have _ := fz X1.out
  have _ := ltb X1.out
  go_wp2_with fail
  refine (snut_t _ _ _ _ _ _ _ _ (hid (((Gr.refl _).al _).keep X1.out)) h1.out ht.out hn.out hz.out g1.out g2.out).mono ?_
  rintro e w1 ⟨rfl, hg1⟩
  obtain ⟨x1_0, hz1, g1⟩ := alloc1 hg1
  have x1_1 := g1.keep X1.out
  obtain ⟨_, _, _, _⟩ := cells4 x1_0
  have _ := fz x1_0
  have _ := ltb x1_0
  obtain ⟨_, _, _, _, _⟩ := cells5 x1_1
  have _ := fz x1_1
  have _ := ltb x1_1
  have X1_0 := hid x1_0; clear x1_0
  have X1_1 := hid x1_1; clear x1_1
  have G1 := hid (g1)
  clear hg1 g1
  go_wp2_with fail
  refine wp_reg1s #[.int .i64 0, .int .i64 0] 11 9 8 10 27 (by kernel_rfl) (by kernel_rfl) rfl rfl (by simp) rfl rfl (by decide) (fun _ _ => by kernel_rfl) (by kernel_rfl) ?_
  apply Exists.intro; apply Exists.intro
  refine ⟨fun wb hb => ?_, ?_⟩
  · obtain ⟨_, _, _, _⟩ := hb.at4 (((Gr.refl _).al _).keep X1_0.out)
    obtain ⟨_, _, _, _, _⟩ := hb.at5 (((Gr.refl _).al _).keep X1_1.out)
    obtain ⟨_, _⟩ := hb.at2 (alloc1 (Gr.refl _)).1
    simp only [headOps, List.contains, List.elem, Nat.reduceAdd, Nat.reduceBEq, reduceIte, Bool.false_eq_true, dumOp]
    repeat (first | go_big_quiet_step (first | (go_at_call 70; exact Calls.of_gr (subw_f a b n c d t _ h2.out g2.out g3.out))) | quiet_step (fail))
    exact wpQuiet_nil rfl
  refine ⟨rfl, ⟨rfl, by simp [Value.oneCell']⟩, fun w2 b2 hg2 _ xb2 => ?_⟩
  obtain ⟨x2_0, hz2, g2⟩ := alloc1 hg2
  have x2_1 := g2.keep X1_0.out
  have x2_2 := g2.keep X1_1.out
  obtain ⟨_, _, _, _⟩ := cells4 x2_1
  have _ := fz x2_1
  have _ := ltb x2_1
  obtain ⟨_, _, _, _, _⟩ := cells5 x2_2
  have _ := fz x2_2
  have _ := ltb x2_2
  obtain ⟨_, _⟩ := cells2 x2_0
  have _ := fz x2_0
  have _ := ltb x2_0
  obtain ⟨_, _⟩ := cells2 xb2
  have _ := fz xb2
  have _ := ltb xb2
  have X2_1 := hid x2_1; clear x2_1
  have X2_2 := hid x2_2; clear x2_2
  have X2_0 := hid x2_0; clear x2_0
  have Xb2 := hid xb2; clear xb2
  have G2 := hid (G1.out.trans g2)
  clear hg2 g2
  go_wp2_with fail
  refine (sboth_n1 _ _ _ _ _ _).mono ?_
  rintro e w3 ⟨rfl, hg3⟩
  have x3_1 := hg3.keep X2_1.out
  have x3_2 := hg3.keep X2_2.out
  have x3_3 := hg3.keep X2_0.out
  have x3_4 := hg3.keep Xb2.out
  obtain ⟨_, _, _, _⟩ := cells4 x3_1
  have _ := fz x3_1
  have _ := ltb x3_1
  obtain ⟨_, _, _, _, _⟩ := cells5 x3_2
  have _ := fz x3_2
  have _ := ltb x3_2
  obtain ⟨_, _⟩ := cells2 x3_3
  have _ := fz x3_3
  have _ := ltb x3_3
  obtain ⟨_, _⟩ := cells2 x3_4
  have _ := fz x3_4
  have _ := ltb x3_4
  have X3_1 := hid x3_1; clear x3_1
  have X3_2 := hid x3_2; clear x3_2
  have X3_3 := hid x3_3; clear x3_3
  have X3_4 := hid x3_4; clear x3_4
  have G3 := hid (G2.out.trans hg3)
  clear hg3
  go_wp2
  refine bodyPost_ret (v := .tuple #[sp 0 0 0 0, .int .i64 3]) (by simp [results, Try.results55, go_sem, *]) rfl ⟨rfl, ?_⟩
  exact ((((G3.out).setCell (by simp <;> omega) _).setCell (by simp <;> omega) _).setCell (by simp <;> omega) _).setCell (by simp <;> omega) _
set_option maxRecDepth 20000 in
set_option maxHeartbeats 400000 in
theorem sends_t (a b n c d t : Int) (w : World) (k : Nat) (X1 : Hid (w.heap[k]? = some (.cells #[.int .i64 a, .int .i64 b, .int .i64 n, .int .i64 c, .int .i64 d] 35))) (h1 : okB a b = true) (ht : okB t 1 = true) (hn : okB n 1 = true) (hz : n ≠ 0) (h2 : okB c d = true) (g1 : n1B a b t = true) (g2 : nB a b n t = true) (g3 : lB a b n c d t = true) :
    Calls Try.prog 55 #[.pointer (some ⟨k, 0, none⟩), .int .i64 t] w fun e w' => e = .returned (.tuple #[sp (lP a b n c d t) (lQ a b n c d t) (nP a b n t) (nQ a b n t), .int .i64 0]) ∧ Gr w w' := by
  have h1 := hid h1; have ht := hid ht; have hn := hid hn; have hz := hid hz; have h2 := hid h2
  have g1 := hid g1; have g2 := hid g2; have g3 := hid g3
  go_enter Try.func55, Try.ntmps55
  obtain ⟨_, _, _, _, _⟩ := cells5 X1.out
  have _ := fz X1.out
  have _ := ltb X1.out
  go_wp2_with fail
  refine (snut_t _ _ _ _ _ _ _ _ (hid (((Gr.refl _).al _).keep X1.out)) h1.out ht.out hn.out hz.out g1.out g2.out).mono ?_
  rintro e w1 ⟨rfl, hg1⟩
  obtain ⟨x1_0, hz1, g1⟩ := alloc1 hg1
  have x1_1 := g1.keep X1.out
  obtain ⟨_, _, _, _⟩ := cells4 x1_0
  have _ := fz x1_0
  have _ := ltb x1_0
  obtain ⟨_, _, _, _, _⟩ := cells5 x1_1
  have _ := fz x1_1
  have _ := ltb x1_1
  have X1_0 := hid x1_0; clear x1_0
  have X1_1 := hid x1_1; clear x1_1
  have G1 := hid (g1)
  clear hg1 g1
  go_wp2_with fail
  refine wp_reg1s #[.int .i64 0, .int .i64 0] 11 9 8 10 27 (by kernel_rfl) (by kernel_rfl) rfl rfl (by simp) rfl rfl (by decide) (fun _ _ => by kernel_rfl) (by kernel_rfl) ?_
  apply Exists.intro; apply Exists.intro
  refine ⟨fun wb hb => ?_, ?_⟩
  · obtain ⟨_, _, _, _⟩ := hb.at4 (((Gr.refl _).al _).keep X1_0.out)
    obtain ⟨_, _, _, _, _⟩ := hb.at5 (((Gr.refl _).al _).keep X1_1.out)
    obtain ⟨_, _⟩ := hb.at2 (alloc1 (Gr.refl _)).1
    simp only [headOps, List.contains, List.elem, Nat.reduceAdd, Nat.reduceBEq, reduceIte, Bool.false_eq_true, dumOp]
    repeat (first | go_big_quiet_step (first | (go_at_call 70; exact Calls.of_gr (subw_t a b n c d t _ h2.out g2.out g3.out))) | quiet_step (fail))
    exact wpQuiet_nil rfl
  refine ⟨rfl, ⟨rfl, by simp [Value.oneCell']⟩, fun w2 b2 hg2 _ xb2 => ?_⟩
  obtain ⟨x2_0, hz2, g2⟩ := alloc1 hg2
  have x2_1 := g2.keep X1_0.out
  have x2_2 := g2.keep X1_1.out
  obtain ⟨_, _, _, _⟩ := cells4 x2_1
  have _ := fz x2_1
  have _ := ltb x2_1
  obtain ⟨_, _, _, _, _⟩ := cells5 x2_2
  have _ := fz x2_2
  have _ := ltb x2_2
  obtain ⟨_, _⟩ := cells2 x2_0
  have _ := fz x2_0
  have _ := ltb x2_0
  obtain ⟨_, _⟩ := cells2 xb2
  have _ := fz xb2
  have _ := ltb xb2
  have X2_1 := hid x2_1; clear x2_1
  have X2_2 := hid x2_2; clear x2_2
  have X2_0 := hid x2_0; clear x2_0
  have Xb2 := hid xb2; clear xb2
  have G2 := hid (G1.out.trans g2)
  clear hg2 g2
  go_wp2_with fail
  refine (sboth_ok _ _ _ _ _).mono ?_
  rintro e w3 ⟨rfl, hg3⟩
  have x3_1 := hg3.keep X2_1.out
  have x3_2 := hg3.keep X2_2.out
  have x3_3 := hg3.keep X2_0.out
  have x3_4 := hg3.keep Xb2.out
  obtain ⟨_, _, _, _⟩ := cells4 x3_1
  have _ := fz x3_1
  have _ := ltb x3_1
  obtain ⟨_, _, _, _, _⟩ := cells5 x3_2
  have _ := fz x3_2
  have _ := ltb x3_2
  obtain ⟨_, _⟩ := cells2 x3_3
  have _ := fz x3_3
  have _ := ltb x3_3
  obtain ⟨_, _⟩ := cells2 x3_4
  have _ := fz x3_4
  have _ := ltb x3_4
  have X3_1 := hid x3_1; clear x3_1
  have X3_2 := hid x3_2; clear x3_2
  have X3_3 := hid x3_3; clear x3_3
  have X3_4 := hid x3_4; clear x3_4
  have G3 := hid (G2.out.trans hg3)
  clear hg3
  go_wp2
  refine bodyPost_ret (v := .tuple #[sp (lP a b n c d t) (lQ a b n c d t) (nP a b n t) (nQ a b n t), .int .i64 0]) (by simp [results, Try.results55, go_sem, *]) rfl ⟨rfl, ?_⟩
  exact ((((G3.out).setCell (by simp <;> omega) _).setCell (by simp <;> omega) _).setCell (by simp <;> omega) _).setCell (by simp <;> omega) _
/-- spec.l02Ends -/
theorem sends_no (a b n c d t : Int) (w : World) (k : Nat) (X1 : Hid (w.heap[k]? = some (.cells #[.int .i64 a, .int .i64 b, .int .i64 n, .int .i64 c, .int .i64 d] 35))) (h1 : okB a b = true) (ht : okB t 1 = true) (hn : okB n 1 = true) (hz : n ≠ 0) (h2 : okB c d = true) (g : eB a b n c d t = false) :
    Calls Try.prog 55 #[.pointer (some ⟨k, 0, none⟩), .int .i64 t] w fun e w' => e = .returned (.tuple #[sp 0 0 0 0, .int .i64 3]) ∧ Gr w w' := by
  unfold eB at g
  cases g1 : n1B a b t with
  | false => exact sends_f1 a b n c d t w k X1 h1 ht g1
  | true =>
    cases g2 : nB a b n t with
    | false => exact sends_f2 a b n c d t w k X1 h1 ht hn hz g1 g2
    | true => exact sends_f3 a b n c d t w k X1 h1 ht hn hz h2 g1 g2 (by simpa [g1, g2] using g)
theorem eB_all {a b n c d t : Int} (g : eB a b n c d t = true) : n1B a b t = true ∧ nB a b n t = true ∧ lB a b n c d t = true := by
  unfold eB at g; simpa using g
theorem timesw_t (a b t : Int) (w : World) (h1 : okB a b = true) (ht : okB t 1 = true) (g : n1B a b t = true) :
    Calls Try.prog 75 #[fr t 1, fr a b] w fun e w' => e = .returned (fr (n1P a b t) (n1Q a b t)) ∧ Gr w w' := times_yes t 1 a b w ht h1 g
theorem minusw_t (a b n c d t : Int) (w : World) (h2 : okB c d = true) (g2 : nB a b n t = true) (g3 : lB a b n c d t = true) :
    Calls Try.prog 58 #[fr (nP a b n t) (nQ a b n t), fr c d] w fun e w' => e = .returned (fr (lP a b n c d t) (lQ a b n c d t)) ∧ Gr w w' := minus_yes _ _ c d w g2 h2 g3
set_option maxRecDepth 20000 in
set_option maxHeartbeats 400000 in
theorem itw_ok (a b t : Int) (w : World) (h1 : okB a b = true) (ht : okB t 1 = true) (g1 : n1B a b t = true) :
    Calls Try.prog 66 #[fr a b, .int .i64 t] w fun e w' => e = .returned (fr (n1P a b t) (n1Q a b t)) ∧ Gr w w' := by
  have hf := hid (fits_of ht)
  have h1 := hid h1; have ht := hid ht; have g1 := hid g1
  go_enter Try.func66, Try.ntmps66
  go_wp2_with fail
  refine wp_reg0 4 (by kernel_rfl) (by kernel_rfl) ?_
  apply Exists.intro
  refine ⟨fun wb hb => ?_, ?_⟩
  · obtain ⟨y0, y1, _, _⟩ := alloc2 (Gr.refl _)
    obtain ⟨_, _⟩ := hb.at2 y0
    obtain ⟨_, _⟩ := hb.at2 y1
    clear y0 y1
    simp only [headOps, List.contains, List.elem, reduceIte, Bool.false_eq_true]
    repeat (first | go_big_quiet_step (first | (go_at_call 74; exact Calls.of_gr (fit_ok _ _ _ hf.out.1 hf.out.2)) | (go_at_call 75; exact Calls.of_gr (timesw_t a b t _ h1.out ht.out g1.out))) | quiet_step (fail))
    exact wpQuiet_nil rfl
  intro w1 hg1
  obtain ⟨x1_0, x1_1, hz1, g1⟩ := alloc2 hg1
  obtain ⟨_, _⟩ := cells2 x1_0
  have _ := fz x1_0
  have _ := ltb x1_0
  obtain ⟨_, _⟩ := cells2 x1_1
  have _ := fz x1_1
  have _ := ltb x1_1
  have X1_0 := hid x1_0; clear x1_0
  have X1_1 := hid x1_1; clear x1_1
  have G1 := hid (g1)
  clear hg1 g1
  go_wp2
  refine bodyPost_ret (v := fr (n1P a b t) (n1Q a b t)) (by simp [results, Try.results66, go_sem, *]) rfl ⟨rfl, ?_⟩
  exact ((G1.out).setCell (by simp <;> omega) _).setCell (by simp <;> omega) _
set_option maxRecDepth 20000 in
set_option maxHeartbeats 400000 in
theorem itw_bad (a b t : Int) (w : World) (h1 : okB a b = true) (ht : okB t 1 = true) (g1 : n1B a b t = false) :
    Calls Try.prog 66 #[fr a b, .int .i64 t] w fun e w' => (∃ x y, e = .panicked [{ v := .iface 111 (fr x y), recovered := false }]) ∧ Gr w w' := by
  have hf := hid (fits_of ht)
  have h1 := hid h1; have ht := hid ht; have g1 := hid g1
  go_enter Try.func66, Try.ntmps66
  go_wp2_with fail
  refine wp_regP 3 [4] (by kernel_rfl) (by kernel_rfl) rfl ?_
  apply Exists.intro
  refine ⟨75, #[fr t 1, fr a b], fun wb hb => ?_, ?_⟩
  · obtain ⟨y0, y1, _, _⟩ := alloc2 (Gr.refl _)
    obtain ⟨_, _⟩ := hb.at2 y0
    obtain ⟨_, _⟩ := hb.at2 y1
    clear y0 y1
    simp only [headOps, List.contains, List.elem, List.length_cons, List.length_nil, Nat.zero_add, Nat.reduceAdd, Nat.reduceBEq, reduceIte, Bool.false_eq_true, dumOp]
    repeat (first | go_big_quiet_step (first | (go_at_call 74; exact Calls.of_gr (fit_ok _ _ _ hf.out.1 hf.out.2))) | quiet_step (fail))
    exact wpQuiet_nil rfl
  refine ⟨fun w' => by kernel_rfl, fun w' hg' => (times_no _ _ _ _ _ ht.out h1.out g1.out).mono fun e w2 ⟨⟨x, y, he⟩, hg2⟩ => ⟨_, he, fun a' ha' => ⟨ha', ⟨x, y, rfl⟩, ((((Gr.refl _).al _).al _).trans hg').trans hg2⟩⟩⟩
theorem over_yes (a b c d : Int) (w : World) (h1 : okB a b = true) (h2 : okB c d = true) (hz : c ≠ 0) (hk : okB (redP (a*d) (b*c)) (redQ (a*d) (b*c)) = true) :
    Calls Try.prog 76 #[fr a b, fr c d] w fun e w' => e = .returned (fr (redP (a*d) (b*c)) (redQ (a*d) (b*c))) ∧ Gr w w' := by
  obtain ⟨b1, b2, b3, b4⟩ := okB_bd h1
  obtain ⟨d1, d2, d3, d4⟩ := okB_bd h2
  exact over_ok a b c d w b1 b2 b3 b4 d1 d2 d3 d4 hz hk
theorem over_no (a b c d : Int) (w : World) (h1 : okB a b = true) (h2 : okB c d = true) (hz : c ≠ 0) (hk : okB (redP (a*d) (b*c)) (redQ (a*d) (b*c)) = false) :
    Calls Try.prog 76 #[fr a b, fr c d] w fun e w' => (∃ x y, e = .panicked [{ v := .iface 111 (fr x y), recovered := false }]) ∧ Gr w w' := by
  obtain ⟨b1, b2, b3, b4⟩ := okB_bd h1
  obtain ⟨d1, d2, d3, d4⟩ := okB_bd h2
  exact over_bad a b c d w b1 b2 b3 b4 d1 d2 d3 d4 hz hk
set_option maxRecDepth 20000 in
set_option maxHeartbeats 400000 in
theorem iow_ok (a b n : Int) (w : World) (h1 : okB a b = true) (hn : okB n 1 = true) (hz : n ≠ 0) (g1 : okB (redP (a*1) (b*n)) (redQ (a*1) (b*n)) = true) :
    Calls Try.prog 67 #[fr a b, .int .i64 n] w fun e w' => e = .returned (fr (redP (a*1) (b*n)) (redQ (a*1) (b*n))) ∧ Gr w w' := by
  have hf := hid (fits_of hn)
  have h1 := hid h1; have hn := hid hn; have g1 := hid g1; have hz := hid hz
  go_enter Try.func67, Try.ntmps67
  go_wp2_with fail
  refine wp_reg0 4 (by kernel_rfl) (by kernel_rfl) ?_
  apply Exists.intro
  refine ⟨fun wb hb => ?_, ?_⟩
  · obtain ⟨y0, y1, _, _⟩ := alloc2 (Gr.refl _)
    obtain ⟨_, _⟩ := hb.at2 y0
    obtain ⟨_, _⟩ := hb.at2 y1
    clear y0 y1
    simp only [headOps, List.contains, List.elem, reduceIte, Bool.false_eq_true]
    repeat (first | go_big_quiet_step (first | (go_at_call 74; exact Calls.of_gr (fit_ok _ _ _ hf.out.1 hf.out.2)) | (go_at_call 76; exact Calls.of_gr (over_yes a b n 1 _ h1.out hn.out hz.out g1.out))) | quiet_step (fail))
    exact wpQuiet_nil rfl
  intro w1 hg1
  obtain ⟨x1_0, x1_1, hz1, g1⟩ := alloc2 hg1
  obtain ⟨_, _⟩ := cells2 x1_0
  have _ := fz x1_0
  have _ := ltb x1_0
  obtain ⟨_, _⟩ := cells2 x1_1
  have _ := fz x1_1
  have _ := ltb x1_1
  have X1_0 := hid x1_0; clear x1_0
  have X1_1 := hid x1_1; clear x1_1
  have G1 := hid (g1)
  clear hg1 g1
  go_wp2
  refine bodyPost_ret (v := fr (redP (a*1) (b*n)) (redQ (a*1) (b*n))) (by simp [results, Try.results67, go_sem, *]) rfl ⟨rfl, ?_⟩
  exact ((G1.out).setCell (by simp <;> omega) _).setCell (by simp <;> omega) _
set_option maxRecDepth 20000 in
set_option maxHeartbeats 400000 in
theorem iow_bad (a b n : Int) (w : World) (h1 : okB a b = true) (hn : okB n 1 = true) (hz : n ≠ 0) (g1 : okB (redP (a*1) (b*n)) (redQ (a*1) (b*n)) = false) :
    Calls Try.prog 67 #[fr a b, .int .i64 n] w fun e w' => (∃ x y, e = .panicked [{ v := .iface 111 (fr x y), recovered := false }]) ∧ Gr w w' := by
  have hf := hid (fits_of hn)
  have h1 := hid h1; have hn := hid hn; have g1 := hid g1; have hz := hid hz
  go_enter Try.func67, Try.ntmps67
  go_wp2_with fail
  refine wp_regP 3 [4] (by kernel_rfl) (by kernel_rfl) rfl ?_
  apply Exists.intro
  refine ⟨76, #[fr a b, fr n 1], fun wb hb => ?_, ?_⟩
  · obtain ⟨y0, y1, _, _⟩ := alloc2 (Gr.refl _)
    obtain ⟨_, _⟩ := hb.at2 y0
    obtain ⟨_, _⟩ := hb.at2 y1
    clear y0 y1
    simp only [headOps, List.contains, List.elem, List.length_cons, List.length_nil, Nat.zero_add, Nat.reduceAdd, Nat.reduceBEq, reduceIte, Bool.false_eq_true, dumOp]
    repeat (first | go_big_quiet_step (first | (go_at_call 74; exact Calls.of_gr (fit_ok _ _ _ hf.out.1 hf.out.2))) | quiet_step (fail))
    exact wpQuiet_nil rfl
  refine ⟨fun w' => by kernel_rfl, fun w' hg' => (over_no _ _ _ _ _ h1.out hn.out hz.out g1.out).mono fun e w2 ⟨⟨x, y, he⟩, hg2⟩ => ⟨_, he, fun a' ha' => ⟨ha', ⟨x, y, rfl⟩, ((((Gr.refl _).al _).al _).trans hg').trans hg2⟩⟩⟩
theorem ioww_t (a b n t : Int) (w : World) (hn : okB n 1 = true) (hz : n ≠ 0) (g : n1B a b t = true) (g2 : nB a b n t = true) :
    Calls Try.prog 67 #[fr (n1P a b t) (n1Q a b t), .int .i64 n] w fun e w' => e = .returned (fr (nP a b n t) (nQ a b n t)) ∧ Gr w w' := iow_ok _ _ n w g hn hz g2
set_option maxRecDepth 20000 in
set_option maxHeartbeats 400000 in
theorem inut_ok (a b n c d t : Int) (w : World) (h1 : okB a b = true) (ht : okB t 1 = true) (hn : okB n 1 = true) (hz : n ≠ 0) (g1 : n1B a b t = true) (g2 : nB a b n t = true) :
    Calls Try.prog 44 #[sc a b n c d, .int .i64 t] w fun e w' => e = .returned (fr (nP a b n t) (nQ a b n t)) ∧ Gr w w' := by
  have h1 := hid h1; have ht := hid ht; have hn := hid hn; have hz := hid hz
  have g1 := hid g1; have g2 := hid g2
  go_enter Try.func44, Try.ntmps44
  go_wp2_with fail
  refine wp_reg0 7 (by kernel_rfl) (by kernel_rfl) ?_
  apply Exists.intro
  refine ⟨fun wb hb => ?_, ?_⟩
  · obtain ⟨y0, y1, _, _⟩ := alloc2 (Gr.refl _)
    obtain ⟨_, _, _, _, _⟩ := hb.at5 y0
    obtain ⟨_, _⟩ := hb.at2 y1
    clear y0 y1
    simp only [headOps, List.contains, List.elem, reduceIte, Bool.false_eq_true]
    repeat (first | go_big_quiet_step (first | (go_at_call 66; exact Calls.of_gr (itw_ok _ _ _ _ h1.out ht.out g1.out)) | (go_at_call 67; exact Calls.of_gr (ioww_t a b n t _ hn.out hz.out g1.out g2.out))) | quiet_step (fail))
    exact wpQuiet_nil rfl
  intro w1 hg1
  obtain ⟨x1_0, x1_1, hz1, g1⟩ := alloc2 hg1
  obtain ⟨_, _, _, _, _⟩ := cells5 x1_0
  have _ := fz x1_0
  have _ := ltb x1_0
  obtain ⟨_, _⟩ := cells2 x1_1
  have _ := fz x1_1
  have _ := ltb x1_1
  have X1_0 := hid x1_0; clear x1_0
  have X1_1 := hid x1_1; clear x1_1
  have G1 := hid (g1)
  clear hg1 g1
  go_wp2
  refine bodyPost_ret (v := fr (nP a b n t) (nQ a b n t)) (by simp [results, Try.results44, go_sem, *]) rfl ⟨rfl, ?_⟩
  exact ((G1.out).setCell (by simp <;> omega) _).setCell (by simp <;> omega) _
set_option maxRecDepth 20000 in
set_option maxHeartbeats 400000 in
theorem inut_b1 (a b n c d t : Int) (w : World) (h1 : okB a b = true) (ht : okB t 1 = true) (g1 : n1B a b t = false) :
    Calls Try.prog 44 #[sc a b n c d, .int .i64 t] w fun e w' => (∃ x y, e = .panicked [{ v := .iface 111 (fr x y), recovered := false }]) ∧ Gr w w' := by
  have h1 := hid h1; have ht := hid ht
  have g1 := hid g1
  go_enter Try.func44, Try.ntmps44
  go_wp2_with fail
  refine wp_regP 3 [6, 7] (by kernel_rfl) (by kernel_rfl) rfl ?_
  apply Exists.intro
  refine ⟨66, #[fr a b, .int .i64 t], fun wb hb => ?_, ?_⟩
  · obtain ⟨y0, y1, _, _⟩ := alloc2 (Gr.refl _)
    obtain ⟨_, _, _, _, _⟩ := hb.at5 y0
    obtain ⟨_, _⟩ := hb.at2 y1
    clear y0 y1
    simp only [headOps, List.contains, List.elem, List.length_cons, List.length_nil, Nat.zero_add, Nat.reduceAdd, Nat.reduceBEq, reduceIte, Bool.false_eq_true, dumOp]
    repeat (first | go_big_quiet_step (first | (fail)) | quiet_step (fail))
    exact wpQuiet_nil rfl
  refine ⟨fun w' => by kernel_rfl, fun w' hg' => (itw_bad _ _ _ _ h1.out ht.out g1.out).mono fun e w2 ⟨⟨x, y, he⟩, hg2⟩ => ⟨_, he, fun a' ha' => ⟨ha', ⟨x, y, rfl⟩, ((((Gr.refl _).al _).al _).trans hg').trans hg2⟩⟩⟩
set_option maxRecDepth 20000 in
set_option maxHeartbeats 400000 in
theorem inut_b2 (a b n c d t : Int) (w : World) (h1 : okB a b = true) (ht : okB t 1 = true) (hn : okB n 1 = true) (hz : n ≠ 0) (g1 : n1B a b t = true) (g2 : nB a b n t = false) :
    Calls Try.prog 44 #[sc a b n c d, .int .i64 t] w fun e w' => (∃ x y, e = .panicked [{ v := .iface 111 (fr x y), recovered := false }]) ∧ Gr w w' := by
  have h1 := hid h1; have ht := hid ht; have hn := hid hn; have hz := hid hz
  have g1 := hid g1; have g2 := hid g2
  go_enter Try.func44, Try.ntmps44
  go_wp2_with fail
  refine wp_regP 6 [7] (by kernel_rfl) (by kernel_rfl) rfl ?_
  apply Exists.intro
  refine ⟨67, #[fr (n1P a b t) (n1Q a b t), .int .i64 n], fun wb hb => ?_, ?_⟩
  · obtain ⟨y0, y1, _, _⟩ := alloc2 (Gr.refl _)
    obtain ⟨_, _, _, _, _⟩ := hb.at5 y0
    obtain ⟨_, _⟩ := hb.at2 y1
    clear y0 y1
    simp only [headOps, List.contains, List.elem, List.length_cons, List.length_nil, Nat.zero_add, Nat.reduceAdd, Nat.reduceBEq, reduceIte, Bool.false_eq_true, dumOp]
    repeat (first | go_big_quiet_step (first | (go_at_call 66; exact Calls.of_gr (itw_ok _ _ _ _ h1.out ht.out g1.out))) | quiet_step (fail))
    exact wpQuiet_nil rfl
  refine ⟨fun w' => by kernel_rfl, fun w' hg' => (iow_bad _ _ _ _ g1.out hn.out hz.out g2.out).mono fun e w2 ⟨⟨x, y, he⟩, hg2⟩ => ⟨_, he, fun a' ha' => ⟨ha', ⟨x, y, rfl⟩, ((((Gr.refl _).al _).al _).trans hg').trans hg2⟩⟩⟩
set_option maxRecDepth 20000 in
set_option maxHeartbeats 400000 in
theorem ifree_b1 (a b n c d t : Int) (w : World) (h1 : okB a b = true) (ht : okB t 1 = true) (g1 : n1B a b t = false) :
    Calls Try.prog 39 #[sc a b n c d, .int .i64 t] w fun e w' => (∃ x y, e = .panicked [{ v := .iface 111 (fr x y), recovered := false }]) ∧ Gr w w' := by
  have h1 := hid h1; have ht := hid ht; have g1 := hid g1
  go_enter Try.func39, Try.ntmps39
  go_wp2_with fail
  refine (inut_b1 _ _ _ _ _ _ _ h1.out ht.out g1.out).mono ?_
  rintro e w1 ⟨⟨xp, yp, rfl⟩, hg1⟩
  obtain ⟨x1_0, x1_1, hz1, g1⟩ := alloc2 hg1
  obtain ⟨_, _, _, _, _⟩ := cells5 x1_0
  have _ := fz x1_0
  have _ := ltb x1_0
  obtain ⟨_, _, _, _⟩ := cells4 x1_1
  have _ := fz x1_1
  have _ := ltb x1_1
  have X1_0 := hid x1_0; clear x1_0
  have X1_1 := hid x1_1; clear x1_1
  have G1 := hid (g1)
  clear hg1 g1
  exact ⟨rfl, ⟨xp, yp, rfl⟩, G1.out⟩
set_option maxRecDepth 20000 in
set_option maxHeartbeats 400000 in
theorem ifree_b2 (a b n c d t : Int) (w : World) (h1 : okB a b = true) (ht : okB t 1 = true) (hn : okB n 1 = true) (hz : n ≠ 0) (g1 : n1B a b t = true) (g2 : nB a b n t = false) :
    Calls Try.prog 39 #[sc a b n c d, .int .i64 t] w fun e w' => (∃ x y, e = .panicked [{ v := .iface 111 (fr x y), recovered := false }]) ∧ Gr w w' := by
  have h1 := hid h1; have ht := hid ht; have hn := hid hn; have hz := hid hz
  have g1 := hid g1; have g2 := hid g2
  go_enter Try.func39, Try.ntmps39
  go_wp2_with fail
  refine (inut_b2 _ _ _ _ _ _ _ h1.out ht.out hn.out hz.out g1.out g2.out).mono ?_
  rintro e w1 ⟨⟨xp, yp, rfl⟩, hg1⟩
  obtain ⟨x1_0, x1_1, hz1, g1⟩ := alloc2 hg1
  obtain ⟨_, _, _, _, _⟩ := cells5 x1_0
  have _ := fz x1_0
  have _ := ltb x1_0
  obtain ⟨_, _, _, _⟩ := cells4 x1_1
  have _ := fz x1_1
  have _ := ltb x1_1
  have X1_0 := hid x1_0; clear x1_0
  have X1_1 := hid x1_1; clear x1_1
  have G1 := hid (g1)
  clear hg1 g1
  exact ⟨rfl, ⟨xp, yp, rfl⟩, G1.out⟩
set_option maxRecDepth 20000 in
set_option maxHeartbeats 400000 in
theorem ifree_b3 (a b n c d t : Int) (w : World) (h1 : okB a b = true) (ht : okB t 1 = true) (hn : okB n 1 = true) (hz : n ≠ 0) (h2 : okB c d = true) (g1 : n1B a b t = true) (g2 : nB a b n t = true) (g3 : lB a b n c d t = false) :
    Calls Try.prog 39 #[sc a b n c d, .int .i64 t] w fun e w' => (∃ x y, e = .panicked [{ v := .iface 111 (fr x y), recovered := false }]) ∧ Gr w w' := by
  have h1 := hid h1; have ht := hid ht; have hn := hid hn; have hz := hid hz; have h2 := hid h2
  have g1 := hid g1; have g2 := hid g2; have g3 := hid g3
  go_enter Try.func39, Try.ntmps39
  go_wp2_with fail
  refine (inut_ok _ _ _ _ _ _ _ h1.out ht.out hn.out hz.out g1.out g2.out).mono ?_
  rintro e w1 ⟨rfl, hg1⟩
  obtain ⟨x1_0, x1_1, hz1, g1⟩ := alloc2 hg1
  obtain ⟨_, _, _, _, _⟩ := cells5 x1_0
  have _ := fz x1_0
  have _ := ltb x1_0
  obtain ⟨_, _, _, _⟩ := cells4 x1_1
  have _ := fz x1_1
  have _ := ltb x1_1
  have X1_0 := hid x1_0; clear x1_0
  have X1_1 := hid x1_1; clear x1_1
  have G1 := hid (g1)
  clear hg1 g1
  go_wp2_with fail
  refine wp_regP 3 [5, 6] (by kernel_rfl) (by kernel_rfl) rfl ?_
  apply Exists.intro
  refine ⟨58, #[fr (nP a b n t) (nQ a b n t), fr c d], fun wb hb => ?_, ?_⟩
  · obtain ⟨_, _, _, _, _⟩ := hb.at5 (((Gr.refl _).al _).keep X1_0.out)
    obtain ⟨_, _, _, _⟩ := hb.at4 (((Gr.refl _).al _).keep X1_1.out)
    obtain ⟨_, _⟩ := hb.at2 (alloc1 (Gr.refl _)).1
    simp only [headOps, List.contains, List.elem, List.length_cons, List.length_nil, Nat.zero_add, Nat.reduceAdd, Nat.reduceBEq, reduceIte, Bool.false_eq_true, dumOp]
    repeat (first | go_big_quiet_step (first | (fail)) | quiet_step (fail))
    exact wpQuiet_nil rfl
  refine ⟨fun w' => by kernel_rfl, fun w' hg' => (minus_no _ _ _ _ _ g2.out h2.out g3.out).mono fun e w2 ⟨⟨x, y, he⟩, hg2⟩ => ⟨_, he, fun a' ha' => ⟨ha', ⟨x, y, rfl⟩, ((G1.out.al _).trans hg').trans hg2⟩⟩⟩
set_option maxRecDepth 20000 in
set_option maxHeartbeats 400000 in
theorem ifree_ok (a b n c d t : Int) (w : World) (h1 : okB a b = true) (ht : okB t 1 = true) (hn : okB n 1 = true) (hz : n ≠ 0) (h2 : okB c d = true) (g1 : n1B a b t = true) (g2 : nB a b n t = true) (g3 : lB a b n c d t = true) :
    Calls Try.prog 39 #[sc a b n c d, .int .i64 t] w fun e w' => e = .returned (sp (lP a b n c d t) (lQ a b n c d t) (nP a b n t) (nQ a b n t)) ∧ Gr w w' := by
  have h1 := hid h1; have ht := hid ht; have hn := hid hn; have hz := hid hz; have h2 := hid h2
  have g1 := hid g1; have g2 := hid g2; have g3 := hid g3
  go_enter Try.func39, Try.ntmps39
  go_wp2_with fail
  refine (inut_ok _ _ _ _ _ _ _ h1.out ht.out hn.out hz.out g1.out g2.out).mono ?_
  rintro e w1 ⟨rfl, hg1⟩
  obtain ⟨x1_0, x1_1, hz1, g1⟩ := alloc2 hg1
  obtain ⟨_, _, _, _, _⟩ := cells5 x1_0
  have _ := fz x1_0
  have _ := ltb x1_0
  obtain ⟨_, _, _, _⟩ := cells4 x1_1
  have _ := fz x1_1
  have _ := ltb x1_1
  have X1_0 := hid x1_0; clear x1_0
  have X1_1 := hid x1_1; clear x1_1
  have G1 := hid (g1)
  clear hg1 g1
  go_wp2_with fail
  refine wp_reg0 6 (by kernel_rfl) (by kernel_rfl) ?_
  apply Exists.intro
  refine ⟨fun wb hb => ?_, ?_⟩
  · obtain ⟨_, _, _, _, _⟩ := hb.at5 (((Gr.refl _).al _).keep X1_0.out)
    obtain ⟨_, _, _, _⟩ := hb.at4 (((Gr.refl _).al _).keep X1_1.out)
    obtain ⟨_, _⟩ := hb.at2 (alloc1 (Gr.refl _)).1
    simp only [headOps, List.contains, List.elem, reduceIte, Bool.false_eq_true]
    repeat (first | go_big_quiet_step (first | (go_at_call 58; exact Calls.of_gr (minusw_t a b n c d t _ h2.out g2.out g3.out))) | quiet_step (fail))
    exact wpQuiet_nil rfl
  intro w2 hg2
  obtain ⟨x2_0, hz2, g2⟩ := alloc1 hg2
  have x2_1 := g2.keep X1_0.out
  have x2_2 := g2.keep X1_1.out
  obtain ⟨_, _, _, _, _⟩ := cells5 x2_1
  have _ := fz x2_1
  have _ := ltb x2_1
  obtain ⟨_, _, _, _⟩ := cells4 x2_2
  have _ := fz x2_2
  have _ := ltb x2_2
  obtain ⟨_, _⟩ := cells2 x2_0
  have _ := fz x2_0
  have _ := ltb x2_0
  have X2_1 := hid x2_1; clear x2_1
  have X2_2 := hid x2_2; clear x2_2
  have X2_0 := hid x2_0; clear x2_0
  have G2 := hid (G1.out.trans g2)
  clear hg2 g2
  go_wp2
  refine bodyPost_ret (v := sp (lP a b n c d t) (lQ a b n c d t) (nP a b n t) (nQ a b n t)) (by simp [results, Try.results39, go_sem, *]) rfl ⟨rfl, ?_⟩
  exact ((((G2.out).setCell (by simp <;> omega) _).setCell (by simp <;> omega) _).setCell (by simp <;> omega) _).setCell (by simp <;> omega) _
theorem ifree_no (a b n c d t : Int) (w : World) (h1 : okB a b = true) (ht : okB t 1 = true) (hn : okB n 1 = true) (hz : n ≠ 0) (h2 : okB c d = true) (g : eB a b n c d t = false) :
    Calls Try.prog 39 #[sc a b n c d, .int .i64 t] w fun e w' => (∃ x y, e = .panicked [{ v := .iface 111 (fr x y), recovered := false }]) ∧ Gr w w' := by
  unfold eB at g
  cases g1 : n1B a b t with
  | false => exact ifree_b1 a b n c d t w h1 ht g1
  | true =>
    cases g2 : nB a b n t with
    | false => exact ifree_b2 a b n c d t w h1 ht hn hz g1 g2
    | true => exact ifree_b3 a b n c d t w h1 ht hn hz h2 g1 g2 (by simpa [g1, g2] using g)
end Go.Proofs.Ytjcebojmfoppaaa
