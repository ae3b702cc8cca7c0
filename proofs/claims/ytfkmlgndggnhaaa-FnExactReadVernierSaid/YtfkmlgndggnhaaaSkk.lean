/- WALKS: where a line of a vernier is, of the program and of the reference. -/
import Derived.Test.YtfkmlgndggnhaaaSkh
namespace Go.Proofs.Ytfkmlgndggnhaaa
open Go.RowKit Go.Sort

def lnP (a b n t x y : Int) : Int := redP (x * nQ a b n t + nP a b n t * y) (y * nQ a b n t)
def lnQ (a b n t x y : Int) : Int := redQ (x * nQ a b n t + nP a b n t * y) (y * nQ a b n t)
/-- Can the place of a line be told, its step being told? -/
def ln3 (a b n t x y : Int) : Bool := okB (lnP a b n t x y) (lnQ a b n t x y)
def lnB (a b n t x y : Int) : Bool := n1B a b t && (nB a b n t && ln3 a b n t x y)
/-- The steps of the line i. -/
def stp (n : Int) (r : Bool) (i : Int) : Int := if r then i * (n + 1) else i * (n - 1)
theorem plusl_t (a b n t x y : Int) (w : World) (h2 : okB x y = true) (g2 : nB a b n t = true) (g3 : ln3 a b n t x y = true) :
    Calls Try.prog 102 #[fr x y, fr (nP a b n t) (nQ a b n t)] w fun e w' => e = .returned (fr (lnP a b n t x y) (lnQ a b n t x y)) ∧ Gr w w' := plus_yes x y _ _ w h2 g2 g3
theorem saddl_t (a b n t x y : Int) (w : World) (h2 : okB x y = true) (g2 : nB a b n t = true) (g3 : ln3 a b n t x y = true) :
    Calls Try.prog 116 #[fr x y, fr (nP a b n t) (nQ a b n t)] w fun e w' => e = .returned (.tuple #[fr (lnP a b n t x y) (lnQ a b n t x y), .int .i64 0]) ∧ Gr w w' := sadd_t x y _ _ w h2 g2 g3
theorem saddl_f (a b n t x y : Int) (w : World) (h2 : okB x y = true) (g2 : nB a b n t = true) (g3 : ln3 a b n t x y = false) :
    Calls Try.prog 116 #[fr x y, fr (nP a b n t) (nQ a b n t)] w fun e w' => e = .returned (.tuple #[fr 0 0, .int .i64 3]) ∧ Gr w w' := sadd_f x y _ _ w h2 g2 g3

set_option maxRecDepth 20000 in
set_option maxHeartbeats 1000000 in
theorem iline_f_ok (a b n i x y : Int) (A : Option Addr) (m c : Nat) (w : World) (q1 : -2000 ≤ i * (n - 1)) (q2 : i * (n - 1) ≤ 2000) (n1 : 2 ≤ n) (n2 : n ≤ 40) (h1 : okB a b = true) (hx : okB x y = true) (g1 : n1B a b (i * (n - 1)) = true) (g2 : nB a b n (i * (n - 1)) = true) (g3 : ln3 a b n (i * (n - 1)) x y = true) :
    Calls Try.prog 89 #[vn n false, scl a b A m c, fr x y, .int .i64 i] w fun e w' => e = .returned (fr (lnP a b n (i * (n - 1)) x y) (lnQ a b n (i * (n - 1)) x y)) ∧ Gr w w' := by
  have ht := hid (ok_whole (t := i * (n - 1)) (by omega) (by omega)); have hn := hid (ok_whole (t := n) (by omega) (by omega)); have hz := hid (show n ≠ 0 by omega)
  have h1 := hid h1
  have hx := hid hx; have g1 := hid g1; have g2 := hid g2; have g3 := hid g3
  go_enter Try.func89, Try.ntmps89
  go_wp2_with fail
  refine wp_reg0 11 (by kernel_rfl) (by kernel_rfl) ?_
  apply Exists.intro
  refine ⟨fun wb hb => ?_, ?_⟩
  · obtain ⟨y0, y1, y2, y3, _, _⟩ := alloc4 (Gr.refl _)
    obtain ⟨_, _⟩ := hb.at2 y0
    obtain ⟨_, _, _⟩ := hb.at3 y1
    obtain ⟨_, _⟩ := hb.at2 y2
    obtain ⟨_, _⟩ := hb.at2 y3
    clear y0 y1 y2 y3
    simp only [headOps, List.contains, List.elem, reduceIte, Bool.false_eq_true]
    repeat (first | go_big_quiet_step (first | (go_at_call 103; exact Calls.of_gr (itw_ok _ _ _ _ h1.out ht.out g1.out)) | (go_at_call 85; exact Calls.of_gr (ioww_t a b n _ _ hn.out hz.out g1.out g2.out)) | (go_at_call 102; exact Calls.of_gr (plusl_t a b n _ x y _ hx.out g2.out g3.out))) | quiet_step (fail))
    exact wpQuiet_nil rfl
  intro w1 hg1
  obtain ⟨x1_0, x1_1, x1_2, x1_3, hz1, g1⟩ := alloc4 hg1
  obtain ⟨_, _⟩ := cells2 x1_0
  have _ := fz x1_0
  have _ := ltb x1_0
  obtain ⟨_, _, _⟩ := cells3 x1_1
  have _ := fz x1_1
  have _ := ltb x1_1
  obtain ⟨_, _⟩ := cells2 x1_2
  have _ := fz x1_2
  have _ := ltb x1_2
  obtain ⟨_, _⟩ := cells2 x1_3
  have _ := fz x1_3
  have _ := ltb x1_3
  have X1_0 := hid x1_0; clear x1_0
  have X1_1 := hid x1_1; clear x1_1
  have X1_2 := hid x1_2; clear x1_2
  have X1_3 := hid x1_3; clear x1_3
  have G1 := hid (g1)
  clear hg1 g1
  go_wp2
  refine bodyPost_ret (v := fr (lnP a b n (i * (n - 1)) x y) (lnQ a b n (i * (n - 1)) x y)) (by simp [results, Try.results89, go_sem, *]) rfl ⟨rfl, ?_⟩
  exact ((G1.out).setCell (by simp <;> omega) _).setCell (by simp <;> omega) _
set_option maxRecDepth 20000 in
set_option maxHeartbeats 1000000 in
theorem iline_f_b1 (a b n i x y : Int) (A : Option Addr) (m c : Nat) (w : World) (q1 : -2000 ≤ i * (n - 1)) (q2 : i * (n - 1) ≤ 2000) (n1 : 2 ≤ n) (n2 : n ≤ 40) (h1 : okB a b = true) (g1 : n1B a b (i * (n - 1)) = false) :
    Calls Try.prog 89 #[vn n false, scl a b A m c, fr x y, .int .i64 i] w fun e w' => (∃ x y, e = .panicked [{ v := .iface 125 (fr x y), recovered := false }]) ∧ Gr w w' := by
  have ht := hid (ok_whole (t := i * (n - 1)) (by omega) (by omega)); have hn := hid (ok_whole (t := n) (by omega) (by omega)); have hz := hid (show n ≠ 0 by omega)
  have h1 := hid h1
  have g1 := hid g1; clear hn hz
  go_enter Try.func89, Try.ntmps89
  go_wp2_with fail
  refine wp_regP 6 [9, 10, 11] (by kernel_rfl) (by kernel_rfl) rfl ?_
  apply Exists.intro
  refine ⟨103, #[fr a b, .int .i64 (i * (n - 1))], fun wb hb => ?_, ?_⟩
  · obtain ⟨y0, y1, y2, y3, _, _⟩ := alloc4 (Gr.refl _)
    obtain ⟨_, _⟩ := hb.at2 y0
    obtain ⟨_, _, _⟩ := hb.at3 y1
    obtain ⟨_, _⟩ := hb.at2 y2
    obtain ⟨_, _⟩ := hb.at2 y3
    clear y0 y1 y2 y3
    simp only [headOps, List.contains, List.elem, List.length_cons, List.length_nil, Nat.zero_add, Nat.reduceAdd, Nat.reduceBEq, reduceIte, Bool.false_eq_true, dumOp]
    repeat (first | go_big_quiet_step (first | (fail)) | quiet_step (fail))
    exact wpQuiet_nil rfl
  refine ⟨fun w' => by kernel_rfl, fun w' hg' => (itw_bad _ _ _ _ h1.out ht.out g1.out).mono fun e w2 ⟨⟨x, y, he⟩, hg2⟩ => ⟨_, he, fun a' ha' => ⟨ha', ⟨x, y, rfl⟩, ((((((Gr.refl _).al _).al _).al _).al _).trans hg').trans hg2⟩⟩⟩
set_option maxRecDepth 20000 in
set_option maxHeartbeats 1000000 in
theorem iline_f_b2 (a b n i x y : Int) (A : Option Addr) (m c : Nat) (w : World) (q1 : -2000 ≤ i * (n - 1)) (q2 : i * (n - 1) ≤ 2000) (n1 : 2 ≤ n) (n2 : n ≤ 40) (h1 : okB a b = true) (g1 : n1B a b (i * (n - 1)) = true) (g2 : nB a b n (i * (n - 1)) = false) :
    Calls Try.prog 89 #[vn n false, scl a b A m c, fr x y, .int .i64 i] w fun e w' => (∃ x y, e = .panicked [{ v := .iface 125 (fr x y), recovered := false }]) ∧ Gr w w' := by
  have ht := hid (ok_whole (t := i * (n - 1)) (by omega) (by omega)); have hn := hid (ok_whole (t := n) (by omega) (by omega)); have hz := hid (show n ≠ 0 by omega)
  have h1 := hid h1
  have g1 := hid g1; have g2 := hid g2
  go_enter Try.func89, Try.ntmps89
  go_wp2_with fail
  refine wp_regP 9 [10, 11] (by kernel_rfl) (by kernel_rfl) rfl ?_
  apply Exists.intro
  refine ⟨85, #[fr (n1P a b (i * (n - 1))) (n1Q a b (i * (n - 1))), .int .i64 n], fun wb hb => ?_, ?_⟩
  · obtain ⟨y0, y1, y2, y3, _, _⟩ := alloc4 (Gr.refl _)
    obtain ⟨_, _⟩ := hb.at2 y0
    obtain ⟨_, _, _⟩ := hb.at3 y1
    obtain ⟨_, _⟩ := hb.at2 y2
    obtain ⟨_, _⟩ := hb.at2 y3
    clear y0 y1 y2 y3
    simp only [headOps, List.contains, List.elem, List.length_cons, List.length_nil, Nat.zero_add, Nat.reduceAdd, Nat.reduceBEq, reduceIte, Bool.false_eq_true, dumOp]
    repeat (first | go_big_quiet_step (first | (go_at_call 103; exact Calls.of_gr (itw_ok _ _ _ _ h1.out ht.out g1.out))) | quiet_step (fail))
    exact wpQuiet_nil rfl
  refine ⟨fun w' => by kernel_rfl, fun w' hg' => (iow_bad _ _ _ _ g1.out hn.out hz.out g2.out).mono fun e w2 ⟨⟨x, y, he⟩, hg2⟩ => ⟨_, he, fun a' ha' => ⟨ha', ⟨x, y, rfl⟩, ((((((Gr.refl _).al _).al _).al _).al _).trans hg').trans hg2⟩⟩⟩
set_option maxRecDepth 20000 in
set_option maxHeartbeats 1000000 in
theorem iline_f_b3 (a b n i x y : Int) (A : Option Addr) (m c : Nat) (w : World) (q1 : -2000 ≤ i * (n - 1)) (q2 : i * (n - 1) ≤ 2000) (n1 : 2 ≤ n) (n2 : n ≤ 40) (h1 : okB a b = true) (hx : okB x y = true) (g1 : n1B a b (i * (n - 1)) = true) (g2 : nB a b n (i * (n - 1)) = true) (g3 : ln3 a b n (i * (n - 1)) x y = false) :
    Calls Try.prog 89 #[vn n false, scl a b A m c, fr x y, .int .i64 i] w fun e w' => (∃ x y, e = .panicked [{ v := .iface 125 (fr x y), recovered := false }]) ∧ Gr w w' := by
  have ht := hid (ok_whole (t := i * (n - 1)) (by omega) (by omega)); have hn := hid (ok_whole (t := n) (by omega) (by omega)); have hz := hid (show n ≠ 0 by omega)
  have h1 := hid h1
  have hx := hid hx; have g1 := hid g1; have g2 := hid g2; have g3 := hid g3
  go_enter Try.func89, Try.ntmps89
  go_wp2_with fail
  refine wp_regP 10 [11] (by kernel_rfl) (by kernel_rfl) rfl ?_
  apply Exists.intro
  refine ⟨102, #[fr x y, fr (nP a b n (i * (n - 1))) (nQ a b n (i * (n - 1)))], fun wb hb => ?_, ?_⟩
  · obtain ⟨y0, y1, y2, y3, _, _⟩ := alloc4 (Gr.refl _)
    obtain ⟨_, _⟩ := hb.at2 y0
    obtain ⟨_, _, _⟩ := hb.at3 y1
    obtain ⟨_, _⟩ := hb.at2 y2
    obtain ⟨_, _⟩ := hb.at2 y3
    clear y0 y1 y2 y3
    simp only [headOps, List.contains, List.elem, List.length_cons, List.length_nil, Nat.zero_add, Nat.reduceAdd, Nat.reduceBEq, reduceIte, Bool.false_eq_true, dumOp]
    repeat (first | go_big_quiet_step (first | (go_at_call 103; exact Calls.of_gr (itw_ok _ _ _ _ h1.out ht.out g1.out)) | (go_at_call 85; exact Calls.of_gr (ioww_t a b n _ _ hn.out hz.out g1.out g2.out))) | quiet_step (fail))
    exact wpQuiet_nil rfl
  refine ⟨fun w' => by kernel_rfl, fun w' hg' => (plus_no _ _ _ _ _ hx.out g2.out g3.out).mono fun e w2 ⟨⟨x, y, he⟩, hg2⟩ => ⟨_, he, fun a' ha' => ⟨ha', ⟨x, y, rfl⟩, ((((((Gr.refl _).al _).al _).al _).al _).trans hg').trans hg2⟩⟩⟩
set_option maxRecDepth 20000 in
set_option maxHeartbeats 1000000 in
theorem sline_f_f1 (a b n i x y : Int) (j j2 : Nat) (S : Value) (w : World) (X1 : Hid (w.heap[j]? = some (.cells #[.int .i64 a, .int .i64 b, S] 32))) (X2 : Hid (w.heap[j2]? = some (.cells #[.int .i64 n, .bool false] 53))) (q1 : -2000 ≤ i * (n - 1)) (q2 : i * (n - 1) ≤ 2000) (n1 : 2 ≤ n) (n2 : n ≤ 40) (h1 : okB a b = true) (g1 : n1B a b (i * (n - 1)) = false) :
    Calls Try.prog 87 #[.pointer (some ⟨j, 0, none⟩), .pointer (some ⟨j2, 0, none⟩), fr x y, .int .i64 i] w fun e w' => e = .returned (.tuple #[fr 0 0, .int .i64 3]) ∧ Gr w w' := by
  have ht := hid (ok_whole (t := i * (n - 1)) (by omega) (by omega)); have hn := hid (ok_whole (t := n) (by omega) (by omega)); have hz := hid (show n ≠ 0 by omega)
  have h1 := hid h1
  have g1 := hid g1; clear hn hz
  go_enter Try.func87, Try.ntmps87
  obtain ⟨_, _, _⟩ := cells3 X1.out
  have _ := fz X1.out
  have _ := ltb X1.out
  obtain ⟨_, _⟩ := cells2 X2.out
  have _ := fz X2.out
  have _ := ltb X2.out
  go_wp2_with fail
  refine wp_reg1s #[.int .i64 0, .int .i64 0] 14 12 11 13 39 (by kernel_rfl) (by kernel_rfl) rfl rfl (by simp) rfl rfl (by decide) (fun _ _ => by kernel_rfl) (by kernel_rfl) ?_
  apply Exists.intro; apply Exists.intro
  refine ⟨fun wb hb => ?_, ?_⟩
  · obtain ⟨y0, y1, _, _⟩ := alloc2 (Gr.refl _)
    obtain ⟨_, _⟩ := hb.at2 y0
    obtain ⟨_, _⟩ := hb.at2 y1
    clear y0 y1
    obtain ⟨_, _, _⟩ := hb.at3 ((((Gr.refl _).al _).al _).keep X1.out)
    obtain ⟨_, _⟩ := hb.at2 ((((Gr.refl _).al _).al _).keep X2.out)
    simp only [headOps, List.contains, List.elem, Nat.reduceAdd, Nat.reduceBEq, reduceIte, Bool.false_eq_true, dumOp]
    repeat (first | go_big_quiet_step (first | (go_at_call 65; exact Calls.of_gr (swhole1 _ _)) | (go_at_call 115; exact Calls.of_gr (smul_f _ _ _ _ _ ht.out h1.out g1.out))) | quiet_step (fail))
    exact wpQuiet_nil rfl
  refine ⟨rfl, ⟨rfl, by simp [Value.oneCell']⟩, fun w1 b1 hg1 _ xb1 => ?_⟩
  obtain ⟨x1_0, x1_1, hz1, g1⟩ := alloc2 hg1
  have x1_2 := g1.keep X1.out
  have x1_3 := g1.keep X2.out
  obtain ⟨_, _⟩ := cells2 x1_0
  have _ := fz x1_0
  have _ := ltb x1_0
  obtain ⟨_, _⟩ := cells2 x1_1
  have _ := fz x1_1
  have _ := ltb x1_1
  obtain ⟨_, _, _⟩ := cells3 x1_2
  have _ := fz x1_2
  have _ := ltb x1_2
  obtain ⟨_, _⟩ := cells2 x1_3
  have _ := fz x1_3
  have _ := ltb x1_3
  obtain ⟨_, _⟩ := cells2 xb1
  have _ := fz xb1
  have _ := ltb xb1
  have X1_0 := hid x1_0; clear x1_0
  have X1_1 := hid x1_1; clear x1_1
  have X1_2 := hid x1_2; clear x1_2
  have X1_3 := hid x1_3; clear x1_3
  have Xb1 := hid xb1; clear xb1
  have G1 := hid (g1)
  clear hg1 g1
  go_wp2
  refine bodyPost_ret (v := .tuple #[fr 0 0, .int .i64 3]) (by simp [results, Try.results87, go_sem, *]) rfl ⟨rfl, ?_⟩
  exact ((G1.out).setCell (by simp <;> omega) _).setCell (by simp <;> omega) _
set_option maxRecDepth 20000 in
set_option maxHeartbeats 1000000 in
theorem sline_f_f2 (a b n i x y : Int) (j j2 : Nat) (S : Value) (w : World) (X1 : Hid (w.heap[j]? = some (.cells #[.int .i64 a, .int .i64 b, S] 32))) (X2 : Hid (w.heap[j2]? = some (.cells #[.int .i64 n, .bool false] 53))) (q1 : -2000 ≤ i * (n - 1)) (q2 : i * (n - 1) ≤ 2000) (n1 : 2 ≤ n) (n2 : n ≤ 40) (h1 : okB a b = true) (g1 : n1B a b (i * (n - 1)) = true) (g2 : nB a b n (i * (n - 1)) = false) :
    Calls Try.prog 87 #[.pointer (some ⟨j, 0, none⟩), .pointer (some ⟨j2, 0, none⟩), fr x y, .int .i64 i] w fun e w' => e = .returned (.tuple #[fr 0 0, .int .i64 3]) ∧ Gr w w' := by
  have ht := hid (ok_whole (t := i * (n - 1)) (by omega) (by omega)); have hn := hid (ok_whole (t := n) (by omega) (by omega)); have hz := hid (show n ≠ 0 by omega)
  have h1 := hid h1
  have g1 := hid g1; have g2 := hid g2
  go_enter Try.func87, Try.ntmps87
  obtain ⟨_, _, _⟩ := cells3 X1.out
  have _ := fz X1.out
  have _ := ltb X1.out
  obtain ⟨_, _⟩ := cells2 X2.out
  have _ := fz X2.out
  have _ := ltb X2.out
  go_wp2_with fail
  refine wp_reg1s #[.int .i64 0, .int .i64 0] 14 12 11 13 39 (by kernel_rfl) (by kernel_rfl) rfl rfl (by simp) rfl rfl (by decide) (fun _ _ => by kernel_rfl) (by kernel_rfl) ?_
  apply Exists.intro; apply Exists.intro
  refine ⟨fun wb hb => ?_, ?_⟩
  · obtain ⟨y0, y1, _, _⟩ := alloc2 (Gr.refl _)
    obtain ⟨_, _⟩ := hb.at2 y0
    obtain ⟨_, _⟩ := hb.at2 y1
    clear y0 y1
    obtain ⟨_, _, _⟩ := hb.at3 ((((Gr.refl _).al _).al _).keep X1.out)
    obtain ⟨_, _⟩ := hb.at2 ((((Gr.refl _).al _).al _).keep X2.out)
    simp only [headOps, List.contains, List.elem, Nat.reduceAdd, Nat.reduceBEq, reduceIte, Bool.false_eq_true, dumOp]
    repeat (first | go_big_quiet_step (first | (go_at_call 65; exact Calls.of_gr (swhole1 _ _)) | (go_at_call 115; exact Calls.of_gr (mulw_t a b _ _ h1.out ht.out g1.out))) | quiet_step (fail))
    exact wpQuiet_nil rfl
  refine ⟨rfl, ⟨rfl, by simp [Value.oneCell']⟩, fun w1 b1 hg1 _ xb1 => ?_⟩
  obtain ⟨x1_0, x1_1, hz1, g1⟩ := alloc2 hg1
  have x1_2 := g1.keep X1.out
  have x1_3 := g1.keep X2.out
  obtain ⟨_, _⟩ := cells2 x1_0
  have _ := fz x1_0
  have _ := ltb x1_0
  obtain ⟨_, _⟩ := cells2 x1_1
  have _ := fz x1_1
  have _ := ltb x1_1
  obtain ⟨_, _, _⟩ := cells3 x1_2
  have _ := fz x1_2
  have _ := ltb x1_2
  obtain ⟨_, _⟩ := cells2 x1_3
  have _ := fz x1_3
  have _ := ltb x1_3
  obtain ⟨_, _⟩ := cells2 xb1
  have _ := fz xb1
  have _ := ltb xb1
  have X1_0 := hid x1_0; clear x1_0
  have X1_1 := hid x1_1; clear x1_1
  have X1_2 := hid x1_2; clear x1_2
  have X1_3 := hid x1_3; clear x1_3
  have Xb1 := hid xb1; clear xb1
  have G1 := hid (g1)
  clear hg1 g1
  go_wp2_with fail
  refine wp_reg1s #[.int .i64 0, .int .i64 0] 12 10 13 11 53 (by kernel_rfl) (by kernel_rfl) rfl rfl (by simp) rfl rfl (by decide) (fun _ _ => by kernel_rfl) (by kernel_rfl) ?_
  apply Exists.intro; apply Exists.intro
  refine ⟨fun wb hb => ?_, ?_⟩
  · obtain ⟨_, _⟩ := hb.at2 X1_0.out
    obtain ⟨_, _⟩ := hb.at2 X1_1.out
    obtain ⟨_, _, _⟩ := hb.at3 X1_2.out
    obtain ⟨_, _⟩ := hb.at2 X1_3.out
    obtain ⟨_, _⟩ := hb.at2 Xb1.out
    simp only [headOps, List.contains, List.elem, Nat.reduceAdd, Nat.reduceBEq, reduceIte, Bool.false_eq_true, dumOp]
    repeat (first | go_big_quiet_step (first | (go_at_call 65; exact Calls.of_gr (swhole1 _ _)) | (go_at_call 81; exact Calls.of_gr (divw_f a b n _ _ hn.out hz.out g1.out g2.out))) | quiet_step (fail))
    exact wpQuiet_nil rfl
  refine ⟨rfl, ⟨rfl, by simp [Value.oneCell']⟩, fun w2 b2 hg2 _ xb2 => ?_⟩
  have x2_1 := hg2.keep X1_0.out
  have x2_2 := hg2.keep X1_1.out
  have x2_3 := hg2.keep X1_2.out
  have x2_4 := hg2.keep X1_3.out
  have x2_5 := hg2.keep Xb1.out
  obtain ⟨_, _⟩ := cells2 x2_1
  have _ := fz x2_1
  have _ := ltb x2_1
  obtain ⟨_, _⟩ := cells2 x2_2
  have _ := fz x2_2
  have _ := ltb x2_2
  obtain ⟨_, _, _⟩ := cells3 x2_3
  have _ := fz x2_3
  have _ := ltb x2_3
  obtain ⟨_, _⟩ := cells2 x2_4
  have _ := fz x2_4
  have _ := ltb x2_4
  obtain ⟨_, _⟩ := cells2 x2_5
  have _ := fz x2_5
  have _ := ltb x2_5
  obtain ⟨_, _⟩ := cells2 xb2
  have _ := fz xb2
  have _ := ltb xb2
  have X2_1 := hid x2_1; clear x2_1
  have X2_2 := hid x2_2; clear x2_2
  have X2_3 := hid x2_3; clear x2_3
  have X2_4 := hid x2_4; clear x2_4
  have X2_5 := hid x2_5; clear x2_5
  have Xb2 := hid xb2; clear xb2
  have G2 := hid (G1.out.trans hg2)
  clear hg2
  go_wp2
  refine bodyPost_ret (v := .tuple #[fr 0 0, .int .i64 3]) (by simp [results, Try.results87, go_sem, *]) rfl ⟨rfl, ?_⟩
  exact ((G2.out).setCell (by simp <;> omega) _).setCell (by simp <;> omega) _
set_option maxRecDepth 20000 in
set_option maxHeartbeats 1000000 in
theorem sline_f_f3 (a b n i x y : Int) (j j2 : Nat) (S : Value) (w : World) (X1 : Hid (w.heap[j]? = some (.cells #[.int .i64 a, .int .i64 b, S] 32))) (X2 : Hid (w.heap[j2]? = some (.cells #[.int .i64 n, .bool false] 53))) (q1 : -2000 ≤ i * (n - 1)) (q2 : i * (n - 1) ≤ 2000) (n1 : 2 ≤ n) (n2 : n ≤ 40) (h1 : okB a b = true) (hx : okB x y = true) (g1 : n1B a b (i * (n - 1)) = true) (g2 : nB a b n (i * (n - 1)) = true) (g3 : ln3 a b n (i * (n - 1)) x y = false) :
    Calls Try.prog 87 #[.pointer (some ⟨j, 0, none⟩), .pointer (some ⟨j2, 0, none⟩), fr x y, .int .i64 i] w fun e w' => e = .returned (.tuple #[fr 0 0, .int .i64 3]) ∧ Gr w w' := by
  have ht := hid (ok_whole (t := i * (n - 1)) (by omega) (by omega)); have hn := hid (ok_whole (t := n) (by omega) (by omega)); have hz := hid (show n ≠ 0 by omega)
  have h1 := hid h1
  have hx := hid hx; have g1 := hid g1; have g2 := hid g2; have g3 := hid g3
  go_enter Try.func87, Try.ntmps87
  obtain ⟨_, _, _⟩ := cells3 X1.out
  have _ := fz X1.out
  have _ := ltb X1.out
  obtain ⟨_, _⟩ := cells2 X2.out
  have _ := fz X2.out
  have _ := ltb X2.out
  go_wp2_with fail
  refine wp_reg1s #[.int .i64 0, .int .i64 0] 14 12 11 13 39 (by kernel_rfl) (by kernel_rfl) rfl rfl (by simp) rfl rfl (by decide) (fun _ _ => by kernel_rfl) (by kernel_rfl) ?_
  apply Exists.intro; apply Exists.intro
  refine ⟨fun wb hb => ?_, ?_⟩
  · obtain ⟨y0, y1, _, _⟩ := alloc2 (Gr.refl _)
    obtain ⟨_, _⟩ := hb.at2 y0
    obtain ⟨_, _⟩ := hb.at2 y1
    clear y0 y1
    obtain ⟨_, _, _⟩ := hb.at3 ((((Gr.refl _).al _).al _).keep X1.out)
    obtain ⟨_, _⟩ := hb.at2 ((((Gr.refl _).al _).al _).keep X2.out)
    simp only [headOps, List.contains, List.elem, Nat.reduceAdd, Nat.reduceBEq, reduceIte, Bool.false_eq_true, dumOp]
    repeat (first | go_big_quiet_step (first | (go_at_call 65; exact Calls.of_gr (swhole1 _ _)) | (go_at_call 115; exact Calls.of_gr (mulw_t a b _ _ h1.out ht.out g1.out))) | quiet_step (fail))
    exact wpQuiet_nil rfl
  refine ⟨rfl, ⟨rfl, by simp [Value.oneCell']⟩, fun w1 b1 hg1 _ xb1 => ?_⟩
  obtain ⟨x1_0, x1_1, hz1, g1⟩ := alloc2 hg1
  have x1_2 := g1.keep X1.out
  have x1_3 := g1.keep X2.out
  obtain ⟨_, _⟩ := cells2 x1_0
  have _ := fz x1_0
  have _ := ltb x1_0
  obtain ⟨_, _⟩ := cells2 x1_1
  have _ := fz x1_1
  have _ := ltb x1_1
  obtain ⟨_, _, _⟩ := cells3 x1_2
  have _ := fz x1_2
  have _ := ltb x1_2
  obtain ⟨_, _⟩ := cells2 x1_3
  have _ := fz x1_3
  have _ := ltb x1_3
  obtain ⟨_, _⟩ := cells2 xb1
  have _ := fz xb1
  have _ := ltb xb1
  have X1_0 := hid x1_0; clear x1_0
  have X1_1 := hid x1_1; clear x1_1
  have X1_2 := hid x1_2; clear x1_2
  have X1_3 := hid x1_3; clear x1_3
  have Xb1 := hid xb1; clear xb1
  have G1 := hid (g1)
  clear hg1 g1
  go_wp2_with fail
  refine wp_reg1s #[.int .i64 0, .int .i64 0] 12 10 13 11 53 (by kernel_rfl) (by kernel_rfl) rfl rfl (by simp) rfl rfl (by decide) (fun _ _ => by kernel_rfl) (by kernel_rfl) ?_
  apply Exists.intro; apply Exists.intro
  refine ⟨fun wb hb => ?_, ?_⟩
  · obtain ⟨_, _⟩ := hb.at2 X1_0.out
    obtain ⟨_, _⟩ := hb.at2 X1_1.out
    obtain ⟨_, _, _⟩ := hb.at3 X1_2.out
    obtain ⟨_, _⟩ := hb.at2 X1_3.out
    obtain ⟨_, _⟩ := hb.at2 Xb1.out
    simp only [headOps, List.contains, List.elem, Nat.reduceAdd, Nat.reduceBEq, reduceIte, Bool.false_eq_true, dumOp]
    repeat (first | go_big_quiet_step (first | (go_at_call 65; exact Calls.of_gr (swhole1 _ _)) | (go_at_call 81; exact Calls.of_gr (divw_t a b n _ _ hn.out hz.out g1.out g2.out))) | quiet_step (fail))
    exact wpQuiet_nil rfl
  refine ⟨rfl, ⟨rfl, by simp [Value.oneCell']⟩, fun w2 b2 hg2 _ xb2 => ?_⟩
  have x2_1 := hg2.keep X1_0.out
  have x2_2 := hg2.keep X1_1.out
  have x2_3 := hg2.keep X1_2.out
  have x2_4 := hg2.keep X1_3.out
  have x2_5 := hg2.keep Xb1.out
  obtain ⟨_, _⟩ := cells2 x2_1
  have _ := fz x2_1
  have _ := ltb x2_1
  obtain ⟨_, _⟩ := cells2 x2_2
  have _ := fz x2_2
  have _ := ltb x2_2
  obtain ⟨_, _, _⟩ := cells3 x2_3
  have _ := fz x2_3
  have _ := ltb x2_3
  obtain ⟨_, _⟩ := cells2 x2_4
  have _ := fz x2_4
  have _ := ltb x2_4
  obtain ⟨_, _⟩ := cells2 x2_5
  have _ := fz x2_5
  have _ := ltb x2_5
  obtain ⟨_, _⟩ := cells2 xb2
  have _ := fz xb2
  have _ := ltb xb2
  have X2_1 := hid x2_1; clear x2_1
  have X2_2 := hid x2_2; clear x2_2
  have X2_3 := hid x2_3; clear x2_3
  have X2_4 := hid x2_4; clear x2_4
  have X2_5 := hid x2_5; clear x2_5
  have Xb2 := hid xb2; clear xb2
  have G2 := hid (G1.out.trans hg2)
  clear hg2
  go_wp2_with fail
  refine (saddl_f a b n _ x y _ hx.out g2.out g3.out).mono ?_
  rintro e w3 ⟨rfl, hg3⟩
  have x3_1 := hg3.keep X2_1.out
  have x3_2 := hg3.keep X2_2.out
  have x3_3 := hg3.keep X2_3.out
  have x3_4 := hg3.keep X2_4.out
  have x3_5 := hg3.keep X2_5.out
  have x3_6 := hg3.keep Xb2.out
  obtain ⟨_, _⟩ := cells2 x3_1
  have _ := fz x3_1
  have _ := ltb x3_1
  obtain ⟨_, _⟩ := cells2 x3_2
  have _ := fz x3_2
  have _ := ltb x3_2
  obtain ⟨_, _, _⟩ := cells3 x3_3
  have _ := fz x3_3
  have _ := ltb x3_3
  obtain ⟨_, _⟩ := cells2 x3_4
  have _ := fz x3_4
  have _ := ltb x3_4
  obtain ⟨_, _⟩ := cells2 x3_5
  have _ := fz x3_5
  have _ := ltb x3_5
  obtain ⟨_, _⟩ := cells2 x3_6
  have _ := fz x3_6
  have _ := ltb x3_6
  have X3_1 := hid x3_1; clear x3_1
  have X3_2 := hid x3_2; clear x3_2
  have X3_3 := hid x3_3; clear x3_3
  have X3_4 := hid x3_4; clear x3_4
  have X3_5 := hid x3_5; clear x3_5
  have X3_6 := hid x3_6; clear x3_6
  have G3 := hid (G2.out.trans hg3)
  clear hg3
  go_wp2
  refine bodyPost_ret (v := .tuple #[fr 0 0, .int .i64 3]) (by simp [results, Try.results87, go_sem, *]) rfl ⟨rfl, ?_⟩
  exact ((G3.out).setCell (by simp <;> omega) _).setCell (by simp <;> omega) _
set_option maxRecDepth 20000 in
set_option maxHeartbeats 1000000 in
theorem sline_f_t (a b n i x y : Int) (j j2 : Nat) (S : Value) (w : World) (X1 : Hid (w.heap[j]? = some (.cells #[.int .i64 a, .int .i64 b, S] 32))) (X2 : Hid (w.heap[j2]? = some (.cells #[.int .i64 n, .bool false] 53))) (q1 : -2000 ≤ i * (n - 1)) (q2 : i * (n - 1) ≤ 2000) (n1 : 2 ≤ n) (n2 : n ≤ 40) (h1 : okB a b = true) (hx : okB x y = true) (g1 : n1B a b (i * (n - 1)) = true) (g2 : nB a b n (i * (n - 1)) = true) (g3 : ln3 a b n (i * (n - 1)) x y = true) :
    Calls Try.prog 87 #[.pointer (some ⟨j, 0, none⟩), .pointer (some ⟨j2, 0, none⟩), fr x y, .int .i64 i] w fun e w' => e = .returned (.tuple #[fr (lnP a b n (i * (n - 1)) x y) (lnQ a b n (i * (n - 1)) x y), .int .i64 0]) ∧ Gr w w' := by
  have ht := hid (ok_whole (t := i * (n - 1)) (by omega) (by omega)); have hn := hid (ok_whole (t := n) (by omega) (by omega)); have hz := hid (show n ≠ 0 by omega)
  have h1 := hid h1
  have hx := hid hx; have g1 := hid g1; have g2 := hid g2; have g3 := hid g3
  go_enter Try.func87, Try.ntmps87
  obtain ⟨_, _, _⟩ := cells3 X1.out
  have _ := fz X1.out
  have _ := ltb X1.out
  obtain ⟨_, _⟩ := cells2 X2.out
  have _ := fz X2.out
  have _ := ltb X2.out
  go_wp2_with fail
  refine wp_reg1s #[.int .i64 0, .int .i64 0] 14 12 11 13 39 (by kernel_rfl) (by kernel_rfl) rfl rfl (by simp) rfl rfl (by decide) (fun _ _ => by kernel_rfl) (by kernel_rfl) ?_
  apply Exists.intro; apply Exists.intro
  refine ⟨fun wb hb => ?_, ?_⟩
  · obtain ⟨y0, y1, _, _⟩ := alloc2 (Gr.refl _)
    obtain ⟨_, _⟩ := hb.at2 y0
    obtain ⟨_, _⟩ := hb.at2 y1
    clear y0 y1
    obtain ⟨_, _, _⟩ := hb.at3 ((((Gr.refl _).al _).al _).keep X1.out)
    obtain ⟨_, _⟩ := hb.at2 ((((Gr.refl _).al _).al _).keep X2.out)
    simp only [headOps, List.contains, List.elem, Nat.reduceAdd, Nat.reduceBEq, reduceIte, Bool.false_eq_true, dumOp]
    repeat (first | go_big_quiet_step (first | (go_at_call 65; exact Calls.of_gr (swhole1 _ _)) | (go_at_call 115; exact Calls.of_gr (mulw_t a b _ _ h1.out ht.out g1.out))) | quiet_step (fail))
    exact wpQuiet_nil rfl
  refine ⟨rfl, ⟨rfl, by simp [Value.oneCell']⟩, fun w1 b1 hg1 _ xb1 => ?_⟩
  obtain ⟨x1_0, x1_1, hz1, g1⟩ := alloc2 hg1
  have x1_2 := g1.keep X1.out
  have x1_3 := g1.keep X2.out
  obtain ⟨_, _⟩ := cells2 x1_0
  have _ := fz x1_0
  have _ := ltb x1_0
  obtain ⟨_, _⟩ := cells2 x1_1
  have _ := fz x1_1
  have _ := ltb x1_1
  obtain ⟨_, _, _⟩ := cells3 x1_2
  have _ := fz x1_2
  have _ := ltb x1_2
  obtain ⟨_, _⟩ := cells2 x1_3
  have _ := fz x1_3
  have _ := ltb x1_3
  obtain ⟨_, _⟩ := cells2 xb1
  have _ := fz xb1
  have _ := ltb xb1
  have X1_0 := hid x1_0; clear x1_0
  have X1_1 := hid x1_1; clear x1_1
  have X1_2 := hid x1_2; clear x1_2
  have X1_3 := hid x1_3; clear x1_3
  have Xb1 := hid xb1; clear xb1
  have G1 := hid (g1)
  clear hg1 g1
  go_wp2_with fail
  refine wp_reg1s #[.int .i64 0, .int .i64 0] 12 10 13 11 53 (by kernel_rfl) (by kernel_rfl) rfl rfl (by simp) rfl rfl (by decide) (fun _ _ => by kernel_rfl) (by kernel_rfl) ?_
  apply Exists.intro; apply Exists.intro
  refine ⟨fun wb hb => ?_, ?_⟩
  · obtain ⟨_, _⟩ := hb.at2 X1_0.out
    obtain ⟨_, _⟩ := hb.at2 X1_1.out
    obtain ⟨_, _, _⟩ := hb.at3 X1_2.out
    obtain ⟨_, _⟩ := hb.at2 X1_3.out
    obtain ⟨_, _⟩ := hb.at2 Xb1.out
    simp only [headOps, List.contains, List.elem, Nat.reduceAdd, Nat.reduceBEq, reduceIte, Bool.false_eq_true, dumOp]
    repeat (first | go_big_quiet_step (first | (go_at_call 65; exact Calls.of_gr (swhole1 _ _)) | (go_at_call 81; exact Calls.of_gr (divw_t a b n _ _ hn.out hz.out g1.out g2.out))) | quiet_step (fail))
    exact wpQuiet_nil rfl
  refine ⟨rfl, ⟨rfl, by simp [Value.oneCell']⟩, fun w2 b2 hg2 _ xb2 => ?_⟩
  have x2_1 := hg2.keep X1_0.out
  have x2_2 := hg2.keep X1_1.out
  have x2_3 := hg2.keep X1_2.out
  have x2_4 := hg2.keep X1_3.out
  have x2_5 := hg2.keep Xb1.out
  obtain ⟨_, _⟩ := cells2 x2_1
  have _ := fz x2_1
  have _ := ltb x2_1
  obtain ⟨_, _⟩ := cells2 x2_2
  have _ := fz x2_2
  have _ := ltb x2_2
  obtain ⟨_, _, _⟩ := cells3 x2_3
  have _ := fz x2_3
  have _ := ltb x2_3
  obtain ⟨_, _⟩ := cells2 x2_4
  have _ := fz x2_4
  have _ := ltb x2_4
  obtain ⟨_, _⟩ := cells2 x2_5
  have _ := fz x2_5
  have _ := ltb x2_5
  obtain ⟨_, _⟩ := cells2 xb2
  have _ := fz xb2
  have _ := ltb xb2
  have X2_1 := hid x2_1; clear x2_1
  have X2_2 := hid x2_2; clear x2_2
  have X2_3 := hid x2_3; clear x2_3
  have X2_4 := hid x2_4; clear x2_4
  have X2_5 := hid x2_5; clear x2_5
  have Xb2 := hid xb2; clear xb2
  have G2 := hid (G1.out.trans hg2)
  clear hg2
  go_wp2_with fail
  refine (saddl_t a b n _ x y _ hx.out g2.out g3.out).mono ?_
  rintro e w3 ⟨rfl, hg3⟩
  have x3_1 := hg3.keep X2_1.out
  have x3_2 := hg3.keep X2_2.out
  have x3_3 := hg3.keep X2_3.out
  have x3_4 := hg3.keep X2_4.out
  have x3_5 := hg3.keep X2_5.out
  have x3_6 := hg3.keep Xb2.out
  obtain ⟨_, _⟩ := cells2 x3_1
  have _ := fz x3_1
  have _ := ltb x3_1
  obtain ⟨_, _⟩ := cells2 x3_2
  have _ := fz x3_2
  have _ := ltb x3_2
  obtain ⟨_, _, _⟩ := cells3 x3_3
  have _ := fz x3_3
  have _ := ltb x3_3
  obtain ⟨_, _⟩ := cells2 x3_4
  have _ := fz x3_4
  have _ := ltb x3_4
  obtain ⟨_, _⟩ := cells2 x3_5
  have _ := fz x3_5
  have _ := ltb x3_5
  obtain ⟨_, _⟩ := cells2 x3_6
  have _ := fz x3_6
  have _ := ltb x3_6
  have X3_1 := hid x3_1; clear x3_1
  have X3_2 := hid x3_2; clear x3_2
  have X3_3 := hid x3_3; clear x3_3
  have X3_4 := hid x3_4; clear x3_4
  have X3_5 := hid x3_5; clear x3_5
  have X3_6 := hid x3_6; clear x3_6
  have G3 := hid (G2.out.trans hg3)
  clear hg3
  go_wp2
  refine bodyPost_ret (v := .tuple #[fr (lnP a b n (i * (n - 1)) x y) (lnQ a b n (i * (n - 1)) x y), .int .i64 0]) (by simp [results, Try.results87, go_sem, *]) rfl ⟨rfl, ?_⟩
  exact ((G3.out).setCell (by simp <;> omega) _).setCell (by simp <;> omega) _
set_option maxRecDepth 20000 in
set_option maxHeartbeats 1000000 in
theorem iline_t_ok (a b n i x y : Int) (A : Option Addr) (m c : Nat) (w : World) (q1 : -2000 ≤ i * (n + 1)) (q2 : i * (n + 1) ≤ 2000) (n1 : 2 ≤ n) (n2 : n ≤ 40) (h1 : okB a b = true) (hx : okB x y = true) (g1 : n1B a b (i * (n + 1)) = true) (g2 : nB a b n (i * (n + 1)) = true) (g3 : ln3 a b n (i * (n + 1)) x y = true) :
    Calls Try.prog 89 #[vn n true, scl a b A m c, fr x y, .int .i64 i] w fun e w' => e = .returned (fr (lnP a b n (i * (n + 1)) x y) (lnQ a b n (i * (n + 1)) x y)) ∧ Gr w w' := by
  have ht := hid (ok_whole (t := i * (n + 1)) (by omega) (by omega)); have hn := hid (ok_whole (t := n) (by omega) (by omega)); have hz := hid (show n ≠ 0 by omega)
  have h1 := hid h1
  have hx := hid hx; have g1 := hid g1; have g2 := hid g2; have g3 := hid g3
  go_enter Try.func89, Try.ntmps89
  go_wp2_with fail
  refine wp_reg0 11 (by kernel_rfl) (by kernel_rfl) ?_
  apply Exists.intro
  refine ⟨fun wb hb => ?_, ?_⟩
  · obtain ⟨y0, y1, y2, y3, _, _⟩ := alloc4 (Gr.refl _)
    obtain ⟨_, _⟩ := hb.at2 y0
    obtain ⟨_, _, _⟩ := hb.at3 y1
    obtain ⟨_, _⟩ := hb.at2 y2
    obtain ⟨_, _⟩ := hb.at2 y3
    clear y0 y1 y2 y3
    simp only [headOps, List.contains, List.elem, reduceIte, Bool.false_eq_true]
    repeat (first | go_big_quiet_step (first | (go_at_call 103; exact Calls.of_gr (itw_ok _ _ _ _ h1.out ht.out g1.out)) | (go_at_call 85; exact Calls.of_gr (ioww_t a b n _ _ hn.out hz.out g1.out g2.out)) | (go_at_call 102; exact Calls.of_gr (plusl_t a b n _ x y _ hx.out g2.out g3.out))) | quiet_step (fail))
    exact wpQuiet_nil rfl
  intro w1 hg1
  obtain ⟨x1_0, x1_1, x1_2, x1_3, hz1, g1⟩ := alloc4 hg1
  obtain ⟨_, _⟩ := cells2 x1_0
  have _ := fz x1_0
  have _ := ltb x1_0
  obtain ⟨_, _, _⟩ := cells3 x1_1
  have _ := fz x1_1
  have _ := ltb x1_1
  obtain ⟨_, _⟩ := cells2 x1_2
  have _ := fz x1_2
  have _ := ltb x1_2
  obtain ⟨_, _⟩ := cells2 x1_3
  have _ := fz x1_3
  have _ := ltb x1_3
  have X1_0 := hid x1_0; clear x1_0
  have X1_1 := hid x1_1; clear x1_1
  have X1_2 := hid x1_2; clear x1_2
  have X1_3 := hid x1_3; clear x1_3
  have G1 := hid (g1)
  clear hg1 g1
  go_wp2
  refine bodyPost_ret (v := fr (lnP a b n (i * (n + 1)) x y) (lnQ a b n (i * (n + 1)) x y)) (by simp [results, Try.results89, go_sem, *]) rfl ⟨rfl, ?_⟩
  exact ((G1.out).setCell (by simp <;> omega) _).setCell (by simp <;> omega) _
set_option maxRecDepth 20000 in
set_option maxHeartbeats 1000000 in
theorem iline_t_b1 (a b n i x y : Int) (A : Option Addr) (m c : Nat) (w : World) (q1 : -2000 ≤ i * (n + 1)) (q2 : i * (n + 1) ≤ 2000) (n1 : 2 ≤ n) (n2 : n ≤ 40) (h1 : okB a b = true) (g1 : n1B a b (i * (n + 1)) = false) :
    Calls Try.prog 89 #[vn n true, scl a b A m c, fr x y, .int .i64 i] w fun e w' => (∃ x y, e = .panicked [{ v := .iface 125 (fr x y), recovered := false }]) ∧ Gr w w' := by
  have ht := hid (ok_whole (t := i * (n + 1)) (by omega) (by omega)); have hn := hid (ok_whole (t := n) (by omega) (by omega)); have hz := hid (show n ≠ 0 by omega)
  have h1 := hid h1
  have g1 := hid g1; clear hn hz
  go_enter Try.func89, Try.ntmps89
  go_wp2_with fail
  refine wp_regP 6 [9, 10, 11] (by kernel_rfl) (by kernel_rfl) rfl ?_
  apply Exists.intro
  refine ⟨103, #[fr a b, .int .i64 (i * (n + 1))], fun wb hb => ?_, ?_⟩
  · obtain ⟨y0, y1, y2, y3, _, _⟩ := alloc4 (Gr.refl _)
    obtain ⟨_, _⟩ := hb.at2 y0
    obtain ⟨_, _, _⟩ := hb.at3 y1
    obtain ⟨_, _⟩ := hb.at2 y2
    obtain ⟨_, _⟩ := hb.at2 y3
    clear y0 y1 y2 y3
    simp only [headOps, List.contains, List.elem, List.length_cons, List.length_nil, Nat.zero_add, Nat.reduceAdd, Nat.reduceBEq, reduceIte, Bool.false_eq_true, dumOp]
    repeat (first | go_big_quiet_step (first | (fail)) | quiet_step (fail))
    exact wpQuiet_nil rfl
  refine ⟨fun w' => by kernel_rfl, fun w' hg' => (itw_bad _ _ _ _ h1.out ht.out g1.out).mono fun e w2 ⟨⟨x, y, he⟩, hg2⟩ => ⟨_, he, fun a' ha' => ⟨ha', ⟨x, y, rfl⟩, ((((((Gr.refl _).al _).al _).al _).al _).trans hg').trans hg2⟩⟩⟩
set_option maxRecDepth 20000 in
set_option maxHeartbeats 1000000 in
theorem iline_t_b2 (a b n i x y : Int) (A : Option Addr) (m c : Nat) (w : World) (q1 : -2000 ≤ i * (n + 1)) (q2 : i * (n + 1) ≤ 2000) (n1 : 2 ≤ n) (n2 : n ≤ 40) (h1 : okB a b = true) (g1 : n1B a b (i * (n + 1)) = true) (g2 : nB a b n (i * (n + 1)) = false) :
    Calls Try.prog 89 #[vn n true, scl a b A m c, fr x y, .int .i64 i] w fun e w' => (∃ x y, e = .panicked [{ v := .iface 125 (fr x y), recovered := false }]) ∧ Gr w w' := by
  have ht := hid (ok_whole (t := i * (n + 1)) (by omega) (by omega)); have hn := hid (ok_whole (t := n) (by omega) (by omega)); have hz := hid (show n ≠ 0 by omega)
  have h1 := hid h1
  have g1 := hid g1; have g2 := hid g2
  go_enter Try.func89, Try.ntmps89
  go_wp2_with fail
  refine wp_regP 9 [10, 11] (by kernel_rfl) (by kernel_rfl) rfl ?_
  apply Exists.intro
  refine ⟨85, #[fr (n1P a b (i * (n + 1))) (n1Q a b (i * (n + 1))), .int .i64 n], fun wb hb => ?_, ?_⟩
  · obtain ⟨y0, y1, y2, y3, _, _⟩ := alloc4 (Gr.refl _)
    obtain ⟨_, _⟩ := hb.at2 y0
    obtain ⟨_, _, _⟩ := hb.at3 y1
    obtain ⟨_, _⟩ := hb.at2 y2
    obtain ⟨_, _⟩ := hb.at2 y3
    clear y0 y1 y2 y3
    simp only [headOps, List.contains, List.elem, List.length_cons, List.length_nil, Nat.zero_add, Nat.reduceAdd, Nat.reduceBEq, reduceIte, Bool.false_eq_true, dumOp]
    repeat (first | go_big_quiet_step (first | (go_at_call 103; exact Calls.of_gr (itw_ok _ _ _ _ h1.out ht.out g1.out))) | quiet_step (fail))
    exact wpQuiet_nil rfl
  refine ⟨fun w' => by kernel_rfl, fun w' hg' => (iow_bad _ _ _ _ g1.out hn.out hz.out g2.out).mono fun e w2 ⟨⟨x, y, he⟩, hg2⟩ => ⟨_, he, fun a' ha' => ⟨ha', ⟨x, y, rfl⟩, ((((((Gr.refl _).al _).al _).al _).al _).trans hg').trans hg2⟩⟩⟩
set_option maxRecDepth 20000 in
set_option maxHeartbeats 1000000 in
theorem iline_t_b3 (a b n i x y : Int) (A : Option Addr) (m c : Nat) (w : World) (q1 : -2000 ≤ i * (n + 1)) (q2 : i * (n + 1) ≤ 2000) (n1 : 2 ≤ n) (n2 : n ≤ 40) (h1 : okB a b = true) (hx : okB x y = true) (g1 : n1B a b (i * (n + 1)) = true) (g2 : nB a b n (i * (n + 1)) = true) (g3 : ln3 a b n (i * (n + 1)) x y = false) :
    Calls Try.prog 89 #[vn n true, scl a b A m c, fr x y, .int .i64 i] w fun e w' => (∃ x y, e = .panicked [{ v := .iface 125 (fr x y), recovered := false }]) ∧ Gr w w' := by
  have ht := hid (ok_whole (t := i * (n + 1)) (by omega) (by omega)); have hn := hid (ok_whole (t := n) (by omega) (by omega)); have hz := hid (show n ≠ 0 by omega)
  have h1 := hid h1
  have hx := hid hx; have g1 := hid g1; have g2 := hid g2; have g3 := hid g3
  go_enter Try.func89, Try.ntmps89
  go_wp2_with fail
  refine wp_regP 10 [11] (by kernel_rfl) (by kernel_rfl) rfl ?_
  apply Exists.intro
  refine ⟨102, #[fr x y, fr (nP a b n (i * (n + 1))) (nQ a b n (i * (n + 1)))], fun wb hb => ?_, ?_⟩
  · obtain ⟨y0, y1, y2, y3, _, _⟩ := alloc4 (Gr.refl _)
    obtain ⟨_, _⟩ := hb.at2 y0
    obtain ⟨_, _, _⟩ := hb.at3 y1
    obtain ⟨_, _⟩ := hb.at2 y2
    obtain ⟨_, _⟩ := hb.at2 y3
    clear y0 y1 y2 y3
    simp only [headOps, List.contains, List.elem, List.length_cons, List.length_nil, Nat.zero_add, Nat.reduceAdd, Nat.reduceBEq, reduceIte, Bool.false_eq_true, dumOp]
    repeat (first | go_big_quiet_step (first | (go_at_call 103; exact Calls.of_gr (itw_ok _ _ _ _ h1.out ht.out g1.out)) | (go_at_call 85; exact Calls.of_gr (ioww_t a b n _ _ hn.out hz.out g1.out g2.out))) | quiet_step (fail))
    exact wpQuiet_nil rfl
  refine ⟨fun w' => by kernel_rfl, fun w' hg' => (plus_no _ _ _ _ _ hx.out g2.out g3.out).mono fun e w2 ⟨⟨x, y, he⟩, hg2⟩ => ⟨_, he, fun a' ha' => ⟨ha', ⟨x, y, rfl⟩, ((((((Gr.refl _).al _).al _).al _).al _).trans hg').trans hg2⟩⟩⟩
set_option maxRecDepth 20000 in
set_option maxHeartbeats 1000000 in
theorem sline_t_f1 (a b n i x y : Int) (j j2 : Nat) (S : Value) (w : World) (X1 : Hid (w.heap[j]? = some (.cells #[.int .i64 a, .int .i64 b, S] 32))) (X2 : Hid (w.heap[j2]? = some (.cells #[.int .i64 n, .bool true] 53))) (q1 : -2000 ≤ i * (n + 1)) (q2 : i * (n + 1) ≤ 2000) (n1 : 2 ≤ n) (n2 : n ≤ 40) (h1 : okB a b = true) (g1 : n1B a b (i * (n + 1)) = false) :
    Calls Try.prog 87 #[.pointer (some ⟨j, 0, none⟩), .pointer (some ⟨j2, 0, none⟩), fr x y, .int .i64 i] w fun e w' => e = .returned (.tuple #[fr 0 0, .int .i64 3]) ∧ Gr w w' := by
  have ht := hid (ok_whole (t := i * (n + 1)) (by omega) (by omega)); have hn := hid (ok_whole (t := n) (by omega) (by omega)); have hz := hid (show n ≠ 0 by omega)
  have h1 := hid h1
  have g1 := hid g1; clear hn hz
  go_enter Try.func87, Try.ntmps87
  obtain ⟨_, _, _⟩ := cells3 X1.out
  have _ := fz X1.out
  have _ := ltb X1.out
  obtain ⟨_, _⟩ := cells2 X2.out
  have _ := fz X2.out
  have _ := ltb X2.out
  go_wp2_with fail
  refine wp_reg1s #[.int .i64 0, .int .i64 0] 14 12 11 13 39 (by kernel_rfl) (by kernel_rfl) rfl rfl (by simp) rfl rfl (by decide) (fun _ _ => by kernel_rfl) (by kernel_rfl) ?_
  apply Exists.intro; apply Exists.intro
  refine ⟨fun wb hb => ?_, ?_⟩
  · obtain ⟨y0, y1, _, _⟩ := alloc2 (Gr.refl _)
    obtain ⟨_, _⟩ := hb.at2 y0
    obtain ⟨_, _⟩ := hb.at2 y1
    clear y0 y1
    obtain ⟨_, _, _⟩ := hb.at3 ((((Gr.refl _).al _).al _).keep X1.out)
    obtain ⟨_, _⟩ := hb.at2 ((((Gr.refl _).al _).al _).keep X2.out)
    simp only [headOps, List.contains, List.elem, Nat.reduceAdd, Nat.reduceBEq, reduceIte, Bool.false_eq_true, dumOp]
    repeat (first | go_big_quiet_step (first | (go_at_call 65; exact Calls.of_gr (swhole1 _ _)) | (go_at_call 115; exact Calls.of_gr (smul_f _ _ _ _ _ ht.out h1.out g1.out))) | quiet_step (fail))
    exact wpQuiet_nil rfl
  refine ⟨rfl, ⟨rfl, by simp [Value.oneCell']⟩, fun w1 b1 hg1 _ xb1 => ?_⟩
  obtain ⟨x1_0, x1_1, hz1, g1⟩ := alloc2 hg1
  have x1_2 := g1.keep X1.out
  have x1_3 := g1.keep X2.out
  obtain ⟨_, _⟩ := cells2 x1_0
  have _ := fz x1_0
  have _ := ltb x1_0
  obtain ⟨_, _⟩ := cells2 x1_1
  have _ := fz x1_1
  have _ := ltb x1_1
  obtain ⟨_, _, _⟩ := cells3 x1_2
  have _ := fz x1_2
  have _ := ltb x1_2
  obtain ⟨_, _⟩ := cells2 x1_3
  have _ := fz x1_3
  have _ := ltb x1_3
  obtain ⟨_, _⟩ := cells2 xb1
  have _ := fz xb1
  have _ := ltb xb1
  have X1_0 := hid x1_0; clear x1_0
  have X1_1 := hid x1_1; clear x1_1
  have X1_2 := hid x1_2; clear x1_2
  have X1_3 := hid x1_3; clear x1_3
  have Xb1 := hid xb1; clear xb1
  have G1 := hid (g1)
  clear hg1 g1
  go_wp2
  refine bodyPost_ret (v := .tuple #[fr 0 0, .int .i64 3]) (by simp [results, Try.results87, go_sem, *]) rfl ⟨rfl, ?_⟩
  exact ((G1.out).setCell (by simp <;> omega) _).setCell (by simp <;> omega) _
set_option maxRecDepth 20000 in
set_option maxHeartbeats 1000000 in
theorem sline_t_f2 (a b n i x y : Int) (j j2 : Nat) (S : Value) (w : World) (X1 : Hid (w.heap[j]? = some (.cells #[.int .i64 a, .int .i64 b, S] 32))) (X2 : Hid (w.heap[j2]? = some (.cells #[.int .i64 n, .bool true] 53))) (q1 : -2000 ≤ i * (n + 1)) (q2 : i * (n + 1) ≤ 2000) (n1 : 2 ≤ n) (n2 : n ≤ 40) (h1 : okB a b = true) (g1 : n1B a b (i * (n + 1)) = true) (g2 : nB a b n (i * (n + 1)) = false) :
    Calls Try.prog 87 #[.pointer (some ⟨j, 0, none⟩), .pointer (some ⟨j2, 0, none⟩), fr x y, .int .i64 i] w fun e w' => e = .returned (.tuple #[fr 0 0, .int .i64 3]) ∧ Gr w w' := by
  have ht := hid (ok_whole (t := i * (n + 1)) (by omega) (by omega)); have hn := hid (ok_whole (t := n) (by omega) (by omega)); have hz := hid (show n ≠ 0 by omega)
  have h1 := hid h1
  have g1 := hid g1; have g2 := hid g2
  go_enter Try.func87, Try.ntmps87
  obtain ⟨_, _, _⟩ := cells3 X1.out
  have _ := fz X1.out
  have _ := ltb X1.out
  obtain ⟨_, _⟩ := cells2 X2.out
  have _ := fz X2.out
  have _ := ltb X2.out
  go_wp2_with fail
  refine wp_reg1s #[.int .i64 0, .int .i64 0] 14 12 11 13 39 (by kernel_rfl) (by kernel_rfl) rfl rfl (by simp) rfl rfl (by decide) (fun _ _ => by kernel_rfl) (by kernel_rfl) ?_
  apply Exists.intro; apply Exists.intro
  refine ⟨fun wb hb => ?_, ?_⟩
  · obtain ⟨y0, y1, _, _⟩ := alloc2 (Gr.refl _)
    obtain ⟨_, _⟩ := hb.at2 y0
    obtain ⟨_, _⟩ := hb.at2 y1
    clear y0 y1
    obtain ⟨_, _, _⟩ := hb.at3 ((((Gr.refl _).al _).al _).keep X1.out)
    obtain ⟨_, _⟩ := hb.at2 ((((Gr.refl _).al _).al _).keep X2.out)
    simp only [headOps, List.contains, List.elem, Nat.reduceAdd, Nat.reduceBEq, reduceIte, Bool.false_eq_true, dumOp]
    repeat (first | go_big_quiet_step (first | (go_at_call 65; exact Calls.of_gr (swhole1 _ _)) | (go_at_call 115; exact Calls.of_gr (mulw_t a b _ _ h1.out ht.out g1.out))) | quiet_step (fail))
    exact wpQuiet_nil rfl
  refine ⟨rfl, ⟨rfl, by simp [Value.oneCell']⟩, fun w1 b1 hg1 _ xb1 => ?_⟩
  obtain ⟨x1_0, x1_1, hz1, g1⟩ := alloc2 hg1
  have x1_2 := g1.keep X1.out
  have x1_3 := g1.keep X2.out
  obtain ⟨_, _⟩ := cells2 x1_0
  have _ := fz x1_0
  have _ := ltb x1_0
  obtain ⟨_, _⟩ := cells2 x1_1
  have _ := fz x1_1
  have _ := ltb x1_1
  obtain ⟨_, _, _⟩ := cells3 x1_2
  have _ := fz x1_2
  have _ := ltb x1_2
  obtain ⟨_, _⟩ := cells2 x1_3
  have _ := fz x1_3
  have _ := ltb x1_3
  obtain ⟨_, _⟩ := cells2 xb1
  have _ := fz xb1
  have _ := ltb xb1
  have X1_0 := hid x1_0; clear x1_0
  have X1_1 := hid x1_1; clear x1_1
  have X1_2 := hid x1_2; clear x1_2
  have X1_3 := hid x1_3; clear x1_3
  have Xb1 := hid xb1; clear xb1
  have G1 := hid (g1)
  clear hg1 g1
  go_wp2_with fail
  refine wp_reg1s #[.int .i64 0, .int .i64 0] 12 10 13 11 53 (by kernel_rfl) (by kernel_rfl) rfl rfl (by simp) rfl rfl (by decide) (fun _ _ => by kernel_rfl) (by kernel_rfl) ?_
  apply Exists.intro; apply Exists.intro
  refine ⟨fun wb hb => ?_, ?_⟩
  · obtain ⟨_, _⟩ := hb.at2 X1_0.out
    obtain ⟨_, _⟩ := hb.at2 X1_1.out
    obtain ⟨_, _, _⟩ := hb.at3 X1_2.out
    obtain ⟨_, _⟩ := hb.at2 X1_3.out
    obtain ⟨_, _⟩ := hb.at2 Xb1.out
    simp only [headOps, List.contains, List.elem, Nat.reduceAdd, Nat.reduceBEq, reduceIte, Bool.false_eq_true, dumOp]
    repeat (first | go_big_quiet_step (first | (go_at_call 65; exact Calls.of_gr (swhole1 _ _)) | (go_at_call 81; exact Calls.of_gr (divw_f a b n _ _ hn.out hz.out g1.out g2.out))) | quiet_step (fail))
    exact wpQuiet_nil rfl
  refine ⟨rfl, ⟨rfl, by simp [Value.oneCell']⟩, fun w2 b2 hg2 _ xb2 => ?_⟩
  have x2_1 := hg2.keep X1_0.out
  have x2_2 := hg2.keep X1_1.out
  have x2_3 := hg2.keep X1_2.out
  have x2_4 := hg2.keep X1_3.out
  have x2_5 := hg2.keep Xb1.out
  obtain ⟨_, _⟩ := cells2 x2_1
  have _ := fz x2_1
  have _ := ltb x2_1
  obtain ⟨_, _⟩ := cells2 x2_2
  have _ := fz x2_2
  have _ := ltb x2_2
  obtain ⟨_, _, _⟩ := cells3 x2_3
  have _ := fz x2_3
  have _ := ltb x2_3
  obtain ⟨_, _⟩ := cells2 x2_4
  have _ := fz x2_4
  have _ := ltb x2_4
  obtain ⟨_, _⟩ := cells2 x2_5
  have _ := fz x2_5
  have _ := ltb x2_5
  obtain ⟨_, _⟩ := cells2 xb2
  have _ := fz xb2
  have _ := ltb xb2
  have X2_1 := hid x2_1; clear x2_1
  have X2_2 := hid x2_2; clear x2_2
  have X2_3 := hid x2_3; clear x2_3
  have X2_4 := hid x2_4; clear x2_4
  have X2_5 := hid x2_5; clear x2_5
  have Xb2 := hid xb2; clear xb2
  have G2 := hid (G1.out.trans hg2)
  clear hg2
  go_wp2
  refine bodyPost_ret (v := .tuple #[fr 0 0, .int .i64 3]) (by simp [results, Try.results87, go_sem, *]) rfl ⟨rfl, ?_⟩
  exact ((G2.out).setCell (by simp <;> omega) _).setCell (by simp <;> omega) _
set_option maxRecDepth 20000 in
set_option maxHeartbeats 1000000 in
theorem sline_t_f3 (a b n i x y : Int) (j j2 : Nat) (S : Value) (w : World) (X1 : Hid (w.heap[j]? = some (.cells #[.int .i64 a, .int .i64 b, S] 32))) (X2 : Hid (w.heap[j2]? = some (.cells #[.int .i64 n, .bool true] 53))) (q1 : -2000 ≤ i * (n + 1)) (q2 : i * (n + 1) ≤ 2000) (n1 : 2 ≤ n) (n2 : n ≤ 40) (h1 : okB a b = true) (hx : okB x y = true) (g1 : n1B a b (i * (n + 1)) = true) (g2 : nB a b n (i * (n + 1)) = true) (g3 : ln3 a b n (i * (n + 1)) x y = false) :
    Calls Try.prog 87 #[.pointer (some ⟨j, 0, none⟩), .pointer (some ⟨j2, 0, none⟩), fr x y, .int .i64 i] w fun e w' => e = .returned (.tuple #[fr 0 0, .int .i64 3]) ∧ Gr w w' := by
  have ht := hid (ok_whole (t := i * (n + 1)) (by omega) (by omega)); have hn := hid (ok_whole (t := n) (by omega) (by omega)); have hz := hid (show n ≠ 0 by omega)
  have h1 := hid h1
  have hx := hid hx; have g1 := hid g1; have g2 := hid g2; have g3 := hid g3
  go_enter Try.func87, Try.ntmps87
  obtain ⟨_, _, _⟩ := cells3 X1.out
  have _ := fz X1.out
  have _ := ltb X1.out
  obtain ⟨_, _⟩ := cells2 X2.out
  have _ := fz X2.out
  have _ := ltb X2.out
  go_wp2_with fail
  refine wp_reg1s #[.int .i64 0, .int .i64 0] 14 12 11 13 39 (by kernel_rfl) (by kernel_rfl) rfl rfl (by simp) rfl rfl (by decide) (fun _ _ => by kernel_rfl) (by kernel_rfl) ?_
  apply Exists.intro; apply Exists.intro
  refine ⟨fun wb hb => ?_, ?_⟩
  · obtain ⟨y0, y1, _, _⟩ := alloc2 (Gr.refl _)
    obtain ⟨_, _⟩ := hb.at2 y0
    obtain ⟨_, _⟩ := hb.at2 y1
    clear y0 y1
    obtain ⟨_, _, _⟩ := hb.at3 ((((Gr.refl _).al _).al _).keep X1.out)
    obtain ⟨_, _⟩ := hb.at2 ((((Gr.refl _).al _).al _).keep X2.out)
    simp only [headOps, List.contains, List.elem, Nat.reduceAdd, Nat.reduceBEq, reduceIte, Bool.false_eq_true, dumOp]
    repeat (first | go_big_quiet_step (first | (go_at_call 65; exact Calls.of_gr (swhole1 _ _)) | (go_at_call 115; exact Calls.of_gr (mulw_t a b _ _ h1.out ht.out g1.out))) | quiet_step (fail))
    exact wpQuiet_nil rfl
  refine ⟨rfl, ⟨rfl, by simp [Value.oneCell']⟩, fun w1 b1 hg1 _ xb1 => ?_⟩
  obtain ⟨x1_0, x1_1, hz1, g1⟩ := alloc2 hg1
  have x1_2 := g1.keep X1.out
  have x1_3 := g1.keep X2.out
  obtain ⟨_, _⟩ := cells2 x1_0
  have _ := fz x1_0
  have _ := ltb x1_0
  obtain ⟨_, _⟩ := cells2 x1_1
  have _ := fz x1_1
  have _ := ltb x1_1
  obtain ⟨_, _, _⟩ := cells3 x1_2
  have _ := fz x1_2
  have _ := ltb x1_2
  obtain ⟨_, _⟩ := cells2 x1_3
  have _ := fz x1_3
  have _ := ltb x1_3
  obtain ⟨_, _⟩ := cells2 xb1
  have _ := fz xb1
  have _ := ltb xb1
  have X1_0 := hid x1_0; clear x1_0
  have X1_1 := hid x1_1; clear x1_1
  have X1_2 := hid x1_2; clear x1_2
  have X1_3 := hid x1_3; clear x1_3
  have Xb1 := hid xb1; clear xb1
  have G1 := hid (g1)
  clear hg1 g1
  go_wp2_with fail
  refine wp_reg1s #[.int .i64 0, .int .i64 0] 12 10 13 11 53 (by kernel_rfl) (by kernel_rfl) rfl rfl (by simp) rfl rfl (by decide) (fun _ _ => by kernel_rfl) (by kernel_rfl) ?_
  apply Exists.intro; apply Exists.intro
  refine ⟨fun wb hb => ?_, ?_⟩
  · obtain ⟨_, _⟩ := hb.at2 X1_0.out
    obtain ⟨_, _⟩ := hb.at2 X1_1.out
    obtain ⟨_, _, _⟩ := hb.at3 X1_2.out
    obtain ⟨_, _⟩ := hb.at2 X1_3.out
    obtain ⟨_, _⟩ := hb.at2 Xb1.out
    simp only [headOps, List.contains, List.elem, Nat.reduceAdd, Nat.reduceBEq, reduceIte, Bool.false_eq_true, dumOp]
    repeat (first | go_big_quiet_step (first | (go_at_call 65; exact Calls.of_gr (swhole1 _ _)) | (go_at_call 81; exact Calls.of_gr (divw_t a b n _ _ hn.out hz.out g1.out g2.out))) | quiet_step (fail))
    exact wpQuiet_nil rfl
  refine ⟨rfl, ⟨rfl, by simp [Value.oneCell']⟩, fun w2 b2 hg2 _ xb2 => ?_⟩
  have x2_1 := hg2.keep X1_0.out
  have x2_2 := hg2.keep X1_1.out
  have x2_3 := hg2.keep X1_2.out
  have x2_4 := hg2.keep X1_3.out
  have x2_5 := hg2.keep Xb1.out
  obtain ⟨_, _⟩ := cells2 x2_1
  have _ := fz x2_1
  have _ := ltb x2_1
  obtain ⟨_, _⟩ := cells2 x2_2
  have _ := fz x2_2
  have _ := ltb x2_2
  obtain ⟨_, _, _⟩ := cells3 x2_3
  have _ := fz x2_3
  have _ := ltb x2_3
  obtain ⟨_, _⟩ := cells2 x2_4
  have _ := fz x2_4
  have _ := ltb x2_4
  obtain ⟨_, _⟩ := cells2 x2_5
  have _ := fz x2_5
  have _ := ltb x2_5
  obtain ⟨_, _⟩ := cells2 xb2
  have _ := fz xb2
  have _ := ltb xb2
  have X2_1 := hid x2_1; clear x2_1
  have X2_2 := hid x2_2; clear x2_2
  have X2_3 := hid x2_3; clear x2_3
  have X2_4 := hid x2_4; clear x2_4
  have X2_5 := hid x2_5; clear x2_5
  have Xb2 := hid xb2; clear xb2
  have G2 := hid (G1.out.trans hg2)
  clear hg2
  go_wp2_with fail
  refine (saddl_f a b n _ x y _ hx.out g2.out g3.out).mono ?_
  rintro e w3 ⟨rfl, hg3⟩
  have x3_1 := hg3.keep X2_1.out
  have x3_2 := hg3.keep X2_2.out
  have x3_3 := hg3.keep X2_3.out
  have x3_4 := hg3.keep X2_4.out
  have x3_5 := hg3.keep X2_5.out
  have x3_6 := hg3.keep Xb2.out
  obtain ⟨_, _⟩ := cells2 x3_1
  have _ := fz x3_1
  have _ := ltb x3_1
  obtain ⟨_, _⟩ := cells2 x3_2
  have _ := fz x3_2
  have _ := ltb x3_2
  obtain ⟨_, _, _⟩ := cells3 x3_3
  have _ := fz x3_3
  have _ := ltb x3_3
  obtain ⟨_, _⟩ := cells2 x3_4
  have _ := fz x3_4
  have _ := ltb x3_4
  obtain ⟨_, _⟩ := cells2 x3_5
  have _ := fz x3_5
  have _ := ltb x3_5
  obtain ⟨_, _⟩ := cells2 x3_6
  have _ := fz x3_6
  have _ := ltb x3_6
  have X3_1 := hid x3_1; clear x3_1
  have X3_2 := hid x3_2; clear x3_2
  have X3_3 := hid x3_3; clear x3_3
  have X3_4 := hid x3_4; clear x3_4
  have X3_5 := hid x3_5; clear x3_5
  have X3_6 := hid x3_6; clear x3_6
  have G3 := hid (G2.out.trans hg3)
  clear hg3
  go_wp2
  refine bodyPost_ret (v := .tuple #[fr 0 0, .int .i64 3]) (by simp [results, Try.results87, go_sem, *]) rfl ⟨rfl, ?_⟩
  exact ((G3.out).setCell (by simp <;> omega) _).setCell (by simp <;> omega) _
set_option maxRecDepth 20000 in
set_option maxHeartbeats 1000000 in
theorem sline_t_t (a b n i x y : Int) (j j2 : Nat) (S : Value) (w : World) (X1 : Hid (w.heap[j]? = some (.cells #[.int .i64 a, .int .i64 b, S] 32))) (X2 : Hid (w.heap[j2]? = some (.cells #[.int .i64 n, .bool true] 53))) (q1 : -2000 ≤ i * (n + 1)) (q2 : i * (n + 1) ≤ 2000) (n1 : 2 ≤ n) (n2 : n ≤ 40) (h1 : okB a b = true) (hx : okB x y = true) (g1 : n1B a b (i * (n + 1)) = true) (g2 : nB a b n (i * (n + 1)) = true) (g3 : ln3 a b n (i * (n + 1)) x y = true) :
    Calls Try.prog 87 #[.pointer (some ⟨j, 0, none⟩), .pointer (some ⟨j2, 0, none⟩), fr x y, .int .i64 i] w fun e w' => e = .returned (.tuple #[fr (lnP a b n (i * (n + 1)) x y) (lnQ a b n (i * (n + 1)) x y), .int .i64 0]) ∧ Gr w w' := by
  have ht := hid (ok_whole (t := i * (n + 1)) (by omega) (by omega)); have hn := hid (ok_whole (t := n) (by omega) (by omega)); have hz := hid (show n ≠ 0 by omega)
  have h1 := hid h1
  have hx := hid hx; have g1 := hid g1; have g2 := hid g2; have g3 := hid g3
  go_enter Try.func87, Try.ntmps87
  obtain ⟨_, _, _⟩ := cells3 X1.out
  have _ := fz X1.out
  have _ := ltb X1.out
  obtain ⟨_, _⟩ := cells2 X2.out
  have _ := fz X2.out
  have _ := ltb X2.out
  go_wp2_with fail
  refine wp_reg1s #[.int .i64 0, .int .i64 0] 14 12 11 13 39 (by kernel_rfl) (by kernel_rfl) rfl rfl (by simp) rfl rfl (by decide) (fun _ _ => by kernel_rfl) (by kernel_rfl) ?_
  apply Exists.intro; apply Exists.intro
  refine ⟨fun wb hb => ?_, ?_⟩
  · obtain ⟨y0, y1, _, _⟩ := alloc2 (Gr.refl _)
    obtain ⟨_, _⟩ := hb.at2 y0
    obtain ⟨_, _⟩ := hb.at2 y1
    clear y0 y1
    obtain ⟨_, _, _⟩ := hb.at3 ((((Gr.refl _).al _).al _).keep X1.out)
    obtain ⟨_, _⟩ := hb.at2 ((((Gr.refl _).al _).al _).keep X2.out)
    simp only [headOps, List.contains, List.elem, Nat.reduceAdd, Nat.reduceBEq, reduceIte, Bool.false_eq_true, dumOp]
    repeat (first | go_big_quiet_step (first | (go_at_call 65; exact Calls.of_gr (swhole1 _ _)) | (go_at_call 115; exact Calls.of_gr (mulw_t a b _ _ h1.out ht.out g1.out))) | quiet_step (fail))
    exact wpQuiet_nil rfl
  refine ⟨rfl, ⟨rfl, by simp [Value.oneCell']⟩, fun w1 b1 hg1 _ xb1 => ?_⟩
  obtain ⟨x1_0, x1_1, hz1, g1⟩ := alloc2 hg1
  have x1_2 := g1.keep X1.out
  have x1_3 := g1.keep X2.out
  obtain ⟨_, _⟩ := cells2 x1_0
  have _ := fz x1_0
  have _ := ltb x1_0
  obtain ⟨_, _⟩ := cells2 x1_1
  have _ := fz x1_1
  have _ := ltb x1_1
  obtain ⟨_, _, _⟩ := cells3 x1_2
  have _ := fz x1_2
  have _ := ltb x1_2
  obtain ⟨_, _⟩ := cells2 x1_3
  have _ := fz x1_3
  have _ := ltb x1_3
  obtain ⟨_, _⟩ := cells2 xb1
  have _ := fz xb1
  have _ := ltb xb1
  have X1_0 := hid x1_0; clear x1_0
  have X1_1 := hid x1_1; clear x1_1
  have X1_2 := hid x1_2; clear x1_2
  have X1_3 := hid x1_3; clear x1_3
  have Xb1 := hid xb1; clear xb1
  have G1 := hid (g1)
  clear hg1 g1
  go_wp2_with fail
  refine wp_reg1s #[.int .i64 0, .int .i64 0] 12 10 13 11 53 (by kernel_rfl) (by kernel_rfl) rfl rfl (by simp) rfl rfl (by decide) (fun _ _ => by kernel_rfl) (by kernel_rfl) ?_
  apply Exists.intro; apply Exists.intro
  refine ⟨fun wb hb => ?_, ?_⟩
  · obtain ⟨_, _⟩ := hb.at2 X1_0.out
    obtain ⟨_, _⟩ := hb.at2 X1_1.out
    obtain ⟨_, _, _⟩ := hb.at3 X1_2.out
    obtain ⟨_, _⟩ := hb.at2 X1_3.out
    obtain ⟨_, _⟩ := hb.at2 Xb1.out
    simp only [headOps, List.contains, List.elem, Nat.reduceAdd, Nat.reduceBEq, reduceIte, Bool.false_eq_true, dumOp]
    repeat (first | go_big_quiet_step (first | (go_at_call 65; exact Calls.of_gr (swhole1 _ _)) | (go_at_call 81; exact Calls.of_gr (divw_t a b n _ _ hn.out hz.out g1.out g2.out))) | quiet_step (fail))
    exact wpQuiet_nil rfl
  refine ⟨rfl, ⟨rfl, by simp [Value.oneCell']⟩, fun w2 b2 hg2 _ xb2 => ?_⟩
  have x2_1 := hg2.keep X1_0.out
  have x2_2 := hg2.keep X1_1.out
  have x2_3 := hg2.keep X1_2.out
  have x2_4 := hg2.keep X1_3.out
  have x2_5 := hg2.keep Xb1.out
  obtain ⟨_, _⟩ := cells2 x2_1
  have _ := fz x2_1
  have _ := ltb x2_1
  obtain ⟨_, _⟩ := cells2 x2_2
  have _ := fz x2_2
  have _ := ltb x2_2
  obtain ⟨_, _, _⟩ := cells3 x2_3
  have _ := fz x2_3
  have _ := ltb x2_3
  obtain ⟨_, _⟩ := cells2 x2_4
  have _ := fz x2_4
  have _ := ltb x2_4
  obtain ⟨_, _⟩ := cells2 x2_5
  have _ := fz x2_5
  have _ := ltb x2_5
  obtain ⟨_, _⟩ := cells2 xb2
  have _ := fz xb2
  have _ := ltb xb2
  have X2_1 := hid x2_1; clear x2_1
  have X2_2 := hid x2_2; clear x2_2
  have X2_3 := hid x2_3; clear x2_3
  have X2_4 := hid x2_4; clear x2_4
  have X2_5 := hid x2_5; clear x2_5
  have Xb2 := hid xb2; clear xb2
  have G2 := hid (G1.out.trans hg2)
  clear hg2
  go_wp2_with fail
  refine (saddl_t a b n _ x y _ hx.out g2.out g3.out).mono ?_
  rintro e w3 ⟨rfl, hg3⟩
  have x3_1 := hg3.keep X2_1.out
  have x3_2 := hg3.keep X2_2.out
  have x3_3 := hg3.keep X2_3.out
  have x3_4 := hg3.keep X2_4.out
  have x3_5 := hg3.keep X2_5.out
  have x3_6 := hg3.keep Xb2.out
  obtain ⟨_, _⟩ := cells2 x3_1
  have _ := fz x3_1
  have _ := ltb x3_1
  obtain ⟨_, _⟩ := cells2 x3_2
  have _ := fz x3_2
  have _ := ltb x3_2
  obtain ⟨_, _, _⟩ := cells3 x3_3
  have _ := fz x3_3
  have _ := ltb x3_3
  obtain ⟨_, _⟩ := cells2 x3_4
  have _ := fz x3_4
  have _ := ltb x3_4
  obtain ⟨_, _⟩ := cells2 x3_5
  have _ := fz x3_5
  have _ := ltb x3_5
  obtain ⟨_, _⟩ := cells2 x3_6
  have _ := fz x3_6
  have _ := ltb x3_6
  have X3_1 := hid x3_1; clear x3_1
  have X3_2 := hid x3_2; clear x3_2
  have X3_3 := hid x3_3; clear x3_3
  have X3_4 := hid x3_4; clear x3_4
  have X3_5 := hid x3_5; clear x3_5
  have X3_6 := hid x3_6; clear x3_6
  have G3 := hid (G2.out.trans hg3)
  clear hg3
  go_wp2
  refine bodyPost_ret (v := .tuple #[fr (lnP a b n (i * (n + 1)) x y) (lnQ a b n (i * (n + 1)) x y), .int .i64 0]) (by simp [results, Try.results87, go_sem, *]) rfl ⟨rfl, ?_⟩
  exact ((G3.out).setCell (by simp <;> omega) _).setCell (by simp <;> omega) _
/-- What is told of a fraction that is calculated: by the program .. -/
def ResI (B : Bool) (P Q : Int) (w : World) (e : Ending) (w' : World) : Prop := (B = true → e = .returned (fr P Q)) ∧ (B = false → ∃ x y, e = .panicked [{ v := .iface 125 (fr x y), recovered := false }]) ∧ Gr w w'
/-- .. and by the reference. -/
def ResS (B : Bool) (P Q : Int) (w : World) (e : Ending) (w' : World) : Prop := e = .returned (.tuple #[fr (if B then P else 0) (if B then Q else 0), .int .i64 (if B then 0 else 3)]) ∧ Gr w w'
theorem stp_bd {n i : Int} {r : Bool} (n1 : 2 ≤ n) (n2 : n ≤ 40) (i1 : 0 ≤ i) (i2 : i ≤ n) : -2000 ≤ stp n r i ∧ stp n r i ≤ 2000 := by
  unfold stp
  have h0 : 0 ≤ i * (n - 1) := Int.mul_nonneg i1 (by omega)
  have h1 : 0 ≤ i * (n + 1) := Int.mul_nonneg i1 (by omega)
  have h2 : i * (n - 1) ≤ 40 * (n - 1) := Int.mul_le_mul_of_nonneg_right (by omega) (by omega)
  have h3 : i * (n + 1) ≤ 40 * (n + 1) := Int.mul_le_mul_of_nonneg_right (by omega) (by omega)
  split <;> omega
theorem iline (a b n i x y : Int) (r : Bool) (A : Option Addr) (m c : Nat) (w : World) (n1 : 2 ≤ n) (n2 : n ≤ 40) (i1 : 0 ≤ i) (i2 : i ≤ n) (h1 : okB a b = true) (hx : okB x y = true) :
    Calls Try.prog 89 #[vn n r, scl a b A m c, fr x y, .int .i64 i] w (ResI (lnB a b n (stp n r i) x y) (lnP a b n (stp n r i) x y) (lnQ a b n (stp n r i) x y) w) := by
  obtain ⟨q1, q2⟩ := stp_bd (r := r) n1 n2 i1 i2
  unfold lnB
  cases g1 : n1B a b (stp n r i) with
  | false =>
    refine Calls.mono (R := fun e w' => (∃ x y, e = .panicked [{ v := .iface 125 (fr x y), recovered := false }]) ∧ Gr w w') ?_ fun e w' ⟨h, hg⟩ => ⟨fun h => (by cases h), fun _ => h, hg⟩
    cases r
    · exact iline_f_b1 a b n i x y A m c w q1 q2 n1 n2 h1 g1
    · exact iline_t_b1 a b n i x y A m c w q1 q2 n1 n2 h1 g1
  | true =>
    cases g2 : nB a b n (stp n r i) with
    | false =>
      refine Calls.mono (R := fun e w' => (∃ x y, e = .panicked [{ v := .iface 125 (fr x y), recovered := false }]) ∧ Gr w w') ?_ fun e w' ⟨h, hg⟩ => ⟨fun h => (by cases h), fun _ => h, hg⟩
      cases r
      · exact iline_f_b2 a b n i x y A m c w q1 q2 n1 n2 h1 g1 g2
      · exact iline_t_b2 a b n i x y A m c w q1 q2 n1 n2 h1 g1 g2
    | true =>
      cases g3 : ln3 a b n (stp n r i) x y with
      | false =>
        refine Calls.mono (R := fun e w' => (∃ x y, e = .panicked [{ v := .iface 125 (fr x y), recovered := false }]) ∧ Gr w w') ?_ fun e w' ⟨h, hg⟩ => ⟨fun h => (by cases h), fun _ => h, hg⟩
        cases r
        · exact iline_f_b3 a b n i x y A m c w q1 q2 n1 n2 h1 hx g1 g2 g3
        · exact iline_t_b3 a b n i x y A m c w q1 q2 n1 n2 h1 hx g1 g2 g3
      | true =>
        refine Calls.mono (R := fun e w' => e = .returned (fr (lnP a b n (stp n r i) x y) (lnQ a b n (stp n r i) x y)) ∧ Gr w w') ?_ fun e w' ⟨h, hg⟩ => ⟨fun _ => h, fun h => (by cases h), hg⟩
        cases r
        · exact iline_f_ok a b n i x y A m c w q1 q2 n1 n2 h1 hx g1 g2 g3
        · exact iline_t_ok a b n i x y A m c w q1 q2 n1 n2 h1 hx g1 g2 g3
theorem sline (a b n i x y : Int) (r : Bool) (j j2 : Nat) (S : Value) (w : World) (X1 : Hid (w.heap[j]? = some (.cells #[.int .i64 a, .int .i64 b, S] 32))) (X2 : Hid (w.heap[j2]? = some (.cells #[.int .i64 n, .bool r] 53))) (n1 : 2 ≤ n) (n2 : n ≤ 40) (i1 : 0 ≤ i) (i2 : i ≤ n) (h1 : okB a b = true) (hx : okB x y = true) :
    Calls Try.prog 87 #[.pointer (some ⟨j, 0, none⟩), .pointer (some ⟨j2, 0, none⟩), fr x y, .int .i64 i] w (ResS (lnB a b n (stp n r i) x y) (lnP a b n (stp n r i) x y) (lnQ a b n (stp n r i) x y) w) := by
  obtain ⟨q1, q2⟩ := stp_bd (r := r) n1 n2 i1 i2
  unfold lnB ResS
  cases g1 : n1B a b (stp n r i) with
  | false =>
    cases r
    · exact sline_f_f1 a b n i x y j j2 S w X1 X2 q1 q2 n1 n2 h1 g1
    · exact sline_t_f1 a b n i x y j j2 S w X1 X2 q1 q2 n1 n2 h1 g1
  | true =>
    cases g2 : nB a b n (stp n r i) with
    | false =>
      cases r
      · exact sline_f_f2 a b n i x y j j2 S w X1 X2 q1 q2 n1 n2 h1 g1 g2
      · exact sline_t_f2 a b n i x y j j2 S w X1 X2 q1 q2 n1 n2 h1 g1 g2
    | true =>
      cases g3 : ln3 a b n (stp n r i) x y with
      | false =>
        cases r
        · exact sline_f_f3 a b n i x y j j2 S w X1 X2 q1 q2 n1 n2 h1 hx g1 g2 g3
        · exact sline_t_f3 a b n i x y j j2 S w X1 X2 q1 q2 n1 n2 h1 hx g1 g2 g3
      | true =>
        cases r
        · exact sline_f_t a b n i x y j j2 S w X1 X2 q1 q2 n1 n2 h1 hx g1 g2 g3
        · exact sline_t_t a b n i x y j j2 S w X1 X2 q1 q2 n1 n2 h1 hx g1 g2 g3
end Go.Proofs.Ytfkmlgndggnhaaa
namespace Go.Proofs.Ytfkmlgndggnhaaa
open Go.RowKit Go.Sort

/-- Are a scale, a vernier and a place valid? -/
def askB (a b : Int) (xs : List (Int × Int)) (n x y : Int) : Bool := sclB a b xs && (inB n 2 40 && okB x y)
theorem vernT (n : Int) (r : Bool) (w : World) (k : Nat) (X1 : Hid (w.heap[k]? = some (.cells #[.int .i64 n, .bool r] 53))) (h : inB n 2 40 = true) : Calls Try.prog 80 #[.pointer (some ⟨k, 0, none⟩)] w fun e w' => e = .returned (.bool true) ∧ Gr w w' :=
  (sVernAt n r w k X1).mono fun _ _ ⟨he, hg⟩ => ⟨by rw [he, h], hg⟩
theorem vernF (n : Int) (r : Bool) (w : World) (k : Nat) (X1 : Hid (w.heap[k]? = some (.cells #[.int .i64 n, .bool r] 53))) (h : inB n 2 40 = false) : Calls Try.prog 80 #[.pointer (some ⟨k, 0, none⟩)] w fun e w' => e = .returned (.bool false) ∧ Gr w w' :=
  (sVernAt n r w k X1).mono fun _ _ ⟨he, hg⟩ => ⟨by rw [he, h], hg⟩
theorem iVernT (n : Int) (r : Bool) (w : World) (h : inB n 2 40 = true) : Calls Try.prog 82 #[vn n r] w fun e w' => e = .returned (.bool true) ∧ Gr w w' :=
  (iValidVernier n r w).mono fun _ _ ⟨he, hg⟩ => ⟨by rw [he, h], hg⟩
theorem iVernF (n : Int) (r : Bool) (w : World) (h : inB n 2 40 = false) : Calls Try.prog 82 #[vn n r] w fun e w' => e = .returned (.bool false) ∧ Gr w w' :=
  (iValidVernier n r w).mono fun _ _ ⟨he, hg⟩ => ⟨by rw [he, h], hg⟩

set_option maxRecDepth 20000 in
set_option maxHeartbeats 400000 in
theorem sask_f0 (a b n x y : Int) (r : Bool) (A : Option Addr) (c : Nat) (xs : List (Int × Int)) (w : World) (j j2 : Nat) (X1 : Hid (w.heap[j]? = some (.cells #[.int .i64 a, .int .i64 b, .slice A xs.length c] 32))) (X2 : Hid (w.heap[j2]? = some (.cells #[.int .i64 n, .bool r] 53))) (X : Hid (RdF w A xs)) (hn : xs.length ≤ 1048576) (h : sclB a b xs = false) :
    Calls Try.prog 86 #[.pointer (some ⟨j, 0, none⟩), .pointer (some ⟨j2, 0, none⟩), fr x y] w fun e w' => e = .returned (.int .i64 1) ∧ Gr w w' := by
  have h := hid h
  go_enter Try.func86, Try.ntmps86
  obtain ⟨_, _, _⟩ := cells3 X1.out
  have _ := fz X1.out
  have _ := ltb X1.out
  obtain ⟨_, _⟩ := cells2 X2.out
  have _ := fz X2.out
  have _ := ltb X2.out
  go_wp2_with fail
  refine (sScF a b A c j xs _ (hid (((Gr.refl _).al _).keep X1.out)) (hid (X.out.keep ((Gr.refl w).al _))) hn h.out).mono ?_
  rintro e w1 ⟨rfl, hg1⟩
  obtain ⟨x1_0, hz1, g1⟩ := alloc1 hg1
  have x1_1 := g1.keep X1.out
  have x1_2 := g1.keep X2.out
  obtain ⟨_, _⟩ := cells2 x1_0
  have _ := fz x1_0
  have _ := ltb x1_0
  obtain ⟨_, _, _⟩ := cells3 x1_1
  have _ := fz x1_1
  have _ := ltb x1_1
  obtain ⟨_, _⟩ := cells2 x1_2
  have _ := fz x1_2
  have _ := ltb x1_2
  have X1_0 := hid x1_0; clear x1_0
  have X1_1 := hid x1_1; clear x1_1
  have X1_2 := hid x1_2; clear x1_2
  have G1 := hid (g1)
  clear hg1 g1
  go_wp2
  go_ret
  exact ⟨rfl, G1.out⟩
set_option maxRecDepth 20000 in
set_option maxHeartbeats 400000 in
theorem sask_f1 (a b n x y : Int) (r : Bool) (A : Option Addr) (c : Nat) (xs : List (Int × Int)) (w : World) (j j2 : Nat) (X1 : Hid (w.heap[j]? = some (.cells #[.int .i64 a, .int .i64 b, .slice A xs.length c] 32))) (X2 : Hid (w.heap[j2]? = some (.cells #[.int .i64 n, .bool r] 53))) (X : Hid (RdF w A xs)) (hn : xs.length ≤ 1048576) (h : sclB a b xs = true) (hv : inB n 2 40 = false) :
    Calls Try.prog 86 #[.pointer (some ⟨j, 0, none⟩), .pointer (some ⟨j2, 0, none⟩), fr x y] w fun e w' => e = .returned (.int .i64 1) ∧ Gr w w' := by
  have h := hid h
  have hv := hid hv
  go_enter Try.func86, Try.ntmps86
  obtain ⟨_, _, _⟩ := cells3 X1.out
  have _ := fz X1.out
  have _ := ltb X1.out
  obtain ⟨_, _⟩ := cells2 X2.out
  have _ := fz X2.out
  have _ := ltb X2.out
  go_wp2_with fail
  refine (sScT a b A c j xs _ (hid (((Gr.refl _).al _).keep X1.out)) (hid (X.out.keep ((Gr.refl w).al _))) hn h.out).mono ?_
  rintro e w1 ⟨rfl, hg1⟩
  obtain ⟨x1_0, hz1, g1⟩ := alloc1 hg1
  have x1_1 := g1.keep X1.out
  have x1_2 := g1.keep X2.out
  obtain ⟨_, _⟩ := cells2 x1_0
  have _ := fz x1_0
  have _ := ltb x1_0
  obtain ⟨_, _, _⟩ := cells3 x1_1
  have _ := fz x1_1
  have _ := ltb x1_1
  obtain ⟨_, _⟩ := cells2 x1_2
  have _ := fz x1_2
  have _ := ltb x1_2
  have X1_0 := hid x1_0; clear x1_0
  have X1_1 := hid x1_1; clear x1_1
  have X1_2 := hid x1_2; clear x1_2
  have G1 := hid (g1)
  clear hg1 g1
  go_wp2_with fail
  refine (vernF n r _ j2 (hid X1_2.out) hv.out).mono ?_
  rintro e w2 ⟨rfl, hg2⟩
  have x2_1 := hg2.keep X1_0.out
  have x2_2 := hg2.keep X1_1.out
  have x2_3 := hg2.keep X1_2.out
  obtain ⟨_, _⟩ := cells2 x2_1
  have _ := fz x2_1
  have _ := ltb x2_1
  obtain ⟨_, _, _⟩ := cells3 x2_2
  have _ := fz x2_2
  have _ := ltb x2_2
  obtain ⟨_, _⟩ := cells2 x2_3
  have _ := fz x2_3
  have _ := ltb x2_3
  have X2_1 := hid x2_1; clear x2_1
  have X2_2 := hid x2_2; clear x2_2
  have X2_3 := hid x2_3; clear x2_3
  have G2 := hid (G1.out.trans hg2)
  clear hg2
  go_wp2
  go_ret
  exact ⟨rfl, G2.out⟩
set_option maxRecDepth 20000 in
set_option maxHeartbeats 400000 in
theorem sask_f2 (a b n x y : Int) (r : Bool) (A : Option Addr) (c : Nat) (xs : List (Int × Int)) (w : World) (j j2 : Nat) (X1 : Hid (w.heap[j]? = some (.cells #[.int .i64 a, .int .i64 b, .slice A xs.length c] 32))) (X2 : Hid (w.heap[j2]? = some (.cells #[.int .i64 n, .bool r] 53))) (X : Hid (RdF w A xs)) (hn : xs.length ≤ 1048576) (h : sclB a b xs = true) (hv : inB n 2 40 = true) (hx : okB x y = false) :
    Calls Try.prog 86 #[.pointer (some ⟨j, 0, none⟩), .pointer (some ⟨j2, 0, none⟩), fr x y] w fun e w' => e = .returned (.int .i64 1) ∧ Gr w w' := by
  have h := hid h
  have hv := hid hv
  have hx := hid hx
  go_enter Try.func86, Try.ntmps86
  obtain ⟨_, _, _⟩ := cells3 X1.out
  have _ := fz X1.out
  have _ := ltb X1.out
  obtain ⟨_, _⟩ := cells2 X2.out
  have _ := fz X2.out
  have _ := ltb X2.out
  go_wp2_with fail
  refine (sScT a b A c j xs _ (hid (((Gr.refl _).al _).keep X1.out)) (hid (X.out.keep ((Gr.refl w).al _))) hn h.out).mono ?_
  rintro e w1 ⟨rfl, hg1⟩
  obtain ⟨x1_0, hz1, g1⟩ := alloc1 hg1
  have x1_1 := g1.keep X1.out
  have x1_2 := g1.keep X2.out
  obtain ⟨_, _⟩ := cells2 x1_0
  have _ := fz x1_0
  have _ := ltb x1_0
  obtain ⟨_, _, _⟩ := cells3 x1_1
  have _ := fz x1_1
  have _ := ltb x1_1
  obtain ⟨_, _⟩ := cells2 x1_2
  have _ := fz x1_2
  have _ := ltb x1_2
  have X1_0 := hid x1_0; clear x1_0
  have X1_1 := hid x1_1; clear x1_1
  have X1_2 := hid x1_2; clear x1_2
  have G1 := hid (g1)
  clear hg1 g1
  go_wp2_with fail
  refine (vernT n r _ j2 (hid X1_2.out) hv.out).mono ?_
  rintro e w2 ⟨rfl, hg2⟩
  have x2_1 := hg2.keep X1_0.out
  have x2_2 := hg2.keep X1_1.out
  have x2_3 := hg2.keep X1_2.out
  obtain ⟨_, _⟩ := cells2 x2_1
  have _ := fz x2_1
  have _ := ltb x2_1
  obtain ⟨_, _, _⟩ := cells3 x2_2
  have _ := fz x2_2
  have _ := ltb x2_2
  obtain ⟨_, _⟩ := cells2 x2_3
  have _ := fz x2_3
  have _ := ltb x2_3
  have X2_1 := hid x2_1; clear x2_1
  have X2_2 := hid x2_2; clear x2_2
  have X2_3 := hid x2_3; clear x2_3
  have G2 := hid (G1.out.trans hg2)
  clear hg2
  go_wp2_with fail
  refine (sok_f _ _ _ hx.out).mono ?_
  rintro e w3 ⟨rfl, hg3⟩
  have x3_1 := hg3.keep X2_1.out
  have x3_2 := hg3.keep X2_2.out
  have x3_3 := hg3.keep X2_3.out
  obtain ⟨_, _⟩ := cells2 x3_1
  have _ := fz x3_1
  have _ := ltb x3_1
  obtain ⟨_, _, _⟩ := cells3 x3_2
  have _ := fz x3_2
  have _ := ltb x3_2
  obtain ⟨_, _⟩ := cells2 x3_3
  have _ := fz x3_3
  have _ := ltb x3_3
  have X3_1 := hid x3_1; clear x3_1
  have X3_2 := hid x3_2; clear x3_2
  have X3_3 := hid x3_3; clear x3_3
  have G3 := hid (G2.out.trans hg3)
  clear hg3
  go_wp2
  go_ret
  exact ⟨rfl, G3.out⟩
set_option maxRecDepth 20000 in
set_option maxHeartbeats 400000 in
theorem sask_t (a b n x y : Int) (r : Bool) (A : Option Addr) (c : Nat) (xs : List (Int × Int)) (w : World) (j j2 : Nat) (X1 : Hid (w.heap[j]? = some (.cells #[.int .i64 a, .int .i64 b, .slice A xs.length c] 32))) (X2 : Hid (w.heap[j2]? = some (.cells #[.int .i64 n, .bool r] 53))) (X : Hid (RdF w A xs)) (hn : xs.length ≤ 1048576) (h : sclB a b xs = true) (hv : inB n 2 40 = true) (hx : okB x y = true) :
    Calls Try.prog 86 #[.pointer (some ⟨j, 0, none⟩), .pointer (some ⟨j2, 0, none⟩), fr x y] w fun e w' => e = .returned (.int .i64 0) ∧ Gr w w' := by
  have h := hid h
  have hv := hid hv
  have hx := hid hx
  go_enter Try.func86, Try.ntmps86
  obtain ⟨_, _, _⟩ := cells3 X1.out
  have _ := fz X1.out
  have _ := ltb X1.out
  obtain ⟨_, _⟩ := cells2 X2.out
  have _ := fz X2.out
  have _ := ltb X2.out
  go_wp2_with fail
  refine (sScT a b A c j xs _ (hid (((Gr.refl _).al _).keep X1.out)) (hid (X.out.keep ((Gr.refl w).al _))) hn h.out).mono ?_
  rintro e w1 ⟨rfl, hg1⟩
  obtain ⟨x1_0, hz1, g1⟩ := alloc1 hg1
  have x1_1 := g1.keep X1.out
  have x1_2 := g1.keep X2.out
  obtain ⟨_, _⟩ := cells2 x1_0
  have _ := fz x1_0
  have _ := ltb x1_0
  obtain ⟨_, _, _⟩ := cells3 x1_1
  have _ := fz x1_1
  have _ := ltb x1_1
  obtain ⟨_, _⟩ := cells2 x1_2
  have _ := fz x1_2
  have _ := ltb x1_2
  have X1_0 := hid x1_0; clear x1_0
  have X1_1 := hid x1_1; clear x1_1
  have X1_2 := hid x1_2; clear x1_2
  have G1 := hid (g1)
  clear hg1 g1
  go_wp2_with fail
  refine (vernT n r _ j2 (hid X1_2.out) hv.out).mono ?_
  rintro e w2 ⟨rfl, hg2⟩
  have x2_1 := hg2.keep X1_0.out
  have x2_2 := hg2.keep X1_1.out
  have x2_3 := hg2.keep X1_2.out
  obtain ⟨_, _⟩ := cells2 x2_1
  have _ := fz x2_1
  have _ := ltb x2_1
  obtain ⟨_, _, _⟩ := cells3 x2_2
  have _ := fz x2_2
  have _ := ltb x2_2
  obtain ⟨_, _⟩ := cells2 x2_3
  have _ := fz x2_3
  have _ := ltb x2_3
  have X2_1 := hid x2_1; clear x2_1
  have X2_2 := hid x2_2; clear x2_2
  have X2_3 := hid x2_3; clear x2_3
  have G2 := hid (G1.out.trans hg2)
  clear hg2
  go_wp2_with fail
  refine (sok_t _ _ _ hx.out).mono ?_
  rintro e w3 ⟨rfl, hg3⟩
  have x3_1 := hg3.keep X2_1.out
  have x3_2 := hg3.keep X2_2.out
  have x3_3 := hg3.keep X2_3.out
  obtain ⟨_, _⟩ := cells2 x3_1
  have _ := fz x3_1
  have _ := ltb x3_1
  obtain ⟨_, _, _⟩ := cells3 x3_2
  have _ := fz x3_2
  have _ := ltb x3_2
  obtain ⟨_, _⟩ := cells2 x3_3
  have _ := fz x3_3
  have _ := ltb x3_3
  have X3_1 := hid x3_1; clear x3_1
  have X3_2 := hid x3_2; clear x3_2
  have X3_3 := hid x3_3; clear x3_3
  have G3 := hid (G2.out.trans hg3)
  clear hg3
  go_wp2
  go_ret
  exact ⟨rfl, G3.out⟩
theorem sask (a b n x y : Int) (r : Bool) (A : Option Addr) (c : Nat) (xs : List (Int × Int)) (w : World) (j j2 : Nat) (X1 : Hid (w.heap[j]? = some (.cells #[.int .i64 a, .int .i64 b, .slice A xs.length c] 32))) (X2 : Hid (w.heap[j2]? = some (.cells #[.int .i64 n, .bool r] 53))) (X : Hid (RdF w A xs)) (hn : xs.length ≤ 1048576) :
    Calls Try.prog 86 #[.pointer (some ⟨j, 0, none⟩), .pointer (some ⟨j2, 0, none⟩), fr x y] w fun e w' => e = .returned (.int .i64 (if askB a b xs n x y then 0 else 1)) ∧ Gr w w' := by
  unfold askB
  cases h : sclB a b xs with
  | false => exact sask_f0 a b n x y r A c xs w j j2 X1 X2 X hn h
  | true =>
    cases hv : inB n 2 40 with
    | false => exact sask_f1 a b n x y r A c xs w j j2 X1 X2 X hn h hv
    | true =>
      cases hx : okB x y with
      | false => exact sask_f2 a b n x y r A c xs w j j2 X1 X2 X hn h hv hx
      | true => exact sask_t a b n x y r A c xs w j j2 X1 X2 X hn h hv hx
theorem ask_of {a b : Int} {xs : List (Int × Int)} {n x y : Int} (h : askB a b xs n x y = true) : sclB a b xs = true ∧ inB n 2 40 = true ∧ okB x y = true := by
  unfold askB at h
  simpa using h
theorem saskT (a b n x y : Int) (r : Bool) (A : Option Addr) (c : Nat) (xs : List (Int × Int)) (w : World) (j j2 : Nat) (X1 : Hid (w.heap[j]? = some (.cells #[.int .i64 a, .int .i64 b, .slice A xs.length c] 32))) (X2 : Hid (w.heap[j2]? = some (.cells #[.int .i64 n, .bool r] 53))) (X : Hid (RdF w A xs)) (hn : xs.length ≤ 1048576) (h : askB a b xs n x y = true) :
    Calls Try.prog 86 #[.pointer (some ⟨j, 0, none⟩), .pointer (some ⟨j2, 0, none⟩), fr x y] w fun e w' => e = .returned (.int .i64 0) ∧ Gr w w' :=
  (sask a b n x y r A c xs w j j2 X1 X2 X hn).mono fun _ _ ⟨he, hg⟩ => ⟨by rw [he, h]; rfl, hg⟩
theorem saskF (a b n x y : Int) (r : Bool) (A : Option Addr) (c : Nat) (xs : List (Int × Int)) (w : World) (j j2 : Nat) (X1 : Hid (w.heap[j]? = some (.cells #[.int .i64 a, .int .i64 b, .slice A xs.length c] 32))) (X2 : Hid (w.heap[j2]? = some (.cells #[.int .i64 n, .bool r] 53))) (X : Hid (RdF w A xs)) (hn : xs.length ≤ 1048576) (h : askB a b xs n x y = false) :
    Calls Try.prog 86 #[.pointer (some ⟨j, 0, none⟩), .pointer (some ⟨j2, 0, none⟩), fr x y] w fun e w' => e = .returned (.int .i64 1) ∧ Gr w w' :=
  (sask a b n x y r A c xs w j j2 X1 X2 X hn).mono fun _ _ ⟨he, hg⟩ => ⟨by rw [he, h]; rfl, hg⟩

set_option maxRecDepth 20000 in
set_option maxHeartbeats 400000 in
theorem sLineAt_0 (i : Int) (a b n x y : Int) (r : Bool) (A : Option Addr) (c : Nat) (xs : List (Int × Int)) (w : World) (X : Hid (RdF w A xs)) (hn : xs.length ≤ 1048576) (h : askB a b xs n x y = false) :
    Calls Try.prog 37 #[scl a b A xs.length c, vn n r, fr x y, .int .i64 i] w fun e w' => e = .returned (.tuple #[fr 0 0, .int .i64 1]) ∧ Gr w w' := by
  have h' := hid h
  clear h
  go_enter Try.func37, Try.ntmps37
  go_wp2_with fail
  refine (saskF a b n x y r A c xs _ _ _ (hid (alloc4 (Gr.refl _)).1) (hid (alloc4 (Gr.refl _)).2.1) (hid (X.out.keep (((((Gr.refl w).al _).al _).al _).al _))) hn h'.out).mono ?_
  rintro e w1 ⟨rfl, hg1⟩
  obtain ⟨x1_0, x1_1, x1_2, x1_3, hz1, g1⟩ := alloc4 hg1
  obtain ⟨_, _, _⟩ := cells3 x1_0
  have _ := fz x1_0
  have _ := ltb x1_0
  obtain ⟨_, _⟩ := cells2 x1_1
  have _ := fz x1_1
  have _ := ltb x1_1
  obtain ⟨_, _⟩ := cells2 x1_2
  have _ := fz x1_2
  have _ := ltb x1_2
  obtain ⟨_, _⟩ := cells2 x1_3
  have _ := fz x1_3
  have _ := ltb x1_3
  have X1_0 := hid x1_0; clear x1_0
  have X1_1 := hid x1_1; clear x1_1
  have X1_2 := hid x1_2; clear x1_2
  have X1_3 := hid x1_3; clear x1_3
  have G1 := hid (g1)
  clear hg1 g1
  go_wp2
  refine bodyPost_ret (v := .tuple #[fr 0 0, .int .i64 1]) (by simp [results, Try.results37, go_sem, *]) rfl ⟨rfl, ?_⟩
  exact ((G1.out).setCell (by simp <;> omega) _).setCell (by simp <;> omega) _
set_option maxRecDepth 20000 in
set_option maxHeartbeats 400000 in
theorem sLineAt_1 (i : Int) (a b n x y : Int) (r : Bool) (A : Option Addr) (c : Nat) (xs : List (Int × Int)) (w : World) (X : Hid (RdF w A xs)) (hn : xs.length ≤ 1048576) (h : askB a b xs n x y = true) (hi : inB i 0 (n - 1) = false) :
    Calls Try.prog 37 #[scl a b A xs.length c, vn n r, fr x y, .int .i64 i] w fun e w' => e = .returned (.tuple #[fr 0 0, .int .i64 2]) ∧ Gr w w' := by
  have h' := hid h
  have hd := in_bd (ask_of h).2.1
  have hi := hid hi
  clear h
  go_enter Try.func37, Try.ntmps37
  go_wp2_with fail
  refine (saskT a b n x y r A c xs _ _ _ (hid (alloc4 (Gr.refl _)).1) (hid (alloc4 (Gr.refl _)).2.1) (hid (X.out.keep (((((Gr.refl w).al _).al _).al _).al _))) hn h'.out).mono ?_
  rintro e w1 ⟨rfl, hg1⟩
  obtain ⟨x1_0, x1_1, x1_2, x1_3, hz1, g1⟩ := alloc4 hg1
  obtain ⟨_, _, _⟩ := cells3 x1_0
  have _ := fz x1_0
  have _ := ltb x1_0
  obtain ⟨_, _⟩ := cells2 x1_1
  have _ := fz x1_1
  have _ := ltb x1_1
  obtain ⟨_, _⟩ := cells2 x1_2
  have _ := fz x1_2
  have _ := ltb x1_2
  obtain ⟨_, _⟩ := cells2 x1_3
  have _ := fz x1_3
  have _ := ltb x1_3
  have X1_0 := hid x1_0; clear x1_0
  have X1_1 := hid x1_1; clear x1_1
  have X1_2 := hid x1_2; clear x1_2
  have X1_3 := hid x1_3; clear x1_3
  have G1 := hid (g1)
  clear hg1 g1
  go_wp2_with fail
  refine (in_f _ _ _ _ hi.out).mono ?_
  rintro e w2 ⟨rfl, hg2⟩
  have x2_1 := hg2.keep X1_0.out
  have x2_2 := hg2.keep X1_1.out
  have x2_3 := hg2.keep X1_2.out
  have x2_4 := hg2.keep X1_3.out
  obtain ⟨_, _, _⟩ := cells3 x2_1
  have _ := fz x2_1
  have _ := ltb x2_1
  obtain ⟨_, _⟩ := cells2 x2_2
  have _ := fz x2_2
  have _ := ltb x2_2
  obtain ⟨_, _⟩ := cells2 x2_3
  have _ := fz x2_3
  have _ := ltb x2_3
  obtain ⟨_, _⟩ := cells2 x2_4
  have _ := fz x2_4
  have _ := ltb x2_4
  have X2_1 := hid x2_1; clear x2_1
  have X2_2 := hid x2_2; clear x2_2
  have X2_3 := hid x2_3; clear x2_3
  have X2_4 := hid x2_4; clear x2_4
  have G2 := hid (G1.out.trans hg2)
  clear hg2
  go_wp2
  refine bodyPost_ret (v := .tuple #[fr 0 0, .int .i64 2]) (by simp [results, Try.results37, go_sem, *]) rfl ⟨rfl, ?_⟩
  exact ((G2.out).setCell (by simp <;> omega) _).setCell (by simp <;> omega) _
set_option maxRecDepth 20000 in
set_option maxHeartbeats 400000 in
theorem sLineAt_2 (i P Q C : Int) (a b n x y : Int) (r : Bool) (A : Option Addr) (c : Nat) (xs : List (Int × Int)) (w : World) (X : Hid (RdF w A xs)) (hn : xs.length ≤ 1048576) (h : askB a b xs n x y = true) (hi : inB i 0 (n - 1) = true) (hl : ∀ (w : World) (j j2 : Nat), Hid (w.heap[j]? = some (.cells #[.int .i64 a, .int .i64 b, .slice A xs.length c] 32)) → Hid (w.heap[j2]? = some (.cells #[.int .i64 n, .bool r] 53)) → Hid (RdF w A xs) → Calls Try.prog 87 #[.pointer (some ⟨j, 0, none⟩), .pointer (some ⟨j2, 0, none⟩), fr x y, .int .i64 i] w fun e w' => e = .returned (.tuple #[fr P Q, .int .i64 C]) ∧ Gr w w') :
    Calls Try.prog 37 #[scl a b A xs.length c, vn n r, fr x y, .int .i64 i] w fun e w' => e = .returned (.tuple #[fr P Q, .int .i64 C]) ∧ Gr w w' := by
  have h' := hid h
  have hd := in_bd (ask_of h).2.1
  have hi := hid hi
  have HL := hid hl; clear hl
  clear h
  go_enter Try.func37, Try.ntmps37
  go_wp2_with fail
  refine (saskT a b n x y r A c xs _ _ _ (hid (alloc4 (Gr.refl _)).1) (hid (alloc4 (Gr.refl _)).2.1) (hid (X.out.keep (((((Gr.refl w).al _).al _).al _).al _))) hn h'.out).mono ?_
  rintro e w1 ⟨rfl, hg1⟩
  obtain ⟨x1_0, x1_1, x1_2, x1_3, hz1, g1⟩ := alloc4 hg1
  obtain ⟨_, _, _⟩ := cells3 x1_0
  have _ := fz x1_0
  have _ := ltb x1_0
  obtain ⟨_, _⟩ := cells2 x1_1
  have _ := fz x1_1
  have _ := ltb x1_1
  obtain ⟨_, _⟩ := cells2 x1_2
  have _ := fz x1_2
  have _ := ltb x1_2
  obtain ⟨_, _⟩ := cells2 x1_3
  have _ := fz x1_3
  have _ := ltb x1_3
  have X1_0 := hid x1_0; clear x1_0
  have X1_1 := hid x1_1; clear x1_1
  have X1_2 := hid x1_2; clear x1_2
  have X1_3 := hid x1_3; clear x1_3
  have G1 := hid (g1)
  clear hg1 g1
  go_wp2_with fail
  refine (in_t _ _ _ _ hi.out).mono ?_
  rintro e w2 ⟨rfl, hg2⟩
  have x2_1 := hg2.keep X1_0.out
  have x2_2 := hg2.keep X1_1.out
  have x2_3 := hg2.keep X1_2.out
  have x2_4 := hg2.keep X1_3.out
  obtain ⟨_, _, _⟩ := cells3 x2_1
  have _ := fz x2_1
  have _ := ltb x2_1
  obtain ⟨_, _⟩ := cells2 x2_2
  have _ := fz x2_2
  have _ := ltb x2_2
  obtain ⟨_, _⟩ := cells2 x2_3
  have _ := fz x2_3
  have _ := ltb x2_3
  obtain ⟨_, _⟩ := cells2 x2_4
  have _ := fz x2_4
  have _ := ltb x2_4
  have X2_1 := hid x2_1; clear x2_1
  have X2_2 := hid x2_2; clear x2_2
  have X2_3 := hid x2_3; clear x2_3
  have X2_4 := hid x2_4; clear x2_4
  have G2 := hid (G1.out.trans hg2)
  clear hg2
  go_wp2_with fail
  refine (HL.out _ _ _ (hid X2_1.out) (hid X2_2.out) (hid (X.out.keep G2.out))).mono ?_
  rintro e w3 ⟨rfl, hg3⟩
  have x3_1 := hg3.keep X2_1.out
  have x3_2 := hg3.keep X2_2.out
  have x3_3 := hg3.keep X2_3.out
  have x3_4 := hg3.keep X2_4.out
  obtain ⟨_, _, _⟩ := cells3 x3_1
  have _ := fz x3_1
  have _ := ltb x3_1
  obtain ⟨_, _⟩ := cells2 x3_2
  have _ := fz x3_2
  have _ := ltb x3_2
  obtain ⟨_, _⟩ := cells2 x3_3
  have _ := fz x3_3
  have _ := ltb x3_3
  obtain ⟨_, _⟩ := cells2 x3_4
  have _ := fz x3_4
  have _ := ltb x3_4
  have X3_1 := hid x3_1; clear x3_1
  have X3_2 := hid x3_2; clear x3_2
  have X3_3 := hid x3_3; clear x3_3
  have X3_4 := hid x3_4; clear x3_4
  have G3 := hid (G2.out.trans hg3)
  clear hg3
  go_wp2
  refine bodyPost_ret (v := .tuple #[fr P Q, .int .i64 C]) (by simp [results, Try.results37, go_sem, *]) rfl ⟨rfl, ?_⟩
  exact ((G3.out).setCell (by simp <;> omega) _).setCell (by simp <;> omega) _
set_option maxRecDepth 20000 in
set_option maxHeartbeats 400000 in
theorem sMisfitOf_0 (i : Int) (a b n x y : Int) (r : Bool) (A : Option Addr) (c : Nat) (xs : List (Int × Int)) (w : World) (X : Hid (RdF w A xs)) (hn : xs.length ≤ 1048576) (h : askB a b xs n x y = false) :
    Calls Try.prog 39 #[scl a b A xs.length c, vn n r, fr x y, .int .i64 i] w fun e w' => e = .returned (.tuple #[fr 0 0, .int .i64 1]) ∧ Gr w w' := by
  have h' := hid h
  clear h
  go_enter Try.func39, Try.ntmps39
  go_wp2_with fail
  refine (saskF a b n x y r A c xs _ _ _ (hid (alloc4 (Gr.refl _)).1) (hid (alloc4 (Gr.refl _)).2.1) (hid (X.out.keep (((((Gr.refl w).al _).al _).al _).al _))) hn h'.out).mono ?_
  rintro e w1 ⟨rfl, hg1⟩
  obtain ⟨x1_0, x1_1, x1_2, x1_3, hz1, g1⟩ := alloc4 hg1
  obtain ⟨_, _, _⟩ := cells3 x1_0
  have _ := fz x1_0
  have _ := ltb x1_0
  obtain ⟨_, _⟩ := cells2 x1_1
  have _ := fz x1_1
  have _ := ltb x1_1
  obtain ⟨_, _⟩ := cells2 x1_2
  have _ := fz x1_2
  have _ := ltb x1_2
  obtain ⟨_, _⟩ := cells2 x1_3
  have _ := fz x1_3
  have _ := ltb x1_3
  have X1_0 := hid x1_0; clear x1_0
  have X1_1 := hid x1_1; clear x1_1
  have X1_2 := hid x1_2; clear x1_2
  have X1_3 := hid x1_3; clear x1_3
  have G1 := hid (g1)
  clear hg1 g1
  go_wp2
  refine bodyPost_ret (v := .tuple #[fr 0 0, .int .i64 1]) (by simp [results, Try.results39, go_sem, *]) rfl ⟨rfl, ?_⟩
  exact ((G1.out).setCell (by simp <;> omega) _).setCell (by simp <;> omega) _
set_option maxRecDepth 20000 in
set_option maxHeartbeats 400000 in
theorem sMisfitOf_1 (i : Int) (a b n x y : Int) (r : Bool) (A : Option Addr) (c : Nat) (xs : List (Int × Int)) (w : World) (X : Hid (RdF w A xs)) (hn : xs.length ≤ 1048576) (h : askB a b xs n x y = true) (hi : inB i 0 (n - 1) = false) :
    Calls Try.prog 39 #[scl a b A xs.length c, vn n r, fr x y, .int .i64 i] w fun e w' => e = .returned (.tuple #[fr 0 0, .int .i64 2]) ∧ Gr w w' := by
  have h' := hid h
  have hd := in_bd (ask_of h).2.1
  have hi := hid hi
  clear h
  go_enter Try.func39, Try.ntmps39
  go_wp2_with fail
  refine (saskT a b n x y r A c xs _ _ _ (hid (alloc4 (Gr.refl _)).1) (hid (alloc4 (Gr.refl _)).2.1) (hid (X.out.keep (((((Gr.refl w).al _).al _).al _).al _))) hn h'.out).mono ?_
  rintro e w1 ⟨rfl, hg1⟩
  obtain ⟨x1_0, x1_1, x1_2, x1_3, hz1, g1⟩ := alloc4 hg1
  obtain ⟨_, _, _⟩ := cells3 x1_0
  have _ := fz x1_0
  have _ := ltb x1_0
  obtain ⟨_, _⟩ := cells2 x1_1
  have _ := fz x1_1
  have _ := ltb x1_1
  obtain ⟨_, _⟩ := cells2 x1_2
  have _ := fz x1_2
  have _ := ltb x1_2
  obtain ⟨_, _⟩ := cells2 x1_3
  have _ := fz x1_3
  have _ := ltb x1_3
  have X1_0 := hid x1_0; clear x1_0
  have X1_1 := hid x1_1; clear x1_1
  have X1_2 := hid x1_2; clear x1_2
  have X1_3 := hid x1_3; clear x1_3
  have G1 := hid (g1)
  clear hg1 g1
  go_wp2_with fail
  refine (in_f _ _ _ _ hi.out).mono ?_
  rintro e w2 ⟨rfl, hg2⟩
  have x2_1 := hg2.keep X1_0.out
  have x2_2 := hg2.keep X1_1.out
  have x2_3 := hg2.keep X1_2.out
  have x2_4 := hg2.keep X1_3.out
  obtain ⟨_, _, _⟩ := cells3 x2_1
  have _ := fz x2_1
  have _ := ltb x2_1
  obtain ⟨_, _⟩ := cells2 x2_2
  have _ := fz x2_2
  have _ := ltb x2_2
  obtain ⟨_, _⟩ := cells2 x2_3
  have _ := fz x2_3
  have _ := ltb x2_3
  obtain ⟨_, _⟩ := cells2 x2_4
  have _ := fz x2_4
  have _ := ltb x2_4
  have X2_1 := hid x2_1; clear x2_1
  have X2_2 := hid x2_2; clear x2_2
  have X2_3 := hid x2_3; clear x2_3
  have X2_4 := hid x2_4; clear x2_4
  have G2 := hid (G1.out.trans hg2)
  clear hg2
  go_wp2
  refine bodyPost_ret (v := .tuple #[fr 0 0, .int .i64 2]) (by simp [results, Try.results39, go_sem, *]) rfl ⟨rfl, ?_⟩
  exact ((G2.out).setCell (by simp <;> omega) _).setCell (by simp <;> omega) _
set_option maxRecDepth 20000 in
set_option maxHeartbeats 400000 in
theorem sMisfitOf_2 (i P Q C : Int) (a b n x y : Int) (r : Bool) (A : Option Addr) (c : Nat) (xs : List (Int × Int)) (w : World) (X : Hid (RdF w A xs)) (hn : xs.length ≤ 1048576) (h : askB a b xs n x y = true) (hi : inB i 0 (n - 1) = true) (hl : ∀ (w : World) (j j2 : Nat), Hid (w.heap[j]? = some (.cells #[.int .i64 a, .int .i64 b, .slice A xs.length c] 32)) → Hid (w.heap[j2]? = some (.cells #[.int .i64 n, .bool r] 53)) → Hid (RdF w A xs) → Calls Try.prog 90 #[.pointer (some ⟨j, 0, none⟩), .pointer (some ⟨j2, 0, none⟩), fr x y, .int .i64 i] w fun e w' => e = .returned (.tuple #[fr P Q, .int .i64 C]) ∧ Gr w w') :
    Calls Try.prog 39 #[scl a b A xs.length c, vn n r, fr x y, .int .i64 i] w fun e w' => e = .returned (.tuple #[fr P Q, .int .i64 C]) ∧ Gr w w' := by
  have h' := hid h
  have hd := in_bd (ask_of h).2.1
  have hi := hid hi
  have HL := hid hl; clear hl
  clear h
  go_enter Try.func39, Try.ntmps39
  go_wp2_with fail
  refine (saskT a b n x y r A c xs _ _ _ (hid (alloc4 (Gr.refl _)).1) (hid (alloc4 (Gr.refl _)).2.1) (hid (X.out.keep (((((Gr.refl w).al _).al _).al _).al _))) hn h'.out).mono ?_
  rintro e w1 ⟨rfl, hg1⟩
  obtain ⟨x1_0, x1_1, x1_2, x1_3, hz1, g1⟩ := alloc4 hg1
  obtain ⟨_, _, _⟩ := cells3 x1_0
  have _ := fz x1_0
  have _ := ltb x1_0
  obtain ⟨_, _⟩ := cells2 x1_1
  have _ := fz x1_1
  have _ := ltb x1_1
  obtain ⟨_, _⟩ := cells2 x1_2
  have _ := fz x1_2
  have _ := ltb x1_2
  obtain ⟨_, _⟩ := cells2 x1_3
  have _ := fz x1_3
  have _ := ltb x1_3
  have X1_0 := hid x1_0; clear x1_0
  have X1_1 := hid x1_1; clear x1_1
  have X1_2 := hid x1_2; clear x1_2
  have X1_3 := hid x1_3; clear x1_3
  have G1 := hid (g1)
  clear hg1 g1
  go_wp2_with fail
  refine (in_t _ _ _ _ hi.out).mono ?_
  rintro e w2 ⟨rfl, hg2⟩
  have x2_1 := hg2.keep X1_0.out
  have x2_2 := hg2.keep X1_1.out
  have x2_3 := hg2.keep X1_2.out
  have x2_4 := hg2.keep X1_3.out
  obtain ⟨_, _, _⟩ := cells3 x2_1
  have _ := fz x2_1
  have _ := ltb x2_1
  obtain ⟨_, _⟩ := cells2 x2_2
  have _ := fz x2_2
  have _ := ltb x2_2
  obtain ⟨_, _⟩ := cells2 x2_3
  have _ := fz x2_3
  have _ := ltb x2_3
  obtain ⟨_, _⟩ := cells2 x2_4
  have _ := fz x2_4
  have _ := ltb x2_4
  have X2_1 := hid x2_1; clear x2_1
  have X2_2 := hid x2_2; clear x2_2
  have X2_3 := hid x2_3; clear x2_3
  have X2_4 := hid x2_4; clear x2_4
  have G2 := hid (G1.out.trans hg2)
  clear hg2
  go_wp2_with fail
  refine (HL.out _ _ _ (hid X2_1.out) (hid X2_2.out) (hid (X.out.keep G2.out))).mono ?_
  rintro e w3 ⟨rfl, hg3⟩
  have x3_1 := hg3.keep X2_1.out
  have x3_2 := hg3.keep X2_2.out
  have x3_3 := hg3.keep X2_3.out
  have x3_4 := hg3.keep X2_4.out
  obtain ⟨_, _, _⟩ := cells3 x3_1
  have _ := fz x3_1
  have _ := ltb x3_1
  obtain ⟨_, _⟩ := cells2 x3_2
  have _ := fz x3_2
  have _ := ltb x3_2
  obtain ⟨_, _⟩ := cells2 x3_3
  have _ := fz x3_3
  have _ := ltb x3_3
  obtain ⟨_, _⟩ := cells2 x3_4
  have _ := fz x3_4
  have _ := ltb x3_4
  have X3_1 := hid x3_1; clear x3_1
  have X3_2 := hid x3_2; clear x3_2
  have X3_3 := hid x3_3; clear x3_3
  have X3_4 := hid x3_4; clear x3_4
  have G3 := hid (G2.out.trans hg3)
  clear hg3
  go_wp2
  refine bodyPost_ret (v := .tuple #[fr P Q, .int .i64 C]) (by simp [results, Try.results39, go_sem, *]) rfl ⟨rfl, ?_⟩
  exact ((G3.out).setCell (by simp <;> omega) _).setCell (by simp <;> omega) _
set_option maxRecDepth 20000 in
set_option maxHeartbeats 400000 in
theorem iofl_0 (i : Int) (F : Nat) (a b n x y : Int) (r : Bool) (A : Option Addr) (c : Nat) (xs : List (Int × Int)) (w : World) (X : Hid (RdF w A xs)) (hn : xs.length ≤ 1048576) (h : sclB a b xs = false) :
    Calls Try.prog 88 #[scl a b A xs.length c, vn n r, fr x y, .int .i64 i, .func (.func F) #[] #[]] w fun e w' => e = .returned (.tuple #[fr 0 0, .int .i64 1]) ∧ Gr w w' := by
  have h := hid h
  go_enter Try.func88, Try.ntmps88
  go_wp2_with fail
  refine (iScF a b A c xs _ (hid (X.out.keep (((((((Gr.refl w).al _).al _).al _).al _).al _).al _))) hn h.out).mono ?_
  rintro e w1 ⟨rfl, hg1⟩
  obtain ⟨x1_0, x1_1, x1_2, x1_3, x1_4, x1_5, hz1, g1⟩ := alloc6 hg1
  obtain ⟨_, _, _⟩ := cells3 x1_0
  have _ := fz x1_0
  have _ := ltb x1_0
  obtain ⟨_, _⟩ := cells2 x1_1
  have _ := fz x1_1
  have _ := ltb x1_1
  obtain ⟨_, _⟩ := cells2 x1_2
  have _ := fz x1_2
  have _ := ltb x1_2
  have _ := cells1 x1_3
  have _ := fz x1_3
  have _ := ltb x1_3
  have _ := cells1 x1_4
  have _ := fz x1_4
  have _ := ltb x1_4
  obtain ⟨_, _⟩ := cells2 x1_5
  have _ := fz x1_5
  have _ := ltb x1_5
  have X1_0 := hid x1_0; clear x1_0
  have X1_1 := hid x1_1; clear x1_1
  have X1_2 := hid x1_2; clear x1_2
  have X1_3 := hid x1_3; clear x1_3
  have X1_4 := hid x1_4; clear x1_4
  have X1_5 := hid x1_5; clear x1_5
  have G1 := hid (g1)
  clear hg1 g1
  go_wp2
  refine bodyPost_ret (v := .tuple #[fr 0 0, .int .i64 1]) (by simp [results, Try.results88, go_sem, *]) rfl ⟨rfl, ?_⟩
  exact ((G1.out).setCell (by simp <;> omega) _).setCell (by simp <;> omega) _
set_option maxRecDepth 20000 in
set_option maxHeartbeats 400000 in
theorem iofl_1 (i : Int) (F : Nat) (a b n x y : Int) (r : Bool) (A : Option Addr) (c : Nat) (xs : List (Int × Int)) (w : World) (X : Hid (RdF w A xs)) (hn : xs.length ≤ 1048576) (h : sclB a b xs = true) (hv : inB n 2 40 = false) :
    Calls Try.prog 88 #[scl a b A xs.length c, vn n r, fr x y, .int .i64 i, .func (.func F) #[] #[]] w fun e w' => e = .returned (.tuple #[fr 0 0, .int .i64 1]) ∧ Gr w w' := by
  have h := hid h
  have hv := hid hv
  go_enter Try.func88, Try.ntmps88
  go_wp2_with fail
  refine (iScT a b A c xs _ (hid (X.out.keep (((((((Gr.refl w).al _).al _).al _).al _).al _).al _))) hn h.out).mono ?_
  rintro e w1 ⟨rfl, hg1⟩
  obtain ⟨x1_0, x1_1, x1_2, x1_3, x1_4, x1_5, hz1, g1⟩ := alloc6 hg1
  obtain ⟨_, _, _⟩ := cells3 x1_0
  have _ := fz x1_0
  have _ := ltb x1_0
  obtain ⟨_, _⟩ := cells2 x1_1
  have _ := fz x1_1
  have _ := ltb x1_1
  obtain ⟨_, _⟩ := cells2 x1_2
  have _ := fz x1_2
  have _ := ltb x1_2
  have _ := cells1 x1_3
  have _ := fz x1_3
  have _ := ltb x1_3
  have _ := cells1 x1_4
  have _ := fz x1_4
  have _ := ltb x1_4
  obtain ⟨_, _⟩ := cells2 x1_5
  have _ := fz x1_5
  have _ := ltb x1_5
  have X1_0 := hid x1_0; clear x1_0
  have X1_1 := hid x1_1; clear x1_1
  have X1_2 := hid x1_2; clear x1_2
  have X1_3 := hid x1_3; clear x1_3
  have X1_4 := hid x1_4; clear x1_4
  have X1_5 := hid x1_5; clear x1_5
  have G1 := hid (g1)
  clear hg1 g1
  go_wp2_with fail
  refine (iVernF n r _ hv.out).mono ?_
  rintro e w2 ⟨rfl, hg2⟩
  have x2_1 := hg2.keep X1_0.out
  have x2_2 := hg2.keep X1_1.out
  have x2_3 := hg2.keep X1_2.out
  have x2_4 := hg2.keep X1_3.out
  have x2_5 := hg2.keep X1_4.out
  have x2_6 := hg2.keep X1_5.out
  obtain ⟨_, _, _⟩ := cells3 x2_1
  have _ := fz x2_1
  have _ := ltb x2_1
  obtain ⟨_, _⟩ := cells2 x2_2
  have _ := fz x2_2
  have _ := ltb x2_2
  obtain ⟨_, _⟩ := cells2 x2_3
  have _ := fz x2_3
  have _ := ltb x2_3
  have _ := cells1 x2_4
  have _ := fz x2_4
  have _ := ltb x2_4
  have _ := cells1 x2_5
  have _ := fz x2_5
  have _ := ltb x2_5
  obtain ⟨_, _⟩ := cells2 x2_6
  have _ := fz x2_6
  have _ := ltb x2_6
  have X2_1 := hid x2_1; clear x2_1
  have X2_2 := hid x2_2; clear x2_2
  have X2_3 := hid x2_3; clear x2_3
  have X2_4 := hid x2_4; clear x2_4
  have X2_5 := hid x2_5; clear x2_5
  have X2_6 := hid x2_6; clear x2_6
  have G2 := hid (G1.out.trans hg2)
  clear hg2
  go_wp2
  refine bodyPost_ret (v := .tuple #[fr 0 0, .int .i64 1]) (by simp [results, Try.results88, go_sem, *]) rfl ⟨rfl, ?_⟩
  exact ((G2.out).setCell (by simp <;> omega) _).setCell (by simp <;> omega) _
set_option maxRecDepth 20000 in
set_option maxHeartbeats 400000 in
theorem iofl_2 (i : Int) (F : Nat) (a b n x y : Int) (r : Bool) (A : Option Addr) (c : Nat) (xs : List (Int × Int)) (w : World) (X : Hid (RdF w A xs)) (hn : xs.length ≤ 1048576) (h : sclB a b xs = true) (hv : inB n 2 40 = true) (hx : okB x y = false) :
    Calls Try.prog 88 #[scl a b A xs.length c, vn n r, fr x y, .int .i64 i, .func (.func F) #[] #[]] w fun e w' => e = .returned (.tuple #[fr 0 0, .int .i64 1]) ∧ Gr w w' := by
  have h := hid h
  have hv := hid hv
  have hx := hid hx
  go_enter Try.func88, Try.ntmps88
  go_wp2_with fail
  refine (iScT a b A c xs _ (hid (X.out.keep (((((((Gr.refl w).al _).al _).al _).al _).al _).al _))) hn h.out).mono ?_
  rintro e w1 ⟨rfl, hg1⟩
  obtain ⟨x1_0, x1_1, x1_2, x1_3, x1_4, x1_5, hz1, g1⟩ := alloc6 hg1
  obtain ⟨_, _, _⟩ := cells3 x1_0
  have _ := fz x1_0
  have _ := ltb x1_0
  obtain ⟨_, _⟩ := cells2 x1_1
  have _ := fz x1_1
  have _ := ltb x1_1
  obtain ⟨_, _⟩ := cells2 x1_2
  have _ := fz x1_2
  have _ := ltb x1_2
  have _ := cells1 x1_3
  have _ := fz x1_3
  have _ := ltb x1_3
  have _ := cells1 x1_4
  have _ := fz x1_4
  have _ := ltb x1_4
  obtain ⟨_, _⟩ := cells2 x1_5
  have _ := fz x1_5
  have _ := ltb x1_5
  have X1_0 := hid x1_0; clear x1_0
  have X1_1 := hid x1_1; clear x1_1
  have X1_2 := hid x1_2; clear x1_2
  have X1_3 := hid x1_3; clear x1_3
  have X1_4 := hid x1_4; clear x1_4
  have X1_5 := hid x1_5; clear x1_5
  have G1 := hid (g1)
  clear hg1 g1
  go_wp2_with fail
  refine (iVernT n r _ hv.out).mono ?_
  rintro e w2 ⟨rfl, hg2⟩
  have x2_1 := hg2.keep X1_0.out
  have x2_2 := hg2.keep X1_1.out
  have x2_3 := hg2.keep X1_2.out
  have x2_4 := hg2.keep X1_3.out
  have x2_5 := hg2.keep X1_4.out
  have x2_6 := hg2.keep X1_5.out
  obtain ⟨_, _, _⟩ := cells3 x2_1
  have _ := fz x2_1
  have _ := ltb x2_1
  obtain ⟨_, _⟩ := cells2 x2_2
  have _ := fz x2_2
  have _ := ltb x2_2
  obtain ⟨_, _⟩ := cells2 x2_3
  have _ := fz x2_3
  have _ := ltb x2_3
  have _ := cells1 x2_4
  have _ := fz x2_4
  have _ := ltb x2_4
  have _ := cells1 x2_5
  have _ := fz x2_5
  have _ := ltb x2_5
  obtain ⟨_, _⟩ := cells2 x2_6
  have _ := fz x2_6
  have _ := ltb x2_6
  have X2_1 := hid x2_1; clear x2_1
  have X2_2 := hid x2_2; clear x2_2
  have X2_3 := hid x2_3; clear x2_3
  have X2_4 := hid x2_4; clear x2_4
  have X2_5 := hid x2_5; clear x2_5
  have X2_6 := hid x2_6; clear x2_6
  have G2 := hid (G1.out.trans hg2)
  clear hg2
  go_wp2_with fail
  refine (iok_f _ _ _ hx.out).mono ?_
  rintro e w3 ⟨rfl, hg3⟩
  have x3_1 := hg3.keep X2_1.out
  have x3_2 := hg3.keep X2_2.out
  have x3_3 := hg3.keep X2_3.out
  have x3_4 := hg3.keep X2_4.out
  have x3_5 := hg3.keep X2_5.out
  have x3_6 := hg3.keep X2_6.out
  obtain ⟨_, _, _⟩ := cells3 x3_1
  have _ := fz x3_1
  have _ := ltb x3_1
  obtain ⟨_, _⟩ := cells2 x3_2
  have _ := fz x3_2
  have _ := ltb x3_2
  obtain ⟨_, _⟩ := cells2 x3_3
  have _ := fz x3_3
  have _ := ltb x3_3
  have _ := cells1 x3_4
  have _ := fz x3_4
  have _ := ltb x3_4
  have _ := cells1 x3_5
  have _ := fz x3_5
  have _ := ltb x3_5
  obtain ⟨_, _⟩ := cells2 x3_6
  have _ := fz x3_6
  have _ := ltb x3_6
  have X3_1 := hid x3_1; clear x3_1
  have X3_2 := hid x3_2; clear x3_2
  have X3_3 := hid x3_3; clear x3_3
  have X3_4 := hid x3_4; clear x3_4
  have X3_5 := hid x3_5; clear x3_5
  have X3_6 := hid x3_6; clear x3_6
  have G3 := hid (G2.out.trans hg3)
  clear hg3
  go_wp2
  refine bodyPost_ret (v := .tuple #[fr 0 0, .int .i64 1]) (by simp [results, Try.results88, go_sem, *]) rfl ⟨rfl, ?_⟩
  exact ((G3.out).setCell (by simp <;> omega) _).setCell (by simp <;> omega) _
set_option maxRecDepth 20000 in
set_option maxHeartbeats 400000 in
theorem iofl_3 (i : Int) (F : Nat) (a b n x y : Int) (r : Bool) (A : Option Addr) (c : Nat) (xs : List (Int × Int)) (w : World) (X : Hid (RdF w A xs)) (hn : xs.length ≤ 1048576) (h : askB a b xs n x y = true) (hi : i < 0) :
    Calls Try.prog 88 #[scl a b A xs.length c, vn n r, fr x y, .int .i64 i, .func (.func F) #[] #[]] w fun e w' => e = .returned (.tuple #[fr 0 0, .int .i64 2]) ∧ Gr w w' := by
  obtain ⟨h, hv, hx⟩ := ask_of h
  have hd := in_bd hv
  have h := hid h; have hv := hid hv; have hx := hid hx
  have hb : decide (i < 0) = true := by simpa using hi
  go_enter Try.func88, Try.ntmps88
  go_wp2_with fail
  refine (iScT a b A c xs _ (hid (X.out.keep (((((((Gr.refl w).al _).al _).al _).al _).al _).al _))) hn h.out).mono ?_
  rintro e w1 ⟨rfl, hg1⟩
  obtain ⟨x1_0, x1_1, x1_2, x1_3, x1_4, x1_5, hz1, g1⟩ := alloc6 hg1
  obtain ⟨_, _, _⟩ := cells3 x1_0
  have _ := fz x1_0
  have _ := ltb x1_0
  obtain ⟨_, _⟩ := cells2 x1_1
  have _ := fz x1_1
  have _ := ltb x1_1
  obtain ⟨_, _⟩ := cells2 x1_2
  have _ := fz x1_2
  have _ := ltb x1_2
  have _ := cells1 x1_3
  have _ := fz x1_3
  have _ := ltb x1_3
  have _ := cells1 x1_4
  have _ := fz x1_4
  have _ := ltb x1_4
  obtain ⟨_, _⟩ := cells2 x1_5
  have _ := fz x1_5
  have _ := ltb x1_5
  have X1_0 := hid x1_0; clear x1_0
  have X1_1 := hid x1_1; clear x1_1
  have X1_2 := hid x1_2; clear x1_2
  have X1_3 := hid x1_3; clear x1_3
  have X1_4 := hid x1_4; clear x1_4
  have X1_5 := hid x1_5; clear x1_5
  have G1 := hid (g1)
  clear hg1 g1
  go_wp2_with fail
  refine (iVernT n r _ hv.out).mono ?_
  rintro e w2 ⟨rfl, hg2⟩
  have x2_1 := hg2.keep X1_0.out
  have x2_2 := hg2.keep X1_1.out
  have x2_3 := hg2.keep X1_2.out
  have x2_4 := hg2.keep X1_3.out
  have x2_5 := hg2.keep X1_4.out
  have x2_6 := hg2.keep X1_5.out
  obtain ⟨_, _, _⟩ := cells3 x2_1
  have _ := fz x2_1
  have _ := ltb x2_1
  obtain ⟨_, _⟩ := cells2 x2_2
  have _ := fz x2_2
  have _ := ltb x2_2
  obtain ⟨_, _⟩ := cells2 x2_3
  have _ := fz x2_3
  have _ := ltb x2_3
  have _ := cells1 x2_4
  have _ := fz x2_4
  have _ := ltb x2_4
  have _ := cells1 x2_5
  have _ := fz x2_5
  have _ := ltb x2_5
  obtain ⟨_, _⟩ := cells2 x2_6
  have _ := fz x2_6
  have _ := ltb x2_6
  have X2_1 := hid x2_1; clear x2_1
  have X2_2 := hid x2_2; clear x2_2
  have X2_3 := hid x2_3; clear x2_3
  have X2_4 := hid x2_4; clear x2_4
  have X2_5 := hid x2_5; clear x2_5
  have X2_6 := hid x2_6; clear x2_6
  have G2 := hid (G1.out.trans hg2)
  clear hg2
  go_wp2_with fail
  refine (iok_t _ _ _ hx.out).mono ?_
  rintro e w3 ⟨rfl, hg3⟩
  have x3_1 := hg3.keep X2_1.out
  have x3_2 := hg3.keep X2_2.out
  have x3_3 := hg3.keep X2_3.out
  have x3_4 := hg3.keep X2_4.out
  have x3_5 := hg3.keep X2_5.out
  have x3_6 := hg3.keep X2_6.out
  obtain ⟨_, _, _⟩ := cells3 x3_1
  have _ := fz x3_1
  have _ := ltb x3_1
  obtain ⟨_, _⟩ := cells2 x3_2
  have _ := fz x3_2
  have _ := ltb x3_2
  obtain ⟨_, _⟩ := cells2 x3_3
  have _ := fz x3_3
  have _ := ltb x3_3
  have _ := cells1 x3_4
  have _ := fz x3_4
  have _ := ltb x3_4
  have _ := cells1 x3_5
  have _ := fz x3_5
  have _ := ltb x3_5
  obtain ⟨_, _⟩ := cells2 x3_6
  have _ := fz x3_6
  have _ := ltb x3_6
  have X3_1 := hid x3_1; clear x3_1
  have X3_2 := hid x3_2; clear x3_2
  have X3_3 := hid x3_3; clear x3_3
  have X3_4 := hid x3_4; clear x3_4
  have X3_5 := hid x3_5; clear x3_5
  have X3_6 := hid x3_6; clear x3_6
  have G3 := hid (G2.out.trans hg3)
  clear hg3
  go_wp2
  refine bodyPost_ret (v := .tuple #[fr 0 0, .int .i64 2]) (by simp [results, Try.results88, go_sem, *]) rfl ⟨rfl, ?_⟩
  exact ((G3.out).setCell (by simp <;> omega) _).setCell (by simp <;> omega) _
set_option maxRecDepth 20000 in
set_option maxHeartbeats 400000 in
theorem iofl_4 (i : Int) (F : Nat) (a b n x y : Int) (r : Bool) (A : Option Addr) (c : Nat) (xs : List (Int × Int)) (w : World) (X : Hid (RdF w A xs)) (hn : xs.length ≤ 1048576) (h : askB a b xs n x y = true) (hi : ¬ i < 0) (hi2 : n ≤ i) :
    Calls Try.prog 88 #[scl a b A xs.length c, vn n r, fr x y, .int .i64 i, .func (.func F) #[] #[]] w fun e w' => e = .returned (.tuple #[fr 0 0, .int .i64 2]) ∧ Gr w w' := by
  obtain ⟨h, hv, hx⟩ := ask_of h
  have hd := in_bd hv
  have h := hid h; have hv := hid hv; have hx := hid hx
  have hb : decide (i < 0) = false := by simpa using hi
  have hb2 : decide (n ≤ i) = true := by simpa using hi2
  go_enter Try.func88, Try.ntmps88
  go_wp2_with fail
  refine (iScT a b A c xs _ (hid (X.out.keep (((((((Gr.refl w).al _).al _).al _).al _).al _).al _))) hn h.out).mono ?_
  rintro e w1 ⟨rfl, hg1⟩
  obtain ⟨x1_0, x1_1, x1_2, x1_3, x1_4, x1_5, hz1, g1⟩ := alloc6 hg1
  obtain ⟨_, _, _⟩ := cells3 x1_0
  have _ := fz x1_0
  have _ := ltb x1_0
  obtain ⟨_, _⟩ := cells2 x1_1
  have _ := fz x1_1
  have _ := ltb x1_1
  obtain ⟨_, _⟩ := cells2 x1_2
  have _ := fz x1_2
  have _ := ltb x1_2
  have _ := cells1 x1_3
  have _ := fz x1_3
  have _ := ltb x1_3
  have _ := cells1 x1_4
  have _ := fz x1_4
  have _ := ltb x1_4
  obtain ⟨_, _⟩ := cells2 x1_5
  have _ := fz x1_5
  have _ := ltb x1_5
  have X1_0 := hid x1_0; clear x1_0
  have X1_1 := hid x1_1; clear x1_1
  have X1_2 := hid x1_2; clear x1_2
  have X1_3 := hid x1_3; clear x1_3
  have X1_4 := hid x1_4; clear x1_4
  have X1_5 := hid x1_5; clear x1_5
  have G1 := hid (g1)
  clear hg1 g1
  go_wp2_with fail
  refine (iVernT n r _ hv.out).mono ?_
  rintro e w2 ⟨rfl, hg2⟩
  have x2_1 := hg2.keep X1_0.out
  have x2_2 := hg2.keep X1_1.out
  have x2_3 := hg2.keep X1_2.out
  have x2_4 := hg2.keep X1_3.out
  have x2_5 := hg2.keep X1_4.out
  have x2_6 := hg2.keep X1_5.out
  obtain ⟨_, _, _⟩ := cells3 x2_1
  have _ := fz x2_1
  have _ := ltb x2_1
  obtain ⟨_, _⟩ := cells2 x2_2
  have _ := fz x2_2
  have _ := ltb x2_2
  obtain ⟨_, _⟩ := cells2 x2_3
  have _ := fz x2_3
  have _ := ltb x2_3
  have _ := cells1 x2_4
  have _ := fz x2_4
  have _ := ltb x2_4
  have _ := cells1 x2_5
  have _ := fz x2_5
  have _ := ltb x2_5
  obtain ⟨_, _⟩ := cells2 x2_6
  have _ := fz x2_6
  have _ := ltb x2_6
  have X2_1 := hid x2_1; clear x2_1
  have X2_2 := hid x2_2; clear x2_2
  have X2_3 := hid x2_3; clear x2_3
  have X2_4 := hid x2_4; clear x2_4
  have X2_5 := hid x2_5; clear x2_5
  have X2_6 := hid x2_6; clear x2_6
  have G2 := hid (G1.out.trans hg2)
  clear hg2
  go_wp2_with fail
  refine (iok_t _ _ _ hx.out).mono ?_
  rintro e w3 ⟨rfl, hg3⟩
  have x3_1 := hg3.keep X2_1.out
  have x3_2 := hg3.keep X2_2.out
  have x3_3 := hg3.keep X2_3.out
  have x3_4 := hg3.keep X2_4.out
  have x3_5 := hg3.keep X2_5.out
  have x3_6 := hg3.keep X2_6.out
  obtain ⟨_, _, _⟩ := cells3 x3_1
  have _ := fz x3_1
  have _ := ltb x3_1
  obtain ⟨_, _⟩ := cells2 x3_2
  have _ := fz x3_2
  have _ := ltb x3_2
  obtain ⟨_, _⟩ := cells2 x3_3
  have _ := fz x3_3
  have _ := ltb x3_3
  have _ := cells1 x3_4
  have _ := fz x3_4
  have _ := ltb x3_4
  have _ := cells1 x3_5
  have _ := fz x3_5
  have _ := ltb x3_5
  obtain ⟨_, _⟩ := cells2 x3_6
  have _ := fz x3_6
  have _ := ltb x3_6
  have X3_1 := hid x3_1; clear x3_1
  have X3_2 := hid x3_2; clear x3_2
  have X3_3 := hid x3_3; clear x3_3
  have X3_4 := hid x3_4; clear x3_4
  have X3_5 := hid x3_5; clear x3_5
  have X3_6 := hid x3_6; clear x3_6
  have G3 := hid (G2.out.trans hg3)
  clear hg3
  go_wp2
  refine bodyPost_ret (v := .tuple #[fr 0 0, .int .i64 2]) (by simp [results, Try.results88, go_sem, *]) rfl ⟨rfl, ?_⟩
  exact ((G3.out).setCell (by simp <;> omega) _).setCell (by simp <;> omega) _
set_option maxRecDepth 20000 in
set_option maxHeartbeats 400000 in
theorem cofl (B : Bool) (P Q i : Int) (F : Nat) (k1 k2 k3 k4 k5 : Nat) (T5 : TypeId) (a b n x y : Int) (r : Bool) (A : Option Addr) (c : Nat) (xs : List (Int × Int)) (w : World) (X1 : Hid (w.heap[k1]? = some (.cells #[.int .i64 a, .int .i64 b, .slice A xs.length c] 32))) (X2 : Hid (w.heap[k2]? = some (.cells #[.int .i64 n, .bool r] 53))) (X3 : Hid (w.heap[k3]? = some (.cells #[.int .i64 x, .int .i64 y] 29))) (X4 : Hid (w.heap[k4]? = some (.cells #[.int .i64 i] 2))) (X5 : Hid (w.heap[k5]? = some (.cells #[.func (.func F) #[] #[]] T5)))
    (hen : ∀ w, (callFunc F #[vn n r, scl a b A xs.length c, fr x y, .int .i64 i]).run Try.prog w = .ok (.enter F #[vn n r, scl a b A xs.length c, fr x y, .int .i64 i]) w) (hf : ∀ w', Gr w w' → Calls Try.prog F #[vn n r, scl a b A xs.length c, fr x y, .int .i64 i] w' (ResI B P Q w')) :
    Calls Try.prog 127 #[.pointer (some ⟨k5, 0, none⟩), .pointer (some ⟨k2, 0, none⟩), .pointer (some ⟨k1, 0, none⟩), .pointer (some ⟨k3, 0, none⟩), .pointer (some ⟨k4, 0, none⟩)] w (ResI B P Q w) := by
  have HF := hid hf; clear hf
  cases B with
  | true =>
    refine Calls.mono (R := fun e w' => e = .returned (fr P Q) ∧ Gr w w') ?_ fun e w' ⟨h, hg⟩ => ⟨fun _ => h, fun h => (by cases h), hg⟩
    have HF2 := hid fun w' (hg : Gr w w') => (HF.out w' hg).mono (R' := fun e w'' => e = .returned (fr P Q) ∧ Gr w' w'') fun e w'' h => ⟨h.1 rfl, h.2.2⟩
    clear HF
    go_enter Try.func127, Try.ntmps127
    obtain ⟨_, _, _⟩ := cells3 X1.out
    have _ := fz X1.out
    have _ := ltb X1.out
    obtain ⟨_, _⟩ := cells2 X2.out
    have _ := fz X2.out
    have _ := ltb X2.out
    obtain ⟨_, _⟩ := cells2 X3.out
    have _ := fz X3.out
    have _ := ltb X3.out
    have _ := cells1 X4.out
    have _ := fz X4.out
    have _ := ltb X4.out
    have _ := cells1 X5.out
    have _ := fz X5.out
    have _ := ltb X5.out
    go_wp2_with fail
    refine (HF2.out _ ((Gr.refl _).al _)).mono ?_
    rintro e w1 ⟨rfl, hg1⟩
    obtain ⟨x1_0, hz1, g1⟩ := alloc1 hg1
    have x1_1 := g1.keep X1.out
    have x1_2 := g1.keep X2.out
    have x1_3 := g1.keep X3.out
    have x1_4 := g1.keep X4.out
    have x1_5 := g1.keep X5.out
    obtain ⟨_, _⟩ := cells2 x1_0
    have _ := fz x1_0
    have _ := ltb x1_0
    obtain ⟨_, _, _⟩ := cells3 x1_1
    have _ := fz x1_1
    have _ := ltb x1_1
    obtain ⟨_, _⟩ := cells2 x1_2
    have _ := fz x1_2
    have _ := ltb x1_2
    obtain ⟨_, _⟩ := cells2 x1_3
    have _ := fz x1_3
    have _ := ltb x1_3
    have _ := cells1 x1_4
    have _ := fz x1_4
    have _ := ltb x1_4
    have _ := cells1 x1_5
    have _ := fz x1_5
    have _ := ltb x1_5
    have X1_0 := hid x1_0; clear x1_0
    have X1_1 := hid x1_1; clear x1_1
    have X1_2 := hid x1_2; clear x1_2
    have X1_3 := hid x1_3; clear x1_3
    have X1_4 := hid x1_4; clear x1_4
    have X1_5 := hid x1_5; clear x1_5
    have G1 := hid (g1)
    clear hg1 g1
    go_wp2
    refine bodyPost_ret (v := fr P Q) (by simp [results, Try.results127, go_sem, *]) rfl ⟨rfl, ?_⟩
    exact ((G1.out).setCell (by simp <;> omega) _).setCell (by simp <;> omega) _
  | false =>
    refine Calls.mono (R := fun e w' => (∃ x y, e = .panicked [{ v := .iface 125 (fr x y), recovered := false }]) ∧ Gr w w') ?_ fun e w' ⟨h, hg⟩ => ⟨fun h => (by cases h), fun _ => h, hg⟩
    have HF2 := hid fun w' (hg : Gr w w') => (HF.out w' hg).mono (R' := fun e w'' => (∃ x y, e = .panicked [{ v := .iface 125 (fr x y), recovered := false }]) ∧ Gr w' w'') fun e w'' h => ⟨h.2.1 rfl, h.2.2⟩
    clear HF
    go_enter Try.func127, Try.ntmps127
    obtain ⟨_, _, _⟩ := cells3 X1.out
    have _ := fz X1.out
    have _ := ltb X1.out
    obtain ⟨_, _⟩ := cells2 X2.out
    have _ := fz X2.out
    have _ := ltb X2.out
    obtain ⟨_, _⟩ := cells2 X3.out
    have _ := fz X3.out
    have _ := ltb X3.out
    have _ := cells1 X4.out
    have _ := fz X4.out
    have _ := ltb X4.out
    have _ := cells1 X5.out
    have _ := fz X5.out
    have _ := ltb X5.out
    go_wp2_with fail
    refine (HF2.out _ ((Gr.refl _).al _)).mono ?_
    rintro e w1 ⟨⟨xp, yp, rfl⟩, hg1⟩
    obtain ⟨x1_0, hz1, g1⟩ := alloc1 hg1
    have x1_1 := g1.keep X1.out
    have x1_2 := g1.keep X2.out
    have x1_3 := g1.keep X3.out
    have x1_4 := g1.keep X4.out
    have x1_5 := g1.keep X5.out
    obtain ⟨_, _⟩ := cells2 x1_0
    have _ := fz x1_0
    have _ := ltb x1_0
    obtain ⟨_, _, _⟩ := cells3 x1_1
    have _ := fz x1_1
    have _ := ltb x1_1
    obtain ⟨_, _⟩ := cells2 x1_2
    have _ := fz x1_2
    have _ := ltb x1_2
    obtain ⟨_, _⟩ := cells2 x1_3
    have _ := fz x1_3
    have _ := ltb x1_3
    have _ := cells1 x1_4
    have _ := fz x1_4
    have _ := ltb x1_4
    have _ := cells1 x1_5
    have _ := fz x1_5
    have _ := ltb x1_5
    have X1_0 := hid x1_0; clear x1_0
    have X1_1 := hid x1_1; clear x1_1
    have X1_2 := hid x1_2; clear x1_2
    have X1_3 := hid x1_3; clear x1_3
    have X1_4 := hid x1_4; clear x1_4
    have X1_5 := hid x1_5; clear x1_5
    have G1 := hid (g1)
    clear hg1 g1
    exact ⟨rfl, ⟨xp, yp, rfl⟩, G1.out⟩
theorem told_R (f : Nat) (cap : Array Value) (B : Bool) (P Q : Int) (w : World) (hen : ∀ w, (callFunc f cap).run Try.prog w = .ok (.enter f cap) w) (hF : ∀ w', Gr w w' → Calls Try.prog f cap w' (ResI B P Q w')) :
    Calls Try.prog 83 #[.func (.func f) #[] cap] w (ResS B P Q w) := by
  unfold ResS
  cases B with
  | true => exact told_ok_F f cap P Q w hen fun w' hg => (hF w' hg).mono fun e w'' h => ⟨h.1 rfl, h.2.2⟩
  | false => exact told_great_F f cap w hen fun w' hg => (hF w' hg).mono fun e w'' h => ⟨h.2.1 rfl, h.2.2⟩
set_option maxRecDepth 20000 in
set_option maxHeartbeats 400000 in
theorem iofl_5 (B : Bool) (P Q i : Int) (F : Nat) (a b n x y : Int) (r : Bool) (A : Option Addr) (c : Nat) (xs : List (Int × Int)) (w : World) (X : Hid (RdF w A xs)) (hn : xs.length ≤ 1048576) (h : askB a b xs n x y = true) (hi : ¬ i < 0) (hi2 : ¬ n ≤ i)
    (hen : ∀ w, (callFunc F #[vn n r, scl a b A xs.length c, fr x y, .int .i64 i]).run Try.prog w = .ok (.enter F #[vn n r, scl a b A xs.length c, fr x y, .int .i64 i]) w) (hf : ∀ w', Gr w w' → Calls Try.prog F #[vn n r, scl a b A xs.length c, fr x y, .int .i64 i] w' (ResI B P Q w')) :
    Calls Try.prog 88 #[scl a b A xs.length c, vn n r, fr x y, .int .i64 i, .func (.func F) #[] #[]] w fun e w' => e = .returned (.tuple #[fr (if B then P else 0) (if B then Q else 0), .int .i64 (if B then 0 else 3)]) ∧ Gr w w' := by
  have HT := hid fun (w1 : World) (hg : Gr w w1) (k1 k2 k3 k4 k5 : Nat) (T5 : TypeId) (X1 : Hid (w1.heap[k1]? = some (.cells #[.int .i64 a, .int .i64 b, .slice A xs.length c] 32))) (X2 : Hid (w1.heap[k2]? = some (.cells #[.int .i64 n, .bool r] 53))) (X3 : Hid (w1.heap[k3]? = some (.cells #[.int .i64 x, .int .i64 y] 29))) (X4 : Hid (w1.heap[k4]? = some (.cells #[.int .i64 i] 2))) (X5 : Hid (w1.heap[k5]? = some (.cells #[.func (.func F) #[] #[]] T5))) =>
    told_R 127 #[.pointer (some ⟨k5, 0, none⟩), .pointer (some ⟨k2, 0, none⟩), .pointer (some ⟨k1, 0, none⟩), .pointer (some ⟨k3, 0, none⟩), .pointer (some ⟨k4, 0, none⟩)] B P Q w1 (fun _ => by kernel_rfl) fun w2 hg2 => cofl B P Q i F k1 k2 k3 k4 k5 T5 a b n x y r A c xs w2 (hid (hg2.keep X1.out)) (hid (hg2.keep X2.out)) (hid (hg2.keep X3.out)) (hid (hg2.keep X4.out)) (hid (hg2.keep X5.out)) hen fun w3 hg3 => hf w3 ((hg.trans hg2).trans hg3)
  clear hf
  obtain ⟨h, hv, hx⟩ := ask_of h
  have hd := in_bd hv
  have h := hid h; have hv := hid hv; have hx := hid hx
  have hb : decide (i < 0) = false := by simpa using hi
  have hb2 : decide (n ≤ i) = false := by simpa using hi2
  unfold ResS at HT
  obtain ⟨P', hP⟩ : ∃ P', (if B then P else 0) = P' := ⟨_, rfl⟩
  obtain ⟨Q', hQ⟩ : ∃ Q', (if B then Q else 0) = Q' := ⟨_, rfl⟩
  obtain ⟨C', hC⟩ : ∃ C' : Int, (if B then 0 else 3) = C' := ⟨_, rfl⟩
  rw [hP, hQ, hC] at HT
  rw [hP, hQ, hC]
  clear hP hQ hC
  go_enter Try.func88, Try.ntmps88
  go_wp2_with fail
  refine (iScT a b A c xs _ (hid (X.out.keep (((((((Gr.refl w).al _).al _).al _).al _).al _).al _))) hn h.out).mono ?_
  rintro e w1 ⟨rfl, hg1⟩
  obtain ⟨x1_0, x1_1, x1_2, x1_3, x1_4, x1_5, hz1, g1⟩ := alloc6 hg1
  obtain ⟨_, _, _⟩ := cells3 x1_0
  have _ := fz x1_0
  have _ := ltb x1_0
  obtain ⟨_, _⟩ := cells2 x1_1
  have _ := fz x1_1
  have _ := ltb x1_1
  obtain ⟨_, _⟩ := cells2 x1_2
  have _ := fz x1_2
  have _ := ltb x1_2
  have _ := cells1 x1_3
  have _ := fz x1_3
  have _ := ltb x1_3
  have _ := cells1 x1_4
  have _ := fz x1_4
  have _ := ltb x1_4
  obtain ⟨_, _⟩ := cells2 x1_5
  have _ := fz x1_5
  have _ := ltb x1_5
  have X1_0 := hid x1_0; clear x1_0
  have X1_1 := hid x1_1; clear x1_1
  have X1_2 := hid x1_2; clear x1_2
  have X1_3 := hid x1_3; clear x1_3
  have X1_4 := hid x1_4; clear x1_4
  have X1_5 := hid x1_5; clear x1_5
  have G1 := hid (g1)
  clear hg1 g1
  go_wp2_with fail
  refine (iVernT n r _ hv.out).mono ?_
  rintro e w2 ⟨rfl, hg2⟩
  have x2_1 := hg2.keep X1_0.out
  have x2_2 := hg2.keep X1_1.out
  have x2_3 := hg2.keep X1_2.out
  have x2_4 := hg2.keep X1_3.out
  have x2_5 := hg2.keep X1_4.out
  have x2_6 := hg2.keep X1_5.out
  obtain ⟨_, _, _⟩ := cells3 x2_1
  have _ := fz x2_1
  have _ := ltb x2_1
  obtain ⟨_, _⟩ := cells2 x2_2
  have _ := fz x2_2
  have _ := ltb x2_2
  obtain ⟨_, _⟩ := cells2 x2_3
  have _ := fz x2_3
  have _ := ltb x2_3
  have _ := cells1 x2_4
  have _ := fz x2_4
  have _ := ltb x2_4
  have _ := cells1 x2_5
  have _ := fz x2_5
  have _ := ltb x2_5
  obtain ⟨_, _⟩ := cells2 x2_6
  have _ := fz x2_6
  have _ := ltb x2_6
  have X2_1 := hid x2_1; clear x2_1
  have X2_2 := hid x2_2; clear x2_2
  have X2_3 := hid x2_3; clear x2_3
  have X2_4 := hid x2_4; clear x2_4
  have X2_5 := hid x2_5; clear x2_5
  have X2_6 := hid x2_6; clear x2_6
  have G2 := hid (G1.out.trans hg2)
  clear hg2
  go_wp2_with fail
  refine (iok_t _ _ _ hx.out).mono ?_
  rintro e w3 ⟨rfl, hg3⟩
  have x3_1 := hg3.keep X2_1.out
  have x3_2 := hg3.keep X2_2.out
  have x3_3 := hg3.keep X2_3.out
  have x3_4 := hg3.keep X2_4.out
  have x3_5 := hg3.keep X2_5.out
  have x3_6 := hg3.keep X2_6.out
  obtain ⟨_, _, _⟩ := cells3 x3_1
  have _ := fz x3_1
  have _ := ltb x3_1
  obtain ⟨_, _⟩ := cells2 x3_2
  have _ := fz x3_2
  have _ := ltb x3_2
  obtain ⟨_, _⟩ := cells2 x3_3
  have _ := fz x3_3
  have _ := ltb x3_3
  have _ := cells1 x3_4
  have _ := fz x3_4
  have _ := ltb x3_4
  have _ := cells1 x3_5
  have _ := fz x3_5
  have _ := ltb x3_5
  obtain ⟨_, _⟩ := cells2 x3_6
  have _ := fz x3_6
  have _ := ltb x3_6
  have X3_1 := hid x3_1; clear x3_1
  have X3_2 := hid x3_2; clear x3_2
  have X3_3 := hid x3_3; clear x3_3
  have X3_4 := hid x3_4; clear x3_4
  have X3_5 := hid x3_5; clear x3_5
  have X3_6 := hid x3_6; clear x3_6
  have G3 := hid (G2.out.trans hg3)
  clear hg3
  go_wp2_with fail
  refine (HT.out _ G3.out _ _ _ _ _ _ (hid X3_1.out) (hid X3_2.out) (hid X3_3.out) (hid X3_4.out) (hid X3_5.out)).mono ?_
  rintro e w4 ⟨rfl, hg4⟩
  have x4_1 := hg4.keep X3_1.out
  have x4_2 := hg4.keep X3_2.out
  have x4_3 := hg4.keep X3_3.out
  have x4_4 := hg4.keep X3_4.out
  have x4_5 := hg4.keep X3_5.out
  have x4_6 := hg4.keep X3_6.out
  obtain ⟨_, _, _⟩ := cells3 x4_1
  have _ := fz x4_1
  have _ := ltb x4_1
  obtain ⟨_, _⟩ := cells2 x4_2
  have _ := fz x4_2
  have _ := ltb x4_2
  obtain ⟨_, _⟩ := cells2 x4_3
  have _ := fz x4_3
  have _ := ltb x4_3
  have _ := cells1 x4_4
  have _ := fz x4_4
  have _ := ltb x4_4
  have _ := cells1 x4_5
  have _ := fz x4_5
  have _ := ltb x4_5
  obtain ⟨_, _⟩ := cells2 x4_6
  have _ := fz x4_6
  have _ := ltb x4_6
  have X4_1 := hid x4_1; clear x4_1
  have X4_2 := hid x4_2; clear x4_2
  have X4_3 := hid x4_3; clear x4_3
  have X4_4 := hid x4_4; clear x4_4
  have X4_5 := hid x4_5; clear x4_5
  have X4_6 := hid x4_6; clear x4_6
  have G4 := hid (G3.out.trans hg4)
  clear hg4
  go_wp2
  refine bodyPost_ret (v := .tuple #[fr P' Q', .int .i64 C']) (by simp [results, Try.results88, go_sem, *]) rfl ⟨rfl, ?_⟩
  exact ((G4.out).setCell (by simp <;> omega) _).setCell (by simp <;> omega) _
set_option maxRecDepth 20000 in
set_option maxHeartbeats 400000 in
theorem iLineAt (P Q C i : Int) (a b n x y : Int) (r : Bool) (A : Option Addr) (c : Nat) (xs : List (Int × Int)) (w : World) (X : Hid (RdF w A xs)) (ho : ∀ w, Hid (RdF w A xs) → Calls Try.prog 88 #[scl a b A xs.length c, vn n r, fr x y, .int .i64 i, .func (.func 89) #[] #[]] w fun e w' => e = .returned (.tuple #[fr P Q, .int .i64 C]) ∧ Gr w w') :
    Calls Try.prog 38 #[scl a b A xs.length c, vn n r, fr x y, .int .i64 i] w fun e w' => e = .returned (.tuple #[fr P Q, .int .i64 C]) ∧ Gr w w' := by
  have HO := hid ho; clear ho
  go_enter Try.func38, Try.ntmps38
  go_wp2_with fail
  refine (HO.out _ (hid (X.out.keep (((((Gr.refl w).al _).al _).al _).al _)))).mono ?_
  rintro e w1 ⟨rfl, hg1⟩
  obtain ⟨x1_0, x1_1, x1_2, x1_3, hz1, g1⟩ := alloc4 hg1
  obtain ⟨_, _, _⟩ := cells3 x1_0
  have _ := fz x1_0
  have _ := ltb x1_0
  obtain ⟨_, _⟩ := cells2 x1_1
  have _ := fz x1_1
  have _ := ltb x1_1
  obtain ⟨_, _⟩ := cells2 x1_2
  have _ := fz x1_2
  have _ := ltb x1_2
  obtain ⟨_, _⟩ := cells2 x1_3
  have _ := fz x1_3
  have _ := ltb x1_3
  have X1_0 := hid x1_0; clear x1_0
  have X1_1 := hid x1_1; clear x1_1
  have X1_2 := hid x1_2; clear x1_2
  have X1_3 := hid x1_3; clear x1_3
  have G1 := hid (g1)
  clear hg1 g1
  go_wp2
  refine bodyPost_ret (v := .tuple #[fr P Q, .int .i64 C]) (by simp [results, Try.results38, go_sem, *]) rfl ⟨rfl, ?_⟩
  exact ((G1.out).setCell (by simp <;> omega) _).setCell (by simp <;> omega) _

set_option maxRecDepth 20000 in
set_option maxHeartbeats 400000 in
theorem iMisfitOf (P Q C i : Int) (a b n x y : Int) (r : Bool) (A : Option Addr) (c : Nat) (xs : List (Int × Int)) (w : World) (X : Hid (RdF w A xs)) (ho : ∀ w, Hid (RdF w A xs) → Calls Try.prog 88 #[scl a b A xs.length c, vn n r, fr x y, .int .i64 i, .func (.func 91) #[] #[]] w fun e w' => e = .returned (.tuple #[fr P Q, .int .i64 C]) ∧ Gr w w') :
    Calls Try.prog 40 #[scl a b A xs.length c, vn n r, fr x y, .int .i64 i] w fun e w' => e = .returned (.tuple #[fr P Q, .int .i64 C]) ∧ Gr w w' := by
  have HO := hid ho; clear ho
  go_enter Try.func40, Try.ntmps40
  go_wp2_with fail
  refine (HO.out _ (hid (X.out.keep (((((Gr.refl w).al _).al _).al _).al _)))).mono ?_
  rintro e w1 ⟨rfl, hg1⟩
  obtain ⟨x1_0, x1_1, x1_2, x1_3, hz1, g1⟩ := alloc4 hg1
  obtain ⟨_, _, _⟩ := cells3 x1_0
  have _ := fz x1_0
  have _ := ltb x1_0
  obtain ⟨_, _⟩ := cells2 x1_1
  have _ := fz x1_1
  have _ := ltb x1_1
  obtain ⟨_, _⟩ := cells2 x1_2
  have _ := fz x1_2
  have _ := ltb x1_2
  obtain ⟨_, _⟩ := cells2 x1_3
  have _ := fz x1_3
  have _ := ltb x1_3
  have X1_0 := hid x1_0; clear x1_0
  have X1_1 := hid x1_1; clear x1_1
  have X1_2 := hid x1_2; clear x1_2
  have X1_3 := hid x1_3; clear x1_3
  have G1 := hid (g1)
  clear hg1 g1
  go_wp2
  refine bodyPost_ret (v := .tuple #[fr P Q, .int .i64 C]) (by simp [results, Try.results40, go_sem, *]) rfl ⟨rfl, ?_⟩
  exact ((G1.out).setCell (by simp <;> omega) _).setCell (by simp <;> omega) _

/-- What LineAt and MisfitOf have in common. -/
theorem both_line (a b : Int) (xs : List (Int × Int)) (n : Int) (r : Bool) (x y i : Int) (hn : xs.length ≤ 1048576) (F fs fi sl : Nat) (B : Bool) (P Q : Int)
    (hs0 : ∀ (A : Option Addr) (c : Nat) (w : World), Hid (RdF w A xs) → askB a b xs n x y = false → Calls Try.prog fs #[scl a b A xs.length c, vn n r, fr x y, .int .i64 i] w fun e w' => e = .returned (.tuple #[fr 0 0, .int .i64 1]) ∧ Gr w w')
    (hs1 : ∀ (A : Option Addr) (c : Nat) (w : World), Hid (RdF w A xs) → askB a b xs n x y = true → inB i 0 (n - 1) = false → Calls Try.prog fs #[scl a b A xs.length c, vn n r, fr x y, .int .i64 i] w fun e w' => e = .returned (.tuple #[fr 0 0, .int .i64 2]) ∧ Gr w w')
    (hs2 : ∀ (P Q C : Int) (A : Option Addr) (c : Nat) (w : World), Hid (RdF w A xs) → askB a b xs n x y = true → inB i 0 (n - 1) = true → (∀ (w : World) (j j2 : Nat), Hid (w.heap[j]? = some (.cells #[.int .i64 a, .int .i64 b, .slice A xs.length c] 32)) → Hid (w.heap[j2]? = some (.cells #[.int .i64 n, .bool r] 53)) → Hid (RdF w A xs) → Calls Try.prog sl #[.pointer (some ⟨j, 0, none⟩), .pointer (some ⟨j2, 0, none⟩), fr x y, .int .i64 i] w fun e w' => e = .returned (.tuple #[fr P Q, .int .i64 C]) ∧ Gr w w') → Calls Try.prog fs #[scl a b A xs.length c, vn n r, fr x y, .int .i64 i] w fun e w' => e = .returned (.tuple #[fr P Q, .int .i64 C]) ∧ Gr w w')
    (hsl : ∀ (A : Option Addr) (c : Nat) (w : World) (j j2 : Nat), askB a b xs n x y = true → inB i 0 (n - 1) = true → Hid (w.heap[j]? = some (.cells #[.int .i64 a, .int .i64 b, .slice A xs.length c] 32)) → Hid (w.heap[j2]? = some (.cells #[.int .i64 n, .bool r] 53)) → Hid (RdF w A xs) → Calls Try.prog sl #[.pointer (some ⟨j, 0, none⟩), .pointer (some ⟨j2, 0, none⟩), fr x y, .int .i64 i] w (ResS B P Q w))
    (hi : ∀ (P Q C : Int) (A : Option Addr) (c : Nat) (w : World), Hid (RdF w A xs) → (∀ w, Hid (RdF w A xs) → Calls Try.prog 88 #[scl a b A xs.length c, vn n r, fr x y, .int .i64 i, .func (.func F) #[] #[]] w fun e w' => e = .returned (.tuple #[fr P Q, .int .i64 C]) ∧ Gr w w') → Calls Try.prog fi #[scl a b A xs.length c, vn n r, fr x y, .int .i64 i] w fun e w' => e = .returned (.tuple #[fr P Q, .int .i64 C]) ∧ Gr w w')
    (hen : ∀ (A : Option Addr) (c : Nat) (w : World), (callFunc F #[vn n r, scl a b A xs.length c, fr x y, .int .i64 i]).run Try.prog w = .ok (.enter F #[vn n r, scl a b A xs.length c, fr x y, .int .i64 i]) w)
    (hf : ∀ (A : Option Addr) (c : Nat) (w : World), askB a b xs n x y = true → inB i 0 (n - 1) = true → Hid (RdF w A xs) → Calls Try.prog F #[vn n r, scl a b A xs.length c, fr x y, .int .i64 i] w (ResI B P Q w)) :
    ∃ R0 R1 R2 : Int,
    (∀ (A : Option Addr) (c : Nat) (w : World), Hid (RdF w A xs) → Calls Try.prog fs #[scl a b A xs.length c, vn n r, fr x y, .int .i64 i] w fun x w' => x = .returned (.tuple #[fr R0 R1, .int .i64 R2]) ∧ Gr w w') ∧
    (∀ (A : Option Addr) (c : Nat) (w : World), Hid (RdF w A xs) → Calls Try.prog fi #[scl a b A xs.length c, vn n r, fr x y, .int .i64 i] w fun x w' => x = .returned (.tuple #[fr R0 R1, .int .i64 R2]) ∧ Gr w w') := by
  cases h : askB a b xs n x y with
  | false =>
    refine ⟨0, 0, 1, fun A c w X => hs0 A c w X h, fun A c w X => hi 0 0 1 A c w X fun w X => ?_⟩
    cases h1 : sclB a b xs with
    | false => exact iofl_0 i F a b n x y r A c xs w X hn h1
    | true =>
      cases h2 : inB n 2 40 with
      | false => exact iofl_1 i F a b n x y r A c xs w X hn h1 h2
      | true =>
        have h3 : okB x y = false := by
          unfold askB at h
          rw [h1, h2] at h
          simpa using h
        exact iofl_2 i F a b n x y r A c xs w X hn h1 h2 h3
  | true =>
    cases hr : inB i 0 (n - 1) with
    | false =>
      refine ⟨0, 0, 2, fun A c w X => hs1 A c w X h hr, fun A c w X => hi 0 0 2 A c w X fun w X => ?_⟩
      by_cases h1 : i < 0
      · exact iofl_3 i F a b n x y r A c xs w X hn h h1
      · have h2 : n ≤ i := by unfold inB at hr; simp at hr; omega
        exact iofl_4 i F a b n x y r A c xs w X hn h h1 h2
    | true =>
      obtain ⟨l1, l2⟩ := in_bd hr
      exact ⟨_, _, _, fun A c w X => hs2 _ _ _ A c w X h hr fun w j j2 X1 X2 X => hsl A c w j j2 h hr X1 X2 X,
        fun A c w X => hi _ _ _ A c w X fun w X => iofl_5 B P Q i F a b n x y r A c xs w X hn h (by omega) (by omega) (hen A c) fun w' hg => hf A c w' h hr (hid (X.out.keep hg))⟩
theorem bothLineAt (a b : Int) (xs : List (Int × Int)) (n : Int) (r : Bool) (x y i : Int) (hn : xs.length ≤ 1048576) : ∃ R0 R1 R2 : Int,
    (∀ (A : Option Addr) (c : Nat) (w : World), Hid (RdF w A xs) → Calls Try.prog 37 #[scl a b A xs.length c, vn n r, fr x y, .int .i64 i] w fun x w' => x = .returned (.tuple #[fr R0 R1, .int .i64 R2]) ∧ Gr w w') ∧
    (∀ (A : Option Addr) (c : Nat) (w : World), Hid (RdF w A xs) → Calls Try.prog 38 #[scl a b A xs.length c, vn n r, fr x y, .int .i64 i] w fun x w' => x = .returned (.tuple #[fr R0 R1, .int .i64 R2]) ∧ Gr w w') :=
  both_line a b xs n r x y i hn 89 37 38 87 (lnB a b n (stp n r i) x y) (lnP a b n (stp n r i) x y) (lnQ a b n (stp n r i) x y)
    (fun A c w X h => sLineAt_0 i a b n x y r A c xs w X hn h) (fun A c w X h hr => sLineAt_1 i a b n x y r A c xs w X hn h hr) (fun P Q C A c w X h hr hl => sLineAt_2 i P Q C a b n x y r A c xs w X hn h hr hl)
    (fun A c w j j2 h hr X1 X2 _ => by
      obtain ⟨l1, l2⟩ := in_bd hr; obtain ⟨h1, h2, h3⟩ := ask_of h; obtain ⟨n1, n2⟩ := in_bd h2
      exact sline a b n i x y r j j2 _ w X1 X2 n1 n2 l1 (by omega) (scl_of h1).unit h3)
    (fun P Q C A c w X ho => iLineAt P Q C i a b n x y r A c xs w X ho) (fun A c w => by kernel_rfl)
    (fun A c w h hr _ => by
      obtain ⟨l1, l2⟩ := in_bd hr; obtain ⟨h1, h2, h3⟩ := ask_of h; obtain ⟨n1, n2⟩ := in_bd h2
      exact iline a b n i x y r A xs.length c w n1 n2 l1 (by omega) (scl_of h1).unit h3)
end Go.Proofs.Ytfkmlgndggnhaaa
