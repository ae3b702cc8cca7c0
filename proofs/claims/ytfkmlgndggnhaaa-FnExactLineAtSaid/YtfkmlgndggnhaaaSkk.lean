/- WALKS: where a line of a vernier is, of the program and of the reference. -/
import Derived.Test.YtfkmlgndggnhaaaSkj
namespace Go.Proofs.Ytfkmlgndggnhaaa
open Go.RowKit Go.Sort

def lnP (a b n t x y : Int) : Int := redP (x * nQ a b n t + nP a b n t * y) (y * nQ a b n t)
def lnQ (a b n t x y : Int) : Int := redQ (x * nQ a b n t + nP a b n t * y) (y * nQ a b n t)
/-- Can the place of a line be told, its step being told? -/
def ln3 (a b n t x y : Int) : Bool := okB (lnP a b n t x y) (lnQ a b n t x y)
def lnB (a b n t x y : Int) : Bool := n1B a b t && (nB a b n t && ln3 a b n t x y)
/-- The steps of the line i. -/
def stp (n : Int) (r : Bool) (i : Int) : Int := if r then i * (n + 1) else i * (n - 1)
theorem plusl_t (a b n t x y : Int) (w : World) (h2 : okB x y = true) (g2 : nB a b n t = true) (g3 : ln3 a b n t x y = true) :
    Calls Try.prog 102 #[fr x y, fr (nP a b n t) (nQ a b n t)] w fun e w' => e = .returned (fr (lnP a b n t x y) (lnQ a b n t x y)) ∧ Gr w w' := plus_yes x y _ _ w h2 g2 g3
theorem saddl_t (a b n t x y : Int) (w : World) (h2 : okB x y = true) (g2 : nB a b n t = true) (g3 : ln3 a b n t x y = true) :
    Calls Try.prog 116 #[fr x y, fr (nP a b n t) (nQ a b n t)] w fun e w' => e = .returned (.tuple #[fr (lnP a b n t x y) (lnQ a b n t x y), .int .i64 0]) ∧ Gr w w' := sadd_t x y _ _ w h2 g2 g3
theorem saddl_f (a b n t x y : Int) (w : World) (h2 : okB x y = true) (g2 : nB a b n t = true) (g3 : ln3 a b n t x y = false) :
    Calls Try.prog 116 #[fr x y, fr (nP a b n t) (nQ a b n t)] w fun e w' => e = .returned (.tuple #[fr 0 0, .int .i64 3]) ∧ Gr w w' := sadd_f x y _ _ w h2 g2 g3

set_option maxRecDepth 20000 in
set_option maxHeartbeats 1000000 in
theorem iline_f_ok (a b n i x y : Int) (A : Option Addr) (m c : Nat) (w : World) (q1 : -2000 ≤ i * (n - 1)) (q2 : i * (n - 1) ≤ 2000) (n1 : 2 ≤ n) (n2 : n ≤ 40) (h1 : okB a b = true) (hx : okB x y = true) (g1 : n1B a b (i * (n - 1)) = true) (g2 : nB a b n (i * (n - 1)) = true) (g3 : ln3 a b n (i * (n - 1)) x y = true) :
    Calls Try.prog 89 #[vn n false, scl a b A m c, fr x y, .int .i64 i] w fun e w' => e = .returned (fr (lnP a b n (i * (n - 1)) x y) (lnQ a b n (i * (n - 1)) x y)) ∧ Gr w w' := by
  have ht := hid (ok_whole (t := i * (n - 1)) (by omega) (by omega)); have hn := hid (ok_whole (t := n) (by omega) (by omega)); have hz := hid (show n ≠ 0 by omega)
  have h1 := hid h1
  have hx := hid hx; have g1 := hid g1; have g2 := hid g2; have g3 := hid g3
  go_enter Try.func89, Try.ntmps89
  go_wp2_with fail
  refine wp_reg0 11 (by kernel_rfl) (by kernel_rfl) ?_
  apply Exists.intro
  refine ⟨fun wb hb => ?_, ?_⟩
  · obtain ⟨y0, y1, y2, y3, _, _⟩ := alloc4 (Gr.refl _)
    obtain ⟨_, _⟩ := hb.at2 y0
    obtain ⟨_, _, _⟩ := hb.at3 y1
    obtain ⟨_, _⟩ := hb.at2 y2
    obtain ⟨_, _⟩ := hb.at2 y3
    clear y0 y1 y2 y3
    simp only [headOps, List.contains, List.elem, reduceIte, Bool.false_eq_true]
    repeat (first | go_big_quiet_step (first | (go_at_call 103; exact Calls.of_gr (itw_ok _ _ _ _ h1.out ht.out g1.out)) | (go_at_call 85; exact Calls.of_gr (ioww_t a b n _ _ hn.out hz.out g1.out g2.out)) | (go_at_call 102; exact Calls.of_gr (plusl_t a b n _ x y _ hx.out g2.out g3.out))) | quiet_step (fail))
    exact wpQuiet_nil rfl
  intro w1 hg1
  obtain ⟨x1_0, x1_1, x1_2, x1_3, hz1, g1⟩ := alloc4 hg1
  obtain ⟨_, _⟩ := cells2 x1_0
  have _ := fz x1_0
  have _ := ltb x1_0
  obtain ⟨_, _, _⟩ := cells3 x1_1
  have _ := fz x1_1
  have _ := ltb x1_1
  obtain ⟨_, _⟩ := cells2 x1_2
  have _ := fz x1_2
  have _ := ltb x1_2
  obtain ⟨_, _⟩ := cells2 x1_3
  have _ := fz x1_3
  have _ := ltb x1_3
  have X1_0 := hid x1_0; clear x1_0
  have X1_1 := hid x1_1; clear x1_1
  have X1_2 := hid x1_2; clear x1_2
  have X1_3 := hid x1_3; clear x1_3
  have G1 := hid (g1)
  clear hg1 g1
  go_wp2
  refine bodyPost_ret (v := fr (lnP a b n (i * (n - 1)) x y) (lnQ a b n (i * (n - 1)) x y)) (by simp [results, Try.results89, go_sem, *]) rfl ⟨rfl, ?_⟩
  exact ((G1.out).setCell (by simp <;> omega) _).setCell (by simp <;> omega) _
set_option maxRecDepth 20000 in
set_option maxHeartbeats 1000000 in
theorem iline_f_b1 (a b n i x y : Int) (A : Option Addr) (m c : Nat) (w : World) (q1 : -2000 ≤ i * (n - 1)) (q2 : i * (n - 1) ≤ 2000) (n1 : 2 ≤ n) (n2 : n ≤ 40) (h1 : okB a b = true) (g1 : n1B a b (i * (n - 1)) = false) :
    Calls Try.prog 89 #[vn n false, scl a b A m c, fr x y, .int .i64 i] w fun e w' => (∃ x y, e = .panicked [{ v := .iface 125 (fr x y), recovered := false }]) ∧ Gr w w' := by
  have ht := hid (ok_whole (t := i * (n - 1)) (by omega) (by omega)); have hn := hid (ok_whole (t := n) (by omega) (by omega)); have hz := hid (show n ≠ 0 by omega)
  have h1 := hid h1
  have g1 := hid g1; clear hn hz
  go_enter Try.func89, Try.ntmps89
  go_wp2_with fail
  refine wp_regP 6 [9, 10, 11] (by kernel_rfl) (by kernel_rfl) rfl ?_
  apply Exists.intro
  refine ⟨103, #[fr a b, .int .i64 (i * (n - 1))], fun wb hb => ?_, ?_⟩
  · obtain ⟨y0, y1, y2, y3, _, _⟩ := alloc4 (Gr.refl _)
    obtain ⟨_, _⟩ := hb.at2 y0
    obtain ⟨_, _, _⟩ := hb.at3 y1
    obtain ⟨_, _⟩ := hb.at2 y2
    obtain ⟨_, _⟩ := hb.at2 y3
    clear y0 y1 y2 y3
    simp only [headOps, List.contains, List.elem, List.length_cons, List.length_nil, Nat.zero_add, Nat.reduceAdd, Nat.reduceBEq, reduceIte, Bool.false_eq_true, dumOp]
    repeat (first | go_big_quiet_step (first | (fail)) | quiet_step (fail))
    exact wpQuiet_nil rfl
  refine ⟨fun w' => by kernel_rfl, fun w' hg' => (itw_bad _ _ _ _ h1.out ht.out g1.out).mono fun e w2 ⟨⟨x, y, he⟩, hg2⟩ => ⟨_, he, fun a' ha' => ⟨ha', ⟨x, y, rfl⟩, ((((((Gr.refl _).al _).al _).al _).al _).trans hg').trans hg2⟩⟩⟩
set_option maxRecDepth 20000 in
set_option maxHeartbeats 1000000 in
theorem iline_f_b2 (a b n i x y : Int) (A : Option Addr) (m c : Nat) (w : World) (q1 : -2000 ≤ i * (n - 1)) (q2 : i * (n - 1) ≤ 2000) (n1 : 2 ≤ n) (n2 : n ≤ 40) (h1 : okB a b = true) (g1 : n1B a b (i * (n - 1)) = true) (g2 : nB a b n (i * (n - 1)) = false) :
    Calls Try.prog 89 #[vn n false, scl a b A m c, fr x y, .int .i64 i] w fun e w' => (∃ x y, e = .panicked [{ v := .iface 125 (fr x y), recovered := false }]) ∧ Gr w w' := by
  have ht := hid (ok_whole (t := i * (n - 1)) (by omega) (by omega)); have hn := hid (ok_whole (t := n) (by omega) (by omega)); have hz := hid (show n ≠ 0 by omega)
  have h1 := hid h1
  have g1 := hid g1; have g2 := hid g2
  go_enter Try.func89, Try.ntmps89
  go_wp2_with fail
  refine wp_regP 9 [10, 11] (by kernel_rfl) (by kernel_rfl) rfl ?_
  apply Exists.intro
  refine ⟨85, #[fr (n1P a b (i * (n - 1))) (n1Q a b (i * (n - 1))), .int .i64 n], fun wb hb => ?_, ?_⟩
  · obtain ⟨y0, y1, y2, y3, _, _⟩ := alloc4 (Gr.refl _)
    obtain ⟨_, _⟩ := hb.at2 y0
    obtain ⟨_, _, _⟩ := hb.at3 y1
    obtain ⟨_, _⟩ := hb.at2 y2
    obtain ⟨_, _⟩ := hb.at2 y3
    clear y0 y1 y2 y3
    simp only [headOps, List.contains, List.elem, List.length_cons, List.length_nil, Nat.zero_add, Nat.reduceAdd, Nat.reduceBEq, reduceIte, Bool.false_eq_true, dumOp]
    repeat (first | go_big_quiet_step (first | (go_at_call 103; exact Calls.of_gr (itw_ok _ _ _ _ h1.out ht.out g1.out))) | quiet_step (fail))
    exact wpQuiet_nil rfl
  refine ⟨fun w' => by kernel_rfl, fun w' hg' => (iow_bad _ _ _ _ g1.out hn.out hz.out g2.out).mono fun e w2 ⟨⟨x, y, he⟩, hg2⟩ => ⟨_, he, fun a' ha' => ⟨ha', ⟨x, y, rfl⟩, ((((((Gr.refl _).al _).al _).al _).al _).trans hg').trans hg2⟩⟩⟩
set_option maxRecDepth 20000 in
set_option maxHeartbeats 1000000 in
theorem iline_f_b3 (a b n i x y : Int) (A : Option Addr) (m c : Nat) (w : World) (q1 : -2000 ≤ i * (n - 1)) (q2 : i * (n - 1) ≤ 2000) (n1 : 2 ≤ n) (n2 : n ≤ 40) (h1 : okB a b = true) (hx : okB x y = true) (g1 : n1B a b (i * (n - 1)) = true) (g2 : nB a b n (i * (n - 1)) = true) (g3 : ln3 a b n (i * (n - 1)) x y = false) :
    Calls Try.prog 89 #[vn n false, scl a b A m c, fr x y, .int .i64 i] w fun e w' => (∃ x y, e = .panicked [{ v := .iface 125 (fr x y), recovered := false }]) ∧ Gr w w' := by
  have ht := hid (ok_whole (t := i * (n - 1)) (by omega) (by omega)); have hn := hid (ok_whole (t := n) (by omega) (by omega)); have hz := hid (show n ≠ 0 by omega)
  have h1 := hid h1
  have hx := hid hx; have g1 := hid g1; have g2 := hid g2; have g3 := hid g3
  go_enter Try.func89, Try.ntmps89
  go_wp2_with fail
  refine wp_regP 10 [11] (by kernel_rfl) (by kernel_rfl) rfl ?_
  apply Exists.intro
  refine ⟨102, #[fr x y, fr (nP a b n (i * (n - 1))) (nQ a b n (i * (n - 1)))], fun wb hb => ?_, ?_⟩
  · obtain ⟨y0, y1, y2, y3, _, _⟩ := alloc4 (Gr.refl _)
    obtain ⟨_, _⟩ := hb.at2 y0
    obtain ⟨_, _, _⟩ := hb.at3 y1
    obtain ⟨_, _⟩ := hb.at2 y2
    obtain ⟨_, _⟩ := hb.at2 y3
    clear y0 y1 y2 y3
    simp only [headOps, List.contains, List.elem, List.length_cons, List.length_nil, Nat.zero_add, Nat.reduceAdd, Nat.reduceBEq, reduceIte, Bool.false_eq_true, dumOp]
    repeat (first | go_big_quiet_step (first | (go_at_call 103; exact Calls.of_gr (itw_ok _ _ _ _ h1.out ht.out g1.out)) | (go_at_call 85; exact Calls.of_gr (ioww_t a b n _ _ hn.out hz.out g1.out g2.out))) | quiet_step (fail))
    exact wpQuiet_nil rfl
  refine ⟨fun w' => by kernel_rfl, fun w' hg' => (plus_no _ _ _ _ _ hx.out g2.out g3.out).mono fun e w2 ⟨⟨x, y, he⟩, hg2⟩ => ⟨_, he, fun a' ha' => ⟨ha', ⟨x, y, rfl⟩, ((((((Gr.refl _).al _).al _).al _).al _).trans hg').trans hg2⟩⟩⟩
set_option maxRecDepth 20000 in
set_option maxHeartbeats 1000000 in
theorem sline_f_f1 (a b n i x y : Int) (j j2 : Nat) (S : Value) (w : World) (X1 : Hid (w.heap[j]? = some (.cells #[.int .i64 a, .int .i64 b, S] 32))) (X2 : Hid (w.heap[j2]? = some (.cells #[.int .i64 n, .bool false] 53))) (q1 : -2000 ≤ i * (n - 1)) (q2 : i * (n - 1) ≤ 2000) (n1 : 2 ≤ n) (n2 : n ≤ 40) (h1 : okB a b = true) (g1 : n1B a b (i * (n - 1)) = false) :
    Calls Try.prog 87 #[.pointer (some ⟨j, 0, none⟩), .pointer (some ⟨j2, 0, none⟩), fr x y, .int .i64 i] w fun e w' => e = .returned (.tuple #[fr 0 0, .int .i64 3]) ∧ Gr w w' := by
  have ht := hid (ok_whole (t := i * (n - 1)) (by omega) (by omega)); have hn := hid (ok_whole (t := n) (by omega) (by omega)); have hz := hid (show n ≠ 0 by omega)
  have h1 := hid h1
  have g1 := hid g1; clear hn hz
  go_enter Try.func87, Try.ntmps87
  obtain ⟨_, _, _⟩ := cells3 X1.out
  have _ := fz X1.out
  have _ := ltb X1.out
  obtain ⟨_, _⟩ := cells2 X2.out
  have _ := fz X2.out
  have _ := ltb X2.out
  go_wp2_with fail
  refine wp_reg1s #[.int .i64 0, .int .i64 0] 14 12 11 13 39 (by kernel_rfl) (by kernel_rfl) rfl rfl (by simp) rfl rfl (by decide) (fun _ _ => by kernel_rfl) (by kernel_rfl) ?_
  apply Exists.intro; apply Exists.intro
  refine ⟨fun wb hb => ?_, ?_⟩
  · obtain ⟨y0, y1, _, _⟩ := alloc2 (Gr.refl _)
    obtain ⟨_, _⟩ := hb.at2 y0
    obtain ⟨_, _⟩ := hb.at2 y1
    clear y0 y1
    obtain ⟨_, _, _⟩ := hb.at3 ((((Gr.refl _).al _).al _).keep X1.out)
    obtain ⟨_, _⟩ := hb.at2 ((((Gr.refl _).al _).al _).keep X2.out)
    simp only [headOps, List.contains, List.elem, Nat.reduceAdd, Nat.reduceBEq, reduceIte, Bool.false_eq_true, dumOp]
    repeat (first | go_big_quiet_step (first | (go_at_call 65; exact Calls.of_gr (swhole1 _ _)) | (go_at_call 115; exact Calls.of_gr (smul_f _ _ _ _ _ ht.out h1.out g1.out))) | quiet_step (fail))
    exact wpQuiet_nil rfl
  refine ⟨rfl, ⟨rfl, by simp [Value.oneCell']⟩, fun w1 b1 hg1 _ xb1 => ?_⟩
  obtain ⟨x1_0, x1_1, hz1, g1⟩ := alloc2 hg1
  have x1_2 := g1.keep X1.out
  have x1_3 := g1.keep X2.out
  obtain ⟨_, _⟩ := cells2 x1_0
  have _ := fz x1_0
  have _ := ltb x1_0
  obtain ⟨_, _⟩ := cells2 x1_1
  have _ := fz x1_1
  have _ := ltb x1_1
  obtain ⟨_, _, _⟩ := cells3 x1_2
  have _ := fz x1_2
  have _ := ltb x1_2
  obtain ⟨_, _⟩ := cells2 x1_3
  have _ := fz x1_3
  have _ := ltb x1_3
  obtain ⟨_, _⟩ := cells2 xb1
  have _ := fz xb1
  have _ := ltb xb1
  have X1_0 := hid x1_0; clear x1_0
  have X1_1 := hid x1_1; clear x1_1
  have X1_2 := hid x1_2; clear x1_2
  have X1_3 := hid x1_3; clear x1_3
  have Xb1 := hid xb1; clear xb1
  have G1 := hid (g1)
  clear hg1 g1
  go_wp2
  refine bodyPost_ret (v := .tuple #[fr 0 0, .int .i64 3]) (by simp [results, Try.results87, go_sem, *]) rfl ⟨rfl, ?_⟩
  exact ((G1.out).setCell (by simp <;> omega) _).setCell (by simp <;> omega) _
set_option maxRecDepth 20000 in
set_option maxHeartbeats 1000000 in
theorem sline_f_f2 (a b n i x y : Int) (j j2 : Nat) (S : Value) (w : World) (X1 : Hid (w.heap[j]? = some (.cells #[.int .i64 a, .int .i64 b, S] 32))) (X2 : Hid (w.heap[j2]? = some (.cells #[.int .i64 n, .bool false] 53))) (q1 : -2000 ≤ i * (n - 1)) (q2 : i * (n - 1) ≤ 2000) (n1 : 2 ≤ n) (n2 : n ≤ 40) (h1 : okB a b = true) (g1 : n1B a b (i * (n - 1)) = true) (g2 : nB a b n (i * (n - 1)) = false) :
    Calls Try.prog 87 #[.pointer (some ⟨j, 0, none⟩), .pointer (some ⟨j2, 0, none⟩), fr x y, .int .i64 i] w fun e w' => e = .returned (.tuple #[fr 0 0, .int .i64 3]) ∧ Gr w w' := by
  have ht := hid (ok_whole (t := i * (n - 1)) (by omega) (by omega)); have hn := hid (ok_whole (t := n) (by omega) (by omega)); have hz := hid (show n ≠ 0 by omega)
  have h1 := hid h1
  have g1 := hid g1; have g2 := hid g2
  go_enter Try.func87, Try.ntmps87
  obtain ⟨_, _, _⟩ := cells3 X1.out
  have _ := fz X1.out
  have _ := ltb X1.out
  obtain ⟨_, _⟩ := cells2 X2.out
  have _ := fz X2.out
  have _ := ltb X2.out
  go_wp2_with fail
  refine wp_reg1s #[.int .i64 0, .int .i64 0] 14 12 11 13 39 (by kernel_rfl) (by kernel_rfl) rfl rfl (by simp) rfl rfl (by decide) (fun _ _ => by kernel_rfl) (by kernel_rfl) ?_
  apply Exists.intro; apply Exists.intro
  refine ⟨fun wb hb => ?_, ?_⟩
  · obtain ⟨y0, y1, _, _⟩ := alloc2 (Gr.refl _)
    obtain ⟨_, _⟩ := hb.at2 y0
    obtain ⟨_, _⟩ := hb.at2 y1
    clear y0 y1
    obtain ⟨_, _, _⟩ := hb.at3 ((((Gr.refl _).al _).al _).keep X1.out)
    obtain ⟨_, _⟩ := hb.at2 ((((Gr.refl _).al _).al _).keep X2.out)
    simp only [headOps, List.contains, List.elem, Nat.reduceAdd, Nat.reduceBEq, reduceIte, Bool.false_eq_true, dumOp]
    repeat (first | go_big_quiet_step (first | (go_at_call 65; exact Calls.of_gr (swhole1 _ _)) | (go_at_call 115; exact Calls.of_gr (mulw_t a b _ _ h1.out ht.out g1.out))) | quiet_step (fail))
    exact wpQuiet_nil rfl
  refine ⟨rfl, ⟨rfl, by simp [Value.oneCell']⟩, fun w1 b1 hg1 _ xb1 => ?_⟩
  obtain ⟨x1_0, x1_1, hz1, g1⟩ := alloc2 hg1
  have x1_2 := g1.keep X1.out
  have x1_3 := g1.keep X2.out
  obtain ⟨_, _⟩ := cells2 x1_0
  have _ := fz x1_0
  have _ := ltb x1_0
  obtain ⟨_, _⟩ := cells2 x1_1
  have _ := fz x1_1
  have _ := ltb x1_1
  obtain ⟨_, _, _⟩ := cells3 x1_2
  have _ := fz x1_2
  have _ := ltb x1_2
  obtain ⟨_, _⟩ := cells2 x1_3
  have _ := fz x1_3
  have _ := ltb x1_3
  obtain ⟨_, _⟩ := cells2 xb1
  have _ := fz xb1
  have _ := ltb xb1
  have X1_0 := hid x1_0; clear x1_0
  have X1_1 := hid x1_1; clear x1_1
  have X1_2 := hid x1_2; clear x1_2
  have X1_3 := hid x1_3; clear x1_3
  have Xb1 := hid xb1; clear xb1
  have G1 := hid (g1)
  clear hg1 g1
  go_wp2_with fail
  refine wp_reg1s #[.int .i64 0, .int .i64 0] 12 10 13 11 53 (by kernel_rfl) (by kernel_rfl) rfl rfl (by simp) rfl rfl (by decide) (fun _ _ => by kernel_rfl) (by kernel_rfl) ?_
  apply Exists.intro; apply Exists.intro
  refine ⟨fun wb hb => ?_, ?_⟩
  · obtain ⟨_, _⟩ := hb.at2 X1_0.out
    obtain ⟨_, _⟩ := hb.at2 X1_1.out
    obtain ⟨_, _, _⟩ := hb.at3 X1_2.out
    obtain ⟨_, _⟩ := hb.at2 X1_3.out
    obtain ⟨_, _⟩ := hb.at2 Xb1.out
    simp only [headOps, List.contains, List.elem, Nat.reduceAdd, Nat.reduceBEq, reduceIte, Bool.false_eq_true, dumOp]
    repeat (first | go_big_quiet_step (first | (go_at_call 65; exact Calls.of_gr (swhole1 _ _)) | (go_at_call 81; exact Calls.of_gr (divw_f a b n _ _ hn.out hz.out g1.out g2.out))) | quiet_step (fail))
    exact wpQuiet_nil rfl
  refine ⟨rfl, ⟨rfl, by simp [Value.oneCell']⟩, fun w2 b2 hg2 _ xb2 => ?_⟩
  have x2_1 := hg2.keep X1_0.out
  have x2_2 := hg2.keep X1_1.out
  have x2_3 := hg2.keep X1_2.out
  have x2_4 := hg2.keep X1_3.out
  have x2_5 := hg2.keep Xb1.out
  obtain ⟨_, _⟩ := cells2 x2_1
  have _ := fz x2_1
  have _ := ltb x2_1
  obtain ⟨_, _⟩ := cells2 x2_2
  have _ := fz x2_2
  have _ := ltb x2_2
  obtain ⟨_, _, _⟩ := cells3 x2_3
  have _ := fz x2_3
  have _ := ltb x2_3
  obtain ⟨_, _⟩ := cells2 x2_4
  have _ := fz x2_4
  have _ := ltb x2_4
  obtain ⟨_, _⟩ := cells2 x2_5
  have _ := fz x2_5
  have _ := ltb x2_5
  obtain ⟨_, _⟩ := cells2 xb2
  have _ := fz xb2
  have _ := ltb xb2
  have X2_1 := hid x2_1; clear x2_1
  have X2_2 := hid x2_2; clear x2_2
  have X2_3 := hid x2_3; clear x2_3
  have X2_4 := hid x2_4; clear x2_4
  have X2_5 := hid x2_5; clear x2_5
  have Xb2 := hid xb2; clear xb2
  have G2 := hid (G1.out.trans hg2)
  clear hg2
  go_wp2
  refine bodyPost_ret (v := .tuple #[fr 0 0, .int .i64 3]) (by simp [results, Try.results87, go_sem, *]) rfl ⟨rfl, ?_⟩
  exact ((G2.out).setCell (by simp <;> omega) _).setCell (by simp <;> omega) _
set_option maxRecDepth 20000 in
set_option maxHeartbeats 1000000 in
theorem sline_f_f3 (a b n i x y : Int) (j j2 : Nat) (S : Value) (w : World) (X1 : Hid (w.heap[j]? = some (.cells #[.int .i64 a, .int .i64 b, S] 32))) (X2 : Hid (w.heap[j2]? = some (.cells #[.int .i64 n, .bool false] 53))) (q1 : -2000 ≤ i * (n - 1)) (q2 : i * (n - 1) ≤ 2000) (n1 : 2 ≤ n) (n2 : n ≤ 40) (h1 : okB a b = true) (hx : okB x y = true) (g1 : n1B a b (i * (n - 1)) = true) (g2 : nB a b n (i * (n - 1)) = true) (g3 : ln3 a b n (i * (n - 1)) x y = false) :
    Calls Try.prog 87 #[.pointer (some ⟨j, 0, none⟩), .pointer (some ⟨j2, 0, none⟩), fr x y, .int .i64 i] w fun e w' => e = .returned (.tuple #[fr 0 0, .int .i64 3]) ∧ Gr w w' := by
  have ht := hid (ok_whole (t := i * (n - 1)) (by omega) (by omega)); have hn := hid (ok_whole (t := n) (by omega) (by omega)); have hz := hid (show n ≠ 0 by omega)
  have h1 := hid h1
  have hx := hid hx; have g1 := hid g1; have g2 := hid g2; have g3 := hid g3
  go_enter Try.func87, Try.ntmps87
  obtain ⟨_, _, _⟩ := cells3 X1.out
  have _ := fz X1.out
  have _ := ltb X1.out
  obtain ⟨_, _⟩ := cells2 X2.out
  have _ := fz X2.out
  have _ := ltb X2.out
  go_wp2_with fail
  refine wp_reg1s #[.int .i64 0, .int .i64 0] 14 12 11 13 39 (by kernel_rfl) (by kernel_rfl) rfl rfl (by simp) rfl rfl (by decide) (fun _ _ => by kernel_rfl) (by kernel_rfl) ?_
  apply Exists.intro; apply Exists.intro
  refine ⟨fun wb hb => ?_, ?_⟩
  · obtain ⟨y0, y1, _, _⟩ := alloc2 (Gr.refl _)
    obtain ⟨_, _⟩ := hb.at2 y0
    obtain ⟨_, _⟩ := hb.at2 y1
    clear y0 y1
    obtain ⟨_, _, _⟩ := hb.at3 ((((Gr.refl _).al _).al _).keep X1.out)
    obtain ⟨_, _⟩ := hb.at2 ((((Gr.refl _).al _).al _).keep X2.out)
    simp only [headOps, List.contains, List.elem, Nat.reduceAdd, Nat.reduceBEq, reduceIte, Bool.false_eq_true, dumOp]
    repeat (first | go_big_quiet_step (first | (go_at_call 65; exact Calls.of_gr (swhole1 _ _)) | (go_at_call 115; exact Calls.of_gr (mulw_t a b _ _ h1.out ht.out g1.out))) | quiet_step (fail))
    exact wpQuiet_nil rfl
  refine ⟨rfl, ⟨rfl, by simp [Value.oneCell']⟩, fun w1 b1 hg1 _ xb1 => ?_⟩
  obtain ⟨x1_0, x1_1, hz1, g1⟩ := alloc2 hg1
  have x1_2 := g1.keep X1.out
  have x1_3 := g1.keep X2.out
  obtain ⟨_, _⟩ := cells2 x1_0
  have _ := fz x1_0
  have _ := ltb x1_0
  obtain ⟨_, _⟩ := cells2 x1_1
  have _ := fz x1_1
  have _ := ltb x1_1
  obtain ⟨_, _, _⟩ := cells3 x1_2
  have _ := fz x1_2
  have _ := ltb x1_2
  obtain ⟨_, _⟩ := cells2 x1_3
  have _ := fz x1_3
  have _ := ltb x1_3
  obtain ⟨_, _⟩ := cells2 xb1
  have _ := fz xb1
  have _ := ltb xb1
  have X1_0 := hid x1_0; clear x1_0
  have X1_1 := hid x1_1; clear x1_1
  have X1_2 := hid x1_2; clear x1_2
  have X1_3 := hid x1_3; clear x1_3
  have Xb1 := hid xb1; clear xb1
  have G1 := hid (g1)
  clear hg1 g1
  go_wp2_with fail
  refine wp_reg1s #[.int .i64 0, .int .i64 0] 12 10 13 11 53 (by kernel_rfl) (by kernel_rfl) rfl rfl (by simp) rfl rfl (by decide) (fun _ _ => by kernel_rfl) (by kernel_rfl) ?_
  apply Exists.intro; apply Exists.intro
  refine ⟨fun wb hb => ?_, ?_⟩
  · obtain ⟨_, _⟩ := hb.at2 X1_0.out
    obtain ⟨_, _⟩ := hb.at2 X1_1.out
    obtain ⟨_, _, _⟩ := hb.at3 X1_2.out
    obtain ⟨_, _⟩ := hb.at2 X1_3.out
    obtain ⟨_, _⟩ := hb.at2 Xb1.out
    simp only [headOps, List.contains, List.elem, Nat.reduceAdd, Nat.reduceBEq, reduceIte, Bool.false_eq_true, dumOp]
    repeat (first | go_big_quiet_step (first | (go_at_call 65; exact Calls.of_gr (swhole1 _ _)) | (go_at_call 81; exact Calls.of_gr (divw_t a b n _ _ hn.out hz.out g1.out g2.out))) | quiet_step (fail))
    exact wpQuiet_nil rfl
  refine ⟨rfl, ⟨rfl, by simp [Value.oneCell']⟩, fun w2 b2 hg2 _ xb2 => ?_⟩
  have x2_1 := hg2.keep X1_0.out
  have x2_2 := hg2.keep X1_1.out
  have x2_3 := hg2.keep X1_2.out
  have x2_4 := hg2.keep X1_3.out
  have x2_5 := hg2.keep Xb1.out
  obtain ⟨_, _⟩ := cells2 x2_1
  have _ := fz x2_1
  have _ := ltb x2_1
  obtain ⟨_, _⟩ := cells2 x2_2
  have _ := fz x2_2
  have _ := ltb x2_2
  obtain ⟨_, _, _⟩ := cells3 x2_3
  have _ := fz x2_3
  have _ := ltb x2_3
  obtain ⟨_, _⟩ := cells2 x2_4
  have _ := fz x2_4
  have _ := ltb x2_4
  obtain ⟨_, _⟩ := cells2 x2_5
  have _ := fz x2_5
  have _ := ltb x2_5
  obtain ⟨_, _⟩ := cells2 xb2
  have _ := fz xb2
  have _ := ltb xb2
  have X2_1 := hid x2_1; clear x2_1
  have X2_2 := hid x2_2; clear x2_2
  have X2_3 := hid x2_3; clear x2_3
  have X2_4 := hid x2_4; clear x2_4
  have X2_5 := hid x2_5; clear x2_5
  have Xb2 := hid xb2; clear xb2
  have G2 := hid (G1.out.trans hg2)
  clear hg2
  go_wp2_with fail
  refine (saddl_f a b n _ x y _ hx.out g2.out g3.out).mono ?_
  rintro e w3 ⟨rfl, hg3⟩
  have x3_1 := hg3.keep X2_1.out
  have x3_2 := hg3.keep X2_2.out
  have x3_3 := hg3.keep X2_3.out
  have x3_4 := hg3.keep X2_4.out
  have x3_5 := hg3.keep X2_5.out
  have x3_6 := hg3.keep Xb2.out
  obtain ⟨_, _⟩ := cells2 x3_1
  have _ := fz x3_1
  have _ := ltb x3_1
  obtain ⟨_, _⟩ := cells2 x3_2
  have _ := fz x3_2
  have _ := ltb x3_2
  obtain ⟨_, _, _⟩ := cells3 x3_3
  have _ := fz x3_3
  have _ := ltb x3_3
  obtain ⟨_, _⟩ := cells2 x3_4
  have _ := fz x3_4
  have _ := ltb x3_4
  obtain ⟨_, _⟩ := cells2 x3_5
  have _ := fz x3_5
  have _ := ltb x3_5
  obtain ⟨_, _⟩ := cells2 x3_6
  have _ := fz x3_6
  have _ := ltb x3_6
  have X3_1 := hid x3_1; clear x3_1
  have X3_2 := hid x3_2; clear x3_2
  have X3_3 := hid x3_3; clear x3_3
  have X3_4 := hid x3_4; clear x3_4
  have X3_5 := hid x3_5; clear x3_5
  have X3_6 := hid x3_6; clear x3_6
  have G3 := hid (G2.out.trans hg3)
  clear hg3
  go_wp2
  refine bodyPost_ret (v := .tuple #[fr 0 0, .int .i64 3]) (by simp [results, Try.results87, go_sem, *]) rfl ⟨rfl, ?_⟩
  exact ((G3.out).setCell (by simp <;> omega) _).setCell (by simp <;> omega) _
set_option maxRecDepth 20000 in
set_option maxHeartbeats 1000000 in
theorem sline_f_t (a b n i x y : Int) (j j2 : Nat) (S : Value) (w : World) (X1 : Hid (w.heap[j]? = some (.cells #[.int .i64 a, .int .i64 b, S] 32))) (X2 : Hid (w.heap[j2]? = some (.cells #[.int .i64 n, .bool false] 53))) (q1 : -2000 ≤ i * (n - 1)) (q2 : i * (n - 1) ≤ 2000) (n1 : 2 ≤ n) (n2 : n ≤ 40) (h1 : okB a b = true) (hx : okB x y = true) (g1 : n1B a b (i * (n - 1)) = true) (g2 : nB a b n (i * (n - 1)) = true) (g3 : ln3 a b n (i * (n - 1)) x y = true) :
    Calls Try.prog 87 #[.pointer (some ⟨j, 0, none⟩), .pointer (some ⟨j2, 0, none⟩), fr x y, .int .i64 i] w fun e w' => e = .returned (.tuple #[fr (lnP a b n (i * (n - 1)) x y) (lnQ a b n (i * (n - 1)) x y), .int .i64 0]) ∧ Gr w w' := by
  have ht := hid (ok_whole (t := i * (n - 1)) (by omega) (by omega)); have hn := hid (ok_whole (t := n) (by omega) (by omega)); have hz := hid (show n ≠ 0 by omega)
  have h1 := hid h1
  have hx := hid hx; have g1 := hid g1; have g2 := hid g2; have g3 := hid g3
  go_enter Try.func87, Try.ntmps87
  obtain ⟨_, _, _⟩ := cells3 X1.out
  have _ := fz X1.out
  have _ := ltb X1.out
  obtain ⟨_, _⟩ := cells2 X2.out
  have _ := fz X2.out
  have _ := ltb X2.out
  go_wp2_with fail
  refine wp_reg1s #[.int .i64 0, .int .i64 0] 14 12 11 13 39 (by kernel_rfl) (by kernel_rfl) rfl rfl (by simp) rfl rfl (by decide) (fun _ _ => by kernel_rfl) (by kernel_rfl) ?_
  apply Exists.intro; apply Exists.intro
  refine ⟨fun wb hb => ?_, ?_⟩
  · obtain ⟨y0, y1, _, _⟩ := alloc2 (Gr.refl _)
    obtain ⟨_, _⟩ := hb.at2 y0
    obtain ⟨_, _⟩ := hb.at2 y1
    clear y0 y1
    obtain ⟨_, _, _⟩ := hb.at3 ((((Gr.refl _).al _).al _).keep X1.out)
    obtain ⟨_, _⟩ := hb.at2 ((((Gr.refl _).al _).al _).keep X2.out)
    simp only [headOps, List.contains, List.elem, Nat.reduceAdd, Nat.reduceBEq, reduceIte, Bool.false_eq_true, dumOp]
    repeat (first | go_big_quiet_step (first | (go_at_call 65; exact Calls.of_gr (swhole1 _ _)) | (go_at_call 115; exact Calls.of_gr (mulw_t a b _ _ h1.out ht.out g1.out))) | quiet_step (fail))
    exact wpQuiet_nil rfl
  refine ⟨rfl, ⟨rfl, by simp [Value.oneCell']⟩, fun w1 b1 hg1 _ xb1 => ?_⟩
  obtain ⟨x1_0, x1_1, hz1, g1⟩ := alloc2 hg1
  have x1_2 := g1.keep X1.out
  have x1_3 := g1.keep X2.out
  obtain ⟨_, _⟩ := cells2 x1_0
  have _ := fz x1_0
  have _ := ltb x1_0
  obtain ⟨_, _⟩ := cells2 x1_1
  have _ := fz x1_1
  have _ := ltb x1_1
  obtain ⟨_, _, _⟩ := cells3 x1_2
  have _ := fz x1_2
  have _ := ltb x1_2
  obtain ⟨_, _⟩ := cells2 x1_3
  have _ := fz x1_3
  have _ := ltb x1_3
  obtain ⟨_, _⟩ := cells2 xb1
  have _ := fz xb1
  have _ := ltb xb1
  have X1_0 := hid x1_0; clear x1_0
  have X1_1 := hid x1_1; clear x1_1
  have X1_2 := hid x1_2; clear x1_2
  have X1_3 := hid x1_3; clear x1_3
  have Xb1 := hid xb1; clear xb1
  have G1 := hid (g1)
  clear hg1 g1
  go_wp2_with fail
  refine wp_reg1s #[.int .i64 0, .int .i64 0] 12 10 13 11 53 (by kernel_rfl) (by kernel_rfl) rfl rfl (by simp) rfl rfl (by decide) (fun _ _ => by kernel_rfl) (by kernel_rfl) ?_
  apply Exists.intro; apply Exists.intro
  refine ⟨fun wb hb => ?_, ?_⟩
  · obtain ⟨_, _⟩ := hb.at2 X1_0.out
    obtain ⟨_, _⟩ := hb.at2 X1_1.out
    obtain ⟨_, _, _⟩ := hb.at3 X1_2.out
    obtain ⟨_, _⟩ := hb.at2 X1_3.out
    obtain ⟨_, _⟩ := hb.at2 Xb1.out
    simp only [headOps, List.contains, List.elem, Nat.reduceAdd, Nat.reduceBEq, reduceIte, Bool.false_eq_true, dumOp]
    repeat (first | go_big_quiet_step (first | (go_at_call 65; exact Calls.of_gr (swhole1 _ _)) | (go_at_call 81; exact Calls.of_gr (divw_t a b n _ _ hn.out hz.out g1.out g2.out))) | quiet_step (fail))
    exact wpQuiet_nil rfl
  refine ⟨rfl, ⟨rfl, by simp [Value.oneCell']⟩, fun w2 b2 hg2 _ xb2 => ?_⟩
  have x2_1 := hg2.keep X1_0.out
  have x2_2 := hg2.keep X1_1.out
  have x2_3 := hg2.keep X1_2.out
  have x2_4 := hg2.keep X1_3.out
  have x2_5 := hg2.keep Xb1.out
  obtain ⟨_, _⟩ := cells2 x2_1
  have _ := fz x2_1
  have _ := ltb x2_1
  obtain ⟨_, _⟩ := cells2 x2_2
  have _ := fz x2_2
  have _ := ltb x2_2
  obtain ⟨_, _, _⟩ := cells3 x2_3
  have _ := fz x2_3
  have _ := ltb x2_3
  obtain ⟨_, _⟩ := cells2 x2_4
  have _ := fz x2_4
  have _ := ltb x2_4
  obtain ⟨_, _⟩ := cells2 x2_5
  have _ := fz x2_5
  have _ := ltb x2_5
  obtain ⟨_, _⟩ := cells2 xb2
  have _ := fz xb2
  have _ := ltb xb2
  have X2_1 := hid x2_1; clear x2_1
  have X2_2 := hid x2_2; clear x2_2
  have X2_3 := hid x2_3; clear x2_3
  have X2_4 := hid x2_4; clear x2_4
  have X2_5 := hid x2_5; clear x2_5
  have Xb2 := hid xb2; clear xb2
  have G2 := hid (G1.out.trans hg2)
  clear hg2
  go_wp2_with fail
  refine (saddl_t a b n _ x y _ hx.out g2.out g3.out).mono ?_
  rintro e w3 ⟨rfl, hg3⟩
  have x3_1 := hg3.keep X2_1.out
  have x3_2 := hg3.keep X2_2.out
  have x3_3 := hg3.keep X2_3.out
  have x3_4 := hg3.keep X2_4.out
  have x3_5 := hg3.keep X2_5.out
  have x3_6 := hg3.keep Xb2.out
  obtain ⟨_, _⟩ := cells2 x3_1
  have _ := fz x3_1
  have _ := ltb x3_1
  obtain ⟨_, _⟩ := cells2 x3_2
  have _ := fz x3_2
  have _ := ltb x3_2
  obtain ⟨_, _, _⟩ := cells3 x3_3
  have _ := fz x3_3
  have _ := ltb x3_3
  obtain ⟨_, _⟩ := cells2 x3_4
  have _ := fz x3_4
  have _ := ltb x3_4
  obtain ⟨_, _⟩ := cells2 x3_5
  have _ := fz x3_5
  have _ := ltb x3_5
  obtain ⟨_, _⟩ := cells2 x3_6
  have _ := fz x3_6
  have _ := ltb x3_6
  have X3_1 := hid x3_1; clear x3_1
  have X3_2 := hid x3_2; clear x3_2
  have X3_3 := hid x3_3; clear x3_3
  have X3_4 := hid x3_4; clear x3_4
  have X3_5 := hid x3_5; clear x3_5
  have X3_6 := hid x3_6; clear x3_6
  have G3 := hid (G2.out.trans hg3)
  clear hg3
  go_wp2
  refine bodyPost_ret (v := .tuple #[fr (lnP a b n (i * (n - 1)) x y) (lnQ a b n (i * (n - 1)) x y), .int .i64 0]) (by simp [results, Try.results87, go_sem, *]) rfl ⟨rfl, ?_⟩
  exact ((G3.out).setCell (by simp <;> omega) _).setCell (by simp <;> omega) _
set_option maxRecDepth 20000 in
set_option maxHeartbeats 1000000 in
theorem iline_t_ok (a b n i x y : Int) (A : Option Addr) (m c : Nat) (w : World) (q1 : -2000 ≤ i * (n + 1)) (q2 : i * (n + 1) ≤ 2000) (n1 : 2 ≤ n) (n2 : n ≤ 40) (h1 : okB a b = true) (hx : okB x y = true) (g1 : n1B a b (i * (n + 1)) = true) (g2 : nB a b n (i * (n + 1)) = true) (g3 : ln3 a b n (i * (n + 1)) x y = true) :
    Calls Try.prog 89 #[vn n true, scl a b A m c, fr x y, .int .i64 i] w fun e w' => e = .returned (fr (lnP a b n (i * (n + 1)) x y) (lnQ a b n (i * (n + 1)) x y)) ∧ Gr w w' := by
  have ht := hid (ok_whole (t := i * (n + 1)) (by omega) (by omega)); have hn := hid (ok_whole (t := n) (by omega) (by omega)); have hz := hid (show n ≠ 0 by omega)
  have h1 := hid h1
  have hx := hid hx; have g1 := hid g1; have g2 := hid g2; have g3 := hid g3
  go_enter Try.func89, Try.ntmps89
  go_wp2_with fail
  refine wp_reg0 11 (by kernel_rfl) (by kernel_rfl) ?_
  apply Exists.intro
  refine ⟨fun wb hb => ?_, ?_⟩
  · obtain ⟨y0, y1, y2, y3, _, _⟩ := alloc4 (Gr.refl _)
    obtain ⟨_, _⟩ := hb.at2 y0
    obtain ⟨_, _, _⟩ := hb.at3 y1
    obtain ⟨_, _⟩ := hb.at2 y2
    obtain ⟨_, _⟩ := hb.at2 y3
    clear y0 y1 y2 y3
    simp only [headOps, List.contains, List.elem, reduceIte, Bool.false_eq_true]
    repeat (first | go_big_quiet_step (first | (go_at_call 103; exact Calls.of_gr (itw_ok _ _ _ _ h1.out ht.out g1.out)) | (go_at_call 85; exact Calls.of_gr (ioww_t a b n _ _ hn.out hz.out g1.out g2.out)) | (go_at_call 102; exact Calls.of_gr (plusl_t a b n _ x y _ hx.out g2.out g3.out))) | quiet_step (fail))
    exact wpQuiet_nil rfl
  intro w1 hg1
  obtain ⟨x1_0, x1_1, x1_2, x1_3, hz1, g1⟩ := alloc4 hg1
  obtain ⟨_, _⟩ := cells2 x1_0
  have _ := fz x1_0
  have _ := ltb x1_0
  obtain ⟨_, _, _⟩ := cells3 x1_1
  have _ := fz x1_1
  have _ := ltb x1_1
  obtain ⟨_, _⟩ := cells2 x1_2
  have _ := fz x1_2
  have _ := ltb x1_2
  obtain ⟨_, _⟩ := cells2 x1_3
  have _ := fz x1_3
  have _ := ltb x1_3
  have X1_0 := hid x1_0; clear x1_0
  have X1_1 := hid x1_1; clear x1_1
  have X1_2 := hid x1_2; clear x1_2
  have X1_3 := hid x1_3; clear x1_3
  have G1 := hid (g1)
  clear hg1 g1
  go_wp2
  refine bodyPost_ret (v := fr (lnP a b n (i * (n + 1)) x y) (lnQ a b n (i * (n + 1)) x y)) (by simp [results, Try.results89, go_sem, *]) rfl ⟨rfl, ?_⟩
  exact ((G1.out).setCell (by simp <;> omega) _).setCell (by simp <;> omega) _
set_option maxRecDepth 20000 in
set_option maxHeartbeats 1000000 in
theorem iline_t_b1 (a b n i x y : Int) (A : Option Addr) (m c : Nat) (w : World) (q1 : -2000 ≤ i * (n + 1)) (q2 : i * (n + 1) ≤ 2000) (n1 : 2 ≤ n) (n2 : n ≤ 40) (h1 : okB a b = true) (g1 : n1B a b (i * (n + 1)) = false) :
    Calls Try.prog 89 #[vn n true, scl a b A m c, fr x y, .int .i64 i] w fun e w' => (∃ x y, e = .panicked [{ v := .iface 125 (fr x y), recovered := false }]) ∧ Gr w w' := by
  have ht := hid (ok_whole (t := i * (n + 1)) (by omega) (by omega)); have hn := hid (ok_whole (t := n) (by omega) (by omega)); have hz := hid (show n ≠ 0 by omega)
  have h1 := hid h1
  have g1 := hid g1; clear hn hz
  go_enter Try.func89, Try.ntmps89
  go_wp2_with fail
  refine wp_regP 6 [9, 10, 11] (by kernel_rfl) (by kernel_rfl) rfl ?_
  apply Exists.intro
  refine ⟨103, #[fr a b, .int .i64 (i * (n + 1))], fun wb hb => ?_, ?_⟩
  · obtain ⟨y0, y1, y2, y3, _, _⟩ := alloc4 (Gr.refl _)
    obtain ⟨_, _⟩ := hb.at2 y0
    obtain ⟨_, _, _⟩ := hb.at3 y1
    obtain ⟨_, _⟩ := hb.at2 y2
    obtain ⟨_, _⟩ := hb.at2 y3
    clear y0 y1 y2 y3
    simp only [headOps, List.contains, List.elem, List.length_cons, List.length_nil, Nat.zero_add, Nat.reduceAdd, Nat.reduceBEq, reduceIte, Bool.false_eq_true, dumOp]
    repeat (first | go_big_quiet_step (first | (fail)) | quiet_step (fail))
    exact wpQuiet_nil rfl
  refine ⟨fun w' => by kernel_rfl, fun w' hg' => (itw_bad _ _ _ _ h1.out ht.out g1.out).mono fun e w2 ⟨⟨x, y, he⟩, hg2⟩ => ⟨_, he, fun a' ha' => ⟨ha', ⟨x, y, rfl⟩, ((((((Gr.refl _).al _).al _).al _).al _).trans hg').trans hg2⟩⟩⟩
set_option maxRecDepth 20000 in
set_option maxHeartbeats 1000000 in
theorem iline_t_b2 (a b n i x y : Int) (A : Option Addr) (m c : Nat) (w : World) (q1 : -2000 ≤ i * (n + 1)) (q2 : i * (n + 1) ≤ 2000) (n1 : 2 ≤ n) (n2 : n ≤ 40) (h1 : okB a b = true) (g1 : n1B a b (i * (n + 1)) = true) (g2 : nB a b n (i * (n + 1)) = false) :
    Calls Try.prog 89 #[vn n true, scl a b A m c, fr x y, .int .i64 i] w fun e w' => (∃ x y, e = .panicked [{ v := .iface 125 (fr x y), recovered := false }]) ∧ Gr w w' := by
  have ht := hid (ok_whole (t := i * (n + 1)) (by omega) (by omega)); have hn := hid (ok_whole (t := n) (by omega) (by omega)); have hz := hid (show n ≠ 0 by omega)
  have h1 := hid h1
  have g1 := hid g1; have g2 := hid g2
  go_enter Try.func89, Try.ntmps89
  go_wp2_with fail
  refine wp_regP 9 [10, 11] (by kernel_rfl) (by kernel_rfl) rfl ?_
  apply Exists.intro
  refine ⟨85, #[fr (n1P a b (i * (n + 1))) (n1Q a b (i * (n + 1))), .int .i64 n], fun wb hb => ?_, ?_⟩
  · obtain ⟨y0, y1, y2, y3, _, _⟩ := alloc4 (Gr.refl _)
    obtain ⟨_, _⟩ := hb.at2 y0
    obtain ⟨_, _, _⟩ := hb.at3 y1
    obtain ⟨_, _⟩ := hb.at2 y2
    obtain ⟨_, _⟩ := hb.at2 y3
    clear y0 y1 y2 y3
    simp only [headOps, List.contains, List.elem, List.length_cons, List.length_nil, Nat.zero_add, Nat.reduceAdd, Nat.reduceBEq, reduceIte, Bool.false_eq_true, dumOp]
    repeat (first | go_big_quiet_step (first | (go_at_call 103; exact Calls.of_gr (itw_ok _ _ _ _ h1.out ht.out g1.out))) | quiet_step (fail))
    exact wpQuiet_nil rfl
  refine ⟨fun w' => by kernel_rfl, fun w' hg' => (iow_bad _ _ _ _ g1.out hn.out hz.out g2.out).mono fun e w2 ⟨⟨x, y, he⟩, hg2⟩ => ⟨_, he, fun a' ha' => ⟨ha', ⟨x, y, rfl⟩, ((((((Gr.refl _).al _).al _).al _).al _).trans hg').trans hg2⟩⟩⟩
set_option maxRecDepth 20000 in
set_option maxHeartbeats 1000000 in
theorem iline_t_b3 (a b n i x y : Int) (A : Option Addr) (m c : Nat) (w : World) (q1 : -2000 ≤ i * (n + 1)) (q2 : i * (n + 1) ≤ 2000) (n1 : 2 ≤ n) (n2 : n ≤ 40) (h1 : okB a b = true) (hx : okB x y = true) (g1 : n1B a b (i * (n + 1)) = true) (g2 : nB a b n (i * (n + 1)) = true) (g3 : ln3 a b n (i * (n + 1)) x y = false) :
    Calls Try.prog 89 #[vn n true, scl a b A m c, fr x y, .int .i64 i] w fun e w' => (∃ x y, e = .panicked [{ v := .iface 125 (fr x y), recovered := false }]) ∧ Gr w w' := by
  have ht := hid (ok_whole (t := i * (n + 1)) (by omega) (by omega)); have hn := hid (ok_whole (t := n) (by omega) (by omega)); have hz := hid (show n ≠ 0 by omega)
  have h1 := hid h1
  have hx := hid hx; have g1 := hid g1; have g2 := hid g2; have g3 := hid g3
  go_enter Try.func89, Try.ntmps89
  go_wp2_with fail
  refine wp_regP 10 [11] (by kernel_rfl) (by kernel_rfl) rfl ?_
  apply Exists.intro
  refine ⟨102, #[fr x y, fr (nP a b n (i * (n + 1))) (nQ a b n (i * (n + 1)))], fun wb hb => ?_, ?_⟩
  · obtain ⟨y0, y1, y2, y3, _, _⟩ := alloc4 (Gr.refl _)
    obtain ⟨_, _⟩ := hb.at2 y0
    obtain ⟨_, _, _⟩ := hb.at3 y1
    obtain ⟨_, _⟩ := hb.at2 y2
    obtain ⟨_, _⟩ := hb.at2 y3
    clear y0 y1 y2 y3
    simp only [headOps, List.contains, List.elem, List.length_cons, List.length_nil, Nat.zero_add, Nat.reduceAdd, Nat.reduceBEq, reduceIte, Bool.false_eq_true, dumOp]
    repeat (first | go_big_quiet_step (first | (go_at_call 103; exact Calls.of_gr (itw_ok _ _ _ _ h1.out ht.out g1.out)) | (go_at_call 85; exact Calls.of_gr (ioww_t a b n _ _ hn.out hz.out g1.out g2.out))) | quiet_step (fail))
    exact wpQuiet_nil rfl
  refine ⟨fun w' => by kernel_rfl, fun w' hg' => (plus_no _ _ _ _ _ hx.out g2.out g3.out).mono fun e w2 ⟨⟨x, y, he⟩, hg2⟩ => ⟨_, he, fun a' ha' => ⟨ha', ⟨x, y, rfl⟩, ((((((Gr.refl _).al _).al _).al _).al _).trans hg').trans hg2⟩⟩⟩
set_option maxRecDepth 20000 in
set_option maxHeartbeats 1000000 in
theorem sline_t_f1 (a b n i x y : Int) (j j2 : Nat) (S : Value) (w : World) (X1 : Hid (w.heap[j]? = some (.cells #[.int .i64 a, .int .i64 b, S] 32))) (X2 : Hid (w.heap[j2]? = some (.cells #[.int .i64 n, .bool true] 53))) (q1 : -2000 ≤ i * (n + 1)) (q2 : i * (n + 1) ≤ 2000) (n1 : 2 ≤ n) (n2 : n ≤ 40) (h1 : okB a b = true) (g1 : n1B a b (i * (n + 1)) = false) :
    Calls Try.prog 87 #[.pointer (some ⟨j, 0, none⟩), .pointer (some ⟨j2, 0, none⟩), fr x y, .int .i64 i] w fun e w' => e = .returned (.tuple #[fr 0 0, .int .i64 3]) ∧ Gr w w' := by
  have ht := hid (ok_whole (t := i * (n + 1)) (by omega) (by omega)); have hn := hid (ok_whole (t := n) (by omega) (by omega)); have hz := hid (show n ≠ 0 by omega)
  have h1 := hid h1
  have g1 := hid g1; clear hn hz
  go_enter Try.func87, Try.ntmps87
  obtain ⟨_, _, _⟩ := cells3 X1.out
  have _ := fz X1.out
  have _ := ltb X1.out
  obtain ⟨_, _⟩ := cells2 X2.out
  have _ := fz X2.out
  have _ := ltb X2.out
  go_wp2_with fail
  refine wp_reg1s #[.int .i64 0, .int .i64 0] 14 12 11 13 39 (by kernel_rfl) (by kernel_rfl) rfl rfl (by simp) rfl rfl (by decide) (fun _ _ => by kernel_rfl) (by kernel_rfl) ?_
  apply Exists.intro; apply Exists.intro
  refine ⟨fun wb hb => ?_, ?_⟩
  · obtain ⟨y0, y1, _, _⟩ := alloc2 (Gr.refl _)
    obtain ⟨_, _⟩ := hb.at2 y0
    obtain ⟨_, _⟩ := hb.at2 y1
    clear y0 y1
    obtain ⟨_, _, _⟩ := hb.at3 ((((Gr.refl _).al _).al _).keep X1.out)
    obtain ⟨_, _⟩ := hb.at2 ((((Gr.refl _).al _).al _).keep X2.out)
    simp only [headOps, List.contains, List.elem, Nat.reduceAdd, Nat.reduceBEq, reduceIte, Bool.false_eq_true, dumOp]
    repeat (first | go_big_quiet_step (first | (go_at_call 65; exact Calls.of_gr (swhole1 _ _)) | (go_at_call 115; exact Calls.of_gr (smul_f _ _ _ _ _ ht.out h1.out g1.out))) | quiet_step (fail))
    exact wpQuiet_nil rfl
  refine ⟨rfl, ⟨rfl, by simp [Value.oneCell']⟩, fun w1 b1 hg1 _ xb1 => ?_⟩
  obtain ⟨x1_0, x1_1, hz1, g1⟩ := alloc2 hg1
  have x1_2 := g1.keep X1.out
  have x1_3 := g1.keep X2.out
  obtain ⟨_, _⟩ := cells2 x1_0
  have _ := fz x1_0
  have _ := ltb x1_0
  obtain ⟨_, _⟩ := cells2 x1_1
  have _ := fz x1_1
  have _ := ltb x1_1
  obtain ⟨_, _, _⟩ := cells3 x1_2
  have _ := fz x1_2
  have _ := ltb x1_2
  obtain ⟨_, _⟩ := cells2 x1_3
  have _ := fz x1_3
  have _ := ltb x1_3
  obtain ⟨_, _⟩ := cells2 xb1
  have _ := fz xb1
  have _ := ltb xb1
  have X1_0 := hid x1_0; clear x1_0
  have X1_1 := hid x1_1; clear x1_1
  have X1_2 := hid x1_2; clear x1_2
  have X1_3 := hid x1_3; clear x1_3
  have Xb1 := hid xb1; clear xb1
  have G1 := hid (g1)
  clear hg1 g1
  go_wp2
  refine bodyPost_ret (v := .tuple #[fr 0 0, .int .i64 3]) (by simp [results, Try.results87, go_sem, *]) rfl ⟨rfl, ?_⟩
  exact ((G1.out).setCell (by simp <;> omega) _).setCell (by simp <;> omega) _
set_option maxRecDepth 20000 in
set_option maxHeartbeats 1000000 in
theorem sline_t_f2 (a b n i x y : Int) (j j2 : Nat) (S : Value) (w : World) (X1 : Hid (w.heap[j]? = some (.cells #[.int .i64 a, .int .i64 b, S] 32))) (X2 : Hid (w.heap[j2]? = some (.cells #[.int .i64 n, .bool true] 53))) (q1 : -2000 ≤ i * (n + 1)) (q2 : i * (n + 1) ≤ 2000) (n1 : 2 ≤ n) (n2 : n ≤ 40) (h1 : okB a b = true) (g1 : n1B a b (i * (n + 1)) = true) (g2 : nB a b n (i * (n + 1)) = false) :
    Calls Try.prog 87 #[.pointer (some ⟨j, 0, none⟩), .pointer (some ⟨j2, 0, none⟩), fr x y, .int .i64 i] w fun e w' => e = .returned (.tuple #[fr 0 0, .int .i64 3]) ∧ Gr w w' := by
  have ht := hid (ok_whole (t := i * (n + 1)) (by omega) (by omega)); have hn := hid (ok_whole (t := n) (by omega) (by omega)); have hz := hid (show n ≠ 0 by omega)
  have h1 := hid h1
  have g1 := hid g1; have g2 := hid g2
  go_enter Try.func87, Try.ntmps87
  obtain ⟨_, _, _⟩ := cells3 X1.out
  have _ := fz X1.out
  have _ := ltb X1.out
  obtain ⟨_, _⟩ := cells2 X2.out
  have _ := fz X2.out
  have _ := ltb X2.out
  go_wp2_with fail
  refine wp_reg1s #[.int .i64 0, .int .i64 0] 14 12 11 13 39 (by kernel_rfl) (by kernel_rfl) rfl rfl (by simp) rfl rfl (by decide) (fun _ _ => by kernel_rfl) (by kernel_rfl) ?_
  apply Exists.intro; apply Exists.intro
  refine ⟨fun wb hb => ?_, ?_⟩
  · obtain ⟨y0, y1, _, _⟩ := alloc2 (Gr.refl _)
    obtain ⟨_, _⟩ := hb.at2 y0
    obtain ⟨_, _⟩ := hb.at2 y1
    clear y0 y1
    obtain ⟨_, _, _⟩ := hb.at3 ((((Gr.refl _).al _).al _).keep X1.out)
    obtain ⟨_, _⟩ := hb.at2 ((((Gr.refl _).al _).al _).keep X2.out)
    simp only [headOps, List.contains, List.elem, Nat.reduceAdd, Nat.reduceBEq, reduceIte, Bool.false_eq_true, dumOp]
    repeat (first | go_big_quiet_step (first | (go_at_call 65; exact Calls.of_gr (swhole1 _ _)) | (go_at_call 115; exact Calls.of_gr (mulw_t a b _ _ h1.out ht.out g1.out))) | quiet_step (fail))
    exact wpQuiet_nil rfl
  refine ⟨rfl, ⟨rfl, by simp [Value.oneCell']⟩, fun w1 b1 hg1 _ xb1 => ?_⟩
  obtain ⟨x1_0, x1_1, hz1, g1⟩ := alloc2 hg1
  have x1_2 := g1.keep X1.out
  have x1_3 := g1.keep X2.out
  obtain ⟨_, _⟩ := cells2 x1_0
  have _ := fz x1_0
  have _ := ltb x1_0
  obtain ⟨_, _⟩ := cells2 x1_1
  have _ := fz x1_1
  have _ := ltb x1_1
  obtain ⟨_, _, _⟩ := cells3 x1_2
  have _ := fz x1_2
  have _ := ltb x1_2
  obtain ⟨_, _⟩ := cells2 x1_3
  have _ := fz x1_3
  have _ := ltb x1_3
  obtain ⟨_, _⟩ := cells2 xb1
  have _ := fz xb1
  have _ := ltb xb1
  have X1_0 := hid x1_0; clear x1_0
  have X1_1 := hid x1_1; clear x1_1
  have X1_2 := hid x1_2; clear x1_2
  have X1_3 := hid x1_3; clear x1_3
  have Xb1 := hid xb1; clear xb1
  have G1 := hid (g1)
  clear hg1 g1
  go_wp2_with fail
  refine wp_reg1s #[.int .i64 0, .int .i64 0] 12 10 13 11 53 (by kernel_rfl) (by kernel_rfl) rfl rfl (by simp) rfl rfl (by decide) (fun _ _ => by kernel_rfl) (by kernel_rfl) ?_
  apply Exists.intro; apply Exists.intro
  refine ⟨fun wb hb => ?_, ?_⟩
  · obtain ⟨_, _⟩ := hb.at2 X1_0.out
    obtain ⟨_, _⟩ := hb.at2 X1_1.out
    obtain ⟨_, _, _⟩ := hb.at3 X1_2.out
    obtain ⟨_, _⟩ := hb.at2 X1_3.out
    obtain ⟨_, _⟩ := hb.at2 Xb1.out
    simp only [headOps, List.contains, List.elem, Nat.reduceAdd, Nat.reduceBEq, reduceIte, Bool.false_eq_true, dumOp]
    repeat (first | go_big_quiet_step (first | (go_at_call 65; exact Calls.of_gr (swhole1 _ _)) | (go_at_call 81; exact Calls.of_gr (divw_f a b n _ _ hn.out hz.out g1.out g2.out))) | quiet_step (fail))
    exact wpQuiet_nil rfl
  refine ⟨rfl, ⟨rfl, by simp [Value.oneCell']⟩, fun w2 b2 hg2 _ xb2 => ?_⟩
  have x2_1 := hg2.keep X1_0.out
  have x2_2 := hg2.keep X1_1.out
  have x2_3 := hg2.keep X1_2.out
  have x2_4 := hg2.keep X1_3.out
  have x2_5 := hg2.keep Xb1.out
  obtain ⟨_, _⟩ := cells2 x2_1
  have _ := fz x2_1
  have _ := ltb x2_1
  obtain ⟨_, _⟩ := cells2 x2_2
  have _ := fz x2_2
  have _ := ltb x2_2
  obtain ⟨_, _, _⟩ := cells3 x2_3
  have _ := fz x2_3
  have _ := ltb x2_3
  obtain ⟨_, _⟩ := cells2 x2_4
  have _ := fz x2_4
  have _ := ltb x2_4
  obtain ⟨_, _⟩ := cells2 x2_5
  have _ := fz x2_5
  have _ := ltb x2_5
  obtain ⟨_, _⟩ := cells2 xb2
  have _ := fz xb2
  have _ := ltb xb2
  have X2_1 := hid x2_1; clear x2_1
  have X2_2 := hid x2_2; clear x2_2
  have X2_3 := hid x2_3; clear x2_3
  have X2_4 := hid x2_4; clear x2_4
  have X2_5 := hid x2_5; clear x2_5
  have Xb2 := hid xb2; clear xb2
  have G2 := hid (G1.out.trans hg2)
  clear hg2
  go_wp2
  refine bodyPost_ret (v := .tuple #[fr 0 0, .int .i64 3]) (by simp [results, Try.results87, go_sem, *]) rfl ⟨rfl, ?_⟩
  exact ((G2.out).setCell (by simp <;> omega) _).setCell (by simp <;> omega) _
set_option maxRecDepth 20000 in
set_option maxHeartbeats 1000000 in
theorem sline_t_f3 (a b n i x y : Int) (j j2 : Nat) (S : Value) (w : World) (X1 : Hid (w.heap[j]? = some (.cells #[.int .i64 a, .int .i64 b, S] 32))) (X2 : Hid (w.heap[j2]? = some (.cells #[.int .i64 n, .bool true] 53))) (q1 : -2000 ≤ i * (n + 1)) (q2 : i * (n + 1) ≤ 2000) (n1 : 2 ≤ n) (n2 : n ≤ 40) (h1 : okB a b = true) (hx : okB x y = true) (g1 : n1B a b (i * (n + 1)) = true) (g2 : nB a b n (i * (n + 1)) = true) (g3 : ln3 a b n (i * (n + 1)) x y = false) :
    Calls Try.prog 87 #[.pointer (some ⟨j, 0, none⟩), .pointer (some ⟨j2, 0, none⟩), fr x y, .int .i64 i] w fun e w' => e = .returned (.tuple #[fr 0 0, .int .i64 3]) ∧ Gr w w' := by
  have ht := hid (ok_whole (t := i * (n + 1)) (by omega) (by omega)); have hn := hid (ok_whole (t := n) (by omega) (by omega)); have hz := hid (show n ≠ 0 by omega)
  have h1 := hid h1
  have hx := hid hx; have g1 := hid g1; have g2 := hid g2; have g3 := hid g3
  go_enter Try.func87, Try.ntmps87
  obtain ⟨_, _, _⟩ := cells3 X1.out
  have _ := fz X1.out
  have _ := ltb X1.out
  obtain ⟨_, _⟩ := cells2 X2.out
  have _ := fz X2.out
  have _ := ltb X2.out
  go_wp2_with fail
  refine wp_reg1s #[.int .i64 0, .int .i64 0] 14 12 11 13 39 (by kernel_rfl) (by kernel_rfl) rfl rfl (by simp) rfl rfl (by decide) (fun _ _ => by kernel_rfl) (by kernel_rfl) ?_
  apply Exists.intro; apply Exists.intro
  refine ⟨fun wb hb => ?_, ?_⟩
  · obtain ⟨y0, y1, _, _⟩ := alloc2 (Gr.refl _)
    obtain ⟨_, _⟩ := hb.at2 y0
    obtain ⟨_, _⟩ := hb.at2 y1
    clear y0 y1
    obtain ⟨_, _, _⟩ := hb.at3 ((((Gr.refl _).al _).al _).keep X1.out)
    obtain ⟨_, _⟩ := hb.at2 ((((Gr.refl _).al _).al _).keep X2.out)
    simp only [headOps, List.contains, List.elem, Nat.reduceAdd, Nat.reduceBEq, reduceIte, Bool.false_eq_true, dumOp]
    repeat (first | go_big_quiet_step (first | (go_at_call 65; exact Calls.of_gr (swhole1 _ _)) | (go_at_call 115; exact Calls.of_gr (mulw_t a b _ _ h1.out ht.out g1.out))) | quiet_step (fail))
    exact wpQuiet_nil rfl
  refine ⟨rfl, ⟨rfl, by simp [Value.oneCell']⟩, fun w1 b1 hg1 _ xb1 => ?_⟩
  obtain ⟨x1_0, x1_1, hz1, g1⟩ := alloc2 hg1
  have x1_2 := g1.keep X1.out
  have x1_3 := g1.keep X2.out
  obtain ⟨_, _⟩ := cells2 x1_0
  have _ := fz x1_0
  have _ := ltb x1_0
  obtain ⟨_, _⟩ := cells2 x1_1
  have _ := fz x1_1
  have _ := ltb x1_1
  obtain ⟨_, _, _⟩ := cells3 x1_2
  have _ := fz x1_2
  have _ := ltb x1_2
  obtain ⟨_, _⟩ := cells2 x1_3
  have _ := fz x1_3
  have _ := ltb x1_3
  obtain ⟨_, _⟩ := cells2 xb1
  have _ := fz xb1
  have _ := ltb xb1
  have X1_0 := hid x1_0; clear x1_0
  have X1_1 := hid x1_1; clear x1_1
  have X1_2 := hid x1_2; clear x1_2
  have X1_3 := hid x1_3; clear x1_3
  have Xb1 := hid xb1; clear xb1
  have G1 := hid (g1)
  clear hg1 g1
  go_wp2_with fail
  refine wp_reg1s #[.int .i64 0, .int .i64 0] 12 10 13 11 53 (by kernel_rfl) (by kernel_rfl) rfl rfl (by simp) rfl rfl (by decide) (fun _ _ => by kernel_rfl) (by kernel_rfl) ?_
  apply Exists.intro; apply Exists.intro
  refine ⟨fun wb hb => ?_, ?_⟩
  · obtain ⟨_, _⟩ := hb.at2 X1_0.out
    obtain ⟨_, _⟩ := hb.at2 X1_1.out
    obtain ⟨_, _, _⟩ := hb.at3 X1_2.out
    obtain ⟨_, _⟩ := hb.at2 X1_3.out
    obtain ⟨_, _⟩ := hb.at2 Xb1.out
    simp only [headOps, List.contains, List.elem, Nat.reduceAdd, Nat.reduceBEq, reduceIte, Bool.false_eq_true, dumOp]
    repeat (first | go_big_quiet_step (first | (go_at_call 65; exact Calls.of_gr (swhole1 _ _)) | (go_at_call 81; exact Calls.of_gr (divw_t a b n _ _ hn.out hz.out g1.out g2.out))) | quiet_step (fail))
    exact wpQuiet_nil rfl
  refine ⟨rfl, ⟨rfl, by simp [Value.oneCell']⟩, fun w2 b2 hg2 _ xb2 => ?_⟩
  have x2_1 := hg2.keep X1_0.out
  have x2_2 := hg2.keep X1_1.out
  have x2_3 := hg2.keep X1_2.out
  have x2_4 := hg2.keep X1_3.out
  have x2_5 := hg2.keep Xb1.out
  obtain ⟨_, _⟩ := cells2 x2_1
  have _ := fz x2_1
  have _ := ltb x2_1
  obtain ⟨_, _⟩ := cells2 x2_2
  have _ := fz x2_2
  have _ := ltb x2_2
  obtain ⟨_, _, _⟩ := cells3 x2_3
  have _ := fz x2_3
  have _ := ltb x2_3
  obtain ⟨_, _⟩ := cells2 x2_4
  have _ := fz x2_4
  have _ := ltb x2_4
  obtain ⟨_, _⟩ := cells2 x2_5
  have _ := fz x2_5
  have _ := ltb x2_5
  obtain ⟨_, _⟩ := cells2 xb2
  have _ := fz xb2
  have _ := ltb xb2
  have X2_1 := hid x2_1; clear x2_1
  have X2_2 := hid x2_2; clear x2_2
  have X2_3 := hid x2_3; clear x2_3
  have X2_4 := hid x2_4; clear x2_4
  have X2_5 := hid x2_5; clear x2_5
  have Xb2 := hid xb2; clear xb2
  have G2 := hid (G1.out.trans hg2)
  clear hg2
  go_wp2_with fail
  refine (saddl_f a b n _ x y _ hx.out g2.out g3.out).mono ?_
  rintro e w3 ⟨rfl, hg3⟩
  have x3_1 := hg3.keep X2_1.out
  have x3_2 := hg3.keep X2_2.out
  have x3_3 := hg3.keep X2_3.out
  have x3_4 := hg3.keep X2_4.out
  have x3_5 := hg3.keep X2_5.out
  have x3_6 := hg3.keep Xb2.out
  obtain ⟨_, _⟩ := cells2 x3_1
  have _ := fz x3_1
  have _ := ltb x3_1
  obtain ⟨_, _⟩ := cells2 x3_2
  have _ := fz x3_2
  have _ := ltb x3_2
  obtain ⟨_, _, _⟩ := cells3 x3_3
  have _ := fz x3_3
  have _ := ltb x3_3
  obtain ⟨_, _⟩ := cells2 x3_4
  have _ := fz x3_4
  have _ := ltb x3_4
  obtain ⟨_, _⟩ := cells2 x3_5
  have _ := fz x3_5
  have _ := ltb x3_5
  obtain ⟨_, _⟩ := cells2 x3_6
  have _ := fz x3_6
  have _ := ltb x3_6
  have X3_1 := hid x3_1; clear x3_1
  have X3_2 := hid x3_2; clear x3_2
  have X3_3 := hid x3_3; clear x3_3
  have X3_4 := hid x3_4; clear x3_4
  have X3_5 := hid x3_5; clear x3_5
  have X3_6 := hid x3_6; clear x3_6
  have G3 := hid (G2.out.trans hg3)
  clear hg3
  go_wp2
  refine bodyPost_ret (v := .tuple #[fr 0 0, .int .i64 3]) (by simp [results, Try.results87, go_sem, *]) rfl ⟨rfl, ?_⟩
  exact ((G3.out).setCell (by simp <;> omega) _).setCell (by simp <;> omega) _
set_option maxRecDepth 20000 in
set_option maxHeartbeats 1000000 in
theorem sline_t_t (a b n i x y : Int) (j j2 : Nat) (S : Value) (w : World) (X1 : Hid (w.heap[j]? = some (.cells #[.int .i64 a, .int .i64 b, S] 32))) (X2 : Hid (w.heap[j2]? = some (.cells #[.int .i64 n, .bool true] 53))) (q1 : -2000 ≤ i * (n + 1)) (q2 : i * (n + 1) ≤ 2000) (n1 : 2 ≤ n) (n2 : n ≤ 40) (h1 : okB a b = true) (hx : okB x y = true) (g1 : n1B a b (i * (n + 1)) = true) (g2 : nB a b n (i * (n + 1)) = true) (g3 : ln3 a b n (i * (n + 1)) x y = true) :
    Calls Try.prog 87 #[.pointer (some ⟨j, 0, none⟩), .pointer (some ⟨j2, 0, none⟩), fr x y, .int .i64 i] w fun e w' => e = .returned (.tuple #[fr (lnP a b n (i * (n + 1)) x y) (lnQ a b n (i * (n + 1)) x y), .int .i64 0]) ∧ Gr w w' := by
  have ht := hid (ok_whole (t := i * (n + 1)) (by omega) (by omega)); have hn := hid (ok_whole (t := n) (by omega) (by omega)); have hz := hid (show n ≠ 0 by omega)
  have h1 := hid h1
  have hx := hid hx; have g1 := hid g1; have g2 := hid g2; have g3 := hid g3
  go_enter Try.func87, Try.ntmps87
  obtain ⟨_, _, _⟩ := cells3 X1.out
  have _ := fz X1.out
  have _ := ltb X1.out
  obtain ⟨_, _⟩ := cells2 X2.out
  have _ := fz X2.out
  have _ := ltb X2.out
  go_wp2_with fail
  refine wp_reg1s #[.int .i64 0, .int .i64 0] 14 12 11 13 39 (by kernel_rfl) (by kernel_rfl) rfl rfl (by simp) rfl rfl (by decide) (fun _ _ => by kernel_rfl) (by kernel_rfl) ?_
  apply Exists.intro; apply Exists.intro
  refine ⟨fun wb hb => ?_, ?_⟩
  · obtain ⟨y0, y1, _, _⟩ := alloc2 (Gr.refl _)
    obtain ⟨_, _⟩ := hb.at2 y0
    obtain ⟨_, _⟩ := hb.at2 y1
    clear y0 y1
    obtain ⟨_, _, _⟩ := hb.at3 ((((Gr.refl _).al _).al _).keep X1.out)
    obtain ⟨_, _⟩ := hb.at2 ((((Gr.refl _).al _).al _).keep X2.out)
    simp only [headOps, List.contains, List.elem, Nat.reduceAdd, Nat.reduceBEq, reduceIte, Bool.false_eq_true, dumOp]
    repeat (first | go_big_quiet_step (first | (go_at_call 65; exact Calls.of_gr (swhole1 _ _)) | (go_at_call 115; exact Calls.of_gr (mulw_t a b _ _ h1.out ht.out g1.out))) | quiet_step (fail))
    exact wpQuiet_nil rfl
  refine ⟨rfl, ⟨rfl, by simp [Value.oneCell']⟩, fun w1 b1 hg1 _ xb1 => ?_⟩
  obtain ⟨x1_0, x1_1, hz1, g1⟩ := alloc2 hg1
  have x1_2 := g1.keep X1.out
  have x1_3 := g1.keep X2.out
  obtain ⟨_, _⟩ := cells2 x1_0
  have _ := fz x1_0
  have _ := ltb x1_0
  obtain ⟨_, _⟩ := cells2 x1_1
  have _ := fz x1_1
  have _ := ltb x1_1
  obtain ⟨_, _, _⟩ := cells3 x1_2
  have _ := fz x1_2
  have _ := ltb x1_2
  obtain ⟨_, _⟩ := cells2 x1_3
  have _ := fz x1_3
  have _ := ltb x1_3
  obtain ⟨_, _⟩ := cells2 xb1
  have _ := fz xb1
  have _ := ltb xb1
  have X1_0 := hid x1_0; clear x1_0
  have X1_1 := hid x1_1; clear x1_1
  have X1_2 := hid x1_2; clear x1_2
  have X1_3 := hid x1_3; clear x1_3
  have Xb1 := hid xb1; clear xb1
  have G1 := hid (g1)
  clear hg1 g1
  go_wp2_with fail
  refine wp_reg1s #[.int .i64 0, .int .i64 0] 12 10 13 11 53 (by kernel_rfl) (by kernel_rfl) rfl rfl (by simp) rfl rfl (by decide) (fun _ _ => by kernel_rfl) (by kernel_rfl) ?_
  apply Exists.intro; apply Exists.intro
  refine ⟨fun wb hb => ?_, ?_⟩
  · obtain ⟨_, _⟩ := hb.at2 X1_0.out
    obtain ⟨_, _⟩ := hb.at2 X1_1.out
    obtain ⟨_, _, _⟩ := hb.at3 X1_2.out
    obtain ⟨_, _⟩ := hb.at2 X1_3.out
    obtain ⟨_, _⟩ := hb.at2 Xb1.out
    simp only [headOps, List.contains, List.elem, Nat.reduceAdd, Nat.reduceBEq, reduceIte, Bool.false_eq_true, dumOp]
    repeat (first | go_big_quiet_step (first | (go_at_call 65; exact Calls.of_gr (swhole1 _ _)) | (go_at_call 81; exact Calls.of_gr (divw_t a b n _ _ hn.out hz.out g1.out g2.out))) | quiet_step (fail))
    exact wpQuiet_nil rfl
  refine ⟨rfl, ⟨rfl, by simp [Value.oneCell']⟩, fun w2 b2 hg2 _ xb2 => ?_⟩
  have x2_1 := hg2.keep X1_0.out
  have x2_2 := hg2.keep X1_1.out
  have x2_3 := hg2.keep X1_2.out
  have x2_4 := hg2.keep X1_3.out
  have x2_5 := hg2.keep Xb1.out
  obtain ⟨_, _⟩ := cells2 x2_1
  have _ := fz x2_1
  have _ := ltb x2_1
  obtain ⟨_, _⟩ := cells2 x2_2
  have _ := fz x2_2
  have _ := ltb x2_2
  obtain ⟨_, _, _⟩ := cells3 x2_3
  have _ := fz x2_3
  have _ := ltb x2_3
  obtain ⟨_, _⟩ := cells2 x2_4
  have _ := fz x2_4
  have _ := ltb x2_4
  obtain ⟨_, _⟩ := cells2 x2_5
  have _ := fz x2_5
  have _ := ltb x2_5
  obtain ⟨_, _⟩ := cells2 xb2
  have _ := fz xb2
  have _ := ltb xb2
  have X2_1 := hid x2_1; clear x2_1
  have X2_2 := hid x2_2; clear x2_2
  have X2_3 := hid x2_3; clear x2_3
  have X2_4 := hid x2_4; clear x2_4
  have X2_5 := hid x2_5; clear x2_5
  have Xb2 := hid xb2; clear xb2
  have G2 := hid (G1.out.trans hg2)
  clear hg2
  go_wp2_with fail
  refine (saddl_t a b n _ x y _ hx.out g2.out g3.out).mono ?_
  rintro e w3 ⟨rfl, hg3⟩
  have x3_1 := hg3.keep X2_1.out
  have x3_2 := hg3.keep X2_2.out
  have x3_3 := hg3.keep X2_3.out
  have x3_4 := hg3.keep X2_4.out
  have x3_5 := hg3.keep X2_5.out
  have x3_6 := hg3.keep Xb2.out
  obtain ⟨_, _⟩ := cells2 x3_1
  have _ := fz x3_1
  have _ := ltb x3_1
  obtain ⟨_, _⟩ := cells2 x3_2
  have _ := fz x3_2
  have _ := ltb x3_2
  obtain ⟨_, _, _⟩ := cells3 x3_3
  have _ := fz x3_3
  have _ := ltb x3_3
  obtain ⟨_, _⟩ := cells2 x3_4
  have _ := fz x3_4
  have _ := ltb x3_4
  obtain ⟨_, _⟩ := cells2 x3_5
  have _ := fz x3_5
  have _ := ltb x3_5
  obtain ⟨_, _⟩ := cells2 x3_6
  have _ := fz x3_6
  have _ := ltb x3_6
  have X3_1 := hid x3_1; clear x3_1
  have X3_2 := hid x3_2; clear x3_2
  have X3_3 := hid x3_3; clear x3_3
  have X3_4 := hid x3_4; clear x3_4
  have X3_5 := hid x3_5; clear x3_5
  have X3_6 := hid x3_6; clear x3_6
  have G3 := hid (G2.out.trans hg3)
  clear hg3
  go_wp2
  refine bodyPost_ret (v := .tuple #[fr (lnP a b n (i * (n + 1)) x y) (lnQ a b n (i * (n + 1)) x y), .int .i64 0]) (by simp [results, Try.results87, go_sem, *]) rfl ⟨rfl, ?_⟩
  exact ((G3.out).setCell (by simp <;> omega) _).setCell (by simp <;> omega) _
/-- What is told of a fraction that is calculated: by the program .. -/
def ResI (B : Bool) (P Q : Int) (w : World) (e : Ending) (w' : World) : Prop := (B = true → e = .returned (fr P Q)) ∧ (B = false → ∃ x y, e = .panicked [{ v := .iface 125 (fr x y), recovered := false }]) ∧ Gr w w'
/-- .. and by the reference. -/
def ResS (B : Bool) (P Q : Int) (w : World) (e : Ending) (w' : World) : Prop := e = .returned (.tuple #[fr (if B then P else 0) (if B then Q else 0), .int .i64 (if B then 0 else 3)]) ∧ Gr w w'
theorem stp_bd {n i : Int} {r : Bool} (n1 : 2 ≤ n) (n2 : n ≤ 40) (i1 : 0 ≤ i) (i2 : i ≤ n) : -2000 ≤ stp n r i ∧ stp n r i ≤ 2000 := by
  unfold stp
  have h0 : 0 ≤ i * (n - 1) := Int.mul_nonneg i1 (by omega)
  have h1 : 0 ≤ i * (n + 1) := Int.mul_nonneg i1 (by omega)
  have h2 : i * (n - 1) ≤ 40 * (n - 1) := Int.mul_le_mul_of_nonneg_right (by omega) (by omega)
  have h3 : i * (n + 1) ≤ 40 * (n + 1) := Int.mul_le_mul_of_nonneg_right (by omega) (by omega)
  split <;> omega
theorem iline (a b n i x y : Int) (r : Bool) (A : Option Addr) (m c : Nat) (w : World) (n1 : 2 ≤ n) (n2 : n ≤ 40) (i1 : 0 ≤ i) (i2 : i ≤ n) (h1 : okB a b = true) (hx : okB x y = true) :
    Calls Try.prog 89 #[vn n r, scl a b A m c, fr x y, .int .i64 i] w (ResI (lnB a b n (stp n r i) x y) (lnP a b n (stp n r i) x y) (lnQ a b n (stp n r i) x y) w) := by
  obtain ⟨q1, q2⟩ := stp_bd (r := r) n1 n2 i1 i2
  unfold lnB
  cases g1 : n1B a b (stp n r i) with
  | false =>
    refine Calls.mono (R := fun e w' => (∃ x y, e = .panicked [{ v := .iface 125 (fr x y), recovered := false }]) ∧ Gr w w') ?_ fun e w' ⟨h, hg⟩ => ⟨fun h => (by cases h), fun _ => h, hg⟩
    cases r
    · exact iline_f_b1 a b n i x y A m c w q1 q2 n1 n2 h1 g1
    · exact iline_t_b1 a b n i x y A m c w q1 q2 n1 n2 h1 g1
  | true =>
    cases g2 : nB a b n (stp n r i) with
    | false =>
      refine Calls.mono (R := fun e w' => (∃ x y, e = .panicked [{ v := .iface 125 (fr x y), recovered := false }]) ∧ Gr w w') ?_ fun e w' ⟨h, hg⟩ => ⟨fun h => (by cases h), fun _ => h, hg⟩
      cases r
      · exact iline_f_b2 a b n i x y A m c w q1 q2 n1 n2 h1 g1 g2
      · exact iline_t_b2 a b n i x y A m c w q1 q2 n1 n2 h1 g1 g2
    | true =>
      cases g3 : ln3 a b n (stp n r i) x y with
      | false =>
        refine Calls.mono (R := fun e w' => (∃ x y, e = .panicked [{ v := .iface 125 (fr x y), recovered := false }]) ∧ Gr w w') ?_ fun e w' ⟨h, hg⟩ => ⟨fun h => (by cases h), fun _ => h, hg⟩
        cases r
        · exact iline_f_b3 a b n i x y A m c w q1 q2 n1 n2 h1 hx g1 g2 g3
        · exact iline_t_b3 a b n i x y A m c w q1 q2 n1 n2 h1 hx g1 g2 g3
      | true =>
        refine Calls.mono (R := fun e w' => e = .returned (fr (lnP a b n (stp n r i) x y) (lnQ a b n (stp n r i) x y)) ∧ Gr w w') ?_ fun e w' ⟨h, hg⟩ => ⟨fun _ => h, fun h => (by cases h), hg⟩
        cases r
        · exact iline_f_ok a b n i x y A m c w q1 q2 n1 n2 h1 hx g1 g2 g3
        · exact iline_t_ok a b n i x y A m c w q1 q2 n1 n2 h1 hx g1 g2 g3
theorem sline (a b n i x y : Int) (r : Bool) (j j2 : Nat) (S : Value) (w : World) (X1 : Hid (w.heap[j]? = some (.cells #[.int .i64 a, .int .i64 b, S] 32))) (X2 : Hid (w.heap[j2]? = some (.cells #[.int .i64 n, .bool r] 53))) (n1 : 2 ≤ n) (n2 : n ≤ 40) (i1 : 0 ≤ i) (i2 : i ≤ n) (h1 : okB a b = true) (hx : okB x y = true) :
    Calls Try.prog 87 #[.pointer (some ⟨j, 0, none⟩), .pointer (some ⟨j2, 0, none⟩), fr x y, .int .i64 i] w (ResS (lnB a b n (stp n r i) x y) (lnP a b n (stp n r i) x y) (lnQ a b n (stp n r i) x y) w) := by
  obtain ⟨q1, q2⟩ := stp_bd (r := r) n1 n2 i1 i2
  unfold lnB ResS
  cases g1 : n1B a b (stp n r i) with
  | false =>
    cases r
    · exact sline_f_f1 a b n i x y j j2 S w X1 X2 q1 q2 n1 n2 h1 g1
    · exact sline_t_f1 a b n i x y j j2 S w X1 X2 q1 q2 n1 n2 h1 g1
  | true =>
    cases g2 : nB a b n (stp n r i) with
    | false =>
      cases r
      · exact sline_f_f2 a b n i x y j j2 S w X1 X2 q1 q2 n1 n2 h1 g1 g2
      · exact sline_t_f2 a b n i x y j j2 S w X1 X2 q1 q2 n1 n2 h1 g1 g2
    | true =>
      cases g3 : ln3 a b n (stp n r i) x y with
      | false =>
        cases r
        · exact sline_f_f3 a b n i x y j j2 S w X1 X2 q1 q2 n1 n2 h1 hx g1 g2 g3
        · exact sline_t_f3 a b n i x y j j2 S w X1 X2 q1 q2 n1 n2 h1 hx g1 g2 g3
      | true =>
        cases r
        · exact sline_f_t a b n i x y j j2 S w X1 X2 q1 q2 n1 n2 h1 hx g1 g2 g3
        · exact sline_t_t a b n i x y j j2 S w X1 X2 q1 q2 n1 n2 h1 hx g1 g2 g3
end Go.Proofs.Ytfkmlgndggnhaaa
