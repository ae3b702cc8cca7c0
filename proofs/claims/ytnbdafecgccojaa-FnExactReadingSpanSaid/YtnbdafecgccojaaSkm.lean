/- WALKS: ReadingSpan, of the program and of the reference. -/
import Derived.Test.YtnbdafecgccojaaSkk
import Derived.Test.YtnbdafecgccojaaR
import Derived.Test.YtnbdafecgccojaaT
namespace Go.Proofs.Ytnbdafecgccojaa
open Go.RowKit Go.Sort

def dvP (a b n : Int) : Int := redP (a * 1) (b * (2 * n))
def dvQ (a b n : Int) : Int := redQ (a * 1) (b * (2 * n))
def rsP (a b n U V : Int) : Int := redP (dvP a b n * n1Q U V 2 + n1P U V 2 * dvQ a b n) (dvQ a b n * n1Q U V 2)
def rsQ (a b n U V : Int) : Int := redQ (dvP a b n * n1Q U V 2 + n1P U V 2 * dvQ a b n) (dvQ a b n * n1Q U V 2)
def rs3 (a b n U V : Int) : Bool := okB (rsP a b n U V) (rsQ a b n U V)
theorem redP_nonneg {p q : Int} (hp : 0 ≤ p) (hq : 0 < q) : 0 ≤ redP p q := by
  unfold redP
  rw [if_neg (by omega)]
  exact Int.tdiv_nonneg hp (Int.natCast_nonneg _)
theorem wst_nonneg : ∀ (xs : List (Int × Int)) (P Q : Int), 0 ≤ P → 0 ≤ (wst xs P Q).1
  | [], P, Q, h => h
  | x :: r, P, Q, h => by
    refine wst_nonneg r _ _ ?_
    unfold mxP absI
    split <;> omega
theorem plusr_t (a b n U V : Int) (w : World) (g1 : lcB a b (2 * n) = true) (g2 : n1B U V 2 = true) (g3 : rs3 a b n U V = true) :
    Calls Try.prog 129 #[fr (dvP a b n) (dvQ a b n), fr (n1P U V 2) (n1Q U V 2)] w fun e w' => e = .returned (fr (rsP a b n U V) (rsQ a b n U V)) ∧ Gr w w' := plus_yes _ _ _ _ w g1 g2 g3
theorem saddr_t (a b n U V : Int) (w : World) (g1 : lcB a b (2 * n) = true) (g2 : n1B U V 2 = true) (g3 : rs3 a b n U V = true) :
    Calls Try.prog 82 #[fr (dvP a b n) (dvQ a b n), fr (n1P U V 2) (n1Q U V 2)] w fun e w' => e = .returned (.tuple #[fr (rsP a b n U V) (rsQ a b n U V), .int .i64 0]) ∧ Gr w w' := sadd_t _ _ _ _ w g1 g2 g3
theorem iowd (a b n : Int) (w : World) (h1 : okB a b = true) (hn : okB (2 * n) 1 = true) (hz : 2 * n ≠ 0) (g1 : lcB a b (2 * n) = true) :
    Calls Try.prog 156 #[fr a b, .int .i64 (2 * n)] w fun e w' => e = .returned (fr (dvP a b n) (dvQ a b n)) ∧ Gr w w' := iow_ok a b (2 * n) w h1 hn hz g1
theorem sdivd (a b n : Int) (w : World) (h1 : okB a b = true) (hn : okB (2 * n) 1 = true) (hz : 2 * n ≠ 0) (g1 : lcB a b (2 * n) = true) :
    Calls Try.prog 144 #[fr a b, fr (2 * n) 1] w fun e w' => e = .returned (.tuple #[fr (dvP a b n) (dvQ a b n), .int .i64 0]) ∧ Gr w w' := sdiv_t a b (2 * n) 1 w h1 hn hz g1
theorem saddr_f (a b n U V : Int) (w : World) (g1 : lcB a b (2 * n) = true) (g2 : n1B U V 2 = true) (g3 : rs3 a b n U V = false) :
    Calls Try.prog 82 #[fr (dvP a b n) (dvQ a b n), fr (n1P U V 2) (n1Q U V 2)] w fun e w' => e = .returned (.tuple #[fr 0 0, .int .i64 3]) ∧ Gr w w' := sadd_f _ _ _ _ w g1 g2 g3
theorem plusr_f (a b n U V : Int) (w : World) (g1 : lcB a b (2 * n) = true) (g2 : n1B U V 2 = true) (g3 : rs3 a b n U V = false) :
    Calls Try.prog 129 #[fr (dvP a b n) (dvQ a b n), fr (n1P U V 2) (n1Q U V 2)] w fun e w' => (∃ x y, e = .panicked [{ v := .iface 212 (fr x y), recovered := false }]) ∧ Gr w w' := plus_no _ _ _ _ w g1 g2 g3
theorem ok21 : okB 2 1 = true := by decide

set_option maxRecDepth 20000 in
set_option maxHeartbeats 1000000 in
theorem idbt_ok (a b n U V : Int) (r : Bool) (A : Option Addr) (c : Nat) (xs : List (Int × Int)) (w : World) (X : Hid (RdF w A xs)) (hn : xs.length ≤ 1048576) (hall : xs.all (fun x => okB x.1 x.2) = true) (hw : wst xs 0 1 = (U, V)) (n1 : 2 ≤ n) (n2 : n ≤ 40) (h1 : okB a b = true) (hu : okB U V = true) (g1 : lcB a b (2 * n) = true) (g2 : n1B U V 2 = true) (g3 : rs3 a b n U V = true) :
    Calls Try.prog 77 #[scl a b A xs.length c, vn n r] w fun e w' => e = .returned (fr (rsP a b n U V) (rsQ a b n U V)) ∧ Gr w w' := by
  have h2n := hid (ok_whole (t := 2 * n) (by omega) (by omega)); have hz := hid (show 2 * n ≠ 0 by omega)
  have h1 := hid h1; have hu := hid hu
  have g1 := hid g1
  have g2 := hid g2
  have g3 := hid g3
  have HW := hid fun (w' : World) (Z : Hid (RdF w' A xs)) => iworst a b A c xs U V w' Z hn hall hw
  clear hall hw
  go_enter Try.func77, Try.ntmps77
  go_wp2_with fail
  refine wp_reg0 10 (by kernel_rfl) (by kernel_rfl) ?_
  apply Exists.intro
  refine ⟨fun wb hb => ?_, ?_⟩
  · obtain ⟨y0, y1, y2, _, _⟩ := alloc3 (Gr.refl _)
    obtain ⟨_, _, _⟩ := hb.at3 y0
    obtain ⟨_, _⟩ := hb.at2 y1
    obtain ⟨_, _⟩ := hb.at2 y2
    clear y0 y1 y2
    simp only [headOps, List.contains, List.elem, reduceIte, Bool.false_eq_true]
    repeat (first | go_big_quiet_step (first | (go_at_call 156; exact Calls.of_gr (iowd a b n _ h1.out h2n.out hz.out g1.out)) | (go_at_call 157; exact Calls.of_gr (HW.out _ (hid (X.out.keep ((((((Gr.refl w).al _).al _).al _).trans hb).trans ⟨⟨_, _⟩, rfl⟩))))) | (go_at_call 131; exact Calls.of_gr (itw_ok U V 2 _ hu.out ok21 g2.out)) | (go_at_call 129; exact Calls.of_gr (plusr_t a b n U V _ g1.out g2.out g3.out))) | quiet_step (fail))
    exact wpQuiet_nil rfl
  intro w1 hg1
  obtain ⟨x1_0, x1_1, x1_2, hz1, g1⟩ := alloc3 hg1
  obtain ⟨_, _, _⟩ := cells3 x1_0
  have _ := fz x1_0
  have _ := ltb x1_0
  obtain ⟨_, _⟩ := cells2 x1_1
  have _ := fz x1_1
  have _ := ltb x1_1
  obtain ⟨_, _⟩ := cells2 x1_2
  have _ := fz x1_2
  have _ := ltb x1_2
  have X1_0 := hid x1_0; clear x1_0
  have X1_1 := hid x1_1; clear x1_1
  have X1_2 := hid x1_2; clear x1_2
  have G1 := hid (g1)
  clear hg1 g1
  go_wp2
  refine bodyPost_ret (v := fr (rsP a b n U V) (rsQ a b n U V)) (by simp [results, Try.results77, go_sem, *]) rfl ⟨rfl, ?_⟩
  exact ((G1.out).setCell (by simp <;> omega) _).setCell (by simp <;> omega) _
set_option maxRecDepth 20000 in
set_option maxHeartbeats 1000000 in
theorem idbt_b1 (a b n U V : Int) (r : Bool) (A : Option Addr) (c : Nat) (xs : List (Int × Int)) (w : World) (_X : Hid (RdF w A xs)) (hn : xs.length ≤ 1048576) (hall : xs.all (fun x => okB x.1 x.2) = true) (hw : wst xs 0 1 = (U, V)) (n1 : 2 ≤ n) (n2 : n ≤ 40) (h1 : okB a b = true) (hu : okB U V = true) (g1 : lcB a b (2 * n) = false) :
    Calls Try.prog 77 #[scl a b A xs.length c, vn n r] w fun e w' => (∃ x y, e = .panicked [{ v := .iface 212 (fr x y), recovered := false }]) ∧ Gr w w' := by
  have h2n := hid (ok_whole (t := 2 * n) (by omega) (by omega)); have hz := hid (show 2 * n ≠ 0 by omega)
  have h1 := hid h1; have hu := hid hu
  have g1 := hid g1
  have HW := hid fun (w' : World) (Z : Hid (RdF w' A xs)) => iworst a b A c xs U V w' Z hn hall hw
  clear hall hw
  go_enter Try.func77, Try.ntmps77
  go_wp2_with fail
  refine wp_regP 5 [7, 8, 9, 10] (by kernel_rfl) (by kernel_rfl) rfl ?_
  apply Exists.intro
  refine ⟨156, #[fr a b, .int .i64 (2 * n)], fun wb hb => ?_, ?_⟩
  · obtain ⟨y0, y1, y2, _, _⟩ := alloc3 (Gr.refl _)
    obtain ⟨_, _, _⟩ := hb.at3 y0
    obtain ⟨_, _⟩ := hb.at2 y1
    obtain ⟨_, _⟩ := hb.at2 y2
    clear y0 y1 y2
    simp only [headOps, List.contains, List.elem, List.length_cons, List.length_nil, Nat.zero_add, Nat.reduceAdd, Nat.reduceBEq, reduceIte, Bool.false_eq_true, dumOp]
    repeat (first | go_big_quiet_step (first | (fail)) | quiet_step (fail))
    exact wpQuiet_nil rfl
  refine ⟨fun w' => by kernel_rfl, fun w' hg' => (iow_bad _ _ _ _ h1.out h2n.out hz.out g1.out).mono fun e w2 ⟨⟨x, y, he⟩, hg2⟩ => ⟨_, he, fun a' ha' => ⟨ha', ⟨x, y, rfl⟩, (((((Gr.refl _).al _).al _).al _).trans hg').trans hg2⟩⟩⟩
set_option maxRecDepth 20000 in
set_option maxHeartbeats 1000000 in
theorem idbt_b2 (a b n U V : Int) (r : Bool) (A : Option Addr) (c : Nat) (xs : List (Int × Int)) (w : World) (X : Hid (RdF w A xs)) (hn : xs.length ≤ 1048576) (hall : xs.all (fun x => okB x.1 x.2) = true) (hw : wst xs 0 1 = (U, V)) (n1 : 2 ≤ n) (n2 : n ≤ 40) (h1 : okB a b = true) (hu : okB U V = true) (g1 : lcB a b (2 * n) = true) (g2 : n1B U V 2 = false) :
    Calls Try.prog 77 #[scl a b A xs.length c, vn n r] w fun e w' => (∃ x y, e = .panicked [{ v := .iface 212 (fr x y), recovered := false }]) ∧ Gr w w' := by
  have h2n := hid (ok_whole (t := 2 * n) (by omega) (by omega)); have hz := hid (show 2 * n ≠ 0 by omega)
  have h1 := hid h1; have hu := hid hu
  have g1 := hid g1
  have g2 := hid g2
  have HW := hid fun (w' : World) (Z : Hid (RdF w' A xs)) => iworst a b A c xs U V w' Z hn hall hw
  clear hall hw
  go_enter Try.func77, Try.ntmps77
  go_wp2_with fail
  refine wp_regP 8 [9, 10] (by kernel_rfl) (by kernel_rfl) rfl ?_
  apply Exists.intro
  refine ⟨131, #[fr U V, .int .i64 2], fun wb hb => ?_, ?_⟩
  · obtain ⟨y0, y1, y2, _, _⟩ := alloc3 (Gr.refl _)
    obtain ⟨_, _, _⟩ := hb.at3 y0
    obtain ⟨_, _⟩ := hb.at2 y1
    obtain ⟨_, _⟩ := hb.at2 y2
    clear y0 y1 y2
    simp only [headOps, List.contains, List.elem, List.length_cons, List.length_nil, Nat.zero_add, Nat.reduceAdd, Nat.reduceBEq, reduceIte, Bool.false_eq_true, dumOp]
    repeat (first | go_big_quiet_step (first | (go_at_call 156; exact Calls.of_gr (iowd a b n _ h1.out h2n.out hz.out g1.out)) | (go_at_call 157; exact Calls.of_gr (HW.out _ (hid (X.out.keep ((((((Gr.refl w).al _).al _).al _).trans hb).trans ⟨⟨_, _⟩, rfl⟩)))))) | quiet_step (fail))
    exact wpQuiet_nil rfl
  refine ⟨fun w' => by kernel_rfl, fun w' hg' => (itw_bad _ _ _ _ hu.out ok21 g2.out).mono fun e w2 ⟨⟨x, y, he⟩, hg2⟩ => ⟨_, he, fun a' ha' => ⟨ha', ⟨x, y, rfl⟩, (((((Gr.refl _).al _).al _).al _).trans hg').trans hg2⟩⟩⟩
set_option maxRecDepth 20000 in
set_option maxHeartbeats 1000000 in
theorem idbt_b3 (a b n U V : Int) (r : Bool) (A : Option Addr) (c : Nat) (xs : List (Int × Int)) (w : World) (X : Hid (RdF w A xs)) (hn : xs.length ≤ 1048576) (hall : xs.all (fun x => okB x.1 x.2) = true) (hw : wst xs 0 1 = (U, V)) (n1 : 2 ≤ n) (n2 : n ≤ 40) (h1 : okB a b = true) (hu : okB U V = true) (g1 : lcB a b (2 * n) = true) (g2 : n1B U V 2 = true) (g3 : rs3 a b n U V = false) :
    Calls Try.prog 77 #[scl a b A xs.length c, vn n r] w fun e w' => (∃ x y, e = .panicked [{ v := .iface 212 (fr x y), recovered := false }]) ∧ Gr w w' := by
  have h2n := hid (ok_whole (t := 2 * n) (by omega) (by omega)); have hz := hid (show 2 * n ≠ 0 by omega)
  have h1 := hid h1; have hu := hid hu
  have g1 := hid g1
  have g2 := hid g2
  have g3 := hid g3
  have HW := hid fun (w' : World) (Z : Hid (RdF w' A xs)) => iworst a b A c xs U V w' Z hn hall hw
  clear hall hw
  go_enter Try.func77, Try.ntmps77
  go_wp2_with fail
  refine wp_regP 9 [10] (by kernel_rfl) (by kernel_rfl) rfl ?_
  apply Exists.intro
  refine ⟨129, #[fr (dvP a b n) (dvQ a b n), fr (n1P U V 2) (n1Q U V 2)], fun wb hb => ?_, ?_⟩
  · obtain ⟨y0, y1, y2, _, _⟩ := alloc3 (Gr.refl _)
    obtain ⟨_, _, _⟩ := hb.at3 y0
    obtain ⟨_, _⟩ := hb.at2 y1
    obtain ⟨_, _⟩ := hb.at2 y2
    clear y0 y1 y2
    simp only [headOps, List.contains, List.elem, List.length_cons, List.length_nil, Nat.zero_add, Nat.reduceAdd, Nat.reduceBEq, reduceIte, Bool.false_eq_true, dumOp]
    repeat (first | go_big_quiet_step (first | (go_at_call 156; exact Calls.of_gr (iowd a b n _ h1.out h2n.out hz.out g1.out)) | (go_at_call 157; exact Calls.of_gr (HW.out _ (hid (X.out.keep ((((((Gr.refl w).al _).al _).al _).trans hb).trans ⟨⟨_, _⟩, rfl⟩))))) | (go_at_call 131; exact Calls.of_gr (itw_ok U V 2 _ hu.out ok21 g2.out))) | quiet_step (fail))
    exact wpQuiet_nil rfl
  refine ⟨fun w' => by kernel_rfl, fun w' hg' => (plusr_f a b n U V _ g1.out g2.out g3.out).mono fun e w2 ⟨⟨x, y, he⟩, hg2⟩ => ⟨_, he, fun a' ha' => ⟨ha', ⟨x, y, rfl⟩, (((((Gr.refl _).al _).al _).al _).trans hg').trans hg2⟩⟩⟩
set_option maxRecDepth 20000 in
set_option maxHeartbeats 1000000 in
theorem sopen_f1 (a b n U V : Int) (r : Bool) (A : Option Addr) (c : Nat) (xs : List (Int × Int)) (w : World) (k k2 : Nat) (X1 : Hid (w.heap[k]? = some (.cells #[.int .i64 a, .int .i64 b, .slice A xs.length c] 37))) (X2 : Hid (w.heap[k2]? = some (.cells #[.int .i64 n, .bool r] 39))) (_X : Hid (RdF w A xs)) (hn : xs.length ≤ 1048576) (hall : xs.all (fun x => okB x.1 x.2) = true) (hw : wst xs 0 1 = (U, V)) (n1 : 2 ≤ n) (n2 : n ≤ 40) (h1 : okB a b = true) (hu : okB U V = true) (g1 : lcB a b (2 * n) = false) :
    Calls Try.prog 70 #[.pointer (some ⟨k, 0, none⟩), .pointer (some ⟨k2, 0, none⟩)] w fun e w' => e = .returned (.tuple #[fr 0 0, .int .i64 3]) ∧ Gr w w' := by
  have h2n := hid (ok_whole (t := 2 * n) (by omega) (by omega)); have hz := hid (show 2 * n ≠ 0 by omega)
  have h1 := hid h1; have hu := hid hu
  have g1 := hid g1
  have HW := hid fun (w' : World) (Z1 : Hid (w'.heap[k]? = some (.cells #[.int .i64 a, .int .i64 b, .slice A xs.length c] 37))) (Z : Hid (RdF w' A xs)) => sworst a b A c k xs U V w' Z1 Z hn hall hw
  clear hall hw
  go_enter Try.func70, Try.ntmps70
  obtain ⟨_, _, _⟩ := cells3 X1.out
  have _ := fz X1.out
  have _ := ltb X1.out
  obtain ⟨_, _⟩ := cells2 X2.out
  have _ := fz X2.out
  have _ := ltb X2.out
  go_wp2_with fail
  refine wp_reg1s #[.int .i64 0, .int .i64 0] 16 14 6 15 22 (by kernel_rfl) (by kernel_rfl) rfl rfl (by simp) rfl rfl (by decide) (fun _ _ => by kernel_rfl) (by kernel_rfl) ?_
  apply Exists.intro; apply Exists.intro
  refine ⟨fun wb hb => ?_, ?_⟩
  · obtain ⟨y0, _, _⟩ := alloc1 (Gr.refl _)
    obtain ⟨_, _⟩ := hb.at2 y0
    clear y0
    obtain ⟨_, _, _⟩ := hb.at3 (((Gr.refl _).al _).keep X1.out)
    obtain ⟨_, _⟩ := hb.at2 (((Gr.refl _).al _).keep X2.out)
    simp only [headOps, List.contains, List.elem, Nat.reduceAdd, Nat.reduceBEq, reduceIte, Bool.false_eq_true, dumOp]
    repeat (first | go_big_quiet_step (first | (go_at_call 123; exact Calls.of_gr (swhole1 _ _)) | (go_at_call 144; exact Calls.of_gr (sdiv_f a b (2 * n) 1 _ h1.out h2n.out hz.out g1.out))) | quiet_step (fail))
    exact wpQuiet_nil rfl
  refine ⟨rfl, ⟨rfl, by simp [Value.oneCell']⟩, fun w1 b1 hg1 _ xb1 => ?_⟩
  obtain ⟨x1_0, hz1, g1⟩ := alloc1 hg1
  have x1_1 := g1.keep X1.out
  have x1_2 := g1.keep X2.out
  obtain ⟨_, _⟩ := cells2 x1_0
  have _ := fz x1_0
  have _ := ltb x1_0
  obtain ⟨_, _, _⟩ := cells3 x1_1
  have _ := fz x1_1
  have _ := ltb x1_1
  obtain ⟨_, _⟩ := cells2 x1_2
  have _ := fz x1_2
  have _ := ltb x1_2
  obtain ⟨_, _⟩ := cells2 xb1
  have _ := fz xb1
  have _ := ltb xb1
  have X1_0 := hid x1_0; clear x1_0
  have X1_1 := hid x1_1; clear x1_1
  have X1_2 := hid x1_2; clear x1_2
  have Xb1 := hid xb1; clear xb1
  have G1 := hid (g1)
  clear hg1 g1
  go_wp2
  refine bodyPost_ret (v := .tuple #[fr 0 0, .int .i64 3]) (by simp [results, Try.results70, go_sem, *]) rfl ⟨rfl, ?_⟩
  exact ((G1.out).setCell (by simp <;> omega) _).setCell (by simp <;> omega) _
set_option maxRecDepth 20000 in
set_option maxHeartbeats 1000000 in
theorem sopen_f2 (a b n U V : Int) (r : Bool) (A : Option Addr) (c : Nat) (xs : List (Int × Int)) (w : World) (k k2 : Nat) (X1 : Hid (w.heap[k]? = some (.cells #[.int .i64 a, .int .i64 b, .slice A xs.length c] 37))) (X2 : Hid (w.heap[k2]? = some (.cells #[.int .i64 n, .bool r] 39))) (X : Hid (RdF w A xs)) (hn : xs.length ≤ 1048576) (hall : xs.all (fun x => okB x.1 x.2) = true) (hw : wst xs 0 1 = (U, V)) (n1 : 2 ≤ n) (n2 : n ≤ 40) (h1 : okB a b = true) (hu : okB U V = true) (g1 : lcB a b (2 * n) = true) (g2 : n1B U V 2 = false) :
    Calls Try.prog 70 #[.pointer (some ⟨k, 0, none⟩), .pointer (some ⟨k2, 0, none⟩)] w fun e w' => e = .returned (.tuple #[fr 0 0, .int .i64 3]) ∧ Gr w w' := by
  have h2n := hid (ok_whole (t := 2 * n) (by omega) (by omega)); have hz := hid (show 2 * n ≠ 0 by omega)
  have h1 := hid h1; have hu := hid hu
  have g1 := hid g1
  have g2 := hid g2
  have HW := hid fun (w' : World) (Z1 : Hid (w'.heap[k]? = some (.cells #[.int .i64 a, .int .i64 b, .slice A xs.length c] 37))) (Z : Hid (RdF w' A xs)) => sworst a b A c k xs U V w' Z1 Z hn hall hw
  clear hall hw
  go_enter Try.func70, Try.ntmps70
  obtain ⟨_, _, _⟩ := cells3 X1.out
  have _ := fz X1.out
  have _ := ltb X1.out
  obtain ⟨_, _⟩ := cells2 X2.out
  have _ := fz X2.out
  have _ := ltb X2.out
  go_wp2_with fail
  refine wp_reg1s #[.int .i64 0, .int .i64 0] 16 14 6 15 22 (by kernel_rfl) (by kernel_rfl) rfl rfl (by simp) rfl rfl (by decide) (fun _ _ => by kernel_rfl) (by kernel_rfl) ?_
  apply Exists.intro; apply Exists.intro
  refine ⟨fun wb hb => ?_, ?_⟩
  · obtain ⟨y0, _, _⟩ := alloc1 (Gr.refl _)
    obtain ⟨_, _⟩ := hb.at2 y0
    clear y0
    obtain ⟨_, _, _⟩ := hb.at3 (((Gr.refl _).al _).keep X1.out)
    obtain ⟨_, _⟩ := hb.at2 (((Gr.refl _).al _).keep X2.out)
    simp only [headOps, List.contains, List.elem, Nat.reduceAdd, Nat.reduceBEq, reduceIte, Bool.false_eq_true, dumOp]
    repeat (first | go_big_quiet_step (first | (go_at_call 123; exact Calls.of_gr (swhole1 _ _)) | (go_at_call 144; exact Calls.of_gr (sdivd a b n _ h1.out h2n.out hz.out g1.out))) | quiet_step (fail))
    exact wpQuiet_nil rfl
  refine ⟨rfl, ⟨rfl, by simp [Value.oneCell']⟩, fun w1 b1 hg1 _ xb1 => ?_⟩
  obtain ⟨x1_0, hz1, g1⟩ := alloc1 hg1
  have x1_1 := g1.keep X1.out
  have x1_2 := g1.keep X2.out
  obtain ⟨_, _⟩ := cells2 x1_0
  have _ := fz x1_0
  have _ := ltb x1_0
  obtain ⟨_, _, _⟩ := cells3 x1_1
  have _ := fz x1_1
  have _ := ltb x1_1
  obtain ⟨_, _⟩ := cells2 x1_2
  have _ := fz x1_2
  have _ := ltb x1_2
  obtain ⟨_, _⟩ := cells2 xb1
  have _ := fz xb1
  have _ := ltb xb1
  have X1_0 := hid x1_0; clear x1_0
  have X1_1 := hid x1_1; clear x1_1
  have X1_2 := hid x1_2; clear x1_2
  have Xb1 := hid xb1; clear xb1
  have G1 := hid (g1)
  clear hg1 g1
  go_wp2_with fail
  refine (swhole1 _ _).mono ?_
  rintro e w2 ⟨rfl, hg2⟩
  have x2_1 := hg2.keep X1_0.out
  have x2_2 := hg2.keep X1_1.out
  have x2_3 := hg2.keep X1_2.out
  have x2_4 := hg2.keep Xb1.out
  obtain ⟨_, _⟩ := cells2 x2_1
  have _ := fz x2_1
  have _ := ltb x2_1
  obtain ⟨_, _, _⟩ := cells3 x2_2
  have _ := fz x2_2
  have _ := ltb x2_2
  obtain ⟨_, _⟩ := cells2 x2_3
  have _ := fz x2_3
  have _ := ltb x2_3
  obtain ⟨_, _⟩ := cells2 x2_4
  have _ := fz x2_4
  have _ := ltb x2_4
  have X2_1 := hid x2_1; clear x2_1
  have X2_2 := hid x2_2; clear x2_2
  have X2_3 := hid x2_3; clear x2_3
  have X2_4 := hid x2_4; clear x2_4
  have G2 := hid (G1.out.trans hg2)
  clear hg2
  go_wp2_with fail
  refine (HW.out _ (hid X2_2.out) (hid (X.out.keep G2.out))).mono ?_
  rintro e w3 ⟨rfl, hg3⟩
  have x3_1 := hg3.keep X2_1.out
  have x3_2 := hg3.keep X2_2.out
  have x3_3 := hg3.keep X2_3.out
  have x3_4 := hg3.keep X2_4.out
  obtain ⟨_, _⟩ := cells2 x3_1
  have _ := fz x3_1
  have _ := ltb x3_1
  obtain ⟨_, _, _⟩ := cells3 x3_2
  have _ := fz x3_2
  have _ := ltb x3_2
  obtain ⟨_, _⟩ := cells2 x3_3
  have _ := fz x3_3
  have _ := ltb x3_3
  obtain ⟨_, _⟩ := cells2 x3_4
  have _ := fz x3_4
  have _ := ltb x3_4
  have X3_1 := hid x3_1; clear x3_1
  have X3_2 := hid x3_2; clear x3_2
  have X3_3 := hid x3_3; clear x3_3
  have X3_4 := hid x3_4; clear x3_4
  have G3 := hid (G2.out.trans hg3)
  clear hg3
  go_wp2_with fail
  refine (smul_f 2 1 U V _ ok21 hu.out g2.out).mono ?_
  rintro e w4 ⟨rfl, hg4⟩
  have x4_1 := hg4.keep X3_1.out
  have x4_2 := hg4.keep X3_2.out
  have x4_3 := hg4.keep X3_3.out
  have x4_4 := hg4.keep X3_4.out
  obtain ⟨_, _⟩ := cells2 x4_1
  have _ := fz x4_1
  have _ := ltb x4_1
  obtain ⟨_, _, _⟩ := cells3 x4_2
  have _ := fz x4_2
  have _ := ltb x4_2
  obtain ⟨_, _⟩ := cells2 x4_3
  have _ := fz x4_3
  have _ := ltb x4_3
  obtain ⟨_, _⟩ := cells2 x4_4
  have _ := fz x4_4
  have _ := ltb x4_4
  have X4_1 := hid x4_1; clear x4_1
  have X4_2 := hid x4_2; clear x4_2
  have X4_3 := hid x4_3; clear x4_3
  have X4_4 := hid x4_4; clear x4_4
  have G4 := hid (G3.out.trans hg4)
  clear hg4
  go_wp2
  refine bodyPost_ret (v := .tuple #[fr 0 0, .int .i64 3]) (by simp [results, Try.results70, go_sem, *]) rfl ⟨rfl, ?_⟩
  exact (((G4.out).setCell (by simp <;> omega) _).setCell (by simp <;> omega) _).al _
set_option maxRecDepth 20000 in
set_option maxHeartbeats 1000000 in
theorem sopen_f3 (a b n U V : Int) (r : Bool) (A : Option Addr) (c : Nat) (xs : List (Int × Int)) (w : World) (k k2 : Nat) (X1 : Hid (w.heap[k]? = some (.cells #[.int .i64 a, .int .i64 b, .slice A xs.length c] 37))) (X2 : Hid (w.heap[k2]? = some (.cells #[.int .i64 n, .bool r] 39))) (X : Hid (RdF w A xs)) (hn : xs.length ≤ 1048576) (hall : xs.all (fun x => okB x.1 x.2) = true) (hw : wst xs 0 1 = (U, V)) (n1 : 2 ≤ n) (n2 : n ≤ 40) (h1 : okB a b = true) (hu : okB U V = true) (g1 : lcB a b (2 * n) = true) (g2 : n1B U V 2 = true) (g3 : rs3 a b n U V = false) :
    Calls Try.prog 70 #[.pointer (some ⟨k, 0, none⟩), .pointer (some ⟨k2, 0, none⟩)] w fun e w' => e = .returned (.tuple #[fr 0 0, .int .i64 3]) ∧ Gr w w' := by
  have h2n := hid (ok_whole (t := 2 * n) (by omega) (by omega)); have hz := hid (show 2 * n ≠ 0 by omega)
  have h1 := hid h1; have hu := hid hu
  have g1 := hid g1
  have g2 := hid g2
  have g3 := hid g3
  have HW := hid fun (w' : World) (Z1 : Hid (w'.heap[k]? = some (.cells #[.int .i64 a, .int .i64 b, .slice A xs.length c] 37))) (Z : Hid (RdF w' A xs)) => sworst a b A c k xs U V w' Z1 Z hn hall hw
  clear hall hw
  go_enter Try.func70, Try.ntmps70
  obtain ⟨_, _, _⟩ := cells3 X1.out
  have _ := fz X1.out
  have _ := ltb X1.out
  obtain ⟨_, _⟩ := cells2 X2.out
  have _ := fz X2.out
  have _ := ltb X2.out
  go_wp2_with fail
  refine wp_reg1s #[.int .i64 0, .int .i64 0] 16 14 6 15 22 (by kernel_rfl) (by kernel_rfl) rfl rfl (by simp) rfl rfl (by decide) (fun _ _ => by kernel_rfl) (by kernel_rfl) ?_
  apply Exists.intro; apply Exists.intro
  refine ⟨fun wb hb => ?_, ?_⟩
  · obtain ⟨y0, _, _⟩ := alloc1 (Gr.refl _)
    obtain ⟨_, _⟩ := hb.at2 y0
    clear y0
    obtain ⟨_, _, _⟩ := hb.at3 (((Gr.refl _).al _).keep X1.out)
    obtain ⟨_, _⟩ := hb.at2 (((Gr.refl _).al _).keep X2.out)
    simp only [headOps, List.contains, List.elem, Nat.reduceAdd, Nat.reduceBEq, reduceIte, Bool.false_eq_true, dumOp]
    repeat (first | go_big_quiet_step (first | (go_at_call 123; exact Calls.of_gr (swhole1 _ _)) | (go_at_call 144; exact Calls.of_gr (sdivd a b n _ h1.out h2n.out hz.out g1.out))) | quiet_step (fail))
    exact wpQuiet_nil rfl
  refine ⟨rfl, ⟨rfl, by simp [Value.oneCell']⟩, fun w1 b1 hg1 _ xb1 => ?_⟩
  obtain ⟨x1_0, hz1, g1⟩ := alloc1 hg1
  have x1_1 := g1.keep X1.out
  have x1_2 := g1.keep X2.out
  obtain ⟨_, _⟩ := cells2 x1_0
  have _ := fz x1_0
  have _ := ltb x1_0
  obtain ⟨_, _, _⟩ := cells3 x1_1
  have _ := fz x1_1
  have _ := ltb x1_1
  obtain ⟨_, _⟩ := cells2 x1_2
  have _ := fz x1_2
  have _ := ltb x1_2
  obtain ⟨_, _⟩ := cells2 xb1
  have _ := fz xb1
  have _ := ltb xb1
  have X1_0 := hid x1_0; clear x1_0
  have X1_1 := hid x1_1; clear x1_1
  have X1_2 := hid x1_2; clear x1_2
  have Xb1 := hid xb1; clear xb1
  have G1 := hid (g1)
  clear hg1 g1
  go_wp2_with fail
  refine (swhole1 _ _).mono ?_
  rintro e w2 ⟨rfl, hg2⟩
  have x2_1 := hg2.keep X1_0.out
  have x2_2 := hg2.keep X1_1.out
  have x2_3 := hg2.keep X1_2.out
  have x2_4 := hg2.keep Xb1.out
  obtain ⟨_, _⟩ := cells2 x2_1
  have _ := fz x2_1
  have _ := ltb x2_1
  obtain ⟨_, _, _⟩ := cells3 x2_2
  have _ := fz x2_2
  have _ := ltb x2_2
  obtain ⟨_, _⟩ := cells2 x2_3
  have _ := fz x2_3
  have _ := ltb x2_3
  obtain ⟨_, _⟩ := cells2 x2_4
  have _ := fz x2_4
  have _ := ltb x2_4
  have X2_1 := hid x2_1; clear x2_1
  have X2_2 := hid x2_2; clear x2_2
  have X2_3 := hid x2_3; clear x2_3
  have X2_4 := hid x2_4; clear x2_4
  have G2 := hid (G1.out.trans hg2)
  clear hg2
  go_wp2_with fail
  refine (HW.out _ (hid X2_2.out) (hid (X.out.keep G2.out))).mono ?_
  rintro e w3 ⟨rfl, hg3⟩
  have x3_1 := hg3.keep X2_1.out
  have x3_2 := hg3.keep X2_2.out
  have x3_3 := hg3.keep X2_3.out
  have x3_4 := hg3.keep X2_4.out
  obtain ⟨_, _⟩ := cells2 x3_1
  have _ := fz x3_1
  have _ := ltb x3_1
  obtain ⟨_, _, _⟩ := cells3 x3_2
  have _ := fz x3_2
  have _ := ltb x3_2
  obtain ⟨_, _⟩ := cells2 x3_3
  have _ := fz x3_3
  have _ := ltb x3_3
  obtain ⟨_, _⟩ := cells2 x3_4
  have _ := fz x3_4
  have _ := ltb x3_4
  have X3_1 := hid x3_1; clear x3_1
  have X3_2 := hid x3_2; clear x3_2
  have X3_3 := hid x3_3; clear x3_3
  have X3_4 := hid x3_4; clear x3_4
  have G3 := hid (G2.out.trans hg3)
  clear hg3
  go_wp2_with fail
  refine (mulw_t U V 2 _ hu.out ok21 g2.out).mono ?_
  rintro e w4 ⟨rfl, hg4⟩
  have x4_1 := hg4.keep X3_1.out
  have x4_2 := hg4.keep X3_2.out
  have x4_3 := hg4.keep X3_3.out
  have x4_4 := hg4.keep X3_4.out
  obtain ⟨_, _⟩ := cells2 x4_1
  have _ := fz x4_1
  have _ := ltb x4_1
  obtain ⟨_, _, _⟩ := cells3 x4_2
  have _ := fz x4_2
  have _ := ltb x4_2
  obtain ⟨_, _⟩ := cells2 x4_3
  have _ := fz x4_3
  have _ := ltb x4_3
  obtain ⟨_, _⟩ := cells2 x4_4
  have _ := fz x4_4
  have _ := ltb x4_4
  have X4_1 := hid x4_1; clear x4_1
  have X4_2 := hid x4_2; clear x4_2
  have X4_3 := hid x4_3; clear x4_3
  have X4_4 := hid x4_4; clear x4_4
  have G4 := hid (G3.out.trans hg4)
  clear hg4
  go_wp2_with fail
  refine (saddr_f a b n U V _ g1.out g2.out g3.out).mono ?_
  rintro e w5 ⟨rfl, hg5⟩
  obtain ⟨x5_0, hz5, g5⟩ := alloc1 hg5
  have x5_1 := g5.keep X4_1.out
  have x5_2 := g5.keep X4_2.out
  have x5_3 := g5.keep X4_3.out
  have x5_4 := g5.keep X4_4.out
  obtain ⟨_, _⟩ := cells2 x5_1
  have _ := fz x5_1
  have _ := ltb x5_1
  obtain ⟨_, _, _⟩ := cells3 x5_2
  have _ := fz x5_2
  have _ := ltb x5_2
  obtain ⟨_, _⟩ := cells2 x5_3
  have _ := fz x5_3
  have _ := ltb x5_3
  obtain ⟨_, _⟩ := cells2 x5_4
  have _ := fz x5_4
  have _ := ltb x5_4
  obtain ⟨_, _⟩ := cells2 x5_0
  have _ := fz x5_0
  have _ := ltb x5_0
  have X5_1 := hid x5_1; clear x5_1
  have X5_2 := hid x5_2; clear x5_2
  have X5_3 := hid x5_3; clear x5_3
  have X5_4 := hid x5_4; clear x5_4
  have X5_0 := hid x5_0; clear x5_0
  have G5 := hid (G4.out.trans g5)
  clear hg5 g5
  go_wp2
  refine bodyPost_ret (v := .tuple #[fr 0 0, .int .i64 3]) (by simp [results, Try.results70, go_sem, *]) rfl ⟨rfl, ?_⟩
  exact ((G5.out).setCell (by simp <;> omega) _).setCell (by simp <;> omega) _
set_option maxRecDepth 20000 in
set_option maxHeartbeats 1000000 in
theorem sopen_t (a b n U V : Int) (r : Bool) (A : Option Addr) (c : Nat) (xs : List (Int × Int)) (w : World) (k k2 : Nat) (X1 : Hid (w.heap[k]? = some (.cells #[.int .i64 a, .int .i64 b, .slice A xs.length c] 37))) (X2 : Hid (w.heap[k2]? = some (.cells #[.int .i64 n, .bool r] 39))) (X : Hid (RdF w A xs)) (hn : xs.length ≤ 1048576) (hall : xs.all (fun x => okB x.1 x.2) = true) (hw : wst xs 0 1 = (U, V)) (n1 : 2 ≤ n) (n2 : n ≤ 40) (h1 : okB a b = true) (hu : okB U V = true) (g1 : lcB a b (2 * n) = true) (g2 : n1B U V 2 = true) (g3 : rs3 a b n U V = true) :
    Calls Try.prog 70 #[.pointer (some ⟨k, 0, none⟩), .pointer (some ⟨k2, 0, none⟩)] w fun e w' => e = .returned (.tuple #[fr (rsP a b n U V) (rsQ a b n U V), .int .i64 0]) ∧ Gr w w' := by
  have h2n := hid (ok_whole (t := 2 * n) (by omega) (by omega)); have hz := hid (show 2 * n ≠ 0 by omega)
  have h1 := hid h1; have hu := hid hu
  have g1 := hid g1
  have g2 := hid g2
  have g3 := hid g3
  have HW := hid fun (w' : World) (Z1 : Hid (w'.heap[k]? = some (.cells #[.int .i64 a, .int .i64 b, .slice A xs.length c] 37))) (Z : Hid (RdF w' A xs)) => sworst a b A c k xs U V w' Z1 Z hn hall hw
  clear hall hw
  go_enter Try.func70, Try.ntmps70
  obtain ⟨_, _, _⟩ := cells3 X1.out
  have _ := fz X1.out
  have _ := ltb X1.out
  obtain ⟨_, _⟩ := cells2 X2.out
  have _ := fz X2.out
  have _ := ltb X2.out
  go_wp2_with fail
  refine wp_reg1s #[.int .i64 0, .int .i64 0] 16 14 6 15 22 (by kernel_rfl) (by kernel_rfl) rfl rfl (by simp) rfl rfl (by decide) (fun _ _ => by kernel_rfl) (by kernel_rfl) ?_
  apply Exists.intro; apply Exists.intro
  refine ⟨fun wb hb => ?_, ?_⟩
  · obtain ⟨y0, _, _⟩ := alloc1 (Gr.refl _)
    obtain ⟨_, _⟩ := hb.at2 y0
    clear y0
    obtain ⟨_, _, _⟩ := hb.at3 (((Gr.refl _).al _).keep X1.out)
    obtain ⟨_, _⟩ := hb.at2 (((Gr.refl _).al _).keep X2.out)
    simp only [headOps, List.contains, List.elem, Nat.reduceAdd, Nat.reduceBEq, reduceIte, Bool.false_eq_true, dumOp]
    repeat (first | go_big_quiet_step (first | (go_at_call 123; exact Calls.of_gr (swhole1 _ _)) | (go_at_call 144; exact Calls.of_gr (sdivd a b n _ h1.out h2n.out hz.out g1.out))) | quiet_step (fail))
    exact wpQuiet_nil rfl
  refine ⟨rfl, ⟨rfl, by simp [Value.oneCell']⟩, fun w1 b1 hg1 _ xb1 => ?_⟩
  obtain ⟨x1_0, hz1, g1⟩ := alloc1 hg1
  have x1_1 := g1.keep X1.out
  have x1_2 := g1.keep X2.out
  obtain ⟨_, _⟩ := cells2 x1_0
  have _ := fz x1_0
  have _ := ltb x1_0
  obtain ⟨_, _, _⟩ := cells3 x1_1
  have _ := fz x1_1
  have _ := ltb x1_1
  obtain ⟨_, _⟩ := cells2 x1_2
  have _ := fz x1_2
  have _ := ltb x1_2
  obtain ⟨_, _⟩ := cells2 xb1
  have _ := fz xb1
  have _ := ltb xb1
  have X1_0 := hid x1_0; clear x1_0
  have X1_1 := hid x1_1; clear x1_1
  have X1_2 := hid x1_2; clear x1_2
  have Xb1 := hid xb1; clear xb1
  have G1 := hid (g1)
  clear hg1 g1
  go_wp2_with fail
  refine (swhole1 _ _).mono ?_
  rintro e w2 ⟨rfl, hg2⟩
  have x2_1 := hg2.keep X1_0.out
  have x2_2 := hg2.keep X1_1.out
  have x2_3 := hg2.keep X1_2.out
  have x2_4 := hg2.keep Xb1.out
  obtain ⟨_, _⟩ := cells2 x2_1
  have _ := fz x2_1
  have _ := ltb x2_1
  obtain ⟨_, _, _⟩ := cells3 x2_2
  have _ := fz x2_2
  have _ := ltb x2_2
  obtain ⟨_, _⟩ := cells2 x2_3
  have _ := fz x2_3
  have _ := ltb x2_3
  obtain ⟨_, _⟩ := cells2 x2_4
  have _ := fz x2_4
  have _ := ltb x2_4
  have X2_1 := hid x2_1; clear x2_1
  have X2_2 := hid x2_2; clear x2_2
  have X2_3 := hid x2_3; clear x2_3
  have X2_4 := hid x2_4; clear x2_4
  have G2 := hid (G1.out.trans hg2)
  clear hg2
  go_wp2_with fail
  refine (HW.out _ (hid X2_2.out) (hid (X.out.keep G2.out))).mono ?_
  rintro e w3 ⟨rfl, hg3⟩
  have x3_1 := hg3.keep X2_1.out
  have x3_2 := hg3.keep X2_2.out
  have x3_3 := hg3.keep X2_3.out
  have x3_4 := hg3.keep X2_4.out
  obtain ⟨_, _⟩ := cells2 x3_1
  have _ := fz x3_1
  have _ := ltb x3_1
  obtain ⟨_, _, _⟩ := cells3 x3_2
  have _ := fz x3_2
  have _ := ltb x3_2
  obtain ⟨_, _⟩ := cells2 x3_3
  have _ := fz x3_3
  have _ := ltb x3_3
  obtain ⟨_, _⟩ := cells2 x3_4
  have _ := fz x3_4
  have _ := ltb x3_4
  have X3_1 := hid x3_1; clear x3_1
  have X3_2 := hid x3_2; clear x3_2
  have X3_3 := hid x3_3; clear x3_3
  have X3_4 := hid x3_4; clear x3_4
  have G3 := hid (G2.out.trans hg3)
  clear hg3
  go_wp2_with fail
  refine (mulw_t U V 2 _ hu.out ok21 g2.out).mono ?_
  rintro e w4 ⟨rfl, hg4⟩
  have x4_1 := hg4.keep X3_1.out
  have x4_2 := hg4.keep X3_2.out
  have x4_3 := hg4.keep X3_3.out
  have x4_4 := hg4.keep X3_4.out
  obtain ⟨_, _⟩ := cells2 x4_1
  have _ := fz x4_1
  have _ := ltb x4_1
  obtain ⟨_, _, _⟩ := cells3 x4_2
  have _ := fz x4_2
  have _ := ltb x4_2
  obtain ⟨_, _⟩ := cells2 x4_3
  have _ := fz x4_3
  have _ := ltb x4_3
  obtain ⟨_, _⟩ := cells2 x4_4
  have _ := fz x4_4
  have _ := ltb x4_4
  have X4_1 := hid x4_1; clear x4_1
  have X4_2 := hid x4_2; clear x4_2
  have X4_3 := hid x4_3; clear x4_3
  have X4_4 := hid x4_4; clear x4_4
  have G4 := hid (G3.out.trans hg4)
  clear hg4
  go_wp2_with fail
  refine (saddr_t a b n U V _ g1.out g2.out g3.out).mono ?_
  rintro e w5 ⟨rfl, hg5⟩
  obtain ⟨x5_0, hz5, g5⟩ := alloc1 hg5
  have x5_1 := g5.keep X4_1.out
  have x5_2 := g5.keep X4_2.out
  have x5_3 := g5.keep X4_3.out
  have x5_4 := g5.keep X4_4.out
  obtain ⟨_, _⟩ := cells2 x5_1
  have _ := fz x5_1
  have _ := ltb x5_1
  obtain ⟨_, _, _⟩ := cells3 x5_2
  have _ := fz x5_2
  have _ := ltb x5_2
  obtain ⟨_, _⟩ := cells2 x5_3
  have _ := fz x5_3
  have _ := ltb x5_3
  obtain ⟨_, _⟩ := cells2 x5_4
  have _ := fz x5_4
  have _ := ltb x5_4
  obtain ⟨_, _⟩ := cells2 x5_0
  have _ := fz x5_0
  have _ := ltb x5_0
  have X5_1 := hid x5_1; clear x5_1
  have X5_2 := hid x5_2; clear x5_2
  have X5_3 := hid x5_3; clear x5_3
  have X5_4 := hid x5_4; clear x5_4
  have X5_0 := hid x5_0; clear x5_0
  have G5 := hid (G4.out.trans g5)
  clear hg5 g5
  go_wp2
  refine bodyPost_ret (v := .tuple #[fr (rsP a b n U V) (rsQ a b n U V), .int .i64 0]) (by simp [results, Try.results70, go_sem, *]) rfl ⟨rfl, ?_⟩
  exact ((G5.out).setCell (by simp <;> omega) _).setCell (by simp <;> omega) _
def rsB (a b n U V : Int) : Bool := lcB a b (2 * n) && (n1B U V 2 && rs3 a b n U V)
theorem idoubt (a b n U V : Int) (r : Bool) (A : Option Addr) (c : Nat) (xs : List (Int × Int)) (w : World) (X : Hid (RdF w A xs)) (hn : xs.length ≤ 1048576) (hall : xs.all (fun x => okB x.1 x.2) = true) (hw : wst xs 0 1 = (U, V)) (n1 : 2 ≤ n) (n2 : n ≤ 40) (h1 : okB a b = true) (hu : okB U V = true) :
    Calls Try.prog 77 #[scl a b A xs.length c, vn n r] w (ResI (rsB a b n U V) (rsP a b n U V) (rsQ a b n U V) w) := by
  unfold rsB
  cases g1 : lcB a b (2 * n) with
  | false => exact (idbt_b1 a b n U V r A c xs w X hn hall hw n1 n2 h1 hu g1).mono fun e w' ⟨h, hg⟩ => ⟨fun h => (by cases h), fun _ => h, hg⟩
  | true =>
    cases g2 : n1B U V 2 with
    | false => exact (idbt_b2 a b n U V r A c xs w X hn hall hw n1 n2 h1 hu g1 g2).mono fun e w' ⟨h, hg⟩ => ⟨fun h => (by cases h), fun _ => h, hg⟩
    | true =>
      cases g3 : rs3 a b n U V with
      | false => exact (idbt_b3 a b n U V r A c xs w X hn hall hw n1 n2 h1 hu g1 g2 g3).mono fun e w' ⟨h, hg⟩ => ⟨fun h => (by cases h), fun _ => h, hg⟩
      | true => exact (idbt_ok a b n U V r A c xs w X hn hall hw n1 n2 h1 hu g1 g2 g3).mono fun e w' ⟨h, hg⟩ => ⟨fun _ => h, fun h => (by cases h), hg⟩
set_option maxRecDepth 20000 in
set_option maxHeartbeats 1000000 in
theorem crs (a b n U V : Int) (r : Bool) (A : Option Addr) (c : Nat) (xs : List (Int × Int)) (w : World) (k k2 : Nat) (X1 : Hid (w.heap[k]? = some (.cells #[.int .i64 a, .int .i64 b, .slice A xs.length c] 37))) (X2 : Hid (w.heap[k2]? = some (.cells #[.int .i64 n, .bool r] 39))) (X : Hid (RdF w A xs)) (hn : xs.length ≤ 1048576) (hall : xs.all (fun x => okB x.1 x.2) = true) (hw : wst xs 0 1 = (U, V)) (n1 : 2 ≤ n) (n2 : n ≤ 40) (h1 : okB a b = true) (hu : okB U V = true) :
    Calls Try.prog 76 #[.pointer (some ⟨k, 0, none⟩), .pointer (some ⟨k2, 0, none⟩)] w (ResI (rsB a b n U V) (rsP a b n U V) (rsQ a b n U V) w) := by
  have HS := hid fun (w : World) (X : Hid (RdF w A xs)) => idoubt a b n U V r A c xs w X hn hall hw n1 n2 h1 hu
  clear hall hw h1 hu
  cases hb : rsB a b n U V with
  | true =>
    rw [hb] at HS
    have HS2 := hid fun (w : World) (X : Hid (RdF w A xs)) => (HS.out w X).mono (R' := fun e w' => e = .returned (fr (rsP a b n U V) (rsQ a b n U V)) ∧ Gr w w') fun e w' h => ⟨h.1 rfl, h.2.2⟩
    clear hb HS
    refine Calls.mono (R := fun e w' => e = .returned (fr (rsP a b n U V) (rsQ a b n U V)) ∧ Gr w w') ?_ (fun e w' ⟨h, hg⟩ => ⟨fun _ => h, fun h => (by cases h), hg⟩)
    go_enter Try.func76, Try.ntmps76
    obtain ⟨_, _, _⟩ := cells3 X1.out
    have _ := fz X1.out
    have _ := ltb X1.out
    obtain ⟨_, _⟩ := cells2 X2.out
    have _ := fz X2.out
    have _ := ltb X2.out
    go_wp2_with fail
    refine (HS2.out _ (hid (X.out.keep ((Gr.refl w).al _)))).mono ?_
    rintro e w1 ⟨rfl, hg1⟩
    obtain ⟨x1_0, hz1, g1⟩ := alloc1 hg1
    have x1_1 := g1.keep X1.out
    have x1_2 := g1.keep X2.out
    obtain ⟨_, _⟩ := cells2 x1_0
    have _ := fz x1_0
    have _ := ltb x1_0
    obtain ⟨_, _, _⟩ := cells3 x1_1
    have _ := fz x1_1
    have _ := ltb x1_1
    obtain ⟨_, _⟩ := cells2 x1_2
    have _ := fz x1_2
    have _ := ltb x1_2
    have X1_0 := hid x1_0; clear x1_0
    have X1_1 := hid x1_1; clear x1_1
    have X1_2 := hid x1_2; clear x1_2
    have G1 := hid (g1)
    clear hg1 g1
    go_wp2
    refine bodyPost_ret (v := fr (rsP a b n U V) (rsQ a b n U V)) (by simp [results, Try.results76, go_sem, *]) rfl ⟨rfl, ?_⟩
    exact ((G1.out).setCell (by simp <;> omega) _).setCell (by simp <;> omega) _
  | false =>
    rw [hb] at HS
    have HS2 := hid fun (w : World) (X : Hid (RdF w A xs)) => (HS.out w X).mono (R' := fun e w' => (∃ x y, e = .panicked [{ v := .iface 212 (fr x y), recovered := false }]) ∧ Gr w w') fun e w' h => ⟨h.2.1 rfl, h.2.2⟩
    clear hb HS
    refine Calls.mono (R := fun e w' => (∃ x y, e = .panicked [{ v := .iface 212 (fr x y), recovered := false }]) ∧ Gr w w') ?_ (fun e w' ⟨h, hg⟩ => ⟨fun h => (by cases h), fun _ => h, hg⟩)
    go_enter Try.func76, Try.ntmps76
    obtain ⟨_, _, _⟩ := cells3 X1.out
    have _ := fz X1.out
    have _ := ltb X1.out
    obtain ⟨_, _⟩ := cells2 X2.out
    have _ := fz X2.out
    have _ := ltb X2.out
    go_wp2_with fail
    refine (HS2.out _ (hid (X.out.keep ((Gr.refl w).al _)))).mono ?_
    rintro e w1 ⟨⟨xp, yp, rfl⟩, hg1⟩
    obtain ⟨x1_0, hz1, g1⟩ := alloc1 hg1
    have x1_1 := g1.keep X1.out
    have x1_2 := g1.keep X2.out
    obtain ⟨_, _⟩ := cells2 x1_0
    have _ := fz x1_0
    have _ := ltb x1_0
    obtain ⟨_, _, _⟩ := cells3 x1_1
    have _ := fz x1_1
    have _ := ltb x1_1
    obtain ⟨_, _⟩ := cells2 x1_2
    have _ := fz x1_2
    have _ := ltb x1_2
    have X1_0 := hid x1_0; clear x1_0
    have X1_1 := hid x1_1; clear x1_1
    have X1_2 := hid x1_2; clear x1_2
    have G1 := hid (g1)
    clear hg1 g1
    exact ⟨rfl, ⟨xp, yp, rfl⟩, G1.out⟩
theorem sopen (a b n U V : Int) (r : Bool) (A : Option Addr) (c : Nat) (xs : List (Int × Int)) (w : World) (k k2 : Nat) (X1 : Hid (w.heap[k]? = some (.cells #[.int .i64 a, .int .i64 b, .slice A xs.length c] 37))) (X2 : Hid (w.heap[k2]? = some (.cells #[.int .i64 n, .bool r] 39))) (X : Hid (RdF w A xs)) (hn : xs.length ≤ 1048576) (hall : xs.all (fun x => okB x.1 x.2) = true) (hw : wst xs 0 1 = (U, V)) (n1 : 2 ≤ n) (n2 : n ≤ 40) (h1 : okB a b = true) (hu : okB U V = true) :
    Calls Try.prog 70 #[.pointer (some ⟨k, 0, none⟩), .pointer (some ⟨k2, 0, none⟩)] w (ResS (rsB a b n U V) (rsP a b n U V) (rsQ a b n U V) w) := by
  unfold rsB ResS
  cases g1 : lcB a b (2 * n) with
  | false => exact sopen_f1 a b n U V r A c xs w k k2 X1 X2 X hn hall hw n1 n2 h1 hu g1
  | true =>
    cases g2 : n1B U V 2 with
    | false => exact sopen_f2 a b n U V r A c xs w k k2 X1 X2 X hn hall hw n1 n2 h1 hu g1 g2
    | true =>
      cases g3 : rs3 a b n U V with
      | false => exact sopen_f3 a b n U V r A c xs w k k2 X1 X2 X hn hall hw n1 n2 h1 hu g1 g2 g3
      | true => exact sopen_t a b n U V r A c xs w k k2 X1 X2 X hn hall hw n1 n2 h1 hu g1 g2 g3

set_option maxRecDepth 20000 in
set_option maxHeartbeats 400000 in
theorem sRS_0 (a b n x y : Int) (r : Bool) (A : Option Addr) (c : Nat) (xs : List (Int × Int)) (w : World) (X : Hid (RdF w A xs)) (hn : xs.length ≤ 1048576) (h : askB a b xs n x y = false) :
    Calls Try.prog 16 #[scl a b A xs.length c, vn n r, fr x y] w fun e w' => e = .returned (.tuple #[sp 0 0 0 0, .int .i64 1]) ∧ Gr w w' := by
  have h' := hid h
  clear h
  go_enter Try.func16, Try.ntmps16
  go_wp2_with fail
  refine (saskF a b n x y r A c xs _ _ _ (hid (alloc4 (Gr.refl _)).1) (hid (alloc4 (Gr.refl _)).2.1) (hid (X.out.keep (((((Gr.refl w).al _).al _).al _).al _))) hn h'.out).mono ?_
  rintro e w1 ⟨rfl, hg1⟩
  obtain ⟨x1_0, x1_1, x1_2, x1_3, hz1, g1⟩ := alloc4 hg1
  obtain ⟨_, _, _⟩ := cells3 x1_0
  have _ := fz x1_0
  have _ := ltb x1_0
  obtain ⟨_, _⟩ := cells2 x1_1
  have _ := fz x1_1
  have _ := ltb x1_1
  obtain ⟨_, _⟩ := cells2 x1_2
  have _ := fz x1_2
  have _ := ltb x1_2
  obtain ⟨_, _, _, _⟩ := cells4 x1_3
  have _ := fz x1_3
  have _ := ltb x1_3
  have X1_0 := hid x1_0; clear x1_0
  have X1_1 := hid x1_1; clear x1_1
  have X1_2 := hid x1_2; clear x1_2
  have X1_3 := hid x1_3; clear x1_3
  have G1 := hid (g1)
  clear hg1 g1
  go_wp2
  refine bodyPost_ret (v := .tuple #[sp 0 0 0 0, .int .i64 1]) (by simp [results, Try.results16, go_sem, *]) rfl ⟨rfl, ?_⟩
  exact ((((G1.out).setCell (by simp <;> omega) _).setCell (by simp <;> omega) _).setCell (by simp <;> omega) _).setCell (by simp <;> omega) _
set_option maxRecDepth 20000 in
set_option maxHeartbeats 400000 in
theorem sRS_1 (P Q C : Int) (a b n x y : Int) (r : Bool) (A : Option Addr) (c : Nat) (xs : List (Int × Int)) (w : World) (X : Hid (RdF w A xs)) (hn : xs.length ≤ 1048576) (h : askB a b xs n x y = true) (hC : C ≠ 0) (ho : ∀ (w : World) (j j2 : Nat), Hid (w.heap[j]? = some (.cells #[.int .i64 a, .int .i64 b, .slice A xs.length c] 37)) → Hid (w.heap[j2]? = some (.cells #[.int .i64 n, .bool r] 39)) → Hid (RdF w A xs) → Calls Try.prog 70 #[.pointer (some ⟨j, 0, none⟩), .pointer (some ⟨j2, 0, none⟩)] w fun e w' => e = .returned (.tuple #[fr P Q, .int .i64 C]) ∧ Gr w w') :
    Calls Try.prog 16 #[scl a b A xs.length c, vn n r, fr x y] w fun e w' => e = .returned (.tuple #[sp 0 0 0 0, .int .i64 C]) ∧ Gr w w' := by
  have h' := hid h
  have HO := hid ho; clear ho
  have c1 : ((C : Int) == 0) = false := by simpa using hC
  have c2 : ((C : Int) != 0) = true := by simpa using hC
  clear hC
  clear h
  go_enter Try.func16, Try.ntmps16
  go_wp2_with fail
  refine (saskT a b n x y r A c xs _ _ _ (hid (alloc4 (Gr.refl _)).1) (hid (alloc4 (Gr.refl _)).2.1) (hid (X.out.keep (((((Gr.refl w).al _).al _).al _).al _))) hn h'.out).mono ?_
  rintro e w1 ⟨rfl, hg1⟩
  obtain ⟨x1_0, x1_1, x1_2, x1_3, hz1, g1⟩ := alloc4 hg1
  obtain ⟨_, _, _⟩ := cells3 x1_0
  have _ := fz x1_0
  have _ := ltb x1_0
  obtain ⟨_, _⟩ := cells2 x1_1
  have _ := fz x1_1
  have _ := ltb x1_1
  obtain ⟨_, _⟩ := cells2 x1_2
  have _ := fz x1_2
  have _ := ltb x1_2
  obtain ⟨_, _, _, _⟩ := cells4 x1_3
  have _ := fz x1_3
  have _ := ltb x1_3
  have X1_0 := hid x1_0; clear x1_0
  have X1_1 := hid x1_1; clear x1_1
  have X1_2 := hid x1_2; clear x1_2
  have X1_3 := hid x1_3; clear x1_3
  have G1 := hid (g1)
  clear hg1 g1
  go_wp2_with fail
  refine (HO.out _ _ _ (hid X1_0.out) (hid X1_1.out) (hid (X.out.keep G1.out))).mono ?_
  rintro e w2 ⟨rfl, hg2⟩
  have x2_1 := hg2.keep X1_0.out
  have x2_2 := hg2.keep X1_1.out
  have x2_3 := hg2.keep X1_2.out
  have x2_4 := hg2.keep X1_3.out
  obtain ⟨_, _, _⟩ := cells3 x2_1
  have _ := fz x2_1
  have _ := ltb x2_1
  obtain ⟨_, _⟩ := cells2 x2_2
  have _ := fz x2_2
  have _ := ltb x2_2
  obtain ⟨_, _⟩ := cells2 x2_3
  have _ := fz x2_3
  have _ := ltb x2_3
  obtain ⟨_, _, _, _⟩ := cells4 x2_4
  have _ := fz x2_4
  have _ := ltb x2_4
  have X2_1 := hid x2_1; clear x2_1
  have X2_2 := hid x2_2; clear x2_2
  have X2_3 := hid x2_3; clear x2_3
  have X2_4 := hid x2_4; clear x2_4
  have G2 := hid (G1.out.trans hg2)
  clear hg2
  go_wp2
  refine bodyPost_ret (v := .tuple #[sp 0 0 0 0, .int .i64 C]) (by simp [results, Try.results16, go_sem, *]) rfl ⟨rfl, ?_⟩
  exact (((((G2.out).setCell (by simp <;> omega) _).setCell (by simp <;> omega) _).setCell (by simp <;> omega) _).setCell (by simp <;> omega) _).al _
set_option maxRecDepth 20000 in
set_option maxHeartbeats 400000 in
theorem sRS_2 (P Q P1 Q1 P2 Q2 C2 : Int) (a b n x y : Int) (r : Bool) (A : Option Addr) (c : Nat) (xs : List (Int × Int)) (w : World) (X : Hid (RdF w A xs)) (hn : xs.length ≤ 1048576) (h : askB a b xs n x y = true) (ho : ∀ (w : World) (j j2 : Nat), Hid (w.heap[j]? = some (.cells #[.int .i64 a, .int .i64 b, .slice A xs.length c] 37)) → Hid (w.heap[j2]? = some (.cells #[.int .i64 n, .bool r] 39)) → Hid (RdF w A xs) → Calls Try.prog 70 #[.pointer (some ⟨j, 0, none⟩), .pointer (some ⟨j2, 0, none⟩)] w fun e w' => e = .returned (.tuple #[fr P Q, .int .i64 0]) ∧ Gr w w') (ha : ∀ w, Calls Try.prog 71 #[fr x y, fr P Q] w fun e w' => e = .returned (.tuple #[sp P1 Q1 P2 Q2, .int .i64 C2]) ∧ Gr w w') :
    Calls Try.prog 16 #[scl a b A xs.length c, vn n r, fr x y] w fun e w' => e = .returned (.tuple #[sp P1 Q1 P2 Q2, .int .i64 C2]) ∧ Gr w w' := by
  have h' := hid h
  have HO := hid ho; have HA := hid ha; clear ho ha
  clear h
  go_enter Try.func16, Try.ntmps16
  go_wp2_with fail
  refine (saskT a b n x y r A c xs _ _ _ (hid (alloc4 (Gr.refl _)).1) (hid (alloc4 (Gr.refl _)).2.1) (hid (X.out.keep (((((Gr.refl w).al _).al _).al _).al _))) hn h'.out).mono ?_
  rintro e w1 ⟨rfl, hg1⟩
  obtain ⟨x1_0, x1_1, x1_2, x1_3, hz1, g1⟩ := alloc4 hg1
  obtain ⟨_, _, _⟩ := cells3 x1_0
  have _ := fz x1_0
  have _ := ltb x1_0
  obtain ⟨_, _⟩ := cells2 x1_1
  have _ := fz x1_1
  have _ := ltb x1_1
  obtain ⟨_, _⟩ := cells2 x1_2
  have _ := fz x1_2
  have _ := ltb x1_2
  obtain ⟨_, _, _, _⟩ := cells4 x1_3
  have _ := fz x1_3
  have _ := ltb x1_3
  have X1_0 := hid x1_0; clear x1_0
  have X1_1 := hid x1_1; clear x1_1
  have X1_2 := hid x1_2; clear x1_2
  have X1_3 := hid x1_3; clear x1_3
  have G1 := hid (g1)
  clear hg1 g1
  go_wp2_with fail
  refine (HO.out _ _ _ (hid X1_0.out) (hid X1_1.out) (hid (X.out.keep G1.out))).mono ?_
  rintro e w2 ⟨rfl, hg2⟩
  have x2_1 := hg2.keep X1_0.out
  have x2_2 := hg2.keep X1_1.out
  have x2_3 := hg2.keep X1_2.out
  have x2_4 := hg2.keep X1_3.out
  obtain ⟨_, _, _⟩ := cells3 x2_1
  have _ := fz x2_1
  have _ := ltb x2_1
  obtain ⟨_, _⟩ := cells2 x2_2
  have _ := fz x2_2
  have _ := ltb x2_2
  obtain ⟨_, _⟩ := cells2 x2_3
  have _ := fz x2_3
  have _ := ltb x2_3
  obtain ⟨_, _, _, _⟩ := cells4 x2_4
  have _ := fz x2_4
  have _ := ltb x2_4
  have X2_1 := hid x2_1; clear x2_1
  have X2_2 := hid x2_2; clear x2_2
  have X2_3 := hid x2_3; clear x2_3
  have X2_4 := hid x2_4; clear x2_4
  have G2 := hid (G1.out.trans hg2)
  clear hg2
  go_wp2_with fail
  refine (HA.out _).mono ?_
  rintro e w3 ⟨rfl, hg3⟩
  obtain ⟨x3_0, hz3, g3⟩ := alloc1 hg3
  have x3_1 := g3.keep X2_1.out
  have x3_2 := g3.keep X2_2.out
  have x3_3 := g3.keep X2_3.out
  have x3_4 := g3.keep X2_4.out
  obtain ⟨_, _, _⟩ := cells3 x3_1
  have _ := fz x3_1
  have _ := ltb x3_1
  obtain ⟨_, _⟩ := cells2 x3_2
  have _ := fz x3_2
  have _ := ltb x3_2
  obtain ⟨_, _⟩ := cells2 x3_3
  have _ := fz x3_3
  have _ := ltb x3_3
  obtain ⟨_, _, _, _⟩ := cells4 x3_4
  have _ := fz x3_4
  have _ := ltb x3_4
  obtain ⟨_, _⟩ := cells2 x3_0
  have _ := fz x3_0
  have _ := ltb x3_0
  have X3_1 := hid x3_1; clear x3_1
  have X3_2 := hid x3_2; clear x3_2
  have X3_3 := hid x3_3; clear x3_3
  have X3_4 := hid x3_4; clear x3_4
  have X3_0 := hid x3_0; clear x3_0
  have G3 := hid (G2.out.trans g3)
  clear hg3 g3
  go_wp2
  refine bodyPost_ret (v := .tuple #[sp P1 Q1 P2 Q2, .int .i64 C2]) (by simp [results, Try.results16, go_sem, *]) rfl ⟨rfl, ?_⟩
  exact ((((G3.out).setCell (by simp <;> omega) _).setCell (by simp <;> omega) _).setCell (by simp <;> omega) _).setCell (by simp <;> omega) _
set_option maxRecDepth 20000 in
set_option maxHeartbeats 400000 in
theorem iRS_0 (a b n x y : Int) (r : Bool) (A : Option Addr) (c : Nat) (xs : List (Int × Int)) (w : World) (X : Hid (RdF w A xs)) (hn : xs.length ≤ 1048576) (h : sclB a b xs = false) :
    Calls Try.prog 20 #[scl a b A xs.length c, vn n r, fr x y] w fun e w' => e = .returned (.tuple #[sp 0 0 0 0, .int .i64 1]) ∧ Gr w w' := by
  have h := hid h
  go_enter Try.func20, Try.ntmps20
  go_wp2_with fail
  refine (iScF a b A c xs _ (hid (X.out.keep (((((Gr.refl w).al _).al _).al _).al _))) hn h.out).mono ?_
  rintro e w1 ⟨rfl, hg1⟩
  obtain ⟨x1_0, x1_1, x1_2, x1_3, hz1, g1⟩ := alloc4 hg1
  obtain ⟨_, _, _⟩ := cells3 x1_0
  have _ := fz x1_0
  have _ := ltb x1_0
  obtain ⟨_, _⟩ := cells2 x1_1
  have _ := fz x1_1
  have _ := ltb x1_1
  obtain ⟨_, _⟩ := cells2 x1_2
  have _ := fz x1_2
  have _ := ltb x1_2
  obtain ⟨_, _, _, _⟩ := cells4 x1_3
  have _ := fz x1_3
  have _ := ltb x1_3
  have X1_0 := hid x1_0; clear x1_0
  have X1_1 := hid x1_1; clear x1_1
  have X1_2 := hid x1_2; clear x1_2
  have X1_3 := hid x1_3; clear x1_3
  have G1 := hid (g1)
  clear hg1 g1
  go_wp2
  refine bodyPost_ret (v := .tuple #[sp 0 0 0 0, .int .i64 1]) (by simp [results, Try.results20, go_sem, *]) rfl ⟨rfl, ?_⟩
  exact ((((G1.out).setCell (by simp <;> omega) _).setCell (by simp <;> omega) _).setCell (by simp <;> omega) _).setCell (by simp <;> omega) _
set_option maxRecDepth 20000 in
set_option maxHeartbeats 400000 in
theorem iRS_1 (a b n x y : Int) (r : Bool) (A : Option Addr) (c : Nat) (xs : List (Int × Int)) (w : World) (X : Hid (RdF w A xs)) (hn : xs.length ≤ 1048576) (h : sclB a b xs = true) (hv : inB n 2 40 = false) :
    Calls Try.prog 20 #[scl a b A xs.length c, vn n r, fr x y] w fun e w' => e = .returned (.tuple #[sp 0 0 0 0, .int .i64 1]) ∧ Gr w w' := by
  have h := hid h
  have hv := hid hv
  go_enter Try.func20, Try.ntmps20
  go_wp2_with fail
  refine (iScT a b A c xs _ (hid (X.out.keep (((((Gr.refl w).al _).al _).al _).al _))) hn h.out).mono ?_
  rintro e w1 ⟨rfl, hg1⟩
  obtain ⟨x1_0, x1_1, x1_2, x1_3, hz1, g1⟩ := alloc4 hg1
  obtain ⟨_, _, _⟩ := cells3 x1_0
  have _ := fz x1_0
  have _ := ltb x1_0
  obtain ⟨_, _⟩ := cells2 x1_1
  have _ := fz x1_1
  have _ := ltb x1_1
  obtain ⟨_, _⟩ := cells2 x1_2
  have _ := fz x1_2
  have _ := ltb x1_2
  obtain ⟨_, _, _, _⟩ := cells4 x1_3
  have _ := fz x1_3
  have _ := ltb x1_3
  have X1_0 := hid x1_0; clear x1_0
  have X1_1 := hid x1_1; clear x1_1
  have X1_2 := hid x1_2; clear x1_2
  have X1_3 := hid x1_3; clear x1_3
  have G1 := hid (g1)
  clear hg1 g1
  go_wp2_with fail
  refine (iVernF n r _ hv.out).mono ?_
  rintro e w2 ⟨rfl, hg2⟩
  have x2_1 := hg2.keep X1_0.out
  have x2_2 := hg2.keep X1_1.out
  have x2_3 := hg2.keep X1_2.out
  have x2_4 := hg2.keep X1_3.out
  obtain ⟨_, _, _⟩ := cells3 x2_1
  have _ := fz x2_1
  have _ := ltb x2_1
  obtain ⟨_, _⟩ := cells2 x2_2
  have _ := fz x2_2
  have _ := ltb x2_2
  obtain ⟨_, _⟩ := cells2 x2_3
  have _ := fz x2_3
  have _ := ltb x2_3
  obtain ⟨_, _, _, _⟩ := cells4 x2_4
  have _ := fz x2_4
  have _ := ltb x2_4
  have X2_1 := hid x2_1; clear x2_1
  have X2_2 := hid x2_2; clear x2_2
  have X2_3 := hid x2_3; clear x2_3
  have X2_4 := hid x2_4; clear x2_4
  have G2 := hid (G1.out.trans hg2)
  clear hg2
  go_wp2
  refine bodyPost_ret (v := .tuple #[sp 0 0 0 0, .int .i64 1]) (by simp [results, Try.results20, go_sem, *]) rfl ⟨rfl, ?_⟩
  exact ((((G2.out).setCell (by simp <;> omega) _).setCell (by simp <;> omega) _).setCell (by simp <;> omega) _).setCell (by simp <;> omega) _
set_option maxRecDepth 20000 in
set_option maxHeartbeats 400000 in
theorem iRS_2 (a b n x y : Int) (r : Bool) (A : Option Addr) (c : Nat) (xs : List (Int × Int)) (w : World) (X : Hid (RdF w A xs)) (hn : xs.length ≤ 1048576) (h : sclB a b xs = true) (hv : inB n 2 40 = true) (hx : okB x y = false) :
    Calls Try.prog 20 #[scl a b A xs.length c, vn n r, fr x y] w fun e w' => e = .returned (.tuple #[sp 0 0 0 0, .int .i64 1]) ∧ Gr w w' := by
  have h := hid h
  have hv := hid hv
  have hx := hid hx
  go_enter Try.func20, Try.ntmps20
  go_wp2_with fail
  refine (iScT a b A c xs _ (hid (X.out.keep (((((Gr.refl w).al _).al _).al _).al _))) hn h.out).mono ?_
  rintro e w1 ⟨rfl, hg1⟩
  obtain ⟨x1_0, x1_1, x1_2, x1_3, hz1, g1⟩ := alloc4 hg1
  obtain ⟨_, _, _⟩ := cells3 x1_0
  have _ := fz x1_0
  have _ := ltb x1_0
  obtain ⟨_, _⟩ := cells2 x1_1
  have _ := fz x1_1
  have _ := ltb x1_1
  obtain ⟨_, _⟩ := cells2 x1_2
  have _ := fz x1_2
  have _ := ltb x1_2
  obtain ⟨_, _, _, _⟩ := cells4 x1_3
  have _ := fz x1_3
  have _ := ltb x1_3
  have X1_0 := hid x1_0; clear x1_0
  have X1_1 := hid x1_1; clear x1_1
  have X1_2 := hid x1_2; clear x1_2
  have X1_3 := hid x1_3; clear x1_3
  have G1 := hid (g1)
  clear hg1 g1
  go_wp2_with fail
  refine (iVernT n r _ hv.out).mono ?_
  rintro e w2 ⟨rfl, hg2⟩
  have x2_1 := hg2.keep X1_0.out
  have x2_2 := hg2.keep X1_1.out
  have x2_3 := hg2.keep X1_2.out
  have x2_4 := hg2.keep X1_3.out
  obtain ⟨_, _, _⟩ := cells3 x2_1
  have _ := fz x2_1
  have _ := ltb x2_1
  obtain ⟨_, _⟩ := cells2 x2_2
  have _ := fz x2_2
  have _ := ltb x2_2
  obtain ⟨_, _⟩ := cells2 x2_3
  have _ := fz x2_3
  have _ := ltb x2_3
  obtain ⟨_, _, _, _⟩ := cells4 x2_4
  have _ := fz x2_4
  have _ := ltb x2_4
  have X2_1 := hid x2_1; clear x2_1
  have X2_2 := hid x2_2; clear x2_2
  have X2_3 := hid x2_3; clear x2_3
  have X2_4 := hid x2_4; clear x2_4
  have G2 := hid (G1.out.trans hg2)
  clear hg2
  go_wp2_with fail
  refine (iok_f _ _ _ hx.out).mono ?_
  rintro e w3 ⟨rfl, hg3⟩
  have x3_1 := hg3.keep X2_1.out
  have x3_2 := hg3.keep X2_2.out
  have x3_3 := hg3.keep X2_3.out
  have x3_4 := hg3.keep X2_4.out
  obtain ⟨_, _, _⟩ := cells3 x3_1
  have _ := fz x3_1
  have _ := ltb x3_1
  obtain ⟨_, _⟩ := cells2 x3_2
  have _ := fz x3_2
  have _ := ltb x3_2
  obtain ⟨_, _⟩ := cells2 x3_3
  have _ := fz x3_3
  have _ := ltb x3_3
  obtain ⟨_, _, _, _⟩ := cells4 x3_4
  have _ := fz x3_4
  have _ := ltb x3_4
  have X3_1 := hid x3_1; clear x3_1
  have X3_2 := hid x3_2; clear x3_2
  have X3_3 := hid x3_3; clear x3_3
  have X3_4 := hid x3_4; clear x3_4
  have G3 := hid (G2.out.trans hg3)
  clear hg3
  go_wp2
  refine bodyPost_ret (v := .tuple #[sp 0 0 0 0, .int .i64 1]) (by simp [results, Try.results20, go_sem, *]) rfl ⟨rfl, ?_⟩
  exact ((((G3.out).setCell (by simp <;> omega) _).setCell (by simp <;> omega) _).setCell (by simp <;> omega) _).setCell (by simp <;> omega) _
set_option maxRecDepth 20000 in
set_option maxHeartbeats 400000 in
theorem iRS_3 (P Q C : Int) (a b n x y : Int) (r : Bool) (A : Option Addr) (c : Nat) (xs : List (Int × Int)) (w : World) (X : Hid (RdF w A xs)) (hn : xs.length ≤ 1048576) (h : askB a b xs n x y = true) (hC : C ≠ 0) (ht : ∀ (w : World) (j j2 : Nat), Hid (w.heap[j]? = some (.cells #[.int .i64 a, .int .i64 b, .slice A xs.length c] 37)) → Hid (w.heap[j2]? = some (.cells #[.int .i64 n, .bool r] 39)) → Hid (RdF w A xs) → Calls Try.prog 75 #[.func (.func 76) #[] #[.pointer (some ⟨j, 0, none⟩), .pointer (some ⟨j2, 0, none⟩)]] w fun e w' => e = .returned (.tuple #[fr P Q, .int .i64 C]) ∧ Gr w w') :
    Calls Try.prog 20 #[scl a b A xs.length c, vn n r, fr x y] w fun e w' => e = .returned (.tuple #[sp 0 0 0 0, .int .i64 C]) ∧ Gr w w' := by
  obtain ⟨h, hv, hx⟩ := ask_of h
  have h := hid h; have hv := hid hv; have hx := hid hx
  have HT := hid ht; clear ht
  have c1 : ((C : Int) == 0) = false := by simpa using hC
  have c2 : ((C : Int) != 0) = true := by simpa using hC
  clear hC
  go_enter Try.func20, Try.ntmps20
  go_wp2_with fail
  refine (iScT a b A c xs _ (hid (X.out.keep (((((Gr.refl w).al _).al _).al _).al _))) hn h.out).mono ?_
  rintro e w1 ⟨rfl, hg1⟩
  obtain ⟨x1_0, x1_1, x1_2, x1_3, hz1, g1⟩ := alloc4 hg1
  obtain ⟨_, _, _⟩ := cells3 x1_0
  have _ := fz x1_0
  have _ := ltb x1_0
  obtain ⟨_, _⟩ := cells2 x1_1
  have _ := fz x1_1
  have _ := ltb x1_1
  obtain ⟨_, _⟩ := cells2 x1_2
  have _ := fz x1_2
  have _ := ltb x1_2
  obtain ⟨_, _, _, _⟩ := cells4 x1_3
  have _ := fz x1_3
  have _ := ltb x1_3
  have X1_0 := hid x1_0; clear x1_0
  have X1_1 := hid x1_1; clear x1_1
  have X1_2 := hid x1_2; clear x1_2
  have X1_3 := hid x1_3; clear x1_3
  have G1 := hid (g1)
  clear hg1 g1
  go_wp2_with fail
  refine (iVernT n r _ hv.out).mono ?_
  rintro e w2 ⟨rfl, hg2⟩
  have x2_1 := hg2.keep X1_0.out
  have x2_2 := hg2.keep X1_1.out
  have x2_3 := hg2.keep X1_2.out
  have x2_4 := hg2.keep X1_3.out
  obtain ⟨_, _, _⟩ := cells3 x2_1
  have _ := fz x2_1
  have _ := ltb x2_1
  obtain ⟨_, _⟩ := cells2 x2_2
  have _ := fz x2_2
  have _ := ltb x2_2
  obtain ⟨_, _⟩ := cells2 x2_3
  have _ := fz x2_3
  have _ := ltb x2_3
  obtain ⟨_, _, _, _⟩ := cells4 x2_4
  have _ := fz x2_4
  have _ := ltb x2_4
  have X2_1 := hid x2_1; clear x2_1
  have X2_2 := hid x2_2; clear x2_2
  have X2_3 := hid x2_3; clear x2_3
  have X2_4 := hid x2_4; clear x2_4
  have G2 := hid (G1.out.trans hg2)
  clear hg2
  go_wp2_with fail
  refine (iok_t _ _ _ hx.out).mono ?_
  rintro e w3 ⟨rfl, hg3⟩
  have x3_1 := hg3.keep X2_1.out
  have x3_2 := hg3.keep X2_2.out
  have x3_3 := hg3.keep X2_3.out
  have x3_4 := hg3.keep X2_4.out
  obtain ⟨_, _, _⟩ := cells3 x3_1
  have _ := fz x3_1
  have _ := ltb x3_1
  obtain ⟨_, _⟩ := cells2 x3_2
  have _ := fz x3_2
  have _ := ltb x3_2
  obtain ⟨_, _⟩ := cells2 x3_3
  have _ := fz x3_3
  have _ := ltb x3_3
  obtain ⟨_, _, _, _⟩ := cells4 x3_4
  have _ := fz x3_4
  have _ := ltb x3_4
  have X3_1 := hid x3_1; clear x3_1
  have X3_2 := hid x3_2; clear x3_2
  have X3_3 := hid x3_3; clear x3_3
  have X3_4 := hid x3_4; clear x3_4
  have G3 := hid (G2.out.trans hg3)
  clear hg3
  go_wp2_with fail
  refine (HT.out _ _ _ (hid X3_1.out) (hid X3_2.out) (hid (X.out.keep G3.out))).mono ?_
  rintro e w4 ⟨rfl, hg4⟩
  have x4_1 := hg4.keep X3_1.out
  have x4_2 := hg4.keep X3_2.out
  have x4_3 := hg4.keep X3_3.out
  have x4_4 := hg4.keep X3_4.out
  obtain ⟨_, _, _⟩ := cells3 x4_1
  have _ := fz x4_1
  have _ := ltb x4_1
  obtain ⟨_, _⟩ := cells2 x4_2
  have _ := fz x4_2
  have _ := ltb x4_2
  obtain ⟨_, _⟩ := cells2 x4_3
  have _ := fz x4_3
  have _ := ltb x4_3
  obtain ⟨_, _, _, _⟩ := cells4 x4_4
  have _ := fz x4_4
  have _ := ltb x4_4
  have X4_1 := hid x4_1; clear x4_1
  have X4_2 := hid x4_2; clear x4_2
  have X4_3 := hid x4_3; clear x4_3
  have X4_4 := hid x4_4; clear x4_4
  have G4 := hid (G3.out.trans hg4)
  clear hg4
  go_wp2
  refine bodyPost_ret (v := .tuple #[sp 0 0 0 0, .int .i64 C]) (by simp [results, Try.results20, go_sem, *]) rfl ⟨rfl, ?_⟩
  exact (((((G4.out).setCell (by simp <;> omega) _).setCell (by simp <;> omega) _).setCell (by simp <;> omega) _).setCell (by simp <;> omega) _).al _
set_option maxRecDepth 20000 in
set_option maxHeartbeats 400000 in
theorem iRS_4 (P Q P1 Q1 P2 Q2 C2 : Int) (a b n x y : Int) (r : Bool) (A : Option Addr) (c : Nat) (xs : List (Int × Int)) (w : World) (X : Hid (RdF w A xs)) (hn : xs.length ≤ 1048576) (h : askB a b xs n x y = true) (ht : ∀ (w : World) (j j2 : Nat), Hid (w.heap[j]? = some (.cells #[.int .i64 a, .int .i64 b, .slice A xs.length c] 37)) → Hid (w.heap[j2]? = some (.cells #[.int .i64 n, .bool r] 39)) → Hid (RdF w A xs) → Calls Try.prog 75 #[.func (.func 76) #[] #[.pointer (some ⟨j, 0, none⟩), .pointer (some ⟨j2, 0, none⟩)]] w fun e w' => e = .returned (.tuple #[fr P Q, .int .i64 0]) ∧ Gr w w') (ha : ∀ w, Calls Try.prog 78 #[fr x y, fr P Q] w fun e w' => e = .returned (.tuple #[sp P1 Q1 P2 Q2, .int .i64 C2]) ∧ Gr w w') :
    Calls Try.prog 20 #[scl a b A xs.length c, vn n r, fr x y] w fun e w' => e = .returned (.tuple #[sp P1 Q1 P2 Q2, .int .i64 C2]) ∧ Gr w w' := by
  obtain ⟨h, hv, hx⟩ := ask_of h
  have h := hid h; have hv := hid hv; have hx := hid hx
  have HT := hid ht; have HA := hid ha; clear ht ha
  go_enter Try.func20, Try.ntmps20
  go_wp2_with fail
  refine (iScT a b A c xs _ (hid (X.out.keep (((((Gr.refl w).al _).al _).al _).al _))) hn h.out).mono ?_
  rintro e w1 ⟨rfl, hg1⟩
  obtain ⟨x1_0, x1_1, x1_2, x1_3, hz1, g1⟩ := alloc4 hg1
  obtain ⟨_, _, _⟩ := cells3 x1_0
  have _ := fz x1_0
  have _ := ltb x1_0
  obtain ⟨_, _⟩ := cells2 x1_1
  have _ := fz x1_1
  have _ := ltb x1_1
  obtain ⟨_, _⟩ := cells2 x1_2
  have _ := fz x1_2
  have _ := ltb x1_2
  obtain ⟨_, _, _, _⟩ := cells4 x1_3
  have _ := fz x1_3
  have _ := ltb x1_3
  have X1_0 := hid x1_0; clear x1_0
  have X1_1 := hid x1_1; clear x1_1
  have X1_2 := hid x1_2; clear x1_2
  have X1_3 := hid x1_3; clear x1_3
  have G1 := hid (g1)
  clear hg1 g1
  go_wp2_with fail
  refine (iVernT n r _ hv.out).mono ?_
  rintro e w2 ⟨rfl, hg2⟩
  have x2_1 := hg2.keep X1_0.out
  have x2_2 := hg2.keep X1_1.out
  have x2_3 := hg2.keep X1_2.out
  have x2_4 := hg2.keep X1_3.out
  obtain ⟨_, _, _⟩ := cells3 x2_1
  have _ := fz x2_1
  have _ := ltb x2_1
  obtain ⟨_, _⟩ := cells2 x2_2
  have _ := fz x2_2
  have _ := ltb x2_2
  obtain ⟨_, _⟩ := cells2 x2_3
  have _ := fz x2_3
  have _ := ltb x2_3
  obtain ⟨_, _, _, _⟩ := cells4 x2_4
  have _ := fz x2_4
  have _ := ltb x2_4
  have X2_1 := hid x2_1; clear x2_1
  have X2_2 := hid x2_2; clear x2_2
  have X2_3 := hid x2_3; clear x2_3
  have X2_4 := hid x2_4; clear x2_4
  have G2 := hid (G1.out.trans hg2)
  clear hg2
  go_wp2_with fail
  refine (iok_t _ _ _ hx.out).mono ?_
  rintro e w3 ⟨rfl, hg3⟩
  have x3_1 := hg3.keep X2_1.out
  have x3_2 := hg3.keep X2_2.out
  have x3_3 := hg3.keep X2_3.out
  have x3_4 := hg3.keep X2_4.out
  obtain ⟨_, _, _⟩ := cells3 x3_1
  have _ := fz x3_1
  have _ := ltb x3_1
  obtain ⟨_, _⟩ := cells2 x3_2
  have _ := fz x3_2
  have _ := ltb x3_2
  obtain ⟨_, _⟩ := cells2 x3_3
  have _ := fz x3_3
  have _ := ltb x3_3
  obtain ⟨_, _, _, _⟩ := cells4 x3_4
  have _ := fz x3_4
  have _ := ltb x3_4
  have X3_1 := hid x3_1; clear x3_1
  have X3_2 := hid x3_2; clear x3_2
  have X3_3 := hid x3_3; clear x3_3
  have X3_4 := hid x3_4; clear x3_4
  have G3 := hid (G2.out.trans hg3)
  clear hg3
  go_wp2_with fail
  refine (HT.out _ _ _ (hid X3_1.out) (hid X3_2.out) (hid (X.out.keep G3.out))).mono ?_
  rintro e w4 ⟨rfl, hg4⟩
  have x4_1 := hg4.keep X3_1.out
  have x4_2 := hg4.keep X3_2.out
  have x4_3 := hg4.keep X3_3.out
  have x4_4 := hg4.keep X3_4.out
  obtain ⟨_, _, _⟩ := cells3 x4_1
  have _ := fz x4_1
  have _ := ltb x4_1
  obtain ⟨_, _⟩ := cells2 x4_2
  have _ := fz x4_2
  have _ := ltb x4_2
  obtain ⟨_, _⟩ := cells2 x4_3
  have _ := fz x4_3
  have _ := ltb x4_3
  obtain ⟨_, _, _, _⟩ := cells4 x4_4
  have _ := fz x4_4
  have _ := ltb x4_4
  have X4_1 := hid x4_1; clear x4_1
  have X4_2 := hid x4_2; clear x4_2
  have X4_3 := hid x4_3; clear x4_3
  have X4_4 := hid x4_4; clear x4_4
  have G4 := hid (G3.out.trans hg4)
  clear hg4
  go_wp2_with fail
  refine (HA.out _).mono ?_
  rintro e w5 ⟨rfl, hg5⟩
  obtain ⟨x5_0, hz5, g5⟩ := alloc1 hg5
  have x5_1 := g5.keep X4_1.out
  have x5_2 := g5.keep X4_2.out
  have x5_3 := g5.keep X4_3.out
  have x5_4 := g5.keep X4_4.out
  obtain ⟨_, _, _⟩ := cells3 x5_1
  have _ := fz x5_1
  have _ := ltb x5_1
  obtain ⟨_, _⟩ := cells2 x5_2
  have _ := fz x5_2
  have _ := ltb x5_2
  obtain ⟨_, _⟩ := cells2 x5_3
  have _ := fz x5_3
  have _ := ltb x5_3
  obtain ⟨_, _, _, _⟩ := cells4 x5_4
  have _ := fz x5_4
  have _ := ltb x5_4
  obtain ⟨_, _⟩ := cells2 x5_0
  have _ := fz x5_0
  have _ := ltb x5_0
  have X5_1 := hid x5_1; clear x5_1
  have X5_2 := hid x5_2; clear x5_2
  have X5_3 := hid x5_3; clear x5_3
  have X5_4 := hid x5_4; clear x5_4
  have X5_0 := hid x5_0; clear x5_0
  have G5 := hid (G4.out.trans g5)
  clear hg5 g5
  go_wp2
  refine bodyPost_ret (v := .tuple #[sp P1 Q1 P2 Q2, .int .i64 C2]) (by simp [results, Try.results20, go_sem, *]) rfl ⟨rfl, ?_⟩
  exact ((((G5.out).setCell (by simp <;> omega) _).setCell (by simp <;> omega) _).setCell (by simp <;> omega) _).setCell (by simp <;> omega) _
theorem iAround_in (a b c d p q p' q' c' : Int) (w : World) (h1 : okB a b = true) (h2 : okB c d = true) (hc : ¬ c < 0) (hf : bV (a*d-c*b) (b*d) (a*d+c*b) (b*d) = .tuple #[sp p q p' q', .int .i64 c']) :
    Calls Try.prog 78 #[fr a b, fr c d] w fun e w' => e = .returned (.tuple #[sp p q p' q', .int .i64 c']) ∧ Gr w w' := hf ▸ iAround_yes a b c d w h1 h2 hc
theorem sAround_in (a b c d p q p' q' c' : Int) (w : World) (h1 : okB a b = true) (h2 : okB c d = true) (hf : bV (a*d-c*b) (b*d) (a*d+c*b) (b*d) = .tuple #[sp p q p' q', .int .i64 c']) :
    Calls Try.prog 71 #[fr a b, fr c d] w fun e w' => e = .returned (.tuple #[sp p q p' q', .int .i64 c']) ∧ Gr w w' := hf ▸ saround a b c d w h1 h2
theorem bothReadingSpan (a b : Int) (xs : List (Int × Int)) (n : Int) (r : Bool) (x y : Int) (hn : xs.length ≤ 1048576) : ∃ R0 R1 R2 R3 R4 : Int,
    (∀ (A : Option Addr) (c : Nat) (w : World), Hid (RdF w A xs) → Calls Try.prog 16 #[scl a b A xs.length c, vn n r, fr x y] w fun x w' => x = .returned (.tuple #[sp R0 R1 R2 R3, .int .i64 R4]) ∧ Gr w w') ∧
    (∀ (A : Option Addr) (c : Nat) (w : World), Hid (RdF w A xs) → Calls Try.prog 20 #[scl a b A xs.length c, vn n r, fr x y] w fun x w' => x = .returned (.tuple #[sp R0 R1 R2 R3, .int .i64 R4]) ∧ Gr w w') := by
  cases h : askB a b xs n x y with
  | false =>
    refine ⟨0, 0, 0, 0, 1, fun A c w X => sRS_0 a b n x y r A c xs w X hn h, fun A c w X => ?_⟩
    cases h1 : sclB a b xs with
    | false => exact iRS_0 a b n x y r A c xs w X hn h1
    | true =>
      cases h2 : inB n 2 40 with
      | false => exact iRS_1 a b n x y r A c xs w X hn h1 h2
      | true =>
        have h3 : okB x y = false := by
          unfold askB at h
          rw [h1, h2] at h
          simpa using h
        exact iRS_2 a b n x y r A c xs w X hn h1 h2 h3
  | true =>
    obtain ⟨h1, h2, h3⟩ := ask_of h
    obtain ⟨n1, n2⟩ := in_bd h2
    have S := scl_of h1
    obtain ⟨U, V, hw⟩ : ∃ U V, wst xs 0 1 = (U, V) := ⟨_, _, rfl⟩
    have hu : okB U V = true := by have := wst_ok xs 0 1 ok01 S.all; rw [hw] at this; exact this
    have hU : 0 ≤ U := by have := wst_nonneg xs 0 1 (Int.le_refl _); rw [hw] at this; exact this
    have HS := fun (A : Option Addr) (c : Nat) (w : World) (j j2 : Nat) (X1 : Hid (w.heap[j]? = some (.cells #[.int .i64 a, .int .i64 b, .slice A xs.length c] 37))) (X2 : Hid (w.heap[j2]? = some (.cells #[.int .i64 n, .bool r] 39))) (X : Hid (RdF w A xs)) => sopen a b n U V r A c xs w j j2 X1 X2 X hn S.all hw n1 n2 S.unit hu
    have HI := fun (A : Option Addr) (c : Nat) (w : World) (j j2 : Nat) (X1 : Hid (w.heap[j]? = some (.cells #[.int .i64 a, .int .i64 b, .slice A xs.length c] 37))) (X2 : Hid (w.heap[j2]? = some (.cells #[.int .i64 n, .bool r] 39))) (X : Hid (RdF w A xs)) =>
      told_R 76 #[.pointer (some ⟨j, 0, none⟩), .pointer (some ⟨j2, 0, none⟩)] _ _ _ w (fun _ => by kernel_rfl) fun w' hg => crs a b n U V r A c xs w' j j2 (hid (hg.keep X1.out)) (hid (hg.keep X2.out)) (hid (X.out.keep hg)) hn S.all hw n1 n2 S.unit hu
    unfold ResS at HS HI
    cases hb : rsB a b n U V with
    | false =>
      rw [hb] at HS HI
      exact ⟨0, 0, 0, 0, 3, fun A c w X => sRS_1 _ _ 3 a b n x y r A c xs w X hn h (by decide) (HS A c), fun A c w X => iRS_3 _ _ 3 a b n x y r A c xs w X hn h (by decide) (HI A c)⟩
    | true =>
      rw [hb] at HS HI
      have hp := hb
      unfold rsB at hp
      simp only [Bool.and_eq_true] at hp
      have hc : ¬ rsP a b n U V < 0 := by
        have q1 := (okB_bd hp.1).1
        have q2 := (okB_bd hp.2.1).1
        have p1 : 0 ≤ dvP a b n := redP_nonneg (by have := S.pos; omega) (Int.mul_pos (by have := (okB_bd S.unit).1; omega) (by omega))
        have p2 : 0 ≤ n1P U V 2 := redP_nonneg (by omega) (by have := (okB_bd hu).1; omega)
        have : 0 ≤ rsP a b n U V := redP_nonneg (Int.add_nonneg (Int.mul_nonneg p1 (by omega)) (Int.mul_nonneg p2 (by unfold dvQ; omega))) (Int.mul_pos (by unfold dvQ; omega) (by omega))
        omega
      obtain ⟨p, q, p', q', c', hf⟩ := bV_form (x*rsQ a b n U V-rsP a b n U V*y) (y*rsQ a b n U V) (x*rsQ a b n U V+rsP a b n U V*y) (y*rsQ a b n U V)
      exact ⟨p, q, p', q', c', fun A c w X => sRS_2 _ _ p q p' q' c' a b n x y r A c xs w X hn h (HS A c) (fun w => sAround_in _ _ _ _ _ _ _ _ _ w h3 hp.2.2 hf), fun A c w X => iRS_4 _ _ p q p' q' c' a b n x y r A c xs w X hn h (HI A c) (fun w => iAround_in _ _ _ _ _ _ _ _ _ w h3 hp.2.2 hc hf)⟩
end Go.Proofs.Ytnbdafecgccojaa
