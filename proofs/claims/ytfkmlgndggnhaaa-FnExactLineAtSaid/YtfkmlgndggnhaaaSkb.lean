/- WALKS: a mark of a scale, of the program and of the reference; sizes; quarters. -/
import Derived.Test.YtfkmlgndggnhaaaSka
import Derived.Test.YtfkmlgndggnhaaaX2
import Derived.Test.YtfkmlgndggnhaaaX3
import Derived.Test.YtfkmlgndggnhaaaFu
namespace Go.Proofs.Ytfkmlgndggnhaaa
open Go.RowKit Go.Sort

def mkP (a b k p q : Int) : Int := redP (n1P a b k * q + p * n1Q a b k) (n1Q a b k * q)
def mkQ (a b k p q : Int) : Int := redQ (n1P a b k * q + p * n1Q a b k) (n1Q a b k * q)
/-- Can a mark be told, its unit times k being told? -/
def mk2 (a b k p q : Int) : Bool := okB (mkP a b k p q) (mkQ a b k p q)
theorem plusm_t (a b k p q : Int) (w : World) (h2 : okB p q = true) (g1 : n1B a b k = true) (g2 : mk2 a b k p q = true) :
    Calls Try.prog 102 #[fr (n1P a b k) (n1Q a b k), fr p q] w fun e w' => e = .returned (fr (mkP a b k p q) (mkQ a b k p q)) ∧ Gr w w' := plus_yes _ _ p q w g1 h2 g2
theorem saddm_t (a b k p q : Int) (w : World) (h2 : okB p q = true) (g1 : n1B a b k = true) (g2 : mk2 a b k p q = true) :
    Calls Try.prog 116 #[fr (n1P a b k) (n1Q a b k), fr p q] w fun e w' => e = .returned (.tuple #[fr (mkP a b k p q) (mkQ a b k p q), .int .i64 0]) ∧ Gr w w' := sadd_t _ _ p q w g1 h2 g2
theorem saddm_f (a b k p q : Int) (w : World) (h2 : okB p q = true) (g1 : n1B a b k = true) (g2 : mk2 a b k p q = false) :
    Calls Try.prog 116 #[fr (n1P a b k) (n1Q a b k), fr p q] w fun e w' => e = .returned (.tuple #[fr 0 0, .int .i64 3]) ∧ Gr w w' := sadd_f _ _ p q w g1 h2 g2
set_option maxRecDepth 20000 in
set_option maxHeartbeats 400000 in
theorem imark_ok (a b : Int) (A : Option Addr) (c k : Nat) (xs : List (Int × Int)) (p q : Int) (w : World) (X : Hid (RdF w A xs)) (hk : xs[k]? = some (p, q)) (_hn : xs.length ≤ 1048576)
    (h1 : okB a b = true) (ht : okB k 1 = true) (h2 : okB p q = true) (g1 : n1B a b k = true) (g2 : mk2 a b k p q = true) :
    Calls Try.prog 72 #[scl a b A xs.length c, .int .i64 k] w fun e w' => e = .returned (fr (mkP a b k p q) (mkQ a b k p q)) ∧ Gr w w' := by
  have hlt := (List.getElem?_eq_some_iff.1 hk).1
  obtain ⟨ad, rfl, c1, c2⟩ := X.out k p q hk
  have C1 := hid c1; have C2 := hid c2
  have h1 := hid h1; have ht := hid ht; have h2 := hid h2; have g1 := hid g1; have g2 := hid g2
  clear hk c1 c2
  go_enter Try.func72, Try.ntmps72
  go_wp2_with fail
  refine wp_reg0 10 (by kernel_rfl) (by kernel_rfl) ?_
  apply Exists.intro
  refine ⟨fun wb hb => ?_, ?_⟩
  · obtain ⟨y0, y1, _, _⟩ := alloc2 (Gr.refl _)
    obtain ⟨_, _, _⟩ := hb.at3 y0
    obtain ⟨_, _⟩ := hb.at2 y1
    clear y0 y1
    have hg := ((((Gr.refl w).al _).al _).trans hb)
    have _ := hg.atF C1.out; have _ := hg.atF C2.out
    clear hg
    simp only [headOps, List.contains, List.elem, reduceIte, Bool.false_eq_true]
    repeat (first | go_big_quiet_step (first | (go_at_call 103; exact Calls.of_gr (itw_ok _ _ _ _ h1.out ht.out g1.out)) | (go_at_call 102; exact Calls.of_gr (plusm_t a b k p q _ h2.out g1.out g2.out))) | quiet_step (fail))
    exact wpQuiet_nil rfl
  intro w1 hg1
  obtain ⟨x1_0, x1_1, hz1, g1⟩ := alloc2 hg1
  obtain ⟨_, _, _⟩ := cells3 x1_0
  have _ := fz x1_0
  have _ := ltb x1_0
  obtain ⟨_, _⟩ := cells2 x1_1
  have _ := fz x1_1
  have _ := ltb x1_1
  have X1_0 := hid x1_0; clear x1_0
  have X1_1 := hid x1_1; clear x1_1
  have G1 := hid (g1)
  clear hg1 g1
  go_wp2
  refine bodyPost_ret (v := fr (mkP a b k p q) (mkQ a b k p q)) (by simp [results, Try.results72, go_sem, *]) rfl ⟨rfl, ?_⟩
  exact ((G1.out).setCell (by simp <;> omega) _).setCell (by simp <;> omega) _
set_option maxRecDepth 20000 in
set_option maxHeartbeats 400000 in
theorem imark_b1 (a b : Int) (A : Option Addr) (c k : Nat) (xs : List (Int × Int)) (p q : Int) (w : World) (X : Hid (RdF w A xs)) (hk : xs[k]? = some (p, q)) (_hn : xs.length ≤ 1048576)
    (h1 : okB a b = true) (ht : okB k 1 = true) (g1 : n1B a b k = false) :
    Calls Try.prog 72 #[scl a b A xs.length c, .int .i64 k] w fun e w' => (∃ x y, e = .panicked [{ v := .iface 125 (fr x y), recovered := false }]) ∧ Gr w w' := by
  have hlt := (List.getElem?_eq_some_iff.1 hk).1
  obtain ⟨ad, rfl, c1, c2⟩ := X.out k p q hk
  have C1 := hid c1; have C2 := hid c2
  have h1 := hid h1; have ht := hid ht; have g1 := hid g1
  clear hk c1 c2
  go_enter Try.func72, Try.ntmps72
  go_wp2_with fail
  refine wp_regP 3 [9, 10] (by kernel_rfl) (by kernel_rfl) rfl ?_
  apply Exists.intro
  refine ⟨103, #[fr a b, .int .i64 k], fun wb hb => ?_, ?_⟩
  · obtain ⟨y0, y1, _, _⟩ := alloc2 (Gr.refl _)
    obtain ⟨_, _, _⟩ := hb.at3 y0
    obtain ⟨_, _⟩ := hb.at2 y1
    clear y0 y1
    have hg := ((((Gr.refl w).al _).al _).trans hb)
    have _ := hg.atF C1.out; have _ := hg.atF C2.out
    clear hg
    simp only [headOps, List.contains, List.elem, List.length_cons, List.length_nil, Nat.zero_add, Nat.reduceAdd, Nat.reduceBEq, reduceIte, Bool.false_eq_true, dumOp]
    repeat (first | go_big_quiet_step (first | (fail)) | quiet_step (fail))
    exact wpQuiet_nil rfl
  refine ⟨fun w' => by kernel_rfl, fun w' hg' => (itw_bad _ _ _ _ h1.out ht.out g1.out).mono fun e w2 ⟨⟨x, y, he⟩, hg2⟩ => ⟨_, he, fun a' ha' => ⟨ha', ⟨x, y, rfl⟩, ((((Gr.refl _).al _).al _).trans hg').trans hg2⟩⟩⟩
set_option maxRecDepth 20000 in
set_option maxHeartbeats 400000 in
theorem imark_b2 (a b : Int) (A : Option Addr) (c k : Nat) (xs : List (Int × Int)) (p q : Int) (w : World) (X : Hid (RdF w A xs)) (hk : xs[k]? = some (p, q)) (_hn : xs.length ≤ 1048576)
    (h1 : okB a b = true) (ht : okB k 1 = true) (h2 : okB p q = true) (g1 : n1B a b k = true) (g2 : mk2 a b k p q = false) :
    Calls Try.prog 72 #[scl a b A xs.length c, .int .i64 k] w fun e w' => (∃ x y, e = .panicked [{ v := .iface 125 (fr x y), recovered := false }]) ∧ Gr w w' := by
  have hlt := (List.getElem?_eq_some_iff.1 hk).1
  obtain ⟨ad, rfl, c1, c2⟩ := X.out k p q hk
  have C1 := hid c1; have C2 := hid c2
  have h1 := hid h1; have ht := hid ht; have h2 := hid h2; have g1 := hid g1; have g2 := hid g2
  clear hk c1 c2
  go_enter Try.func72, Try.ntmps72
  go_wp2_with fail
  refine wp_regP 9 [10] (by kernel_rfl) (by kernel_rfl) rfl ?_
  apply Exists.intro
  refine ⟨102, #[fr (n1P a b k) (n1Q a b k), fr p q], fun wb hb => ?_, ?_⟩
  · obtain ⟨y0, y1, _, _⟩ := alloc2 (Gr.refl _)
    obtain ⟨_, _, _⟩ := hb.at3 y0
    obtain ⟨_, _⟩ := hb.at2 y1
    clear y0 y1
    have hg := ((((Gr.refl w).al _).al _).trans hb)
    have _ := hg.atF C1.out; have _ := hg.atF C2.out
    clear hg
    simp only [headOps, List.contains, List.elem, List.length_cons, List.length_nil, Nat.zero_add, Nat.reduceAdd, Nat.reduceBEq, reduceIte, Bool.false_eq_true, dumOp]
    repeat (first | go_big_quiet_step (first | (go_at_call 103; exact Calls.of_gr (itw_ok _ _ _ _ h1.out ht.out g1.out))) | quiet_step (fail))
    exact wpQuiet_nil rfl
  refine ⟨fun w' => by kernel_rfl, fun w' hg' => (plus_no _ _ _ _ _ g1.out h2.out g2.out).mono fun e w2 ⟨⟨x, y, he⟩, hg2⟩ => ⟨_, he, fun a' ha' => ⟨ha', ⟨x, y, rfl⟩, ((((Gr.refl _).al _).al _).trans hg').trans hg2⟩⟩⟩
/-- Can a mark be told? -/
def mkB (a b k p q : Int) : Bool := n1B a b k && mk2 a b k p q
theorem imark_bad (a b : Int) (A : Option Addr) (c k : Nat) (xs : List (Int × Int)) (p q : Int) (w : World) (X : Hid (RdF w A xs)) (hk : xs[k]? = some (p, q)) (_hn : xs.length ≤ 1048576)
    (h1 : okB a b = true) (ht : okB k 1 = true) (h2 : okB p q = true) (g : mkB a b k p q = false) :
    Calls Try.prog 72 #[scl a b A xs.length c, .int .i64 k] w fun e w' => (∃ x y, e = .panicked [{ v := .iface 125 (fr x y), recovered := false }]) ∧ Gr w w' := by
  unfold mkB at g
  cases g1 : n1B a b k with
  | false => exact imark_b1 a b A c k xs p q w X hk _hn h1 ht g1
  | true =>
    rw [g1] at g
    exact imark_b2 a b A c k xs p q w X hk _hn h1 ht h2 g1 (by simpa using g)
theorem imark_yes (a b : Int) (A : Option Addr) (c k : Nat) (xs : List (Int × Int)) (p q : Int) (w : World) (X : Hid (RdF w A xs)) (hk : xs[k]? = some (p, q)) (_hn : xs.length ≤ 1048576)
    (h1 : okB a b = true) (ht : okB k 1 = true) (h2 : okB p q = true) (g : mkB a b k p q = true) :
    Calls Try.prog 72 #[scl a b A xs.length c, .int .i64 k] w fun e w' => e = .returned (fr (mkP a b k p q) (mkQ a b k p q)) ∧ Gr w w' := by
  unfold mkB at g
  simp only [Bool.and_eq_true] at g
  exact imark_ok a b A c k xs p q w X hk _hn h1 ht h2 g.1 g.2

set_option maxRecDepth 20000 in
set_option maxHeartbeats 400000 in
theorem smark_f1 (a b : Int) (A : Option Addr) (c k j : Nat) (xs : List (Int × Int)) (w : World) (X1 : Hid (w.heap[j]? = some (.cells #[.int .i64 a, .int .i64 b, .slice A xs.length c] 32)))
    (h1 : okB a b = true) (ht : okB k 1 = true) (g1 : n1B a b k = false) :
    Calls Try.prog 71 #[.pointer (some ⟨j, 0, none⟩), .int .i64 k] w fun e w' => e = .returned (.tuple #[fr 0 0, .int .i64 3]) ∧ Gr w w' := by
  have h1 := hid h1; have ht := hid ht; have g1 := hid g1
  go_enter Try.func71, Try.ntmps71
  obtain ⟨_, _, _⟩ := cells3 X1.out
  have _ := fz X1.out
  have _ := ltb X1.out
  go_wp2_with fail
  refine wp_reg1s #[.int .i64 0, .int .i64 0] 12 10 6 11 16 (by kernel_rfl) (by kernel_rfl) rfl rfl (by simp) rfl rfl (by decide) (fun _ _ => by kernel_rfl) (by kernel_rfl) ?_
  apply Exists.intro; apply Exists.intro
  refine ⟨fun wb hb => ?_, ?_⟩
  · obtain ⟨y0, _, _⟩ := alloc1 (Gr.refl _)
    obtain ⟨_, _⟩ := hb.at2 y0
    clear y0
    obtain ⟨_, _, _⟩ := hb.at3 (((Gr.refl _).al _).keep X1.out)
    simp only [headOps, List.contains, List.elem, Nat.reduceAdd, Nat.reduceBEq, reduceIte, Bool.false_eq_true, dumOp]
    repeat (first | go_big_quiet_step (first | (go_at_call 65; exact Calls.of_gr (swhole1 _ _)) | (go_at_call 115; exact Calls.of_gr (smul_f _ _ _ _ _ ht.out h1.out g1.out))) | quiet_step (fail))
    exact wpQuiet_nil rfl
  refine ⟨rfl, ⟨rfl, by simp [Value.oneCell']⟩, fun w1 b1 hg1 _ xb1 => ?_⟩
  obtain ⟨x1_0, hz1, g1⟩ := alloc1 hg1
  have x1_1 := g1.keep X1.out
  obtain ⟨_, _⟩ := cells2 x1_0
  have _ := fz x1_0
  have _ := ltb x1_0
  obtain ⟨_, _, _⟩ := cells3 x1_1
  have _ := fz x1_1
  have _ := ltb x1_1
  obtain ⟨_, _⟩ := cells2 xb1
  have _ := fz xb1
  have _ := ltb xb1
  have X1_0 := hid x1_0; clear x1_0
  have X1_1 := hid x1_1; clear x1_1
  have Xb1 := hid xb1; clear xb1
  have G1 := hid (g1)
  clear hg1 g1
  go_wp2
  refine bodyPost_ret (v := .tuple #[fr 0 0, .int .i64 3]) (by simp [results, Try.results71, go_sem, *]) rfl ⟨rfl, ?_⟩
  exact ((G1.out).setCell (by simp <;> omega) _).setCell (by simp <;> omega) _
set_option maxRecDepth 20000 in
set_option maxHeartbeats 400000 in
theorem smark_f2 (a b : Int) (A : Option Addr) (c k j : Nat) (xs : List (Int × Int)) (p q : Int) (w : World) (X1 : Hid (w.heap[j]? = some (.cells #[.int .i64 a, .int .i64 b, .slice A xs.length c] 32)))
    (X : Hid (RdF w A xs)) (hk : xs[k]? = some (p, q)) (_hn : xs.length ≤ 1048576) (h1 : okB a b = true) (ht : okB k 1 = true) (h2 : okB p q = true) (g1 : n1B a b k = true) (g2 : mk2 a b k p q = false) :
    Calls Try.prog 71 #[.pointer (some ⟨j, 0, none⟩), .int .i64 k] w fun e w' => e = .returned (.tuple #[fr 0 0, .int .i64 3]) ∧ Gr w w' := by
  have hlt := (List.getElem?_eq_some_iff.1 hk).1
  obtain ⟨ad, rfl, c1, c2⟩ := X.out k p q hk
  have C1 := hid c1; have C2 := hid c2
  have h1 := hid h1; have ht := hid ht; have h2 := hid h2; have g1 := hid g1; have g2 := hid g2
  clear hk c1 c2
  go_enter Try.func71, Try.ntmps71
  obtain ⟨_, _, _⟩ := cells3 X1.out
  have _ := fz X1.out
  have _ := ltb X1.out
  go_wp2_with fail
  refine wp_reg1s #[.int .i64 0, .int .i64 0] 12 10 6 11 16 (by kernel_rfl) (by kernel_rfl) rfl rfl (by simp) rfl rfl (by decide) (fun _ _ => by kernel_rfl) (by kernel_rfl) ?_
  apply Exists.intro; apply Exists.intro
  refine ⟨fun wb hb => ?_, ?_⟩
  · obtain ⟨y0, _, _⟩ := alloc1 (Gr.refl _)
    obtain ⟨_, _⟩ := hb.at2 y0
    clear y0
    obtain ⟨_, _, _⟩ := hb.at3 (((Gr.refl _).al _).keep X1.out)
    simp only [headOps, List.contains, List.elem, Nat.reduceAdd, Nat.reduceBEq, reduceIte, Bool.false_eq_true, dumOp]
    repeat (first | go_big_quiet_step (first | (go_at_call 65; exact Calls.of_gr (swhole1 _ _)) | (go_at_call 115; exact Calls.of_gr (mulw_t a b k _ h1.out ht.out g1.out))) | quiet_step (fail))
    exact wpQuiet_nil rfl
  refine ⟨rfl, ⟨rfl, by simp [Value.oneCell']⟩, fun w1 b1 hg1 _ xb1 => ?_⟩
  obtain ⟨x1_0, hz1, g1⟩ := alloc1 hg1
  have x1_1 := g1.keep X1.out
  obtain ⟨_, _⟩ := cells2 x1_0
  have _ := fz x1_0
  have _ := ltb x1_0
  obtain ⟨_, _, _⟩ := cells3 x1_1
  have _ := fz x1_1
  have _ := ltb x1_1
  obtain ⟨_, _⟩ := cells2 xb1
  have _ := fz xb1
  have _ := ltb xb1
  have X1_0 := hid x1_0; clear x1_0
  have X1_1 := hid x1_1; clear x1_1
  have Xb1 := hid xb1; clear xb1
  have G1 := hid (g1)
  clear hg1 g1
  go_wp2_with fail
  refine wp_reg0 11 (by kernel_rfl) (by kernel_rfl) ?_
  apply Exists.intro
  refine ⟨fun wb hb => ?_, ?_⟩
  · obtain ⟨_, _⟩ := hb.at2 X1_0.out
    obtain ⟨_, _, _⟩ := hb.at3 X1_1.out
    obtain ⟨_, _⟩ := hb.at2 Xb1.out
    have hg := G1.out.trans hb
    have _ := hg.atF C1.out; have _ := hg.atF C2.out
    clear hg
    simp only [headOps, List.contains, List.elem, reduceIte, Bool.false_eq_true]
    repeat (first | go_big_quiet_step (first | (go_at_call 116; exact Calls.of_gr (saddm_f a b k p q _ h2.out g1.out g2.out))) | quiet_step (fail))
    exact wpQuiet_nil rfl
  intro w2 hg2
  have x2_1 := hg2.keep X1_0.out
  have x2_2 := hg2.keep X1_1.out
  have x2_3 := hg2.keep Xb1.out
  obtain ⟨_, _⟩ := cells2 x2_1
  have _ := fz x2_1
  have _ := ltb x2_1
  obtain ⟨_, _, _⟩ := cells3 x2_2
  have _ := fz x2_2
  have _ := ltb x2_2
  obtain ⟨_, _⟩ := cells2 x2_3
  have _ := fz x2_3
  have _ := ltb x2_3
  have X2_1 := hid x2_1; clear x2_1
  have X2_2 := hid x2_2; clear x2_2
  have X2_3 := hid x2_3; clear x2_3
  have G2 := hid (G1.out.trans hg2)
  clear hg2
  go_wp2
  refine bodyPost_ret (v := .tuple #[fr 0 0, .int .i64 3]) (by simp [results, Try.results71, go_sem, *]) rfl ⟨rfl, ?_⟩
  exact ((G2.out).setCell (by simp <;> omega) _).setCell (by simp <;> omega) _
set_option maxRecDepth 20000 in
set_option maxHeartbeats 400000 in
theorem smark_t (a b : Int) (A : Option Addr) (c k j : Nat) (xs : List (Int × Int)) (p q : Int) (w : World) (X1 : Hid (w.heap[j]? = some (.cells #[.int .i64 a, .int .i64 b, .slice A xs.length c] 32)))
    (X : Hid (RdF w A xs)) (hk : xs[k]? = some (p, q)) (_hn : xs.length ≤ 1048576) (h1 : okB a b = true) (ht : okB k 1 = true) (h2 : okB p q = true) (g1 : n1B a b k = true) (g2 : mk2 a b k p q = true) :
    Calls Try.prog 71 #[.pointer (some ⟨j, 0, none⟩), .int .i64 k] w fun e w' => e = .returned (.tuple #[fr (mkP a b k p q) (mkQ a b k p q), .int .i64 0]) ∧ Gr w w' := by
  have hlt := (List.getElem?_eq_some_iff.1 hk).1
  obtain ⟨ad, rfl, c1, c2⟩ := X.out k p q hk
  have C1 := hid c1; have C2 := hid c2
  have h1 := hid h1; have ht := hid ht; have h2 := hid h2; have g1 := hid g1; have g2 := hid g2
  clear hk c1 c2
  go_enter Try.func71, Try.ntmps71
  obtain ⟨_, _, _⟩ := cells3 X1.out
  have _ := fz X1.out
  have _ := ltb X1.out
  go_wp2_with fail
  refine wp_reg1s #[.int .i64 0, .int .i64 0] 12 10 6 11 16 (by kernel_rfl) (by kernel_rfl) rfl rfl (by simp) rfl rfl (by decide) (fun _ _ => by kernel_rfl) (by kernel_rfl) ?_
  apply Exists.intro; apply Exists.intro
  refine ⟨fun wb hb => ?_, ?_⟩
  · obtain ⟨y0, _, _⟩ := alloc1 (Gr.refl _)
    obtain ⟨_, _⟩ := hb.at2 y0
    clear y0
    obtain ⟨_, _, _⟩ := hb.at3 (((Gr.refl _).al _).keep X1.out)
    simp only [headOps, List.contains, List.elem, Nat.reduceAdd, Nat.reduceBEq, reduceIte, Bool.false_eq_true, dumOp]
    repeat (first | go_big_quiet_step (first | (go_at_call 65; exact Calls.of_gr (swhole1 _ _)) | (go_at_call 115; exact Calls.of_gr (mulw_t a b k _ h1.out ht.out g1.out))) | quiet_step (fail))
    exact wpQuiet_nil rfl
  refine ⟨rfl, ⟨rfl, by simp [Value.oneCell']⟩, fun w1 b1 hg1 _ xb1 => ?_⟩
  obtain ⟨x1_0, hz1, g1⟩ := alloc1 hg1
  have x1_1 := g1.keep X1.out
  obtain ⟨_, _⟩ := cells2 x1_0
  have _ := fz x1_0
  have _ := ltb x1_0
  obtain ⟨_, _, _⟩ := cells3 x1_1
  have _ := fz x1_1
  have _ := ltb x1_1
  obtain ⟨_, _⟩ := cells2 xb1
  have _ := fz xb1
  have _ := ltb xb1
  have X1_0 := hid x1_0; clear x1_0
  have X1_1 := hid x1_1; clear x1_1
  have Xb1 := hid xb1; clear xb1
  have G1 := hid (g1)
  clear hg1 g1
  go_wp2_with fail
  refine wp_reg0 11 (by kernel_rfl) (by kernel_rfl) ?_
  apply Exists.intro
  refine ⟨fun wb hb => ?_, ?_⟩
  · obtain ⟨_, _⟩ := hb.at2 X1_0.out
    obtain ⟨_, _, _⟩ := hb.at3 X1_1.out
    obtain ⟨_, _⟩ := hb.at2 Xb1.out
    have hg := G1.out.trans hb
    have _ := hg.atF C1.out; have _ := hg.atF C2.out
    clear hg
    simp only [headOps, List.contains, List.elem, reduceIte, Bool.false_eq_true]
    repeat (first | go_big_quiet_step (first | (go_at_call 116; exact Calls.of_gr (saddm_t a b k p q _ h2.out g1.out g2.out))) | quiet_step (fail))
    exact wpQuiet_nil rfl
  intro w2 hg2
  have x2_1 := hg2.keep X1_0.out
  have x2_2 := hg2.keep X1_1.out
  have x2_3 := hg2.keep Xb1.out
  obtain ⟨_, _⟩ := cells2 x2_1
  have _ := fz x2_1
  have _ := ltb x2_1
  obtain ⟨_, _, _⟩ := cells3 x2_2
  have _ := fz x2_2
  have _ := ltb x2_2
  obtain ⟨_, _⟩ := cells2 x2_3
  have _ := fz x2_3
  have _ := ltb x2_3
  have X2_1 := hid x2_1; clear x2_1
  have X2_2 := hid x2_2; clear x2_2
  have X2_3 := hid x2_3; clear x2_3
  have G2 := hid (G1.out.trans hg2)
  clear hg2
  go_wp2
  refine bodyPost_ret (v := .tuple #[fr (mkP a b k p q) (mkQ a b k p q), .int .i64 0]) (by simp [results, Try.results71, go_sem, *]) rfl ⟨rfl, ?_⟩
  exact ((G2.out).setCell (by simp <;> omega) _).setCell (by simp <;> omega) _
end Go.Proofs.Ytfkmlgndggnhaaa
