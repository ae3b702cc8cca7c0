/- WALKS: StretchOf, of the program and of the reference. -/
import Derived.Test.YtflfjedimcbfeaaSkk
import Derived.Test.YtflfjedimcbfeaaK
import Derived.Test.YtflfjedimcbfeaaR
import Derived.Test.YtflfjedimcbfeaaX1
import Derived.Test.YtflfjedimcbfeaaWf
namespace Go.Proofs.Ytflfjedimcbfeaa
open Go.RowKit Go.Sort

def gwP (a b c d : Int) : Int := redP (a * c) (b * d)
def gwQ (a b c d : Int) : Int := redQ (a * c) (b * d)
def gwB (a b c d : Int) : Bool := okB (gwP a b c d) (gwQ a b c d)
def gsP (a b c d : Int) : Int := redP (1 * gwQ a b c d + gwP a b c d * 1) (1 * gwQ a b c d)
def gsQ (a b c d : Int) : Int := redQ (1 * gwQ a b c d + gwP a b c d * 1) (1 * gwQ a b c d)
def gs3 (a b c d : Int) : Bool := okB (gsP a b c d) (gsQ a b c d)
def gsB' (a b c d : Int) : Bool := gwB a b c d && gs3 a b c d
theorem ok11 : okB 1 1 = true := by decide
theorem gw_ok {a b c d : Int} (h : gsB' a b c d = true) : gwB a b c d = true ∧ gs3 a b c d = true := by
  unfold gsB' at h
  simpa using h
theorem itimes_g (a b c d : Int) (w : World) (h1 : okB a b = true) (h2 : okB c d = true) (g : gwB a b c d = true) :
    Calls Try.prog 94 #[fr a b, fr c d] w fun e w' => e = .returned (fr (gwP a b c d) (gwQ a b c d)) ∧ Gr w w' := times_yes a b c d w h1 h2 g
theorem itimes_x (a b c d : Int) (w : World) (h1 : okB a b = true) (h2 : okB c d = true) (g : gwB a b c d = false) :
    Calls Try.prog 94 #[fr a b, fr c d] w fun e w' => (∃ x y, e = .panicked [{ v := .iface 160 (fr x y), recovered := false }]) ∧ Gr w w' := times_no a b c d w h1 h2 g
theorem iplus1_g (a b c d : Int) (w : World) (g1 : gwB a b c d = true) (g : gs3 a b c d = true) :
    Calls Try.prog 93 #[fr 1 1, fr (gwP a b c d) (gwQ a b c d)] w fun e w' => e = .returned (fr (gsP a b c d) (gsQ a b c d)) ∧ Gr w w' := plus_yes _ _ _ _ w ok11 g1 g
theorem iplus1_x (a b c d : Int) (w : World) (g1 : gwB a b c d = true) (g : gs3 a b c d = false) :
    Calls Try.prog 93 #[fr 1 1, fr (gwP a b c d) (gwQ a b c d)] w fun e w' => (∃ x y, e = .panicked [{ v := .iface 160 (fr x y), recovered := false }]) ∧ Gr w w' := plus_no _ _ _ _ w ok11 g1 g
theorem smul_g (a b c d : Int) (w : World) (h1 : okB a b = true) (h2 : okB c d = true) (g : gwB a b c d = true) :
    Calls Try.prog 90 #[fr a b, fr c d] w fun e w' => e = .returned (.tuple #[fr (gwP a b c d) (gwQ a b c d), .int .i64 0]) ∧ Gr w w' := smul_t a b c d w h1 h2 g
theorem smul_x (a b c d : Int) (w : World) (h1 : okB a b = true) (h2 : okB c d = true) (g : gwB a b c d = false) :
    Calls Try.prog 90 #[fr a b, fr c d] w fun e w' => e = .returned (.tuple #[fr 0 0, .int .i64 3]) ∧ Gr w w' := smul_f a b c d w h1 h2 g
theorem sadd1_g (a b c d : Int) (w : World) (g1 : gwB a b c d = true) : 
    Calls Try.prog 91 #[fr 1 1, fr (gwP a b c d) (gwQ a b c d)] w (ResS (gs3 a b c d) (gsP a b c d) (gsQ a b c d) w) := by
  unfold ResS
  cases g : gs3 a b c d with
  | true => exact sadd_t _ _ _ _ w ok11 g1 g
  | false => exact sadd_f _ _ _ _ w ok11 g1 g
/-! the stretch, of the program -/
set_option maxRecDepth 20000 in
set_option maxHeartbeats 1000000 in
theorem istr_ok (a b c d : Int) (w : World) (h1 : okB a b = true) (h2 : okB c d = true) (g : gsB' a b c d = true) :
    Calls Try.prog 118 #[fr a b, fr c d] w fun e w' => e = .returned (fr (gsP a b c d) (gsQ a b c d)) ∧ Gr w w' := by
  have G := hid (gw_ok g)
  have h1 := hid h1; have h2 := hid h2
  clear g
  go_enter Try.func118, Try.ntmps118
  go_wp2_with fail
  refine wp_reg0 5 (by kernel_rfl) (by kernel_rfl) ?_
  apply Exists.intro
  refine ⟨fun wb hb => ?_, ?_⟩
  · obtain ⟨y0, y1, y2, _, _⟩ := alloc3 (Gr.refl _)
    obtain ⟨_, _⟩ := hb.at2 y0
    obtain ⟨_, _⟩ := hb.at2 y1
    obtain ⟨_, _⟩ := hb.at2 y2
    clear y0 y1 y2
    simp only [headOps, List.contains, List.elem, reduceIte, Bool.false_eq_true]
    repeat (first | go_big_quiet_step (first | (go_at_call 126; exact Calls.of_gr (iwhole 1 _ (by omega) (by omega))) | (go_at_call 94; exact Calls.of_gr (itimes_g a b c d _ h1.out h2.out G.out.1)) | (go_at_call 93; exact Calls.of_gr (iplus1_g a b c d _ G.out.1 G.out.2))) | quiet_step (fail))
    exact wpQuiet_nil rfl
  intro w1 hg1
  obtain ⟨x1_0, x1_1, x1_2, hz1, g1⟩ := alloc3 hg1
  obtain ⟨_, _⟩ := cells2 x1_0
  have _ := fz x1_0
  have _ := ltb x1_0
  obtain ⟨_, _⟩ := cells2 x1_1
  have _ := fz x1_1
  have _ := ltb x1_1
  obtain ⟨_, _⟩ := cells2 x1_2
  have _ := fz x1_2
  have _ := ltb x1_2
  have X1_0 := hid x1_0; clear x1_0
  have X1_1 := hid x1_1; clear x1_1
  have X1_2 := hid x1_2; clear x1_2
  have G1 := hid (g1)
  clear hg1 g1
  go_wp2
  refine bodyPost_ret (v := fr (gsP a b c d) (gsQ a b c d)) (by simp [results, Try.results118, go_sem, *]) rfl ⟨rfl, ?_⟩
  exact ((G1.out).setCell (by simp <;> omega) _).setCell (by simp <;> omega) _
set_option maxRecDepth 20000 in
set_option maxHeartbeats 1000000 in
theorem istr_b1 (a b c d : Int) (w : World) (h1 : okB a b = true) (h2 : okB c d = true) (g : gwB a b c d = false) :
    Calls Try.prog 118 #[fr a b, fr c d] w fun e w' => (∃ x y, e = .panicked [{ v := .iface 160 (fr x y), recovered := false }]) ∧ Gr w w' := by
  have h1 := hid h1; have h2 := hid h2; have g := hid g
  go_enter Try.func118, Try.ntmps118
  go_wp2_with fail
  refine wp_regP 3 [4, 5] (by kernel_rfl) (by kernel_rfl) rfl ?_
  apply Exists.intro
  refine ⟨94, #[fr a b, fr c d], fun wb hb => ?_, ?_⟩
  · obtain ⟨y0, y1, y2, _, _⟩ := alloc3 (Gr.refl _)
    obtain ⟨_, _⟩ := hb.at2 y0
    obtain ⟨_, _⟩ := hb.at2 y1
    obtain ⟨_, _⟩ := hb.at2 y2
    clear y0 y1 y2
    simp only [headOps, List.contains, List.elem, List.length_cons, List.length_nil, Nat.zero_add, Nat.reduceAdd, Nat.reduceBEq, reduceIte, Bool.false_eq_true, dumOp]
    repeat (first | go_big_quiet_step (first | (go_at_call 126; exact Calls.of_gr (iwhole 1 _ (by omega) (by omega)))) | quiet_step (fail))
    exact wpQuiet_nil rfl
  refine ⟨fun w' => by kernel_rfl, fun w' hg' => (itimes_x a b c d _ h1.out h2.out g.out).mono fun e w2 ⟨⟨x, y, he⟩, hg2⟩ => ⟨_, he, fun a' ha' => ⟨ha', ⟨x, y, rfl⟩, (((((Gr.refl _).al _).al _).al _).trans hg').trans hg2⟩⟩⟩
set_option maxRecDepth 20000 in
set_option maxHeartbeats 1000000 in
theorem istr_b2 (a b c d : Int) (w : World) (h1 : okB a b = true) (h2 : okB c d = true) (g : gwB a b c d = true) (g3 : gs3 a b c d = false) :
    Calls Try.prog 118 #[fr a b, fr c d] w fun e w' => (∃ x y, e = .panicked [{ v := .iface 160 (fr x y), recovered := false }]) ∧ Gr w w' := by
  have h1 := hid h1; have h2 := hid h2; have g := hid g; have g3 := hid g3
  go_enter Try.func118, Try.ntmps118
  go_wp2_with fail
  refine wp_regP 4 [5] (by kernel_rfl) (by kernel_rfl) rfl ?_
  apply Exists.intro
  refine ⟨93, #[fr 1 1, fr (gwP a b c d) (gwQ a b c d)], fun wb hb => ?_, ?_⟩
  · obtain ⟨y0, y1, y2, _, _⟩ := alloc3 (Gr.refl _)
    obtain ⟨_, _⟩ := hb.at2 y0
    obtain ⟨_, _⟩ := hb.at2 y1
    obtain ⟨_, _⟩ := hb.at2 y2
    clear y0 y1 y2
    simp only [headOps, List.contains, List.elem, List.length_cons, List.length_nil, Nat.zero_add, Nat.reduceAdd, Nat.reduceBEq, reduceIte, Bool.false_eq_true, dumOp]
    repeat (first | go_big_quiet_step (first | (go_at_call 126; exact Calls.of_gr (iwhole 1 _ (by omega) (by omega))) | (go_at_call 94; exact Calls.of_gr (itimes_g a b c d _ h1.out h2.out g.out))) | quiet_step (fail))
    exact wpQuiet_nil rfl
  refine ⟨fun w' => by kernel_rfl, fun w' hg' => (iplus1_x a b c d _ g.out g3.out).mono fun e w2 ⟨⟨x, y, he⟩, hg2⟩ => ⟨_, he, fun a' ha' => ⟨ha', ⟨x, y, rfl⟩, (((((Gr.refl _).al _).al _).al _).trans hg').trans hg2⟩⟩⟩
theorem istr (a b c d : Int) (w : World) (h1 : okB a b = true) (h2 : okB c d = true) :
    Calls Try.prog 118 #[fr a b, fr c d] w (ResI (gsB' a b c d) (gsP a b c d) (gsQ a b c d) w) := by
  unfold gsB'
  cases g1 : gwB a b c d with
  | false => exact (istr_b1 a b c d w h1 h2 g1).mono fun e w' ⟨h, hg⟩ => ⟨fun h => (by cases h), fun _ => h, hg⟩
  | true =>
    cases g2 : gs3 a b c d with
    | false => exact (istr_b2 a b c d w h1 h2 g1 g2).mono fun e w' ⟨h, hg⟩ => ⟨fun h => (by cases h), fun _ => h, hg⟩
    | true => exact (istr_ok a b c d w h1 h2 (by unfold gsB'; rw [g1, g2]; rfl)).mono fun e w' ⟨h, hg⟩ => ⟨fun _ => h, fun h => (by cases h), hg⟩
/-! the stretch, of the reference -/
set_option maxRecDepth 20000 in
set_option maxHeartbeats 1000000 in
theorem sstr_f (a b c d : Int) (w : World) (h1 : okB a b = true) (h2 : okB c d = true) (g : gwB a b c d = false) :
    Calls Try.prog 89 #[fr a b, fr c d] w fun e w' => e = .returned (.tuple #[fr 0 0, .int .i64 3]) ∧ Gr w w' := by
  have h1 := hid h1; have h2 := hid h2; have g := hid g
  go_enter Try.func89, Try.ntmps89
  go_wp2_with fail
  refine (smul_x a b c d _ h1.out h2.out g.out).mono ?_
  rintro e w1 ⟨rfl, hg1⟩
  obtain ⟨x1_0, x1_1, x1_2, hz1, g1⟩ := alloc3 hg1
  obtain ⟨_, _⟩ := cells2 x1_0
  have _ := fz x1_0
  have _ := ltb x1_0
  obtain ⟨_, _⟩ := cells2 x1_1
  have _ := fz x1_1
  have _ := ltb x1_1
  obtain ⟨_, _⟩ := cells2 x1_2
  have _ := fz x1_2
  have _ := ltb x1_2
  have X1_0 := hid x1_0; clear x1_0
  have X1_1 := hid x1_1; clear x1_1
  have X1_2 := hid x1_2; clear x1_2
  have G1 := hid (g1)
  clear hg1 g1
  go_wp2
  refine bodyPost_ret (v := .tuple #[fr 0 0, .int .i64 3]) (by simp [results, Try.results89, go_sem, *]) rfl ⟨rfl, ?_⟩
  exact (((G1.out).setCell (by simp <;> omega) _).setCell (by simp <;> omega) _).al _
set_option maxRecDepth 20000 in
set_option maxHeartbeats 1000000 in
theorem sstr_t (a b c d P Q C : Int) (w : World) (h1 : okB a b = true) (h2 : okB c d = true) (g : gwB a b c d = true) (ha : ∀ w, Calls Try.prog 91 #[fr 1 1, fr (gwP a b c d) (gwQ a b c d)] w fun e w' => e = .returned (.tuple #[fr P Q, .int .i64 C]) ∧ Gr w w') :
    Calls Try.prog 89 #[fr a b, fr c d] w fun e w' => e = .returned (.tuple #[fr P Q, .int .i64 C]) ∧ Gr w w' := by
  have h1 := hid h1; have h2 := hid h2; have g := hid g; have HA := hid ha; clear ha
  go_enter Try.func89, Try.ntmps89
  go_wp2_with fail
  refine (smul_g a b c d _ h1.out h2.out g.out).mono ?_
  rintro e w1 ⟨rfl, hg1⟩
  obtain ⟨x1_0, x1_1, x1_2, hz1, g1⟩ := alloc3 hg1
  obtain ⟨_, _⟩ := cells2 x1_0
  have _ := fz x1_0
  have _ := ltb x1_0
  obtain ⟨_, _⟩ := cells2 x1_1
  have _ := fz x1_1
  have _ := ltb x1_1
  obtain ⟨_, _⟩ := cells2 x1_2
  have _ := fz x1_2
  have _ := ltb x1_2
  have X1_0 := hid x1_0; clear x1_0
  have X1_1 := hid x1_1; clear x1_1
  have X1_2 := hid x1_2; clear x1_2
  have G1 := hid (g1)
  clear hg1 g1
  go_wp2_with fail
  refine wp_reg0 5 (by kernel_rfl) (by kernel_rfl) ?_
  apply Exists.intro
  refine ⟨fun wb hb => ?_, ?_⟩
  · obtain ⟨_, _⟩ := hb.at2 (((Gr.refl _).al _).keep X1_0.out)
    obtain ⟨_, _⟩ := hb.at2 (((Gr.refl _).al _).keep X1_1.out)
    obtain ⟨_, _⟩ := hb.at2 (((Gr.refl _).al _).keep X1_2.out)
    obtain ⟨_, _⟩ := hb.at2 (alloc1 (Gr.refl _)).1
    simp only [headOps, List.contains, List.elem, reduceIte, Bool.false_eq_true]
    repeat (first | go_big_quiet_step (first | (go_at_call 107; exact Calls.of_gr (swhole1 _ _)) | (go_at_call 91; exact Calls.of_gr (HA.out _))) | quiet_step (fail))
    exact wpQuiet_nil rfl
  intro w2 hg2
  obtain ⟨x2_0, hz2, g2⟩ := alloc1 hg2
  have x2_1 := g2.keep X1_0.out
  have x2_2 := g2.keep X1_1.out
  have x2_3 := g2.keep X1_2.out
  obtain ⟨_, _⟩ := cells2 x2_1
  have _ := fz x2_1
  have _ := ltb x2_1
  obtain ⟨_, _⟩ := cells2 x2_2
  have _ := fz x2_2
  have _ := ltb x2_2
  obtain ⟨_, _⟩ := cells2 x2_3
  have _ := fz x2_3
  have _ := ltb x2_3
  obtain ⟨_, _⟩ := cells2 x2_0
  have _ := fz x2_0
  have _ := ltb x2_0
  have X2_1 := hid x2_1; clear x2_1
  have X2_2 := hid x2_2; clear x2_2
  have X2_3 := hid x2_3; clear x2_3
  have X2_0 := hid x2_0; clear x2_0
  have G2 := hid (G1.out.trans g2)
  clear hg2 g2
  go_wp2
  refine bodyPost_ret (v := .tuple #[fr P Q, .int .i64 C]) (by simp [results, Try.results89, go_sem, *]) rfl ⟨rfl, ?_⟩
  exact ((G2.out).setCell (by simp <;> omega) _).setCell (by simp <;> omega) _
theorem sstr (a b c d : Int) (w : World) (h1 : okB a b = true) (h2 : okB c d = true) :
    Calls Try.prog 89 #[fr a b, fr c d] w (ResS (gsB' a b c d) (gsP a b c d) (gsQ a b c d) w) := by
  unfold gsB'
  cases g1 : gwB a b c d with
  | false => exact sstr_f a b c d w h1 h2 g1
  | true => exact sstr_t a b c d _ _ _ w h1 h2 g1 fun w => sadd1_g a b c d w g1
end Go.Proofs.Ytflfjedimcbfeaa
