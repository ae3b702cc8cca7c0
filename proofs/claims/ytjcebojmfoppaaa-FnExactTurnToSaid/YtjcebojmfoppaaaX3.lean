/- WALKS: ValidSpindle and ReadSpindle, of the program and of the reference. -/
import Derived.Test.YtjcebojmfoppaaaX2
import Derived.Test.YtjcebojmfoppaaaV
namespace Go.Proofs.Ytjcebojmfoppaaa
open Go.RowKit Go.Sort

theorem scB_all {a b n c d : Int} (h : scB a b n c d = true) : okB a b = true ∧ okB n 1 = true ∧ n ≠ 0 ∧ okB c d = true ∧ 0 ≤ c := by
  unfold scB at h
  simp only [Bool.and_eq_true, decide_eq_true_eq] at h
  obtain ⟨h1, h2, h3, h4, _⟩ := h
  obtain ⟨i1, i2⟩ := in_bd h2
  exact ⟨within_ok h1, ok_whole (by omega) (by omega), by omega, h3, h4⟩
theorem ends_ok {a b n c d t : Int} (h : scB a b n c d = true) (g : eB a b n c d t = true) : spB (lP a b n c d t) (lQ a b n c d t) (nP a b n t) (nQ a b n t) = true := by
  obtain ⟨_, _, _, h2, hc⟩ := scB_all h
  obtain ⟨_, g2, g3⟩ := eB_all g
  have q1 := (okB_bd g2).1
  have q2 := (okB_bd h2).1
  have := sub_le_red (n := nP a b n t) (m := nQ a b n t) (c := c) (e := d) q1 q2 hc
  have hle : cmpI (lP a b n c d t) (lQ a b n c d t) (nP a b n t) (nQ a b n t) ≤ 0 := by
    unfold cmpI lP lQ
    split
    · omega
    · rw [if_neg (by omega)]; omega
  unfold spB
  unfold lB at g3
  unfold nB at g2
  rw [g2, g3]
  simpa using hle
theorem gt_in' (t m : Int) : inB t (-m) m = !gtB t m := by
  unfold inB gtB
  rw [Bool.eq_iff_iff]
  simp
theorem gtb {t m : Int} (h : gtB t m = false) : -m ≤ t ∧ t ≤ m := by
  have := gt_in' t m
  rw [h] at this
  exact in_bd this
theorem igt_t (t m : Int) (w : World) (h0 : 0 ≤ m) (h1 : m ≤ 9223372036854775807) (h : gtB t m = true) : Calls Try.prog 36 #[.int .i64 t, .int .i64 m] w fun e w' => e = .returned (.bool true) ∧ Gr w w' :=
  (gt_any t m w h0 h1).mono fun e w' ⟨he, hg⟩ => ⟨by rw [he, h], hg ▸ Gr.refl _⟩
theorem igt_f (t m : Int) (w : World) (h0 : 0 ≤ m) (h1 : m ≤ 9223372036854775807) (h : gtB t m = false) : Calls Try.prog 36 #[.int .i64 t, .int .i64 m] w fun e w' => e = .returned (.bool false) ∧ Gr w w' :=
  (gt_any t m w h0 h1).mono fun e w' ⟨he, hg⟩ => ⟨by rw [he, h], hg ▸ Gr.refl _⟩
theorem sscrew_T (a b n c d : Int) (w : World) (k : Nat) (X1 : Hid (w.heap[k]? = some (.cells #[.int .i64 a, .int .i64 b, .int .i64 n, .int .i64 c, .int .i64 d] 35))) (h : scB a b n c d = true) :
    Calls Try.prog 31 #[.pointer (some ⟨k, 0, none⟩)] w fun e w' => e = .returned (.bool true) ∧ Gr w w' :=
  (sscrew a b n c d w k X1).mono fun e w' ⟨he, hg⟩ => ⟨by rw [he, h], hg⟩
theorem sscrew_F (a b n c d : Int) (w : World) (k : Nat) (X1 : Hid (w.heap[k]? = some (.cells #[.int .i64 a, .int .i64 b, .int .i64 n, .int .i64 c, .int .i64 d] 35))) (h : scB a b n c d = false) :
    Calls Try.prog 31 #[.pointer (some ⟨k, 0, none⟩)] w fun e w' => e = .returned (.bool false) ∧ Gr w w' :=
  (sscrew a b n c d w k X1).mono fun e w' ⟨he, hg⟩ => ⟨by rw [he, h], hg⟩
theorem iscrew_T (a b n c d : Int) (w : World) (h : scB a b n c d = true) : Calls Try.prog 15 #[sc a b n c d] w fun e w' => e = .returned (.bool true) ∧ Gr w w' :=
  (iValidScrew a b n c d w).mono fun e w' ⟨he, hg⟩ => ⟨by rw [he, h], hg⟩
theorem iscrew_F (a b n c d : Int) (w : World) (h : scB a b n c d = false) : Calls Try.prog 15 #[sc a b n c d] w fun e w' => e = .returned (.bool false) ∧ Gr w w' :=
  (iValidScrew a b n c d w).mono fun e w' ⟨he, hg⟩ => ⟨by rw [he, h], hg⟩
/-- Does a spindle stand where it can, its screw and Turned being valid? -/
def stB (a b n c d t p q : Int) : Bool := okB p q && (eB a b n c d t && liesB (lP a b n c d t) (lQ a b n c d t) (nP a b n t) (nQ a b n t) p q)
def sdB (a b n c d t p q : Int) : Bool := scB a b n c d && (inB t (-10000) 10000 && stB a b n c d t p q)
set_option maxRecDepth 20000 in
set_option maxHeartbeats 400000 in
theorem sspin_f0 (a b n c d t p q : Int) (w : World) (k k2 : Nat) (X1 : Hid (w.heap[k]? = some (.cells #[.int .i64 a, .int .i64 b, .int .i64 n, .int .i64 c, .int .i64 d] 35))) (X2 : Hid (w.heap[k2]? = some (.cells #[.int .i64 t, .int .i64 p, .int .i64 q] 42))) (h : scB a b n c d = false) :
    Calls Try.prog 35 #[.pointer (some ⟨k, 0, none⟩), .pointer (some ⟨k2, 0, none⟩)] w fun e w' => e = .returned (.bool (false)) ∧ Gr w w' := by
  have h := hid h
  go_enter Try.func35, Try.ntmps35
  obtain ⟨_, _, _, _, _⟩ := cells5 X1.out
  have _ := fz X1.out
  have _ := ltb X1.out
  obtain ⟨_, _, _⟩ := cells3 X2.out
  have _ := fz X2.out
  have _ := ltb X2.out
  go_wp2_with fail
  refine (sscrew_F _ _ _ _ _ _ _ (hid X1.out) h.out).mono ?_
  rintro e w1 ⟨rfl, hg1⟩
  have x1_1 := hg1.keep X1.out
  have x1_2 := hg1.keep X2.out
  obtain ⟨_, _, _, _, _⟩ := cells5 x1_1
  have _ := fz x1_1
  have _ := ltb x1_1
  obtain ⟨_, _, _⟩ := cells3 x1_2
  have _ := fz x1_2
  have _ := ltb x1_2
  have X1_1 := hid x1_1; clear x1_1
  have X1_2 := hid x1_2; clear x1_2
  have G1 := hid (hg1)
  clear hg1
  go_wp2
  go_ret
  exact ⟨rfl, G1.out⟩
set_option maxRecDepth 20000 in
set_option maxHeartbeats 400000 in
theorem sspin_f1 (a b n c d t p q : Int) (w : World) (k k2 : Nat) (X1 : Hid (w.heap[k]? = some (.cells #[.int .i64 a, .int .i64 b, .int .i64 n, .int .i64 c, .int .i64 d] 35))) (X2 : Hid (w.heap[k2]? = some (.cells #[.int .i64 t, .int .i64 p, .int .i64 q] 42))) (h : scB a b n c d = true) (hi : inB t (-10000) 10000 = false) :
    Calls Try.prog 35 #[.pointer (some ⟨k, 0, none⟩), .pointer (some ⟨k2, 0, none⟩)] w fun e w' => e = .returned (.bool (false)) ∧ Gr w w' := by
  have h := hid h
  have hi := hid hi
  go_enter Try.func35, Try.ntmps35
  obtain ⟨_, _, _, _, _⟩ := cells5 X1.out
  have _ := fz X1.out
  have _ := ltb X1.out
  obtain ⟨_, _, _⟩ := cells3 X2.out
  have _ := fz X2.out
  have _ := ltb X2.out
  go_wp2_with fail
  refine (sscrew_T _ _ _ _ _ _ _ (hid X1.out) h.out).mono ?_
  rintro e w1 ⟨rfl, hg1⟩
  have x1_1 := hg1.keep X1.out
  have x1_2 := hg1.keep X2.out
  obtain ⟨_, _, _, _, _⟩ := cells5 x1_1
  have _ := fz x1_1
  have _ := ltb x1_1
  obtain ⟨_, _, _⟩ := cells3 x1_2
  have _ := fz x1_2
  have _ := ltb x1_2
  have X1_1 := hid x1_1; clear x1_1
  have X1_2 := hid x1_2; clear x1_2
  have G1 := hid (hg1)
  clear hg1
  go_wp2_with fail
  refine (in_f _ _ _ _ hi.out).mono ?_
  rintro e w2 ⟨rfl, hg2⟩
  have x2_1 := hg2.keep X1_1.out
  have x2_2 := hg2.keep X1_2.out
  obtain ⟨_, _, _, _, _⟩ := cells5 x2_1
  have _ := fz x2_1
  have _ := ltb x2_1
  obtain ⟨_, _, _⟩ := cells3 x2_2
  have _ := fz x2_2
  have _ := ltb x2_2
  have X2_1 := hid x2_1; clear x2_1
  have X2_2 := hid x2_2; clear x2_2
  have G2 := hid (G1.out.trans hg2)
  clear hg2
  go_wp2
  go_ret
  exact ⟨rfl, G2.out⟩
set_option maxRecDepth 20000 in
set_option maxHeartbeats 400000 in
theorem sspin_f2 (a b n c d t p q : Int) (w : World) (k k2 : Nat) (X1 : Hid (w.heap[k]? = some (.cells #[.int .i64 a, .int .i64 b, .int .i64 n, .int .i64 c, .int .i64 d] 35))) (X2 : Hid (w.heap[k2]? = some (.cells #[.int .i64 t, .int .i64 p, .int .i64 q] 42))) (h : scB a b n c d = true) (hi : inB t (-10000) 10000 = true) (hp : okB p q = false) :
    Calls Try.prog 35 #[.pointer (some ⟨k, 0, none⟩), .pointer (some ⟨k2, 0, none⟩)] w fun e w' => e = .returned (.bool (false)) ∧ Gr w w' := by
  have h := hid h
  have hi := hid hi
  have hp := hid hp
  go_enter Try.func35, Try.ntmps35
  obtain ⟨_, _, _, _, _⟩ := cells5 X1.out
  have _ := fz X1.out
  have _ := ltb X1.out
  obtain ⟨_, _, _⟩ := cells3 X2.out
  have _ := fz X2.out
  have _ := ltb X2.out
  go_wp2_with fail
  refine (sscrew_T _ _ _ _ _ _ _ (hid X1.out) h.out).mono ?_
  rintro e w1 ⟨rfl, hg1⟩
  have x1_1 := hg1.keep X1.out
  have x1_2 := hg1.keep X2.out
  obtain ⟨_, _, _, _, _⟩ := cells5 x1_1
  have _ := fz x1_1
  have _ := ltb x1_1
  obtain ⟨_, _, _⟩ := cells3 x1_2
  have _ := fz x1_2
  have _ := ltb x1_2
  have X1_1 := hid x1_1; clear x1_1
  have X1_2 := hid x1_2; clear x1_2
  have G1 := hid (hg1)
  clear hg1
  go_wp2_with fail
  refine (in_t _ _ _ _ hi.out).mono ?_
  rintro e w2 ⟨rfl, hg2⟩
  have x2_1 := hg2.keep X1_1.out
  have x2_2 := hg2.keep X1_2.out
  obtain ⟨_, _, _, _, _⟩ := cells5 x2_1
  have _ := fz x2_1
  have _ := ltb x2_1
  obtain ⟨_, _, _⟩ := cells3 x2_2
  have _ := fz x2_2
  have _ := ltb x2_2
  have X2_1 := hid x2_1; clear x2_1
  have X2_2 := hid x2_2; clear x2_2
  have G2 := hid (G1.out.trans hg2)
  clear hg2
  go_wp2_with fail
  refine (sok_f _ _ _ hp.out).mono ?_
  rintro e w3 ⟨rfl, hg3⟩
  have x3_1 := hg3.keep X2_1.out
  have x3_2 := hg3.keep X2_2.out
  obtain ⟨_, _, _, _, _⟩ := cells5 x3_1
  have _ := fz x3_1
  have _ := ltb x3_1
  obtain ⟨_, _, _⟩ := cells3 x3_2
  have _ := fz x3_2
  have _ := ltb x3_2
  have X3_1 := hid x3_1; clear x3_1
  have X3_2 := hid x3_2; clear x3_2
  have G3 := hid (G2.out.trans hg3)
  clear hg3
  go_wp2
  go_ret
  exact ⟨rfl, G3.out⟩
set_option maxRecDepth 20000 in
set_option maxHeartbeats 400000 in
theorem sspin_f3 (a b n c d t p q : Int) (w : World) (k k2 : Nat) (X1 : Hid (w.heap[k]? = some (.cells #[.int .i64 a, .int .i64 b, .int .i64 n, .int .i64 c, .int .i64 d] 35))) (X2 : Hid (w.heap[k2]? = some (.cells #[.int .i64 t, .int .i64 p, .int .i64 q] 42))) (h : scB a b n c d = true) (hi : inB t (-10000) 10000 = true) (hp : okB p q = true) (ge : eB a b n c d t = false) :
    Calls Try.prog 35 #[.pointer (some ⟨k, 0, none⟩), .pointer (some ⟨k2, 0, none⟩)] w fun e w' => e = .returned (.bool (false)) ∧ Gr w w' := by
  have O := hid (scB_all h)
  have ht := hid (ok_whole (t := t) (by have := in_bd hi; omega) (by have := in_bd hi; omega))
  have h := hid h
  have hi := hid hi
  have hp := hid hp
  have ge := hid ge
  go_enter Try.func35, Try.ntmps35
  obtain ⟨_, _, _, _, _⟩ := cells5 X1.out
  have _ := fz X1.out
  have _ := ltb X1.out
  obtain ⟨_, _, _⟩ := cells3 X2.out
  have _ := fz X2.out
  have _ := ltb X2.out
  go_wp2_with fail
  refine (sscrew_T _ _ _ _ _ _ _ (hid X1.out) h.out).mono ?_
  rintro e w1 ⟨rfl, hg1⟩
  have x1_1 := hg1.keep X1.out
  have x1_2 := hg1.keep X2.out
  obtain ⟨_, _, _, _, _⟩ := cells5 x1_1
  have _ := fz x1_1
  have _ := ltb x1_1
  obtain ⟨_, _, _⟩ := cells3 x1_2
  have _ := fz x1_2
  have _ := ltb x1_2
  have X1_1 := hid x1_1; clear x1_1
  have X1_2 := hid x1_2; clear x1_2
  have G1 := hid (hg1)
  clear hg1
  go_wp2_with fail
  refine (in_t _ _ _ _ hi.out).mono ?_
  rintro e w2 ⟨rfl, hg2⟩
  have x2_1 := hg2.keep X1_1.out
  have x2_2 := hg2.keep X1_2.out
  obtain ⟨_, _, _, _, _⟩ := cells5 x2_1
  have _ := fz x2_1
  have _ := ltb x2_1
  obtain ⟨_, _, _⟩ := cells3 x2_2
  have _ := fz x2_2
  have _ := ltb x2_2
  have X2_1 := hid x2_1; clear x2_1
  have X2_2 := hid x2_2; clear x2_2
  have G2 := hid (G1.out.trans hg2)
  clear hg2
  go_wp2_with fail
  refine (sok_t _ _ _ hp.out).mono ?_
  rintro e w3 ⟨rfl, hg3⟩
  have x3_1 := hg3.keep X2_1.out
  have x3_2 := hg3.keep X2_2.out
  obtain ⟨_, _, _, _, _⟩ := cells5 x3_1
  have _ := fz x3_1
  have _ := ltb x3_1
  obtain ⟨_, _, _⟩ := cells3 x3_2
  have _ := fz x3_2
  have _ := ltb x3_2
  have X3_1 := hid x3_1; clear x3_1
  have X3_2 := hid x3_2; clear x3_2
  have G3 := hid (G2.out.trans hg3)
  clear hg3
  go_wp2_with fail
  refine (sends_no _ _ _ _ _ _ _ _ (hid X3_1.out) O.out.1 ht.out O.out.2.1 O.out.2.2.1 O.out.2.2.2.1 ge.out).mono ?_
  rintro e w4 ⟨rfl, hg4⟩
  have x4_1 := hg4.keep X3_1.out
  have x4_2 := hg4.keep X3_2.out
  obtain ⟨_, _, _, _, _⟩ := cells5 x4_1
  have _ := fz x4_1
  have _ := ltb x4_1
  obtain ⟨_, _, _⟩ := cells3 x4_2
  have _ := fz x4_2
  have _ := ltb x4_2
  have X4_1 := hid x4_1; clear x4_1
  have X4_2 := hid x4_2; clear x4_2
  have G4 := hid (G3.out.trans hg4)
  clear hg4
  go_wp2
  go_ret
  exact ⟨rfl, (G4.out).al _⟩
set_option maxRecDepth 20000 in
set_option maxHeartbeats 400000 in
theorem sspin_y (a b n c d t p q : Int) (w : World) (k k2 : Nat) (X1 : Hid (w.heap[k]? = some (.cells #[.int .i64 a, .int .i64 b, .int .i64 n, .int .i64 c, .int .i64 d] 35))) (X2 : Hid (w.heap[k2]? = some (.cells #[.int .i64 t, .int .i64 p, .int .i64 q] 42))) (h : scB a b n c d = true) (hi : inB t (-10000) 10000 = true) (hp : okB p q = true) (ge : eB a b n c d t = true) :
    Calls Try.prog 35 #[.pointer (some ⟨k, 0, none⟩), .pointer (some ⟨k2, 0, none⟩)] w fun e w' => e = .returned (.bool (liesB (lP a b n c d t) (lQ a b n c d t) (nP a b n t) (nQ a b n t) p q)) ∧ Gr w w' := by
  have O := hid (scB_all h)
  have ht := hid (ok_whole (t := t) (by have := in_bd hi; omega) (by have := in_bd hi; omega))
  have h := hid h
  have hi := hid hi
  have hp := hid hp
  have ge := hid ge
  go_enter Try.func35, Try.ntmps35
  obtain ⟨_, _, _, _, _⟩ := cells5 X1.out
  have _ := fz X1.out
  have _ := ltb X1.out
  obtain ⟨_, _, _⟩ := cells3 X2.out
  have _ := fz X2.out
  have _ := ltb X2.out
  go_wp2_with fail
  refine (sscrew_T _ _ _ _ _ _ _ (hid X1.out) h.out).mono ?_
  rintro e w1 ⟨rfl, hg1⟩
  have x1_1 := hg1.keep X1.out
  have x1_2 := hg1.keep X2.out
  obtain ⟨_, _, _, _, _⟩ := cells5 x1_1
  have _ := fz x1_1
  have _ := ltb x1_1
  obtain ⟨_, _, _⟩ := cells3 x1_2
  have _ := fz x1_2
  have _ := ltb x1_2
  have X1_1 := hid x1_1; clear x1_1
  have X1_2 := hid x1_2; clear x1_2
  have G1 := hid (hg1)
  clear hg1
  go_wp2_with fail
  refine (in_t _ _ _ _ hi.out).mono ?_
  rintro e w2 ⟨rfl, hg2⟩
  have x2_1 := hg2.keep X1_1.out
  have x2_2 := hg2.keep X1_2.out
  obtain ⟨_, _, _, _, _⟩ := cells5 x2_1
  have _ := fz x2_1
  have _ := ltb x2_1
  obtain ⟨_, _, _⟩ := cells3 x2_2
  have _ := fz x2_2
  have _ := ltb x2_2
  have X2_1 := hid x2_1; clear x2_1
  have X2_2 := hid x2_2; clear x2_2
  have G2 := hid (G1.out.trans hg2)
  clear hg2
  go_wp2_with fail
  refine (sok_t _ _ _ hp.out).mono ?_
  rintro e w3 ⟨rfl, hg3⟩
  have x3_1 := hg3.keep X2_1.out
  have x3_2 := hg3.keep X2_2.out
  obtain ⟨_, _, _, _, _⟩ := cells5 x3_1
  have _ := fz x3_1
  have _ := ltb x3_1
  obtain ⟨_, _, _⟩ := cells3 x3_2
  have _ := fz x3_2
  have _ := ltb x3_2
  have X3_1 := hid x3_1; clear x3_1
  have X3_2 := hid x3_2; clear x3_2
  have G3 := hid (G2.out.trans hg3)
  clear hg3
  go_wp2_with fail
  refine (sends_t _ _ _ _ _ _ _ _ (hid X3_1.out) O.out.1 ht.out O.out.2.1 O.out.2.2.1 O.out.2.2.2.1 (eB_all ge.out).1 (eB_all ge.out).2.1 (eB_all ge.out).2.2).mono ?_
  rintro e w4 ⟨rfl, hg4⟩
  have x4_1 := hg4.keep X3_1.out
  have x4_2 := hg4.keep X3_2.out
  obtain ⟨_, _, _, _, _⟩ := cells5 x4_1
  have _ := fz x4_1
  have _ := ltb x4_1
  obtain ⟨_, _, _⟩ := cells3 x4_2
  have _ := fz x4_2
  have _ := ltb x4_2
  have X4_1 := hid x4_1; clear x4_1
  have X4_2 := hid x4_2; clear x4_2
  have G4 := hid (G3.out.trans hg4)
  clear hg4
  go_wp2_with fail
  refine (sIn _ _ _ _ _ _ _ _ (hid (alloc1 (Gr.refl _)).1) (eB_all ge.out).2.2 (eB_all ge.out).2.1 hp.out).mono ?_
  rintro e w5 ⟨rfl, hg5⟩
  obtain ⟨x5_0, hz5, g5⟩ := alloc1 hg5
  have x5_1 := g5.keep X4_1.out
  have x5_2 := g5.keep X4_2.out
  obtain ⟨_, _, _, _, _⟩ := cells5 x5_1
  have _ := fz x5_1
  have _ := ltb x5_1
  obtain ⟨_, _, _⟩ := cells3 x5_2
  have _ := fz x5_2
  have _ := ltb x5_2
  obtain ⟨_, _, _, _⟩ := cells4 x5_0
  have _ := fz x5_0
  have _ := ltb x5_0
  have X5_1 := hid x5_1; clear x5_1
  have X5_2 := hid x5_2; clear x5_2
  have X5_0 := hid x5_0; clear x5_0
  have G5 := hid (G4.out.trans g5)
  clear hg5 g5
  go_wp2
  go_ret
  exact ⟨rfl, G5.out⟩
/-- spec.l02Spindle -/
theorem sspin (a b n c d t p q : Int) (w : World) (k k2 : Nat) (X1 : Hid (w.heap[k]? = some (.cells #[.int .i64 a, .int .i64 b, .int .i64 n, .int .i64 c, .int .i64 d] 35))) (X2 : Hid (w.heap[k2]? = some (.cells #[.int .i64 t, .int .i64 p, .int .i64 q] 42))) :
    Calls Try.prog 35 #[.pointer (some ⟨k, 0, none⟩), .pointer (some ⟨k2, 0, none⟩)] w fun e w' => e = .returned (.bool (sdB a b n c d t p q)) ∧ Gr w w' := by
  unfold sdB stB
  cases h : scB a b n c d with
  | false => exact sspin_f0 a b n c d t p q w k k2 X1 X2 h
  | true =>
    cases hi : inB t (-10000) 10000 with
    | false => exact sspin_f1 a b n c d t p q w k k2 X1 X2 h hi
    | true =>
      cases hp : okB p q with
      | false => exact sspin_f2 a b n c d t p q w k k2 X1 X2 h hi hp
      | true =>
        cases ge : eB a b n c d t with
        | false => exact sspin_f3 a b n c d t p q w k k2 X1 X2 h hi hp ge
        | true => exact sspin_y a b n c d t p q w k k2 X1 X2 h hi hp ge
theorem sspin_T (a b n c d t p q : Int) (w : World) (k k2 : Nat) (X1 : Hid (w.heap[k]? = some (.cells #[.int .i64 a, .int .i64 b, .int .i64 n, .int .i64 c, .int .i64 d] 35))) (X2 : Hid (w.heap[k2]? = some (.cells #[.int .i64 t, .int .i64 p, .int .i64 q] 42))) (h : sdB a b n c d t p q = true) :
    Calls Try.prog 35 #[.pointer (some ⟨k, 0, none⟩), .pointer (some ⟨k2, 0, none⟩)] w fun e w' => e = .returned (.bool true) ∧ Gr w w' :=
  (sspin a b n c d t p q w k k2 X1 X2).mono fun e w' ⟨he, hg⟩ => ⟨by rw [he, h], hg⟩
theorem sspin_F (a b n c d t p q : Int) (w : World) (k k2 : Nat) (X1 : Hid (w.heap[k]? = some (.cells #[.int .i64 a, .int .i64 b, .int .i64 n, .int .i64 c, .int .i64 d] 35))) (X2 : Hid (w.heap[k2]? = some (.cells #[.int .i64 t, .int .i64 p, .int .i64 q] 42))) (h : sdB a b n c d t p q = false) :
    Calls Try.prog 35 #[.pointer (some ⟨k, 0, none⟩), .pointer (some ⟨k2, 0, none⟩)] w fun e w' => e = .returned (.bool false) ∧ Gr w w' :=
  (sspin a b n c d t p q w k k2 X1 X2).mono fun e w' ⟨he, hg⟩ => ⟨by rw [he, h], hg⟩
set_option maxRecDepth 20000 in
set_option maxHeartbeats 400000 in
theorem sValidSpindle (a b n c d t p q : Int) (w : World) :
    Calls Try.prog 16 #[sc a b n c d, spi t p q] w fun e w' => e = .returned (.bool (sdB a b n c d t p q)) ∧ Gr w w' := by
  go_enter Try.func16, Try.ntmps16
  go_wp2_with fail
  refine (sspin _ _ _ _ _ _ _ _ _ _ _ (hid (alloc2 (Gr.refl _)).1) (hid (alloc2 (Gr.refl _)).2.1)).mono ?_
  rintro e w1 ⟨rfl, hg1⟩
  obtain ⟨x1_0, x1_1, hz1, g1⟩ := alloc2 hg1
  obtain ⟨_, _, _, _, _⟩ := cells5 x1_0
  have _ := fz x1_0
  have _ := ltb x1_0
  obtain ⟨_, _, _⟩ := cells3 x1_1
  have _ := fz x1_1
  have _ := ltb x1_1
  have X1_0 := hid x1_0; clear x1_0
  have X1_1 := hid x1_1; clear x1_1
  have G1 := hid (g1)
  clear hg1 g1
  go_wp2
  go_ret
  exact ⟨rfl, G1.out⟩
set_option maxRecDepth 20000 in
set_option maxHeartbeats 400000 in
theorem cspin_ok (a b n c d t p q : Int) (w : World) (k k2 : Nat) (X1 : Hid (w.heap[k]? = some (.cells #[.int .i64 a, .int .i64 b, .int .i64 n, .int .i64 c, .int .i64 d] 35))) (X2 : Hid (w.heap[k2]? = some (.cells #[.int .i64 t, .int .i64 p, .int .i64 q] 42))) (h1 : okB a b = true) (ht : okB t 1 = true) (hn : okB n 1 = true) (hz : n ≠ 0) (h2 : okB c d = true) (g : eB a b n c d t = true) :
    Calls Try.prog 38 #[.pointer (some ⟨k, 0, none⟩), .pointer (some ⟨k2, 0, none⟩)] w fun e w' => e = .returned (sp (lP a b n c d t) (lQ a b n c d t) (nP a b n t) (nQ a b n t)) ∧ Gr w w' := by
  have h1 := hid h1; have ht := hid ht; have hn := hid hn; have hz := hid hz; have h2 := hid h2; have g := hid g
  go_enter Try.func38, Try.ntmps38
  obtain ⟨_, _, _, _, _⟩ := cells5 X1.out
  have _ := fz X1.out
  have _ := ltb X1.out
  obtain ⟨_, _, _⟩ := cells3 X2.out
  have _ := fz X2.out
  have _ := ltb X2.out
  go_wp2_with fail
  refine (ifree_ok _ _ _ _ _ _ _ h1.out ht.out hn.out hz.out h2.out (eB_all g.out).1 (eB_all g.out).2.1 (eB_all g.out).2.2).mono ?_
  rintro e w1 ⟨rfl, hg1⟩
  obtain ⟨x1_0, hz1, g1⟩ := alloc1 hg1
  have x1_1 := g1.keep X1.out
  have x1_2 := g1.keep X2.out
  obtain ⟨_, _, _, _⟩ := cells4 x1_0
  have _ := fz x1_0
  have _ := ltb x1_0
  obtain ⟨_, _, _, _, _⟩ := cells5 x1_1
  have _ := fz x1_1
  have _ := ltb x1_1
  obtain ⟨_, _, _⟩ := cells3 x1_2
  have _ := fz x1_2
  have _ := ltb x1_2
  have X1_0 := hid x1_0; clear x1_0
  have X1_1 := hid x1_1; clear x1_1
  have X1_2 := hid x1_2; clear x1_2
  have G1 := hid (g1)
  clear hg1 g1
  go_wp2
  refine bodyPost_ret (v := sp (lP a b n c d t) (lQ a b n c d t) (nP a b n t) (nQ a b n t)) (by simp [results, Try.results38, go_sem, *]) rfl ⟨rfl, ?_⟩
  exact ((((G1.out).setCell (by simp <;> omega) _).setCell (by simp <;> omega) _).setCell (by simp <;> omega) _).setCell (by simp <;> omega) _
set_option maxRecDepth 20000 in
set_option maxHeartbeats 400000 in
theorem cspin_no (a b n c d t p q : Int) (w : World) (k k2 : Nat) (X1 : Hid (w.heap[k]? = some (.cells #[.int .i64 a, .int .i64 b, .int .i64 n, .int .i64 c, .int .i64 d] 35))) (X2 : Hid (w.heap[k2]? = some (.cells #[.int .i64 t, .int .i64 p, .int .i64 q] 42))) (h1 : okB a b = true) (ht : okB t 1 = true) (hn : okB n 1 = true) (hz : n ≠ 0) (h2 : okB c d = true) (g : eB a b n c d t = false) :
    Calls Try.prog 38 #[.pointer (some ⟨k, 0, none⟩), .pointer (some ⟨k2, 0, none⟩)] w fun e w' => (∃ x y, e = .panicked [{ v := .iface 111 (fr x y), recovered := false }]) ∧ Gr w w' := by
  have h1 := hid h1; have ht := hid ht; have hn := hid hn; have hz := hid hz; have h2 := hid h2; have g := hid g
  go_enter Try.func38, Try.ntmps38
  obtain ⟨_, _, _, _, _⟩ := cells5 X1.out
  have _ := fz X1.out
  have _ := ltb X1.out
  obtain ⟨_, _, _⟩ := cells3 X2.out
  have _ := fz X2.out
  have _ := ltb X2.out
  go_wp2_with fail
  refine (ifree_no _ _ _ _ _ _ _ h1.out ht.out hn.out hz.out h2.out g.out).mono ?_
  rintro e w1 ⟨⟨xp, yp, rfl⟩, hg1⟩
  obtain ⟨x1_0, hz1, g1⟩ := alloc1 hg1
  have x1_1 := g1.keep X1.out
  have x1_2 := g1.keep X2.out
  obtain ⟨_, _, _, _⟩ := cells4 x1_0
  have _ := fz x1_0
  have _ := ltb x1_0
  obtain ⟨_, _, _, _, _⟩ := cells5 x1_1
  have _ := fz x1_1
  have _ := ltb x1_1
  obtain ⟨_, _, _⟩ := cells3 x1_2
  have _ := fz x1_2
  have _ := ltb x1_2
  have X1_0 := hid x1_0; clear x1_0
  have X1_1 := hid x1_1; clear x1_1
  have X1_2 := hid x1_2; clear x1_2
  have G1 := hid (g1)
  clear hg1 g1
  exact ⟨rfl, ⟨xp, yp, rfl⟩, G1.out⟩
theorem iInSpan_y (a b c d p q : Int) (w : World) (h : spB a b c d = true) (h3 : okB p q = true) :
    Calls Try.prog 40 #[sp a b c d, fr p q] w fun e w' => e = .returned (.tuple #[.bool (liesB a b c d p q), .int .i64 0]) ∧ Gr w w' := by
  unfold liesB
  cases hd : decide (cmpI a b p q ≤ 0) with
  | false => exact iInSpan_yn _ _ _ _ _ _ w h h3 hd
  | true => exact iInSpan_yy _ _ _ _ _ _ w h h3 hd
set_option maxRecDepth 20000 in
set_option maxHeartbeats 400000 in
theorem ispin_f0 (a b n c d t p q : Int) (w : World) (h : scB a b n c d = false) :
    Calls Try.prog 18 #[sc a b n c d, spi t p q] w fun e w' => e = .returned (.bool (false)) ∧ Gr w w' := by
  have h := hid h
  go_enter Try.func18, Try.ntmps18
  go_wp2_with fail
  refine (iscrew_F _ _ _ _ _ _ h.out).mono ?_
  rintro e w1 ⟨rfl, hg1⟩
  obtain ⟨x1_0, x1_1, hz1, g1⟩ := alloc2 hg1
  obtain ⟨_, _, _, _, _⟩ := cells5 x1_0
  have _ := fz x1_0
  have _ := ltb x1_0
  obtain ⟨_, _, _⟩ := cells3 x1_1
  have _ := fz x1_1
  have _ := ltb x1_1
  have X1_0 := hid x1_0; clear x1_0
  have X1_1 := hid x1_1; clear x1_1
  have G1 := hid (g1)
  clear hg1 g1
  go_wp2
  go_ret
  exact ⟨rfl, G1.out⟩
set_option maxRecDepth 20000 in
set_option maxHeartbeats 400000 in
theorem ispin_f1 (a b n c d t p q : Int) (w : World) (h : scB a b n c d = true) (hi : gtB t 10000 = true) :
    Calls Try.prog 18 #[sc a b n c d, spi t p q] w fun e w' => e = .returned (.bool (false)) ∧ Gr w w' := by
  have h := hid h
  have hi := hid hi
  go_enter Try.func18, Try.ntmps18
  go_wp2_with fail
  refine (iscrew_T _ _ _ _ _ _ h.out).mono ?_
  rintro e w1 ⟨rfl, hg1⟩
  obtain ⟨x1_0, x1_1, hz1, g1⟩ := alloc2 hg1
  obtain ⟨_, _, _, _, _⟩ := cells5 x1_0
  have _ := fz x1_0
  have _ := ltb x1_0
  obtain ⟨_, _, _⟩ := cells3 x1_1
  have _ := fz x1_1
  have _ := ltb x1_1
  have X1_0 := hid x1_0; clear x1_0
  have X1_1 := hid x1_1; clear x1_1
  have G1 := hid (g1)
  clear hg1 g1
  go_wp2_with fail
  refine (igt_t _ _ _ (by omega) (by omega) hi.out).mono ?_
  rintro e w2 ⟨rfl, hg2⟩
  have x2_1 := hg2.keep X1_0.out
  have x2_2 := hg2.keep X1_1.out
  obtain ⟨_, _, _, _, _⟩ := cells5 x2_1
  have _ := fz x2_1
  have _ := ltb x2_1
  obtain ⟨_, _, _⟩ := cells3 x2_2
  have _ := fz x2_2
  have _ := ltb x2_2
  have X2_1 := hid x2_1; clear x2_1
  have X2_2 := hid x2_2; clear x2_2
  have G2 := hid (G1.out.trans hg2)
  clear hg2
  go_wp2
  go_ret
  exact ⟨rfl, G2.out⟩
set_option maxRecDepth 20000 in
set_option maxHeartbeats 400000 in
theorem ispin_f3 (a b n c d t p q : Int) (w : World) (h : scB a b n c d = true) (hi : gtB t 10000 = false) (ge : eB a b n c d t = false) :
    Calls Try.prog 18 #[sc a b n c d, spi t p q] w fun e w' => e = .returned (.bool (false)) ∧ Gr w w' := by
  have O := hid (scB_all h)
  have ht := hid (ok_whole (t := t) (by have := gtb hi; omega) (by have := gtb hi; omega))
  have h := hid h
  have hi := hid hi
  have ge := hid ge
  go_enter Try.func18, Try.ntmps18
  go_wp2_with fail
  refine (iscrew_T _ _ _ _ _ _ h.out).mono ?_
  rintro e w1 ⟨rfl, hg1⟩
  obtain ⟨x1_0, x1_1, hz1, g1⟩ := alloc2 hg1
  obtain ⟨_, _, _, _, _⟩ := cells5 x1_0
  have _ := fz x1_0
  have _ := ltb x1_0
  obtain ⟨_, _, _⟩ := cells3 x1_1
  have _ := fz x1_1
  have _ := ltb x1_1
  have X1_0 := hid x1_0; clear x1_0
  have X1_1 := hid x1_1; clear x1_1
  have G1 := hid (g1)
  clear hg1 g1
  go_wp2_with fail
  refine (igt_f _ _ _ (by omega) (by omega) hi.out).mono ?_
  rintro e w2 ⟨rfl, hg2⟩
  have x2_1 := hg2.keep X1_0.out
  have x2_2 := hg2.keep X1_1.out
  obtain ⟨_, _, _, _, _⟩ := cells5 x2_1
  have _ := fz x2_1
  have _ := ltb x2_1
  obtain ⟨_, _, _⟩ := cells3 x2_2
  have _ := fz x2_2
  have _ := ltb x2_2
  have X2_1 := hid x2_1; clear x2_1
  have X2_2 := hid x2_2; clear x2_2
  have G2 := hid (G1.out.trans hg2)
  clear hg2
  go_wp2_with fail
  refine (told_great_S 38 _ _ (fun _ => by kernel_rfl) (fun w' hg' => cspin_no a b n c d t p q w' _ _ (hid (hg'.keep X2_1.out)) (hid (hg'.keep X2_2.out)) O.out.1 ht.out O.out.2.1 O.out.2.2.1 O.out.2.2.2.1 ge.out)).mono ?_
  rintro e w3 ⟨rfl, hg3⟩
  have x3_1 := hg3.keep X2_1.out
  have x3_2 := hg3.keep X2_2.out
  obtain ⟨_, _, _, _, _⟩ := cells5 x3_1
  have _ := fz x3_1
  have _ := ltb x3_1
  obtain ⟨_, _, _⟩ := cells3 x3_2
  have _ := fz x3_2
  have _ := ltb x3_2
  have X3_1 := hid x3_1; clear x3_1
  have X3_2 := hid x3_2; clear x3_2
  have G3 := hid (G2.out.trans hg3)
  clear hg3
  go_wp2
  go_ret
  exact ⟨rfl, (G3.out).al _⟩
set_option maxRecDepth 20000 in
set_option maxHeartbeats 400000 in
theorem ispin_f4 (a b n c d t p q : Int) (w : World) (h : scB a b n c d = true) (hi : gtB t 10000 = false) (ge : eB a b n c d t = true) (hp : okB p q = false) :
    Calls Try.prog 18 #[sc a b n c d, spi t p q] w fun e w' => e = .returned (.bool (false)) ∧ Gr w w' := by
  have O := hid (scB_all h)
  have ht := hid (ok_whole (t := t) (by have := gtb hi; omega) (by have := gtb hi; omega))
  have E := hid (ends_ok h ge)
  have h := hid h
  have hi := hid hi
  have ge := hid ge
  have hp := hid hp
  go_enter Try.func18, Try.ntmps18
  go_wp2_with fail
  refine (iscrew_T _ _ _ _ _ _ h.out).mono ?_
  rintro e w1 ⟨rfl, hg1⟩
  obtain ⟨x1_0, x1_1, hz1, g1⟩ := alloc2 hg1
  obtain ⟨_, _, _, _, _⟩ := cells5 x1_0
  have _ := fz x1_0
  have _ := ltb x1_0
  obtain ⟨_, _, _⟩ := cells3 x1_1
  have _ := fz x1_1
  have _ := ltb x1_1
  have X1_0 := hid x1_0; clear x1_0
  have X1_1 := hid x1_1; clear x1_1
  have G1 := hid (g1)
  clear hg1 g1
  go_wp2_with fail
  refine (igt_f _ _ _ (by omega) (by omega) hi.out).mono ?_
  rintro e w2 ⟨rfl, hg2⟩
  have x2_1 := hg2.keep X1_0.out
  have x2_2 := hg2.keep X1_1.out
  obtain ⟨_, _, _, _, _⟩ := cells5 x2_1
  have _ := fz x2_1
  have _ := ltb x2_1
  obtain ⟨_, _, _⟩ := cells3 x2_2
  have _ := fz x2_2
  have _ := ltb x2_2
  have X2_1 := hid x2_1; clear x2_1
  have X2_2 := hid x2_2; clear x2_2
  have G2 := hid (G1.out.trans hg2)
  clear hg2
  go_wp2_with fail
  refine (told_ok_S 38 _ _ _ _ _ _ (fun _ => by kernel_rfl) (fun w' hg' => cspin_ok a b n c d t p q w' _ _ (hid (hg'.keep X2_1.out)) (hid (hg'.keep X2_2.out)) O.out.1 ht.out O.out.2.1 O.out.2.2.1 O.out.2.2.2.1 ge.out)).mono ?_
  rintro e w3 ⟨rfl, hg3⟩
  have x3_1 := hg3.keep X2_1.out
  have x3_2 := hg3.keep X2_2.out
  obtain ⟨_, _, _, _, _⟩ := cells5 x3_1
  have _ := fz x3_1
  have _ := ltb x3_1
  obtain ⟨_, _, _⟩ := cells3 x3_2
  have _ := fz x3_2
  have _ := ltb x3_2
  have X3_1 := hid x3_1; clear x3_1
  have X3_2 := hid x3_2; clear x3_2
  have G3 := hid (G2.out.trans hg3)
  clear hg3
  go_wp2_with fail
  refine (iInSpan_n2 _ _ _ _ _ _ _ E.out hp.out).mono ?_
  rintro e w4 ⟨rfl, hg4⟩
  obtain ⟨x4_0, hz4, g4⟩ := alloc1 hg4
  have x4_1 := g4.keep X3_1.out
  have x4_2 := g4.keep X3_2.out
  obtain ⟨_, _, _, _, _⟩ := cells5 x4_1
  have _ := fz x4_1
  have _ := ltb x4_1
  obtain ⟨_, _, _⟩ := cells3 x4_2
  have _ := fz x4_2
  have _ := ltb x4_2
  obtain ⟨_, _, _, _⟩ := cells4 x4_0
  have _ := fz x4_0
  have _ := ltb x4_0
  have X4_1 := hid x4_1; clear x4_1
  have X4_2 := hid x4_2; clear x4_2
  have X4_0 := hid x4_0; clear x4_0
  have G4 := hid (G3.out.trans g4)
  clear hg4 g4
  go_wp2
  go_ret
  exact ⟨rfl, G4.out⟩
set_option maxRecDepth 20000 in
set_option maxHeartbeats 400000 in
theorem ispin_y (a b n c d t p q : Int) (w : World) (h : scB a b n c d = true) (hi : gtB t 10000 = false) (ge : eB a b n c d t = true) (hp : okB p q = true) :
    Calls Try.prog 18 #[sc a b n c d, spi t p q] w fun e w' => e = .returned (.bool (liesB (lP a b n c d t) (lQ a b n c d t) (nP a b n t) (nQ a b n t) p q)) ∧ Gr w w' := by
  have O := hid (scB_all h)
  have ht := hid (ok_whole (t := t) (by have := gtb hi; omega) (by have := gtb hi; omega))
  have E := hid (ends_ok h ge)
  have h := hid h
  have hi := hid hi
  have ge := hid ge
  have hp := hid hp
  go_enter Try.func18, Try.ntmps18
  go_wp2_with fail
  refine (iscrew_T _ _ _ _ _ _ h.out).mono ?_
  rintro e w1 ⟨rfl, hg1⟩
  obtain ⟨x1_0, x1_1, hz1, g1⟩ := alloc2 hg1
  obtain ⟨_, _, _, _, _⟩ := cells5 x1_0
  have _ := fz x1_0
  have _ := ltb x1_0
  obtain ⟨_, _, _⟩ := cells3 x1_1
  have _ := fz x1_1
  have _ := ltb x1_1
  have X1_0 := hid x1_0; clear x1_0
  have X1_1 := hid x1_1; clear x1_1
  have G1 := hid (g1)
  clear hg1 g1
  go_wp2_with fail
  refine (igt_f _ _ _ (by omega) (by omega) hi.out).mono ?_
  rintro e w2 ⟨rfl, hg2⟩
  have x2_1 := hg2.keep X1_0.out
  have x2_2 := hg2.keep X1_1.out
  obtain ⟨_, _, _, _, _⟩ := cells5 x2_1
  have _ := fz x2_1
  have _ := ltb x2_1
  obtain ⟨_, _, _⟩ := cells3 x2_2
  have _ := fz x2_2
  have _ := ltb x2_2
  have X2_1 := hid x2_1; clear x2_1
  have X2_2 := hid x2_2; clear x2_2
  have G2 := hid (G1.out.trans hg2)
  clear hg2
  go_wp2_with fail
  refine (told_ok_S 38 _ _ _ _ _ _ (fun _ => by kernel_rfl) (fun w' hg' => cspin_ok a b n c d t p q w' _ _ (hid (hg'.keep X2_1.out)) (hid (hg'.keep X2_2.out)) O.out.1 ht.out O.out.2.1 O.out.2.2.1 O.out.2.2.2.1 ge.out)).mono ?_
  rintro e w3 ⟨rfl, hg3⟩
  have x3_1 := hg3.keep X2_1.out
  have x3_2 := hg3.keep X2_2.out
  obtain ⟨_, _, _, _, _⟩ := cells5 x3_1
  have _ := fz x3_1
  have _ := ltb x3_1
  obtain ⟨_, _, _⟩ := cells3 x3_2
  have _ := fz x3_2
  have _ := ltb x3_2
  have X3_1 := hid x3_1; clear x3_1
  have X3_2 := hid x3_2; clear x3_2
  have G3 := hid (G2.out.trans hg3)
  clear hg3
  go_wp2_with fail
  refine (iInSpan_y _ _ _ _ _ _ _ E.out hp.out).mono ?_
  rintro e w4 ⟨rfl, hg4⟩
  obtain ⟨x4_0, hz4, g4⟩ := alloc1 hg4
  have x4_1 := g4.keep X3_1.out
  have x4_2 := g4.keep X3_2.out
  obtain ⟨_, _, _, _, _⟩ := cells5 x4_1
  have _ := fz x4_1
  have _ := ltb x4_1
  obtain ⟨_, _, _⟩ := cells3 x4_2
  have _ := fz x4_2
  have _ := ltb x4_2
  obtain ⟨_, _, _, _⟩ := cells4 x4_0
  have _ := fz x4_0
  have _ := ltb x4_0
  have X4_1 := hid x4_1; clear x4_1
  have X4_2 := hid x4_2; clear x4_2
  have X4_0 := hid x4_0; clear x4_0
  have G4 := hid (G3.out.trans g4)
  clear hg4 g4
  go_wp2
  go_ret
  exact ⟨rfl, G4.out⟩
theorem iValidSpindle (a b n c d t p q : Int) (w : World) :
    Calls Try.prog 18 #[sc a b n c d, spi t p q] w fun e w' => e = .returned (.bool (sdB a b n c d t p q)) ∧ Gr w w' := by
  unfold sdB stB
  rw [gt_in']
  cases h : scB a b n c d with
  | false => exact ispin_f0 a b n c d t p q w h
  | true =>
    cases hi : gtB t 10000 with
    | true => exact ispin_f1 a b n c d t p q w h hi
    | false =>
      cases ge : eB a b n c d t with
      | false => simpa using ispin_f3 a b n c d t p q w h hi ge
      | true =>
        cases hp : okB p q with
        | false => exact ispin_f4 a b n c d t p q w h hi ge hp
        | true => exact ispin_y a b n c d t p q w h hi ge hp
theorem ispin_T (a b n c d t p q : Int) (w : World) (h : sdB a b n c d t p q = true) :
    Calls Try.prog 18 #[sc a b n c d, spi t p q] w fun e w' => e = .returned (.bool true) ∧ Gr w w' :=
  (iValidSpindle a b n c d t p q w).mono fun e w' ⟨he, hg⟩ => ⟨by rw [he, h], hg⟩
theorem ispin_F (a b n c d t p q : Int) (w : World) (h : sdB a b n c d t p q = false) :
    Calls Try.prog 18 #[sc a b n c d, spi t p q] w fun e w' => e = .returned (.bool false) ∧ Gr w w' :=
  (iValidSpindle a b n c d t p q w).mono fun e w' ⟨he, hg⟩ => ⟨by rw [he, h], hg⟩
theorem bothValidSpindle (a b n c d t p q : Int) : ∃ R : Bool, (∀ w, Calls Try.prog 16 #[sc a b n c d, spi t p q] w fun e w' => e = .returned (.bool R) ∧ Gr w w') ∧ (∀ w, Calls Try.prog 18 #[sc a b n c d, spi t p q] w fun e w' => e = .returned (.bool R) ∧ Gr w w') :=
  ⟨_, sValidSpindle a b n c d t p q, iValidSpindle a b n c d t p q⟩
theorem sdB_all {a b n c d t p q : Int} (h : sdB a b n c d t p q = true) : scB a b n c d = true ∧ (-10000 ≤ t ∧ t ≤ 10000) ∧ okB p q = true ∧ eB a b n c d t = true ∧ liesB (lP a b n c d t) (lQ a b n c d t) (nP a b n t) (nQ a b n t) p q = true := by
  unfold sdB stB at h
  simp only [Bool.and_eq_true] at h
  exact ⟨h.1, in_bd h.2.1, h.2.2.1, h.2.2.2.1, h.2.2.2.2⟩
set_option maxRecDepth 20000 in
set_option maxHeartbeats 400000 in
theorem sRead_no (a b n c d t p q : Int) (w : World) (h : sdB a b n c d t p q = false) :
    Calls Try.prog 22 #[sc a b n c d, spi t p q] w fun e w' => e = .returned (.tuple #[fr 0 0, .int .i64 1]) ∧ Gr w w' := by
  have h := hid h
  go_enter Try.func22, Try.ntmps22
  go_wp2_with fail
  refine (sspin_F _ _ _ _ _ _ _ _ _ _ _ (hid (alloc3 (Gr.refl _)).1) (hid (alloc3 (Gr.refl _)).2.1) h.out).mono ?_
  rintro e w1 ⟨rfl, hg1⟩
  obtain ⟨x1_0, x1_1, x1_2, hz1, g1⟩ := alloc3 hg1
  obtain ⟨_, _, _, _, _⟩ := cells5 x1_0
  have _ := fz x1_0
  have _ := ltb x1_0
  obtain ⟨_, _, _⟩ := cells3 x1_1
  have _ := fz x1_1
  have _ := ltb x1_1
  obtain ⟨_, _⟩ := cells2 x1_2
  have _ := fz x1_2
  have _ := ltb x1_2
  have X1_0 := hid x1_0; clear x1_0
  have X1_1 := hid x1_1; clear x1_1
  have X1_2 := hid x1_2; clear x1_2
  have G1 := hid (g1)
  clear hg1 g1
  go_wp2
  refine bodyPost_ret (v := .tuple #[fr 0 0, .int .i64 1]) (by simp [results, Try.results22, go_sem, *]) rfl ⟨rfl, ?_⟩
  exact ((G1.out).setCell (by simp <;> omega) _).setCell (by simp <;> omega) _
set_option maxRecDepth 20000 in
set_option maxHeartbeats 400000 in
theorem sRead_yes (a b n c d t p q : Int) (w : World) (h : sdB a b n c d t p q = true) :
    Calls Try.prog 22 #[sc a b n c d, spi t p q] w fun e w' => e = .returned (.tuple #[fr (nP a b n t) (nQ a b n t), .int .i64 0]) ∧ Gr w w' := by
  obtain ⟨hs, hr, _, he, _⟩ := sdB_all h
  have O := hid (scB_all hs)
  have ht := hid (ok_whole (t := t) (by omega) (by omega))
  have g1 := hid (eB_all he).1; have g2 := hid (eB_all he).2.1
  have h := hid h
  clear hs hr he
  go_enter Try.func22, Try.ntmps22
  go_wp2_with fail
  refine (sspin_T _ _ _ _ _ _ _ _ _ _ _ (hid (alloc3 (Gr.refl _)).1) (hid (alloc3 (Gr.refl _)).2.1) h.out).mono ?_
  rintro e w1 ⟨rfl, hg1⟩
  obtain ⟨x1_0, x1_1, x1_2, hz1, g1⟩ := alloc3 hg1
  obtain ⟨_, _, _, _, _⟩ := cells5 x1_0
  have _ := fz x1_0
  have _ := ltb x1_0
  obtain ⟨_, _, _⟩ := cells3 x1_1
  have _ := fz x1_1
  have _ := ltb x1_1
  obtain ⟨_, _⟩ := cells2 x1_2
  have _ := fz x1_2
  have _ := ltb x1_2
  have X1_0 := hid x1_0; clear x1_0
  have X1_1 := hid x1_1; clear x1_1
  have X1_2 := hid x1_2; clear x1_2
  have G1 := hid (g1)
  clear hg1 g1
  go_wp2_with fail
  refine (snut_t _ _ _ _ _ _ _ _ (hid X1_0.out) O.out.1 ht.out O.out.2.1 O.out.2.2.1 g1.out g2.out).mono ?_
  rintro e w2 ⟨rfl, hg2⟩
  have x2_1 := hg2.keep X1_0.out
  have x2_2 := hg2.keep X1_1.out
  have x2_3 := hg2.keep X1_2.out
  obtain ⟨_, _, _, _, _⟩ := cells5 x2_1
  have _ := fz x2_1
  have _ := ltb x2_1
  obtain ⟨_, _, _⟩ := cells3 x2_2
  have _ := fz x2_2
  have _ := ltb x2_2
  obtain ⟨_, _⟩ := cells2 x2_3
  have _ := fz x2_3
  have _ := ltb x2_3
  have X2_1 := hid x2_1; clear x2_1
  have X2_2 := hid x2_2; clear x2_2
  have X2_3 := hid x2_3; clear x2_3
  have G2 := hid (G1.out.trans hg2)
  clear hg2
  go_wp2
  refine bodyPost_ret (v := .tuple #[fr (nP a b n t) (nQ a b n t), .int .i64 0]) (by simp [results, Try.results22, go_sem, *]) rfl ⟨rfl, ?_⟩
  exact ((G2.out).setCell (by simp <;> omega) _).setCell (by simp <;> omega) _
set_option maxRecDepth 20000 in
set_option maxHeartbeats 400000 in
theorem iRead_no (a b n c d t p q : Int) (w : World) (h : sdB a b n c d t p q = false) :
    Calls Try.prog 23 #[sc a b n c d, spi t p q] w fun e w' => e = .returned (.tuple #[fr 0 0, .int .i64 1]) ∧ Gr w w' := by
  have h := hid h
  go_enter Try.func23, Try.ntmps23
  go_wp2_with fail
  refine (ispin_F _ _ _ _ _ _ _ _ _ h.out).mono ?_
  rintro e w1 ⟨rfl, hg1⟩
  obtain ⟨x1_0, x1_1, x1_2, hz1, g1⟩ := alloc3 hg1
  obtain ⟨_, _, _, _, _⟩ := cells5 x1_0
  have _ := fz x1_0
  have _ := ltb x1_0
  obtain ⟨_, _, _⟩ := cells3 x1_1
  have _ := fz x1_1
  have _ := ltb x1_1
  obtain ⟨_, _⟩ := cells2 x1_2
  have _ := fz x1_2
  have _ := ltb x1_2
  have X1_0 := hid x1_0; clear x1_0
  have X1_1 := hid x1_1; clear x1_1
  have X1_2 := hid x1_2; clear x1_2
  have G1 := hid (g1)
  clear hg1 g1
  go_wp2
  refine bodyPost_ret (v := .tuple #[fr 0 0, .int .i64 1]) (by simp [results, Try.results23, go_sem, *]) rfl ⟨rfl, ?_⟩
  exact ((G1.out).setCell (by simp <;> omega) _).setCell (by simp <;> omega) _
set_option maxRecDepth 20000 in
set_option maxHeartbeats 400000 in
theorem iRead_yes (a b n c d t p q : Int) (w : World) (h : sdB a b n c d t p q = true) :
    Calls Try.prog 23 #[sc a b n c d, spi t p q] w fun e w' => e = .returned (.tuple #[fr (nP a b n t) (nQ a b n t), .int .i64 0]) ∧ Gr w w' := by
  obtain ⟨hs, hr, _, he, _⟩ := sdB_all h
  have O := hid (scB_all hs)
  have ht := hid (ok_whole (t := t) (by omega) (by omega))
  have g1 := hid (eB_all he).1; have g2 := hid (eB_all he).2.1
  have h := hid h
  clear hs hr he
  go_enter Try.func23, Try.ntmps23
  go_wp2_with fail
  refine (ispin_T _ _ _ _ _ _ _ _ _ h.out).mono ?_
  rintro e w1 ⟨rfl, hg1⟩
  obtain ⟨x1_0, x1_1, x1_2, hz1, g1⟩ := alloc3 hg1
  obtain ⟨_, _, _, _, _⟩ := cells5 x1_0
  have _ := fz x1_0
  have _ := ltb x1_0
  obtain ⟨_, _, _⟩ := cells3 x1_1
  have _ := fz x1_1
  have _ := ltb x1_1
  obtain ⟨_, _⟩ := cells2 x1_2
  have _ := fz x1_2
  have _ := ltb x1_2
  have X1_0 := hid x1_0; clear x1_0
  have X1_1 := hid x1_1; clear x1_1
  have X1_2 := hid x1_2; clear x1_2
  have G1 := hid (g1)
  clear hg1 g1
  go_wp2_with fail
  refine (inut_ok _ _ _ _ _ _ _ O.out.1 ht.out O.out.2.1 O.out.2.2.1 g1.out g2.out).mono ?_
  rintro e w2 ⟨rfl, hg2⟩
  have x2_1 := hg2.keep X1_0.out
  have x2_2 := hg2.keep X1_1.out
  have x2_3 := hg2.keep X1_2.out
  obtain ⟨_, _, _, _, _⟩ := cells5 x2_1
  have _ := fz x2_1
  have _ := ltb x2_1
  obtain ⟨_, _, _⟩ := cells3 x2_2
  have _ := fz x2_2
  have _ := ltb x2_2
  obtain ⟨_, _⟩ := cells2 x2_3
  have _ := fz x2_3
  have _ := ltb x2_3
  have X2_1 := hid x2_1; clear x2_1
  have X2_2 := hid x2_2; clear x2_2
  have X2_3 := hid x2_3; clear x2_3
  have G2 := hid (G1.out.trans hg2)
  clear hg2
  go_wp2
  refine bodyPost_ret (v := .tuple #[fr (nP a b n t) (nQ a b n t), .int .i64 0]) (by simp [results, Try.results23, go_sem, *]) rfl ⟨rfl, ?_⟩
  exact ((G2.out).setCell (by simp <;> omega) _).setCell (by simp <;> omega) _
theorem bothReadSpindle (a b n c d t p q : Int) : ∃ P Q C : Int, (∀ w, Calls Try.prog 22 #[sc a b n c d, spi t p q] w fun e w' => e = .returned (.tuple #[fr P Q, .int .i64 C]) ∧ Gr w w') ∧
    (∀ w, Calls Try.prog 23 #[sc a b n c d, spi t p q] w fun e w' => e = .returned (.tuple #[fr P Q, .int .i64 C]) ∧ Gr w w') := by
  cases h : sdB a b n c d t p q with
  | false => exact ⟨0, 0, 1, fun w => sRead_no _ _ _ _ _ _ _ _ w h, fun w => iRead_no _ _ _ _ _ _ _ _ w h⟩
  | true => exact ⟨_, _, 0, fun w => sRead_yes _ _ _ _ _ _ _ _ w h, fun w => iRead_yes _ _ _ _ _ _ _ _ w h⟩
end Go.Proofs.Ytjcebojmfoppaaa
