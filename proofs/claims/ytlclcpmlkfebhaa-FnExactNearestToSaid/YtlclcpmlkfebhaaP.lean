/- WALKS: NearestTo, of the program and of the reference. -/
import Derived.Test.YtlclcpmlkfebhaaO
import Derived.Test.YtlclcpmlkfebhaaJ
import Derived.Test.YtlclcpmlkfebhaaK
namespace Go.Proofs.Ytlclcpmlkfebhaa
open Go.RowKit Go.Sort

def nearI (a b c d : Int) : Int := downI (2 * (a * d) + b * c) (2 * (b * c))
theorem near_bd {a b c d : Int} (h1 : okB a b = true) (h2 : okB c d = true) (hc : 0 < c) :
    (-1000000000000000000 ≤ a * d ∧ a * d ≤ 1000000000000000000) ∧ (1 ≤ b * c ∧ b * c ≤ 1000000000000000000) := by
  obtain ⟨b1, b2, b3, b4⟩ := okB_bd h1
  obtain ⟨d1, d2, d3, d4⟩ := okB_bd h2
  have q2 := mul_bd (x := b) (y := c) (by omega) b2 d3 d4
  have : 0 < b * c := Int.mul_pos (by omega) hc
  exact ⟨mul_bd b3 b4 (by omega) d2, by omega, q2.2⟩

set_option maxHeartbeats 400000 in
theorem sInteger_yes (n : Int) (w : World) (hk : inB n (-1000000000) 1000000000 = true) :
    Calls Try.prog 34 #[.int .i64 n] w fun e w' => e = .returned (.tuple #[.int .i64 n, .int .i64 0]) ∧ w = w' := by
  go_enter Try.func34, Try.ntmps34
  go_wp2_with (go_at_call 49; refine (in_any _ _ _ _).mono ?_; rintro e w1 ⟨rfl, rfl⟩)
  go_ret2
  exact ⟨rfl, rfl⟩
set_option maxHeartbeats 400000 in
theorem sInteger_no (n : Int) (w : World) (hk : inB n (-1000000000) 1000000000 = false) :
    Calls Try.prog 34 #[.int .i64 n] w fun e w' => e = .returned (.tuple #[.int .i64 0, .int .i64 3]) ∧ w = w' := by
  go_enter Try.func34, Try.ntmps34
  go_wp2_with (go_at_call 49; refine (in_any _ _ _ _).mono ?_; rintro e w1 ⟨rfl, rfl⟩)
  go_ret2
  exact ⟨rfl, rfl⟩
set_option maxHeartbeats 400000 in
theorem sNear (a b c d : Int) (w : World) (q0 : -1000000000000000000 ≤ a * d) (q1 : a * d ≤ 1000000000000000000) (q2 : 1 ≤ b * c) (q3 : b * c ≤ 1000000000000000000) :
    Calls Try.prog 35 #[fr a b, fr c d] w fun e w' => e = .returned (.int .i64 (nearI a b c d)) ∧ Gr w w' := by
  unfold nearI
  go_enter Try.func35, Try.ntmps35
  go_wp2_with (go_at_call 59; refine (sdown _ _ _ (by omega) (by omega) (by omega) (by omega)).mono ?_; rintro e w1 ⟨rfl, rfl⟩)
  go_ret
  exact ⟨rfl, (Gr.alloc _ _).trans (Gr.alloc _ _)⟩
set_option maxHeartbeats 400000 in
theorem sNearest_inv (a b c d : Int) (w : World) (hk : (okB a b && okB c d) = false) :
    Calls Try.prog 10 #[fr a b, fr c d] w fun e w' => e = .returned (.tuple #[.int .i64 0, .int .i64 1]) ∧ Gr w w' := by
  go_enter Try.func10, Try.ntmps10
  go_wp2_with fail
  refine (stwo _ _ _ _ _).mono ?_
  rintro e w1 ⟨rfl, hg1⟩
  rw [hk]
  obtain ⟨_, _, _, G1⟩ := alloc2 hg1
  have G1 := hid G1
  clear hg1
  simp only [Bool.false_eq_true, reduceIte]
  go_wp2
  go_ret2
  exact ⟨rfl, G1.out⟩
set_option maxHeartbeats 400000 in
theorem sNearest_rng (a b c d : Int) (w : World) (hk : (okB a b && okB c d) = true) (hc : c ≤ 0) :
    Calls Try.prog 10 #[fr a b, fr c d] w fun e w' => e = .returned (.tuple #[.int .i64 0, .int .i64 2]) ∧ Gr w w' := by
  go_enter Try.func10, Try.ntmps10
  go_wp2_with fail
  refine (stwo _ _ _ _ _).mono ?_
  rintro e w1 ⟨rfl, hg1⟩
  rw [hk]
  obtain ⟨_, x1, _, G1⟩ := alloc2 hg1
  obtain ⟨_, _⟩ := cells2 x1
  have G1 := hid G1
  clear hg1 x1
  simp only [reduceIte]
  go_wp2
  go_ret2
  exact ⟨rfl, G1.out⟩
set_option maxHeartbeats 400000 in
theorem sNearest_yes (a b c d : Int) (w : World) (h1 : okB a b = true) (h2 : okB c d = true) (hc : 0 < c) (hn : inB (nearI a b c d) (-1000000000) 1000000000 = true) :
    Calls Try.prog 10 #[fr a b, fr c d] w fun e w' => e = .returned (.tuple #[.int .i64 (nearI a b c d), .int .i64 0]) ∧ Gr w w' := by
  have hk : (okB a b && okB c d) = true := by rw [h1, h2]; rfl
  obtain ⟨⟨q0, q1⟩, q2, q3⟩ := near_bd h1 h2 hc
  have N := hid hn; clear hn h1 h2
  go_enter Try.func10, Try.ntmps10
  go_wp2_with fail
  refine (stwo _ _ _ _ _).mono ?_
  rintro e w1 ⟨rfl, hg1⟩
  rw [hk]
  obtain ⟨x0, x1, _, G1⟩ := alloc2 hg1
  obtain ⟨_, _⟩ := cells2 x0
  obtain ⟨_, _⟩ := cells2 x1
  have G1 := hid G1
  clear hg1 x0 x1 hk
  simp only [reduceIte]
  go_wp2_with fail
  refine (sNear _ _ _ _ _ q0 q1 q2 q3).mono ?_
  rintro e w2 ⟨rfl, hg2⟩
  have G2 := hid (G1.out.trans hg2)
  clear hg2
  go_wp2_with fail
  refine (sInteger_yes _ _ N.out).mono ?_
  rintro e w3 ⟨rfl, rfl⟩
  go_wp2
  go_ret2
  exact ⟨rfl, G2.out⟩
set_option maxHeartbeats 400000 in
theorem sNearest_no (a b c d : Int) (w : World) (h1 : okB a b = true) (h2 : okB c d = true) (hc : 0 < c) (hn : inB (nearI a b c d) (-1000000000) 1000000000 = false) :
    Calls Try.prog 10 #[fr a b, fr c d] w fun e w' => e = .returned (.tuple #[.int .i64 (0), .int .i64 3]) ∧ Gr w w' := by
  have hk : (okB a b && okB c d) = true := by rw [h1, h2]; rfl
  obtain ⟨⟨q0, q1⟩, q2, q3⟩ := near_bd h1 h2 hc
  have N := hid hn; clear hn h1 h2
  go_enter Try.func10, Try.ntmps10
  go_wp2_with fail
  refine (stwo _ _ _ _ _).mono ?_
  rintro e w1 ⟨rfl, hg1⟩
  rw [hk]
  obtain ⟨x0, x1, _, G1⟩ := alloc2 hg1
  obtain ⟨_, _⟩ := cells2 x0
  obtain ⟨_, _⟩ := cells2 x1
  have G1 := hid G1
  clear hg1 x0 x1 hk
  simp only [reduceIte]
  go_wp2_with fail
  refine (sNear _ _ _ _ _ q0 q1 q2 q3).mono ?_
  rintro e w2 ⟨rfl, hg2⟩
  have G2 := hid (G1.out.trans hg2)
  clear hg2
  go_wp2_with fail
  refine (sInteger_no _ _ N.out).mono ?_
  rintro e w3 ⟨rfl, rfl⟩
  go_wp2
  go_ret2
  exact ⟨rfl, G2.out⟩
set_option maxHeartbeats 400000 in
theorem inearDiv (p q : Int) (w : World) (p0 : -1000000000000000000 ≤ p) (p1 : p ≤ 1000000000000000000) (q0 : 1 ≤ q) (q1 : q ≤ 1000000000000000000) :
    Calls Try.prog 64 #[.int .i64 p, .int .i64 q] w fun e w' => e = .returned (.int .i64 (downI (2 * p + q) (2 * q))) ∧ w = w' := by
  go_enter Try.func64, Try.ntmps64
  go_wp2_with (go_at_call 30; refine (idown _ _ _ (by omega) (by omega) (by omega) (by omega)).mono ?_; rintro e w1 ⟨rfl, rfl⟩)
  go_ret
  exact ⟨rfl, rfl⟩
set_option maxRecDepth 20000 in
set_option maxHeartbeats 400000 in
theorem inear_ok (a b c d : Int) (w : World) (q0 : -1000000000000000000 ≤ a * d) (q1 : a * d ≤ 1000000000000000000) (q2 : 1 ≤ b * c) (q3 : b * c ≤ 1000000000000000000) (hn : gtB (nearI a b c d) 1000000000 = false) :
    Calls Try.prog 39 #[fr a b, fr c d] w fun e w' => e = .returned (.int .i64 (nearI a b c d)) ∧ Gr w w' := by
  unfold nearI at *
  have N := hid hn; clear hn
  have hfd : ∀ (x y : Int) (w : World), (Instr.field 30 (fr x y) 0).run Try.prog w = .ok (.int .i64 x) w := fun _ _ _ => by kernel_rfl
  go_enter Try.func39, Try.ntmps39
  go_wp2_with (first | (go_at_call 64; refine (inearDiv _ _ _ (by omega) (by omega) (by omega) (by omega)).mono ?_; rintro e w2 ⟨rfl, rfl⟩) | (go_at_call 63; refine (fit_ok _ _ _ N.out (by decide)).mono ?_; rintro e w2 ⟨rfl, hg2⟩; have G2 := hid ((((Gr.refl w).al _).al _).trans hg2); clear hg2))
  go_ret
  exact ⟨rfl, G2.out⟩
set_option maxHeartbeats 400000 in
theorem cnear_ok (a b c d : Int) (w : World) (b4 b5 : Nat) (x4 : w.heap[b4]? = some (.cells #[.int .i64 a, .int .i64 b] 30)) (x5 : w.heap[b5]? = some (.cells #[.int .i64 c, .int .i64 d] 30)) (q0 : -1000000000000000000 ≤ a * d) (q1 : a * d ≤ 1000000000000000000) (q2 : 1 ≤ b * c) (q3 : b * c ≤ 1000000000000000000) (hn : gtB (nearI a b c d) 1000000000 = false) :
    Calls Try.prog 38 #[.pointer (some ⟨b4, 0, none⟩), .pointer (some ⟨b5, 0, none⟩)] w fun e w' => e = .returned (.int .i64 (nearI a b c d)) ∧ Gr w w' := by
  have N := hid hn; clear hn
  obtain ⟨_, _⟩ := cells2 x4
  obtain ⟨_, _⟩ := cells2 x5
  clear x4 x5
  go_enter Try.func38, Try.ntmps38
  go_wp2_with (go_at_call 39; refine (inear_ok _ _ _ _ _ q0 q1 q2 q3 N.out).mono ?_; rintro e w1 ⟨rfl, hg1⟩; have G1 := hid hg1; clear hg1)
  go_ret
  exact ⟨rfl, G1.out⟩
set_option maxRecDepth 20000 in
set_option maxHeartbeats 400000 in
theorem inear_bad (a b c d : Int) (w : World) (q0 : -1000000000000000000 ≤ a * d) (q1 : a * d ≤ 1000000000000000000) (q2 : 1 ≤ b * c) (q3 : b * c ≤ 1000000000000000000) (hn : gtB (nearI a b c d) 1000000000 = true) :
    Calls Try.prog 39 #[fr a b, fr c d] w fun e w' => (∃ x y, e = .panicked [{ v := .iface 103 (fr x y), recovered := false }]) ∧ Gr w w' := by
  unfold nearI at *
  have N := hid hn; clear hn
  go_enter Try.func39, Try.ntmps39
  go_wp2_with (first | (go_at_call 64; refine (inearDiv _ _ _ (by omega) (by omega) (by omega) (by omega)).mono ?_; rintro e w2 ⟨rfl, rfl⟩) | (go_at_call 63; refine (fit_bad _ _ _ (by rw [N.out]; rfl)).mono ?_; rintro e w2 ⟨rfl, hg2⟩; have G2 := hid ((((Gr.refl w).al _).al _).trans hg2); clear hg2))
  exact ⟨rfl, ⟨_, 1, rfl⟩, G2.out⟩
set_option maxHeartbeats 400000 in
theorem cnear_bad (a b c d : Int) (w : World) (b4 b5 : Nat) (x4 : w.heap[b4]? = some (.cells #[.int .i64 a, .int .i64 b] 30)) (x5 : w.heap[b5]? = some (.cells #[.int .i64 c, .int .i64 d] 30)) (q0 : -1000000000000000000 ≤ a * d) (q1 : a * d ≤ 1000000000000000000) (q2 : 1 ≤ b * c) (q3 : b * c ≤ 1000000000000000000) (hn : gtB (nearI a b c d) 1000000000 = true) :
    Calls Try.prog 38 #[.pointer (some ⟨b4, 0, none⟩), .pointer (some ⟨b5, 0, none⟩)] w fun e w' => (∃ x y, e = .panicked [{ v := .iface 103 (fr x y), recovered := false }]) ∧ Gr w w' := by
  have N := hid hn; clear hn
  obtain ⟨_, _⟩ := cells2 x4
  obtain ⟨_, _⟩ := cells2 x5
  clear x4 x5
  go_enter Try.func38, Try.ntmps38
  go_wp2_with (go_at_call 39; refine (inear_bad _ _ _ _ _ q0 q1 q2 q3 N.out).mono ?_; rintro e w1 ⟨⟨x, y, rfl⟩, hg1⟩)
  exact ⟨rfl, ⟨x, y, rfl⟩, hg1⟩
set_option maxRecDepth 20000 in
set_option maxHeartbeats 400000 in
theorem iNearest_n1 (a b c d : Int) (w : World) (h1 : okB a b = false) :
    Calls Try.prog 12 #[fr a b, fr c d] w fun e w' => e = .returned (.tuple #[.int .i64 (0), .int .i64 1]) ∧ Gr w w' := by
  go_enter Try.func12, Try.ntmps12
  go_wp2_with (go_at_call 36; refine (iok_any _ _ _).mono ?_; rintro e w1 ⟨rfl, hg1⟩; obtain ⟨_, _, _, G1⟩ := alloc2 hg1; have G1 := hid G1; clear hg1)
  go_ret2
  exact ⟨rfl, G1.out⟩
set_option maxRecDepth 20000 in
set_option maxHeartbeats 400000 in
theorem iNearest_n2 (a b c d : Int) (w : World) (h1 : okB a b = true) (h2 : okB c d = false) :
    Calls Try.prog 12 #[fr a b, fr c d] w fun e w' => e = .returned (.tuple #[.int .i64 (0), .int .i64 1]) ∧ Gr w w' := by
  go_enter Try.func12, Try.ntmps12
  go_wp2_with fail
  refine (iok_any _ _ _).mono ?_
  rintro e w1 ⟨rfl, hg1⟩
  obtain ⟨x0, x1, _, G1⟩ := alloc2 hg1
  obtain ⟨_, _⟩ := cells2 x1
  have X0 := hid x0; have X1 := hid x1; have G1 := hid G1
  clear hg1 x0 x1
  go_wp2_with fail
  refine (iok_any _ _ _).mono ?_
  rintro e w2 ⟨rfl, hg2⟩
  obtain ⟨_, _⟩ := cells2 (hg2.keep X1.out)
  have Y0 := hid (hg2.keep X0.out); have Y1 := hid (hg2.keep X1.out)
  have G2 := hid (G1.out.trans hg2)
  clear hg2
  go_wp2
  go_ret2
  exact ⟨rfl, G2.out⟩
set_option maxRecDepth 20000 in
set_option maxHeartbeats 400000 in
theorem iNearest_rng (a b c d : Int) (w : World) (h1 : okB a b = true) (h2 : okB c d = true) (hc : c ≤ 0) :
    Calls Try.prog 12 #[fr a b, fr c d] w fun e w' => e = .returned (.tuple #[.int .i64 (0), .int .i64 2]) ∧ Gr w w' := by
  go_enter Try.func12, Try.ntmps12
  go_wp2_with fail
  refine (iok_any _ _ _).mono ?_
  rintro e w1 ⟨rfl, hg1⟩
  obtain ⟨x0, x1, _, G1⟩ := alloc2 hg1
  obtain ⟨_, _⟩ := cells2 x1
  have X0 := hid x0; have X1 := hid x1; have G1 := hid G1
  clear hg1 x0 x1
  go_wp2_with fail
  refine (iok_any _ _ _).mono ?_
  rintro e w2 ⟨rfl, hg2⟩
  obtain ⟨_, _⟩ := cells2 (hg2.keep X1.out)
  have Y0 := hid (hg2.keep X0.out); have Y1 := hid (hg2.keep X1.out)
  have G2 := hid (G1.out.trans hg2)
  clear hg2
  go_wp2
  go_ret2
  exact ⟨rfl, G2.out⟩
set_option maxRecDepth 20000 in
set_option maxHeartbeats 400000 in
theorem iNearest_yes (a b c d : Int) (w : World) (h1 : okB a b = true) (h2 : okB c d = true) (hc : 0 < c) (hn : gtB (nearI a b c d) 1000000000 = false) :
    Calls Try.prog 12 #[fr a b, fr c d] w fun e w' => e = .returned (.tuple #[.int .i64 (nearI a b c d), .int .i64 0]) ∧ Gr w w' := by
  obtain ⟨⟨q0, q1⟩, q2, q3⟩ := near_bd h1 h2 hc
  have N := hid hn; clear hn
  go_enter Try.func12, Try.ntmps12
  go_wp2_with fail
  refine (iok_any _ _ _).mono ?_
  rintro e w1 ⟨rfl, hg1⟩
  obtain ⟨x0, x1, _, G1⟩ := alloc2 hg1
  obtain ⟨_, _⟩ := cells2 x1
  have X0 := hid x0; have X1 := hid x1; have G1 := hid G1
  clear hg1 x0 x1
  go_wp2_with fail
  refine (iok_any _ _ _).mono ?_
  rintro e w2 ⟨rfl, hg2⟩
  obtain ⟨_, _⟩ := cells2 (hg2.keep X1.out)
  have Y0 := hid (hg2.keep X0.out); have Y1 := hid (hg2.keep X1.out)
  have G2 := hid (G1.out.trans hg2)
  clear hg2
  go_wp2_with fail
  refine (told_ok_I 38 _ _ _ (fun _ => by kernel_rfl) (fun w' hg' => cnear_ok a b c d w' _ _ (hg'.keep Y0.out) (hg'.keep Y1.out) q0 q1 q2 q3 N.out)).mono ?_
  rintro e w3 ⟨rfl, hg3⟩
  have G3 := hid (G2.out.trans hg3)
  clear hg3
  go_wp2
  go_ret2
  exact ⟨rfl, G3.out⟩
set_option maxRecDepth 20000 in
set_option maxHeartbeats 400000 in
theorem iNearest_no (a b c d : Int) (w : World) (h1 : okB a b = true) (h2 : okB c d = true) (hc : 0 < c) (hn : gtB (nearI a b c d) 1000000000 = true) :
    Calls Try.prog 12 #[fr a b, fr c d] w fun e w' => e = .returned (.tuple #[.int .i64 (0), .int .i64 3]) ∧ Gr w w' := by
  obtain ⟨⟨q0, q1⟩, q2, q3⟩ := near_bd h1 h2 hc
  have N := hid hn; clear hn
  go_enter Try.func12, Try.ntmps12
  go_wp2_with fail
  refine (iok_any _ _ _).mono ?_
  rintro e w1 ⟨rfl, hg1⟩
  obtain ⟨x0, x1, _, G1⟩ := alloc2 hg1
  obtain ⟨_, _⟩ := cells2 x1
  have X0 := hid x0; have X1 := hid x1; have G1 := hid G1
  clear hg1 x0 x1
  go_wp2_with fail
  refine (iok_any _ _ _).mono ?_
  rintro e w2 ⟨rfl, hg2⟩
  obtain ⟨_, _⟩ := cells2 (hg2.keep X1.out)
  have Y0 := hid (hg2.keep X0.out); have Y1 := hid (hg2.keep X1.out)
  have G2 := hid (G1.out.trans hg2)
  clear hg2
  go_wp2_with fail
  refine (told_great_I 38 _ _ (fun _ => by kernel_rfl) (fun w' hg' => cnear_bad a b c d w' _ _ (hg'.keep Y0.out) (hg'.keep Y1.out) q0 q1 q2 q3 N.out)).mono ?_
  rintro e w3 ⟨rfl, hg3⟩
  have G3 := hid (G2.out.trans hg3)
  clear hg3
  go_wp2
  go_ret2
  exact ⟨rfl, G3.out⟩
end Go.Proofs.Ytlclcpmlkfebhaa
