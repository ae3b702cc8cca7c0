/- WALKS: what a panic of the program's own tells, and who recovers it. -/
import Derived.Test.YtgfopfomhgfcaaaGreatDoorB0
import Derived.Deep.RegionWith
namespace Go.Proofs.YtgfopfomhgfcaaaGreatDoor
open Go.RowKit Go.Sort

theorem cells1 {w : World} {b : Nat} {x : Value} {T : TypeId} (h : w.heap[b]? = some (.cells #[x] T)) : w.cell? ⟨b, 0, none⟩ = some x := by
  simp [World.cell?, h]

set_option maxHeartbeats 400000 in
theorem code_great (p q : Int) (w : World) : Calls Tryz.prog 220 #[fr p q] w fun e w' => e = .returned (.int .i64 3) ∧ Gr w w' := by
  go_enter Tryz.func220, Tryz.ntmps220
  go_wp2
  go_ret
  exact ⟨rfl, Gr.alloc _ _⟩

end Go.Proofs.YtgfopfomhgfcaaaGreatDoor
namespace Go.Proofs.YtgfopfomhgfcaaaGreatDoor
open Go.RowKit Go.Sort

end Go.Proofs.YtgfopfomhgfcaaaGreatDoor
namespace Go.Proofs.YtgfopfomhgfcaaaGreatDoor
open Go.RowKit Go.Sort

def gtB (n most : Int) : Bool := decide (n < -most) || decide (most < n)

set_option maxHeartbeats 400000 in
theorem gt_any (n most : Int) (w : World) (h0 : 0 ≤ most) (h1 : most ≤ 9223372036854775807) :
    Calls Tryz.prog 169 #[.int .i64 n, .int .i64 most] w fun e w' => e = .returned (.bool (gtB n most)) ∧ w = w' := by
  unfold gtB
  by_cases h2 : n < -most
  · go_enter Tryz.func169, Tryz.ntmps169
    go_wp2
    go_ret
    exact ⟨ret_bool (by simp [h2]), rfl⟩
  · have e : decide (n < -most) = false := by simpa using h2
    rw [e]
    go_enter Tryz.func169, Tryz.ntmps169
    go_wp2
    go_ret
    exact ⟨ret_bool (by simp), rfl⟩

set_option maxHeartbeats 400000 in
/-- impl.fitting, valid -/
theorem fit_ok (p q : Int) (w : World) (h1 : gtB p 1000000000 = false) (h2 : decide (1000000000 < q) = false) :
    Calls Tryz.prog 138 #[.int .i64 p, .int .i64 q] w fun e w' => e = .returned (fr p q) ∧ Gr w w' := by
  go_enter Tryz.func138, Tryz.ntmps138
  go_wp2_with (go_at_call 169; refine (gt_any _ _ _ (by omega) (by omega)).mono ?_; rintro e w1 ⟨rfl, rfl⟩)
  refine bodyPost_ret (v := fr p q) (by simp [results, Tryz.results138, go_sem]) rfl ⟨rfl, ?_⟩
  exact Gr.alloc _ _

set_option maxHeartbeats 400000 in
/-- impl.fitting, not valid -/
theorem fit_bad (p q : Int) (w : World) (h : (gtB p 1000000000 || decide (1000000000 < q)) = true) :
    Calls Tryz.prog 138 #[.int .i64 p, .int .i64 q] w fun e w' => e = .panicked [{ v := .iface 227 (fr p q), recovered := false }] ∧ Gr w w' := by
  cases h1 : gtB p 1000000000 with
  | true =>
    clear h
    go_enter Tryz.func138, Tryz.ntmps138
    go_wp2_with (go_at_call 169; refine (gt_any _ _ _ (by omega) (by omega)).mono ?_; rintro e w1 ⟨rfl, rfl⟩)
    exact ⟨rfl, rfl, Gr.alloc _ _⟩
  | false =>
    have h2 : decide (1000000000 < q) = true := by simpa [h1] using h
    clear h
    go_enter Tryz.func138, Tryz.ntmps138
    go_wp2_with (go_at_call 169; refine (gt_any _ _ _ (by omega) (by omega)).mono ?_; rintro e w1 ⟨rfl, rfl⟩)
    exact ⟨rfl, rfl, Gr.alloc _ _⟩

theorem fits_of {p q : Int} (h : okB p q = true) : gtB p 1000000000 = false ∧ decide (1000000000 < q) = false := by
  rw [okB_iff] at h
  unfold Ok at h
  unfold gtB
  simp
  omega
theorem fits_not {p q : Int} (hq : q ≠ 0) (h : okB (redP p q) (redQ p q) = false) : (gtB (redP p q) 1000000000 || decide (1000000000 < redQ p q)) = true := by
  rw [okB_false] at h
  have h1 := redQ_pos (p := p) hq
  have h2 := red_gcd (p := p) hq
  unfold Ok at h
  unfold gtB
  simp
  omega

set_option maxRecDepth 20000 in
set_option maxHeartbeats 400000 in
theorem low_po (p q : Int) (w : World) (hq : q ≠ 0) (p1 : -4000000000000000000 ≤ p) (p2 : p ≤ 4000000000000000000) (q1 : -4000000000000000000 ≤ q) (q2 : q ≤ 4000000000000000000)
    (hs : ¬ q < 0) (k1 : gtB (p.tdiv (Int.gcd p q)) 1000000000 = false) (k2 : decide (1000000000 < q.tdiv (Int.gcd p q)) = false) :
    Calls Tryz.prog 191 #[.int .i64 p, .int .i64 q] w fun e w' => e = .returned (fr (p.tdiv (Int.gcd p q)) (q.tdiv (Int.gcd p q))) ∧ Gr w w' := by
  have hg := gcd_pos (p := p) hq
  have g1 : ((Int.gcd p q : Nat) : Int) ≠ 0 := by omega
  obtain ⟨t1, t2⟩ := tdiv_bd p (Int.gcd p q) 4000000000000000000 (by omega) (by omega)
  obtain ⟨t3, t4⟩ := tdiv_bd q (Int.gcd p q) 4000000000000000000 (by omega) (by omega)
  have eg : Int.gcd p q = Int.gcd p q := by simp [Int.gcd]
  have EG := hid eg; have K1 := hid k1; have K2 := hid k2; clear k2; clear eg k1
  go_enter Tryz.func191, Tryz.ntmps191
  go_wp2_with (first | (go_at_call 123; refine (cd_any _ _ _ (by omega) (by omega) (by omega) (by omega)).mono ?_; rintro e w1 ⟨rfl, rfl⟩; rw [EG.out]))
  refine wp_reg0 7 (by kernel_rfl) (by kernel_rfl) ?_
  apply Exists.intro
  refine ⟨fun wb hb => ?_, ?_⟩
  · simp only [headOps, List.contains, List.elem, reduceIte, Bool.false_eq_true]
    repeat (first | go_big_quiet_step (first | (go_at_call 138; exact Calls.of_gr (fit_ok _ _ _ K1.out K2.out))) | quiet_step (fail))
    exact wpQuiet_nil rfl
  intro w1 hg1
  obtain ⟨x0, _, G1⟩ := alloc1 hg1
  obtain ⟨_, _⟩ := cells2 x0
  have _ := fz x0
  have G1 := hid G1
  clear hg1 x0
  go_wp2
  refine bodyPost_ret (v := fr (p.tdiv (Int.gcd p q)) (q.tdiv (Int.gcd p q))) (by simp [results, Tryz.results191, go_sem, *]) rfl ⟨rfl, ?_⟩
  exact (G1.out.setCell (by simp) _).setCell (by simp) _

set_option maxRecDepth 20000 in
set_option maxHeartbeats 400000 in
theorem low_pb (p q : Int) (w : World) (hq : q ≠ 0) (p1 : -4000000000000000000 ≤ p) (p2 : p ≤ 4000000000000000000) (q1 : -4000000000000000000 ≤ q) (q2 : q ≤ 4000000000000000000)
    (hs : ¬ q < 0) (k1 : (gtB (p.tdiv (Int.gcd p q)) 1000000000 || decide (1000000000 < q.tdiv (Int.gcd p q))) = true) :
    Calls Tryz.prog 191 #[.int .i64 p, .int .i64 q] w fun e w' => e = .panicked [{ v := .iface 227 (fr (p.tdiv (Int.gcd p q)) (q.tdiv (Int.gcd p q))), recovered := false }] ∧ Gr w w' := by
  have hg := gcd_pos (p := p) hq
  have g1 : ((Int.gcd p q : Nat) : Int) ≠ 0 := by omega
  obtain ⟨t1, t2⟩ := tdiv_bd p (Int.gcd p q) 4000000000000000000 (by omega) (by omega)
  obtain ⟨t3, t4⟩ := tdiv_bd q (Int.gcd p q) 4000000000000000000 (by omega) (by omega)
  have eg : Int.gcd p q = Int.gcd p q := by simp [Int.gcd]
  have EG := hid eg; have K1 := hid k1; clear eg k1
  go_enter Tryz.func191, Tryz.ntmps191
  go_wp2_with (first | (go_at_call 123; refine (cd_any _ _ _ (by omega) (by omega) (by omega) (by omega)).mono ?_; rintro e w1 ⟨rfl, rfl⟩; rw [EG.out]))
  refine wp_regP 6 [7] (by kernel_rfl) (by kernel_rfl) rfl ?_
  apply Exists.intro
  refine ⟨138, #[.int .i64 (p.tdiv (Int.gcd p q)), .int .i64 (q.tdiv (Int.gcd p q))], fun wb hb => ?_, ?_⟩
  · simp only [headOps, List.contains, List.elem, List.length_cons, List.length_nil, Nat.zero_add, Nat.reduceAdd, Nat.reduceBEq, reduceIte, Bool.false_eq_true, dumOp]
    repeat (first | go_big_quiet_step (first | (fail)) | quiet_step (fail))
    exact wpQuiet_nil rfl
  refine ⟨fun w' => by kernel_rfl, fun w' hg' => (fit_bad _ _ _ K1.out).mono fun e w2 ⟨he, hg2⟩ => ⟨_, he, fun a' ha' => ⟨ha', rfl, ((Gr.alloc _ _).trans hg').trans hg2⟩⟩⟩

set_option maxRecDepth 20000 in
set_option maxHeartbeats 400000 in
theorem low_no (p q : Int) (w : World) (hq : q ≠ 0) (p1 : -4000000000000000000 ≤ p) (p2 : p ≤ 4000000000000000000) (q1 : -4000000000000000000 ≤ q) (q2 : q ≤ 4000000000000000000)
    (hs : q < 0) (k1 : gtB (-(p.tdiv (Int.gcd p q))) 1000000000 = false) (k2 : decide (1000000000 < -(q.tdiv (Int.gcd p q))) = false) :
    Calls Tryz.prog 191 #[.int .i64 p, .int .i64 q] w fun e w' => e = .returned (fr (-(p.tdiv (Int.gcd p q))) (-(q.tdiv (Int.gcd p q)))) ∧ Gr w w' := by
  have hg := gcd_pos (p := p) hq
  have g1 : ((Int.gcd p q : Nat) : Int) ≠ 0 := by omega
  obtain ⟨t1, t2⟩ := tdiv_bd p (Int.gcd p q) 4000000000000000000 (by omega) (by omega)
  obtain ⟨t3, t4⟩ := tdiv_bd q (Int.gcd p q) 4000000000000000000 (by omega) (by omega)
  have eg : Int.gcd (-p) (-q) = Int.gcd p q := by simp [Int.gcd]
  have EG := hid eg; have K1 := hid k1; have K2 := hid k2; clear k2; clear eg k1
  go_enter Tryz.func191, Tryz.ntmps191
  go_wp2_with (first | (go_at_call 123; refine (cd_any _ _ _ (by omega) (by omega) (by omega) (by omega)).mono ?_; rintro e w1 ⟨rfl, rfl⟩; rw [EG.out]))
  refine wp_reg0 7 (by kernel_rfl) (by kernel_rfl) ?_
  apply Exists.intro
  refine ⟨fun wb hb => ?_, ?_⟩
  · simp only [headOps, List.contains, List.elem, reduceIte, Bool.false_eq_true]
    repeat (first | go_big_quiet_step (first | (go_at_call 138; exact Calls.of_gr (fit_ok _ _ _ K1.out K2.out))) | quiet_step (fail))
    exact wpQuiet_nil rfl
  intro w1 hg1
  obtain ⟨x0, _, G1⟩ := alloc1 hg1
  obtain ⟨_, _⟩ := cells2 x0
  have _ := fz x0
  have G1 := hid G1
  clear hg1 x0
  go_wp2
  refine bodyPost_ret (v := fr (-(p.tdiv (Int.gcd p q))) (-(q.tdiv (Int.gcd p q)))) (by simp [results, Tryz.results191, go_sem, *]) rfl ⟨rfl, ?_⟩
  exact (G1.out.setCell (by simp) _).setCell (by simp) _

set_option maxRecDepth 20000 in
set_option maxHeartbeats 400000 in
theorem low_nb (p q : Int) (w : World) (hq : q ≠ 0) (p1 : -4000000000000000000 ≤ p) (p2 : p ≤ 4000000000000000000) (q1 : -4000000000000000000 ≤ q) (q2 : q ≤ 4000000000000000000)
    (hs : q < 0) (k1 : (gtB (-(p.tdiv (Int.gcd p q))) 1000000000 || decide (1000000000 < -(q.tdiv (Int.gcd p q)))) = true) :
    Calls Tryz.prog 191 #[.int .i64 p, .int .i64 q] w fun e w' => e = .panicked [{ v := .iface 227 (fr (-(p.tdiv (Int.gcd p q))) (-(q.tdiv (Int.gcd p q)))), recovered := false }] ∧ Gr w w' := by
  have hg := gcd_pos (p := p) hq
  have g1 : ((Int.gcd p q : Nat) : Int) ≠ 0 := by omega
  obtain ⟨t1, t2⟩ := tdiv_bd p (Int.gcd p q) 4000000000000000000 (by omega) (by omega)
  obtain ⟨t3, t4⟩ := tdiv_bd q (Int.gcd p q) 4000000000000000000 (by omega) (by omega)
  have eg : Int.gcd (-p) (-q) = Int.gcd p q := by simp [Int.gcd]
  have EG := hid eg; have K1 := hid k1; clear eg k1
  go_enter Tryz.func191, Tryz.ntmps191
  go_wp2_with (first | (go_at_call 123; refine (cd_any _ _ _ (by omega) (by omega) (by omega) (by omega)).mono ?_; rintro e w1 ⟨rfl, rfl⟩; rw [EG.out]))
  refine wp_regP 6 [7] (by kernel_rfl) (by kernel_rfl) rfl ?_
  apply Exists.intro
  refine ⟨138, #[.int .i64 (-(p.tdiv (Int.gcd p q))), .int .i64 (-(q.tdiv (Int.gcd p q)))], fun wb hb => ?_, ?_⟩
  · simp only [headOps, List.contains, List.elem, List.length_cons, List.length_nil, Nat.zero_add, Nat.reduceAdd, Nat.reduceBEq, reduceIte, Bool.false_eq_true, dumOp]
    repeat (first | go_big_quiet_step (first | (fail)) | quiet_step (fail))
    exact wpQuiet_nil rfl
  refine ⟨fun w' => by kernel_rfl, fun w' hg' => (fit_bad _ _ _ K1.out).mono fun e w2 ⟨he, hg2⟩ => ⟨_, he, fun a' ha' => ⟨ha', rfl, ((Gr.alloc _ _).trans hg').trans hg2⟩⟩⟩


/-- impl.lowest, valid -/
theorem low_ok (p q : Int) (w : World) (hq : q ≠ 0) (p1 : -4000000000000000000 ≤ p) (p2 : p ≤ 4000000000000000000) (q1 : -4000000000000000000 ≤ q) (q2 : q ≤ 4000000000000000000)
    (hk : okB (redP p q) (redQ p q) = true) :
    Calls Tryz.prog 191 #[.int .i64 p, .int .i64 q] w fun e w' => e = .returned (fr (redP p q) (redQ p q)) ∧ Gr w w' := by
  obtain ⟨k1, k2⟩ := fits_of hk
  unfold redP redQ at *
  by_cases hs : q < 0
  · simp only [if_pos hs] at *
    exact low_no p q w hq p1 p2 q1 q2 hs k1 k2
  · simp only [if_neg hs] at *
    exact low_po p q w hq p1 p2 q1 q2 hs k1 k2
/-- impl.lowest, not valid -/
theorem low_bad (p q : Int) (w : World) (hq : q ≠ 0) (p1 : -4000000000000000000 ≤ p) (p2 : p ≤ 4000000000000000000) (q1 : -4000000000000000000 ≤ q) (q2 : q ≤ 4000000000000000000)
    (hk : okB (redP p q) (redQ p q) = false) :
    Calls Tryz.prog 191 #[.int .i64 p, .int .i64 q] w fun e w' => (∃ x y, e = .panicked [{ v := .iface 227 (fr x y), recovered := false }]) ∧ Gr w w' := by
  have k1 := fits_not hq hk
  unfold redP redQ at *
  by_cases hs : q < 0
  · simp only [if_pos hs] at *
    exact (low_nb p q w hq p1 p2 q1 q2 hs k1).mono fun e w' ⟨h1, h2⟩ => ⟨⟨_, _, h1⟩, h2⟩
  · simp only [if_neg hs] at *
    exact (low_pb p q w hq p1 p2 q1 q2 hs k1).mono fun e w' ⟨h1, h2⟩ => ⟨⟨_, _, h1⟩, h2⟩
end Go.Proofs.YtgfopfomhgfcaaaGreatDoor
