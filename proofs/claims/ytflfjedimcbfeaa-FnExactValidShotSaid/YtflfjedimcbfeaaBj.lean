/- BENCHES: ValidShot of both sides. -/
import Derived.Test.YtflfjedimcbfeaaBg
namespace Go.Proofs.Ytflfjedimcbfeaa
open Go.RowKit Go.Sort

abbrev sho (t a b c d : Int) : Value := .agg #[.int .i64 t, .int .i64 a, .int .i64 b, .int .i64 c, .int .i64 d]
def wmB (p q : Int) : Bool := decide ((p.natAbs : Int) ≤ 100 * q)
def shB (n : Nat) (t a b c d : Int) : Bool := inB t 0 ((n : Int) - 1) && (okB a b && (wmB a b && okB c d))
theorem wm_gt (p q : Int) : (!gtB p (100 * q)) = wmB p q := by
  unfold gtB wmB
  rw [Bool.eq_iff_iff]
  simp
  omega
theorem wm_gt2 {p q : Int} {r : Bool} (h : wmB p q = r) : gtB p (100 * q) = !r := by
  rw [← h, ← wm_gt]; simp
set_option maxRecDepth 20000 in
set_option maxHeartbeats 600000 in
theorem iWarm (p q : Int) (r : Bool) (w : World) (h : (okB p q && wmB p q) = r) : Calls Try.prog 53 #[fr p q] w fun e w' => e = .returned (.bool r) ∧ Gr w w' := by
  cases h1 : okB p q with
  | false =>
    obtain rfl : r = false := by rw [← h, h1]; rfl
    have H1 := hid h1; clear h h1
    go_enter Try.func53, Try.ntmps53
    go_wp2_with fail
    refine (iFracOk p q false _ H1.out).mono ?_
    rintro e w1 ⟨rfl, hg1⟩
    obtain ⟨x1_0, hz1, g1⟩ := alloc1 hg1
    obtain ⟨_, _⟩ := cells2 x1_0
    have _ := fz x1_0
    have _ := ltb x1_0
    have X1_0 := hid x1_0; clear x1_0
    have G1 := hid (g1)
    clear hg1 g1
    go_wp2
    go_ret
    exact ⟨rfl, G1.out⟩
  | true =>
    obtain ⟨b1, b2, b3, b4⟩ := okB_bd h1
    rw [h1, Bool.true_and] at h
    have hg := wm_gt2 h
    have H1 := hid h1; have HG := hid hg; clear h h1 hg
    have hq : IntKind.i64.wrap (100 * q) = 100 * q := IntWalk.i64_in _ (by omega)
    go_enter Try.func53, Try.ntmps53
    go_wp2_with fail
    refine (iFracOk p q true _ H1.out).mono ?_
    rintro e w1 ⟨rfl, hg1⟩
    obtain ⟨x1_0, hz1, g1⟩ := alloc1 hg1
    obtain ⟨_, _⟩ := cells2 x1_0
    have _ := fz x1_0
    have _ := ltb x1_0
    have X1_0 := hid x1_0; clear x1_0
    have G1 := hid (g1)
    clear hg1 g1
    go_wp2_with fail
    refine (gt_any p (100 * q) _ (by omega) (by omega)).mono ?_
    rintro e w2 ⟨rfl, rfl⟩
    rw [HG.out]
    cases r
    all_goals
      go_wp2_with fail
      go_ret
      exact ⟨rfl, G1.out⟩
set_option maxRecDepth 20000 in
set_option maxHeartbeats 600000 in
theorem iHasB (a b : Int) (A : Option Addr) (m c : Nat) (N : Int) (kb : Bool) (u v : Int) (B : Option Addr) (n d : Nat) (t : Int) (r : Bool) (w : World) (h : inB t 0 ((n : Int) - 1) = r) :
    Calls Try.prog 52 #[bnc a b A m c N kb u v B n d, .int .i64 t] w fun e w' => e = .returned (.bool r) ∧ Gr w w' := by
  unfold inB at h
  by_cases h1 : 0 ≤ t
  · by_cases h2 : t < (n : Int)
    · obtain rfl : r = true := by rw [← h]; simp; omega
      clear h
      go_enter Try.func52, Try.ntmps52
      go_wp2
      go_ret
      exact ⟨rfl, Gr.alloc _ _⟩
    · obtain rfl : r = false := by rw [← h]; simp; omega
      clear h
      go_enter Try.func52, Try.ntmps52
      go_wp2
      go_ret
      exact ⟨rfl, Gr.alloc _ _⟩
  · obtain rfl : r = false := by rw [← h]; simp; omega
    clear h
    go_enter Try.func52, Try.ntmps52
    go_wp2
    go_ret
    exact ⟨rfl, Gr.alloc _ _⟩

set_option maxRecDepth 20000 in
set_option maxHeartbeats 1000000 in
theorem sShot_0 (a0 b0 : Int) (A : Option Addr) (m e0 : Nat) (N : Int) (kb : Bool) (u v : Int) (B : Option Addr) (n d0 : Nat) (j i : Nat) (t a b c d : Int) (_r : Bool) (w : World) (XJ : Hid (w.heap[j]? = some (.cells (bncA a0 b0 A m e0 N kb u v B n d0) 41))) (XI : Hid (w.heap[i]? = some (.cells #[.int .i64 t, .int .i64 a, .int .i64 b, .int .i64 c, .int .i64 d] 53))) (hn : (n : Int) ≤ 1048576)  (h1 : inB t 0 ((n : Int) - 1) = false) :
    Calls Try.prog 51 #[.pointer (some ⟨j, 0, none⟩), .pointer (some ⟨i, 0, none⟩)] w fun e w' => e = .returned (.bool false) ∧ Gr w w' := by
  have hwr : IntKind.i64.wrap ((n : Int) - 1) = (n : Int) - 1 := IntWalk.i64_in _ (by omega)
  have Hh1 := hid h1; clear h1
  go_enter Try.func51, Try.ntmps51
  obtain ⟨_, _, _, _, _, _, _, _⟩ := cells8 XJ.out
  have _ := fz XJ.out
  have _ := ltb XJ.out
  obtain ⟨_, _, _, _, _⟩ := cells5 XI.out
  have _ := fz XI.out
  have _ := ltb XI.out
  go_wp2_with fail
  refine wp_reg0 40 (by kernel_rfl) (by kernel_rfl) ?_
  apply Exists.intro
  refine ⟨fun wb hb => ?_, ?_⟩
  · obtain ⟨_, _, _, _, _, _, _, _⟩ := hb.at8 XJ.out
    obtain ⟨_, _, _, _, _⟩ := hb.at5 XI.out
    simp only [headOps, List.contains, List.elem, reduceIte, Bool.false_eq_true]
    repeat (first | go_big_quiet_step (first | (go_at_call 84; exact Calls.of_gr (in_f _ _ _ _ Hh1.out))) | quiet_step (fail))
    exact wpQuiet_nil rfl
  intro w1 hg1
  have x1_1 := hg1.keep XJ.out
  have x1_2 := hg1.keep XI.out
  obtain ⟨_, _, _, _, _, _, _, _⟩ := cells8 x1_1
  have _ := fz x1_1
  have _ := ltb x1_1
  obtain ⟨_, _, _, _, _⟩ := cells5 x1_2
  have _ := fz x1_2
  have _ := ltb x1_2
  have X1_1 := hid x1_1; clear x1_1
  have X1_2 := hid x1_2; clear x1_2
  have G1 := hid (hg1)
  clear hg1
  go_wp2_with fail
  go_ret
  exact ⟨rfl, G1.out⟩
set_option maxRecDepth 20000 in
set_option maxHeartbeats 1000000 in
theorem sShot_1 (a0 b0 : Int) (A : Option Addr) (m e0 : Nat) (N : Int) (kb : Bool) (u v : Int) (B : Option Addr) (n d0 : Nat) (j i : Nat) (t a b c d : Int) (_r : Bool) (w : World) (XJ : Hid (w.heap[j]? = some (.cells (bncA a0 b0 A m e0 N kb u v B n d0) 41))) (XI : Hid (w.heap[i]? = some (.cells #[.int .i64 t, .int .i64 a, .int .i64 b, .int .i64 c, .int .i64 d] 53))) (hn : (n : Int) ≤ 1048576) (h1 : inB t 0 ((n : Int) - 1) = true) (h2 : okB a b = false) :
    Calls Try.prog 51 #[.pointer (some ⟨j, 0, none⟩), .pointer (some ⟨i, 0, none⟩)] w fun e w' => e = .returned (.bool false) ∧ Gr w w' := by
  have hwr : IntKind.i64.wrap ((n : Int) - 1) = (n : Int) - 1 := IntWalk.i64_in _ (by omega)
  have Hh1 := hid h1; clear h1
  have Hh2 := hid h2; clear h2
  go_enter Try.func51, Try.ntmps51
  obtain ⟨_, _, _, _, _, _, _, _⟩ := cells8 XJ.out
  have _ := fz XJ.out
  have _ := ltb XJ.out
  obtain ⟨_, _, _, _, _⟩ := cells5 XI.out
  have _ := fz XI.out
  have _ := ltb XI.out
  go_wp2_with fail
  refine wp_reg0 40 (by kernel_rfl) (by kernel_rfl) ?_
  apply Exists.intro
  refine ⟨fun wb hb => ?_, ?_⟩
  · obtain ⟨_, _, _, _, _, _, _, _⟩ := hb.at8 XJ.out
    obtain ⟨_, _, _, _, _⟩ := hb.at5 XI.out
    simp only [headOps, List.contains, List.elem, reduceIte, Bool.false_eq_true]
    repeat (first | go_big_quiet_step (first | (go_at_call 84; exact Calls.of_gr (in_t _ _ _ _ Hh1.out)) | (go_at_call 85; exact Calls.of_gr (sok_f _ _ _ Hh2.out))) | quiet_step (fail))
    exact wpQuiet_nil rfl
  intro w1 hg1
  have x1_1 := hg1.keep XJ.out
  have x1_2 := hg1.keep XI.out
  obtain ⟨_, _, _, _, _, _, _, _⟩ := cells8 x1_1
  have _ := fz x1_1
  have _ := ltb x1_1
  obtain ⟨_, _, _, _, _⟩ := cells5 x1_2
  have _ := fz x1_2
  have _ := ltb x1_2
  have X1_1 := hid x1_1; clear x1_1
  have X1_2 := hid x1_2; clear x1_2
  have G1 := hid (hg1)
  clear hg1
  go_wp2_with fail
  go_ret
  exact ⟨rfl, G1.out⟩
set_option maxRecDepth 20000 in
set_option maxHeartbeats 1000000 in
theorem sShot_2 (a0 b0 : Int) (A : Option Addr) (m e0 : Nat) (N : Int) (kb : Bool) (u v : Int) (B : Option Addr) (n d0 : Nat) (j i : Nat) (t a b c d : Int) (_r : Bool) (w : World) (XJ : Hid (w.heap[j]? = some (.cells (bncA a0 b0 A m e0 N kb u v B n d0) 41))) (XI : Hid (w.heap[i]? = some (.cells #[.int .i64 t, .int .i64 a, .int .i64 b, .int .i64 c, .int .i64 d] 53))) (hn : (n : Int) ≤ 1048576) (h1 : inB t 0 ((n : Int) - 1) = true) (h2 : okB a b = true) (h3 : wmB a b = false) :
    Calls Try.prog 51 #[.pointer (some ⟨j, 0, none⟩), .pointer (some ⟨i, 0, none⟩)] w fun e w' => e = .returned (.bool false) ∧ Gr w w' := by
  have hwr : IntKind.i64.wrap ((n : Int) - 1) = (n : Int) - 1 := IntWalk.i64_in _ (by omega)
  obtain ⟨q1, q2, q3, q4⟩ := okB_bd h2
  have hwq : IntKind.i64.wrap (100 * b) = 100 * b := IntWalk.i64_in _ (by omega)
  have ha1 : -9223372036854775807 ≤ a := by omega
  have ha2 : a ≤ 9223372036854775807 := by omega
  have Hh1 := hid h1; clear h1
  have Hh2 := hid h2; clear h2
  have Hh3 := hid h3; clear h3
  have hw3 : decide ((a.natAbs : Int) ≤ 100 * b) = false := Hh3.out
  go_enter Try.func51, Try.ntmps51
  obtain ⟨_, _, _, _, _, _, _, _⟩ := cells8 XJ.out
  have _ := fz XJ.out
  have _ := ltb XJ.out
  obtain ⟨_, _, _, _, _⟩ := cells5 XI.out
  have _ := fz XI.out
  have _ := ltb XI.out
  go_wp2_with fail
  refine wp_reg0 40 (by kernel_rfl) (by kernel_rfl) ?_
  apply Exists.intro
  refine ⟨fun wb hb => ?_, ?_⟩
  · obtain ⟨_, _, _, _, _, _, _, _⟩ := hb.at8 XJ.out
    obtain ⟨_, _, _, _, _⟩ := hb.at5 XI.out
    simp only [headOps, List.contains, List.elem, reduceIte, Bool.false_eq_true]
    repeat (first | go_big_quiet_step (first | (go_at_call 84; exact Calls.of_gr (in_t _ _ _ _ Hh1.out)) | (go_at_call 85; exact Calls.of_gr (sok_t _ _ _ Hh2.out)) | (go_at_call 86; exact Calls.of_same (abs_any _ _ ha1 ha2))) | quiet_step (fail))
    exact wpQuiet_nil rfl
  intro w1 hg1
  have x1_1 := hg1.keep XJ.out
  have x1_2 := hg1.keep XI.out
  obtain ⟨_, _, _, _, _, _, _, _⟩ := cells8 x1_1
  have _ := fz x1_1
  have _ := ltb x1_1
  obtain ⟨_, _, _, _, _⟩ := cells5 x1_2
  have _ := fz x1_2
  have _ := ltb x1_2
  have X1_1 := hid x1_1; clear x1_1
  have X1_2 := hid x1_2; clear x1_2
  have G1 := hid (hg1)
  clear hg1
  go_wp2_with fail
  go_ret
  exact ⟨rfl, G1.out⟩
set_option maxRecDepth 20000 in
set_option maxHeartbeats 1000000 in
theorem sShot_3 (a0 b0 : Int) (A : Option Addr) (m e0 : Nat) (N : Int) (kb : Bool) (u v : Int) (B : Option Addr) (n d0 : Nat) (j i : Nat) (t a b c d : Int) (r : Bool) (w : World) (XJ : Hid (w.heap[j]? = some (.cells (bncA a0 b0 A m e0 N kb u v B n d0) 41))) (XI : Hid (w.heap[i]? = some (.cells #[.int .i64 t, .int .i64 a, .int .i64 b, .int .i64 c, .int .i64 d] 53))) (hn : (n : Int) ≤ 1048576) (h1 : inB t 0 ((n : Int) - 1) = true) (h2 : okB a b = true) (h3 : wmB a b = true) (h4 : okB c d = r) :
    Calls Try.prog 51 #[.pointer (some ⟨j, 0, none⟩), .pointer (some ⟨i, 0, none⟩)] w fun e w' => e = .returned (.bool r) ∧ Gr w w' := by
  have hwr : IntKind.i64.wrap ((n : Int) - 1) = (n : Int) - 1 := IntWalk.i64_in _ (by omega)
  obtain ⟨q1, q2, q3, q4⟩ := okB_bd h2
  have hwq : IntKind.i64.wrap (100 * b) = 100 * b := IntWalk.i64_in _ (by omega)
  have ha1 : -9223372036854775807 ≤ a := by omega
  have ha2 : a ≤ 9223372036854775807 := by omega
  have Hh1 := hid h1; clear h1
  have Hh2 := hid h2; clear h2
  have Hh3 := hid h3; clear h3
  have Hh4 := hid h4; clear h4
  have hw3 : decide ((a.natAbs : Int) ≤ 100 * b) = true := Hh3.out
  go_enter Try.func51, Try.ntmps51
  obtain ⟨_, _, _, _, _, _, _, _⟩ := cells8 XJ.out
  have _ := fz XJ.out
  have _ := ltb XJ.out
  obtain ⟨_, _, _, _, _⟩ := cells5 XI.out
  have _ := fz XI.out
  have _ := ltb XI.out
  go_wp2_with fail
  refine wp_reg0 40 (by kernel_rfl) (by kernel_rfl) ?_
  apply Exists.intro
  refine ⟨fun wb hb => ?_, ?_⟩
  · obtain ⟨_, _, _, _, _, _, _, _⟩ := hb.at8 XJ.out
    obtain ⟨_, _, _, _, _⟩ := hb.at5 XI.out
    have h2 := Hh2.out; have h4 := Hh4.out
    simp only [headOps, List.contains, List.elem, reduceIte, Bool.false_eq_true]
    repeat (first | go_big_quiet_step (first | (go_at_call 84; exact Calls.of_gr (in_t _ _ _ _ Hh1.out)) | (go_at_call 85; exact Calls.of_gr (sok_any _ _ _)) | (go_at_call 86; exact Calls.of_same (abs_any _ _ ha1 ha2))) | quiet_step (fail))
    exact wpQuiet_nil rfl
  intro w1 hg1
  have x1_1 := hg1.keep XJ.out
  have x1_2 := hg1.keep XI.out
  obtain ⟨_, _, _, _, _, _, _, _⟩ := cells8 x1_1
  have _ := fz x1_1
  have _ := ltb x1_1
  obtain ⟨_, _, _, _, _⟩ := cells5 x1_2
  have _ := fz x1_2
  have _ := ltb x1_2
  have X1_1 := hid x1_1; clear x1_1
  have X1_2 := hid x1_2; clear x1_2
  have G1 := hid (hg1)
  clear hg1
  go_wp2_with fail
  go_ret
  exact ⟨rfl, G1.out⟩
theorem sShot (a0 b0 : Int) (A : Option Addr) (m e0 : Nat) (N : Int) (kb : Bool) (u v : Int) (B : Option Addr) (n d0 : Nat) (j i : Nat) (t a b c d : Int) (r : Bool) (w : World) (XJ : Hid (w.heap[j]? = some (.cells (bncA a0 b0 A m e0 N kb u v B n d0) 41))) (XI : Hid (w.heap[i]? = some (.cells #[.int .i64 t, .int .i64 a, .int .i64 b, .int .i64 c, .int .i64 d] 53))) (hn : (n : Int) ≤ 1048576) (hr : shB n t a b c d = r) :
    Calls Try.prog 51 #[.pointer (some ⟨j, 0, none⟩), .pointer (some ⟨i, 0, none⟩)] w fun e w' => e = .returned (.bool r) ∧ Gr w w' := by
  unfold shB at hr
  cases h1 : inB t 0 ((n : Int) - 1) with
  | false => obtain rfl : r = false := by rw [← hr, h1]; rfl
             exact sShot_0 a0 b0 A m e0 N kb u v B n d0 j i t a b c d false w XJ XI hn h1
  | true =>
  cases h2 : okB a b with
  | false => obtain rfl : r = false := by rw [← hr, h1, h2]; rfl
             exact sShot_1 a0 b0 A m e0 N kb u v B n d0 j i t a b c d false w XJ XI hn h1 h2
  | true =>
  cases h3 : wmB a b with
  | false => obtain rfl : r = false := by rw [← hr, h1, h2, h3]; rfl
             exact sShot_2 a0 b0 A m e0 N kb u v B n d0 j i t a b c d false w XJ XI hn h1 h2 h3
  | true => exact sShot_3 a0 b0 A m e0 N kb u v B n d0 j i t a b c d r w XJ XI hn h1 h2 h3 (by rw [← hr, h1, h2, h3]; rfl)
def vshB (a b : Int) (xs : List (Int × Int)) (N u v : Int) (ts : List Tgv) (h0 h1 h2 h3 h4 : Int) : Bool := benB a b xs N u v ts && shB ts.length h0 h1 h2 h3 h4
set_option maxRecDepth 20000 in
set_option maxHeartbeats 1000000 in
theorem sVShot (a b : Int) (A : Option Addr) (c : Nat) (xs : List (Int × Int)) (N : Int) (kb : Bool) (u v : Int) (g d : Nat) (ts : List Tgv) (h0 h1 h2 h3 h4 : Int) (r : Bool) (w : World) (X : Hid (RdF w A xs)) (T : Hid (RdTg w (some ⟨g, 0, none⟩) ts)) (hn : xs.length ≤ 1048576) (hm : ts.length ≤ 1048576) (hz : ∀ x ∈ ts, x.nm.size ≤ 9223372036854775807) (hr : vshB a b xs N u v ts h0 h1 h2 h3 h4 = r) :
    Calls Try.prog 18 #[bnc a b A xs.length c N kb u v (some ⟨g, 0, none⟩) ts.length d, sho h0 h1 h2 h3 h4] w fun e w' => e = .returned (.bool r) ∧ Gr w w' := by
  unfold vshB at hr
  obtain ⟨v1, hb⟩ : ∃ v1, benB a b xs N u v ts = v1 := ⟨_, rfl⟩
  have HV := hid fun (w : World) (j : Nat) (XJ : Hid (w.heap[j]? = some (.cells (bncA a b A xs.length c N kb u v (some ⟨g, 0, none⟩) ts.length d) 41))) (X : Hid (RdF w A xs)) (T : Hid (RdTg w (some ⟨g, 0, none⟩) ts)) => sVB a b A c j xs N kb u v g d ts v1 w XJ X T hn hm hz hb
  rw [hb] at hr
  clear hb hz
  cases v1 with
  | false =>
    obtain rfl : r = false := by rw [← hr]; rfl
    go_enter Try.func18, Try.ntmps18
    go_wp2_with fail
    refine (HV.out _ _ (hid (alloc2 (Gr.refl _)).1) (hid (X.out.keep (((Gr.refl w).al _).al _))) (hid (T.out.keep (((Gr.refl w).al _).al _)))).mono ?_
    rintro e w1 ⟨rfl, hg1⟩
    obtain ⟨x1_0, x1_1, hz1, g1⟩ := alloc2 hg1
    obtain ⟨_, _, _, _, _, _, _, _⟩ := cells8 x1_0
    have _ := fz x1_0
    have _ := ltb x1_0
    obtain ⟨_, _, _, _, _⟩ := cells5 x1_1
    have _ := fz x1_1
    have _ := ltb x1_1
    have X1_0 := hid x1_0; clear x1_0
    have X1_1 := hid x1_1; clear x1_1
    have G1 := hid (g1)
    clear hg1 g1
    go_wp2
    go_ret
    exact ⟨rfl, G1.out⟩
  | true =>
    rw [Bool.true_and] at hr
    have HR := hid hr; clear hr
    go_enter Try.func18, Try.ntmps18
    go_wp2_with fail
    refine (HV.out _ _ (hid (alloc2 (Gr.refl _)).1) (hid (X.out.keep (((Gr.refl w).al _).al _))) (hid (T.out.keep (((Gr.refl w).al _).al _)))).mono ?_
    rintro e w1 ⟨rfl, hg1⟩
    obtain ⟨x1_0, x1_1, hz1, g1⟩ := alloc2 hg1
    obtain ⟨_, _, _, _, _, _, _, _⟩ := cells8 x1_0
    have _ := fz x1_0
    have _ := ltb x1_0
    obtain ⟨_, _, _, _, _⟩ := cells5 x1_1
    have _ := fz x1_1
    have _ := ltb x1_1
    have X1_0 := hid x1_0; clear x1_0
    have X1_1 := hid x1_1; clear x1_1
    have G1 := hid (g1)
    clear hg1 g1
    go_wp2_with fail
    refine (sShot a b A xs.length c N kb u v _ ts.length d _ _ h0 h1 h2 h3 h4 r _ (hid X1_0.out) (hid X1_1.out) (by omega) HR.out).mono ?_
    rintro e w2 ⟨rfl, hg2⟩
    have x2_1 := hg2.keep X1_0.out
    have x2_2 := hg2.keep X1_1.out
    obtain ⟨_, _, _, _, _, _, _, _⟩ := cells8 x2_1
    have _ := fz x2_1
    have _ := ltb x2_1
    obtain ⟨_, _, _, _, _⟩ := cells5 x2_2
    have _ := fz x2_2
    have _ := ltb x2_2
    have X2_1 := hid x2_1; clear x2_1
    have X2_2 := hid x2_2; clear x2_2
    have G2 := hid (G1.out.trans hg2)
    clear hg2
    go_wp2
    go_ret
    exact ⟨rfl, G2.out⟩
set_option maxRecDepth 20000 in
set_option maxHeartbeats 1000000 in
theorem iVShot (a b : Int) (A : Option Addr) (c : Nat) (xs : List (Int × Int)) (N : Int) (kb : Bool) (u v : Int) (B : Option Addr) (d : Nat) (ts : List Tgv) (h0 h1 h2 h3 h4 : Int) (r : Bool) (w : World) (X : Hid (RdF w A xs)) (T : Hid (RdTg w B ts)) (hn : xs.length ≤ 1048576) (hm : ts.length ≤ 1048576) (hr : vshB a b xs N u v ts h0 h1 h2 h3 h4 = r) :
    Calls Try.prog 20 #[bnc a b A xs.length c N kb u v B ts.length d, sho h0 h1 h2 h3 h4] w fun e w' => e = .returned (.bool r) ∧ Gr w w' := by
  unfold vshB shB at hr
  cases g1 : benB a b xs N u v ts with
  | false =>
    obtain rfl : r = false := by rw [← hr, g1]; rfl
    have H1 := hid g1; clear g1 hr
    go_enter Try.func20, Try.ntmps20
    go_wp2_with fail
    refine (iVB a b A c xs N kb u v B d ts false _ (hid (X.out.keep (((Gr.refl w).al _).al _))) (hid (T.out.keep (((Gr.refl w).al _).al _))) hn hm H1.out).mono ?_
    rintro e w1 ⟨rfl, hg1⟩
    obtain ⟨x1_0, x1_1, hz1, g1⟩ := alloc2 hg1
    obtain ⟨_, _, _, _, _, _, _, _⟩ := cells8 x1_0
    have _ := fz x1_0
    have _ := ltb x1_0
    obtain ⟨_, _, _, _, _⟩ := cells5 x1_1
    have _ := fz x1_1
    have _ := ltb x1_1
    have X1_0 := hid x1_0; clear x1_0
    have X1_1 := hid x1_1; clear x1_1
    have G1 := hid (g1)
    clear hg1 g1
    go_wp2
    go_ret
    exact ⟨rfl, G1.out⟩
  | true =>
  cases g2 : inB h0 0 ((ts.length : Int) - 1) with
  | false =>
    obtain rfl : r = false := by rw [← hr, g1, g2]; rfl
    have H1 := hid g1; have H2 := hid g2; clear g1 g2 hr
    go_enter Try.func20, Try.ntmps20
    go_wp2_with fail
    refine (iVB a b A c xs N kb u v B d ts true _ (hid (X.out.keep (((Gr.refl w).al _).al _))) (hid (T.out.keep (((Gr.refl w).al _).al _))) hn hm H1.out).mono ?_
    rintro e w1 ⟨rfl, hg1⟩
    obtain ⟨x1_0, x1_1, hz1, g1⟩ := alloc2 hg1
    obtain ⟨_, _, _, _, _, _, _, _⟩ := cells8 x1_0
    have _ := fz x1_0
    have _ := ltb x1_0
    obtain ⟨_, _, _, _, _⟩ := cells5 x1_1
    have _ := fz x1_1
    have _ := ltb x1_1
    have X1_0 := hid x1_0; clear x1_0
    have X1_1 := hid x1_1; clear x1_1
    have G1 := hid (g1)
    clear hg1 g1
    go_wp2_with fail
    refine (iHasB _ _ _ _ _ _ _ _ _ _ _ _ _ _ _ H2.out).mono ?_
    rintro e w2 ⟨rfl, hg2⟩
    have x2_1 := hg2.keep X1_0.out
    have x2_2 := hg2.keep X1_1.out
    obtain ⟨_, _, _, _, _, _, _, _⟩ := cells8 x2_1
    have _ := fz x2_1
    have _ := ltb x2_1
    obtain ⟨_, _, _, _, _⟩ := cells5 x2_2
    have _ := fz x2_2
    have _ := ltb x2_2
    have X2_1 := hid x2_1; clear x2_1
    have X2_2 := hid x2_2; clear x2_2
    have G2 := hid (G1.out.trans hg2)
    clear hg2
    go_wp2
    go_ret
    exact ⟨rfl, G2.out⟩
  | true =>
  cases g3 : (okB h1 h2 && wmB h1 h2) with
  | false =>
    obtain rfl : r = false := by rw [← hr, g1, g2, ← Bool.and_assoc (okB h1 h2), g3]; rfl
    have H1 := hid g1; have H2 := hid g2; have H3 := hid g3; clear g1 g2 g3 hr
    go_enter Try.func20, Try.ntmps20
    go_wp2_with fail
    refine (iVB a b A c xs N kb u v B d ts true _ (hid (X.out.keep (((Gr.refl w).al _).al _))) (hid (T.out.keep (((Gr.refl w).al _).al _))) hn hm H1.out).mono ?_
    rintro e w1 ⟨rfl, hg1⟩
    obtain ⟨x1_0, x1_1, hz1, g1⟩ := alloc2 hg1
    obtain ⟨_, _, _, _, _, _, _, _⟩ := cells8 x1_0
    have _ := fz x1_0
    have _ := ltb x1_0
    obtain ⟨_, _, _, _, _⟩ := cells5 x1_1
    have _ := fz x1_1
    have _ := ltb x1_1
    have X1_0 := hid x1_0; clear x1_0
    have X1_1 := hid x1_1; clear x1_1
    have G1 := hid (g1)
    clear hg1 g1
    go_wp2_with fail
    refine (iHasB _ _ _ _ _ _ _ _ _ _ _ _ _ _ _ H2.out).mono ?_
    rintro e w2 ⟨rfl, hg2⟩
    have x2_1 := hg2.keep X1_0.out
    have x2_2 := hg2.keep X1_1.out
    obtain ⟨_, _, _, _, _, _, _, _⟩ := cells8 x2_1
    have _ := fz x2_1
    have _ := ltb x2_1
    obtain ⟨_, _, _, _, _⟩ := cells5 x2_2
    have _ := fz x2_2
    have _ := ltb x2_2
    have X2_1 := hid x2_1; clear x2_1
    have X2_2 := hid x2_2; clear x2_2
    have G2 := hid (G1.out.trans hg2)
    clear hg2
    go_wp2_with fail
    refine (iWarm _ _ _ _ H3.out).mono ?_
    rintro e w3 ⟨rfl, hg3⟩
    have x3_1 := hg3.keep X2_1.out
    have x3_2 := hg3.keep X2_2.out
    obtain ⟨_, _, _, _, _, _, _, _⟩ := cells8 x3_1
    have _ := fz x3_1
    have _ := ltb x3_1
    obtain ⟨_, _, _, _, _⟩ := cells5 x3_2
    have _ := fz x3_2
    have _ := ltb x3_2
    have X3_1 := hid x3_1; clear x3_1
    have X3_2 := hid x3_2; clear x3_2
    have G3 := hid (G2.out.trans hg3)
    clear hg3
    go_wp2
    go_ret
    exact ⟨rfl, G3.out⟩
  | true =>
    rw [g1, g2, ← Bool.and_assoc (okB h1 h2), g3] at hr
    simp only [Bool.true_and] at hr
    have H1 := hid g1; have H2 := hid g2; have H3 := hid g3; have H4 := hid hr; clear g1 g2 g3 hr
    go_enter Try.func20, Try.ntmps20
    go_wp2_with fail
    refine (iVB a b A c xs N kb u v B d ts true _ (hid (X.out.keep (((Gr.refl w).al _).al _))) (hid (T.out.keep (((Gr.refl w).al _).al _))) hn hm H1.out).mono ?_
    rintro e w1 ⟨rfl, hg1⟩
    obtain ⟨x1_0, x1_1, hz1, g1⟩ := alloc2 hg1
    obtain ⟨_, _, _, _, _, _, _, _⟩ := cells8 x1_0
    have _ := fz x1_0
    have _ := ltb x1_0
    obtain ⟨_, _, _, _, _⟩ := cells5 x1_1
    have _ := fz x1_1
    have _ := ltb x1_1
    have X1_0 := hid x1_0; clear x1_0
    have X1_1 := hid x1_1; clear x1_1
    have G1 := hid (g1)
    clear hg1 g1
    go_wp2_with fail
    refine (iHasB _ _ _ _ _ _ _ _ _ _ _ _ _ _ _ H2.out).mono ?_
    rintro e w2 ⟨rfl, hg2⟩
    have x2_1 := hg2.keep X1_0.out
    have x2_2 := hg2.keep X1_1.out
    obtain ⟨_, _, _, _, _, _, _, _⟩ := cells8 x2_1
    have _ := fz x2_1
    have _ := ltb x2_1
    obtain ⟨_, _, _, _, _⟩ := cells5 x2_2
    have _ := fz x2_2
    have _ := ltb x2_2
    have X2_1 := hid x2_1; clear x2_1
    have X2_2 := hid x2_2; clear x2_2
    have G2 := hid (G1.out.trans hg2)
    clear hg2
    go_wp2_with fail
    refine (iWarm _ _ _ _ H3.out).mono ?_
    rintro e w3 ⟨rfl, hg3⟩
    have x3_1 := hg3.keep X2_1.out
    have x3_2 := hg3.keep X2_2.out
    obtain ⟨_, _, _, _, _, _, _, _⟩ := cells8 x3_1
    have _ := fz x3_1
    have _ := ltb x3_1
    obtain ⟨_, _, _, _, _⟩ := cells5 x3_2
    have _ := fz x3_2
    have _ := ltb x3_2
    have X3_1 := hid x3_1; clear x3_1
    have X3_2 := hid x3_2; clear x3_2
    have G3 := hid (G2.out.trans hg3)
    clear hg3
    go_wp2_with fail
    refine (iFracOk _ _ _ _ H4.out).mono ?_
    rintro e w4 ⟨rfl, hg4⟩
    have x4_1 := hg4.keep X3_1.out
    have x4_2 := hg4.keep X3_2.out
    obtain ⟨_, _, _, _, _, _, _, _⟩ := cells8 x4_1
    have _ := fz x4_1
    have _ := ltb x4_1
    obtain ⟨_, _, _, _, _⟩ := cells5 x4_2
    have _ := fz x4_2
    have _ := ltb x4_2
    have X4_1 := hid x4_1; clear x4_1
    have X4_2 := hid x4_2; clear x4_2
    have G4 := hid (G3.out.trans hg4)
    clear hg4
    go_wp2
    go_ret
    exact ⟨rfl, G4.out⟩
theorem bothValidShot (a b : Int) (xs : List (Int × Int)) (N : Int) (kb : Bool) (u v : Int) (ts : List Tgv) (h0 h1 h2 h3 h4 : Int) (hn : xs.length ≤ 1048576) (hm : ts.length ≤ 1048576) (hz : ∀ x ∈ ts, x.nm.size ≤ 9223372036854775807) : ∃ R0 : Bool,
    (∀ (A : Option Addr) (g c d : Nat) (w : World), Hid (RdF w A xs) → Hid (RdTg w (some ⟨g, 0, none⟩) ts) → Calls Try.prog 18 #[bnc a b A xs.length c N kb u v (some ⟨g, 0, none⟩) ts.length d, sho h0 h1 h2 h3 h4] w fun x w' => x = .returned (.bool R0) ∧ Gr w w') ∧
    (∀ (A : Option Addr) (g c d : Nat) (w : World), Hid (RdF w A xs) → Hid (RdTg w (some ⟨g, 0, none⟩) ts) → Calls Try.prog 20 #[bnc a b A xs.length c N kb u v (some ⟨g, 0, none⟩) ts.length d, sho h0 h1 h2 h3 h4] w fun x w' => x = .returned (.bool R0) ∧ Gr w w') :=
  ⟨_, fun A g c d w X T => sVShot a b A c xs N kb u v g d ts h0 h1 h2 h3 h4 _ w X T hn hm hz rfl, fun A _ c d w X T => iVShot a b A c xs N kb u v _ d ts h0 h1 h2 h3 h4 _ w X T hn hm rfl⟩
/-! the law's side -/
set_option maxRecDepth 20000 in
set_option maxHeartbeats 400000 in
theorem toSho_any (t a b c d : Int) (w : World) : Calls Try.prog 19 #[sho t a b c d] w fun e w' => e = .returned (sho t a b c d) ∧ Gr w w' := by
  go_enter Try.func19, Try.ntmps19
  go_wp2_with fail
  refine (toFrac_any _ _ _).mono ?_
  rintro e w1 ⟨rfl, hg1⟩
  obtain ⟨x1_0, x1_1, x1_2, hz1, g1⟩ := alloc3 hg1
  obtain ⟨_, _, _, _, _⟩ := cells5 x1_0
  have _ := fz x1_0
  have _ := ltb x1_0
  obtain ⟨_, _, _, _, _⟩ := cells5 x1_1
  have _ := fz x1_1
  have _ := ltb x1_1
  obtain ⟨_, _, _, _, _⟩ := cells5 x1_2
  have _ := fz x1_2
  have _ := ltb x1_2
  have X1_0 := hid x1_0; clear x1_0
  have X1_1 := hid x1_1; clear x1_1
  have X1_2 := hid x1_2; clear x1_2
  have G1 := hid (g1)
  clear hg1 g1
  go_wp2_with fail
  refine (toFrac_any _ _ _).mono ?_
  rintro e w2 ⟨rfl, hg2⟩
  obtain ⟨_, _⟩ := hg2.same
  have hzs2 := hg2.size
  simp at hzs2
  have _ : w.heap.size < w2.heap.size := by omega
  have _ : w.heap.size + 1 < w2.heap.size := by omega
  have _ : w.heap.size + 1 + 1 < w2.heap.size := by omega
  have G2 := hid ((((G1.out).setCell (by simp <;> omega) _).setCell (by simp <;> omega) _).trans hg2); clear hg2
  go_wp2
  refine bodyPost_ret (v := sho t a b c d) (by simp [results, Try.results19, go_sem, *]) rfl ⟨rfl, ?_⟩
  exact (((((((G2.out).setCell (by simp <;> omega) _).setCell (by simp <;> omega) _).setCell (by simp <;> omega) _).setCell (by simp <;> omega) _).setCell (by simp <;> omega) _).setCell (by simp <;> omega) _).setCell (by simp <;> omega) _
end Go.Proofs.Ytflfjedimcbfeaa
