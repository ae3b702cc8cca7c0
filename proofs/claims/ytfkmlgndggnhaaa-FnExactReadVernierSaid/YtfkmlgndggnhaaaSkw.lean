/- WALKS: the reading of a vernier, told of its steps' contracts, of the program and of the reference. -/
import Derived.Test.YtfkmlgndggnhaaaSku
import Derived.Test.YtfkmlgndggnhaaaP
namespace Go.Proofs.Ytfkmlgndggnhaaa
open Go.RowKit Go.Sort

theorem red_small {F N : Int} (h0 : 0 ≤ F) (h1 : F ≤ N) (h2 : 2 ≤ N) (h3 : N ≤ 40) : okB (redP F N) (redQ F N) = true := by
  have e1 : redP F N = F.tdiv (Int.gcd F N) := by unfold redP; rw [if_neg (by omega)]
  have e2 : redQ F N = N.tdiv (Int.gcd F N) := by unfold redQ; rw [if_neg (by omega)]
  have b1 := tdiv_bd F (Int.gcd F N) 40 (by omega) (by omega)
  have b2 := tdiv_bd N (Int.gcd F N) 40 (by omega) (by omega)
  exact okB_iff.2 ⟨redQ_pos (by omega), by rw [e2]; omega, by rw [e1]; omega, by rw [e1]; omega, red_gcd (by omega)⟩
theorem nr_gt {n : Int} : gtB n 1000000000 = !inB n (-1000000000) 1000000000 := by
  unfold gtB inB
  by_cases h1 : n < -1000000000
  · have : ¬ (-1000000000 ≤ n) := by omega
    simp [h1, this]
  · by_cases h2 : 1000000000 < n
    · have : ¬ (n ≤ 1000000000) := by omega
      simp [h2, this]
    · have a1 : -1000000000 ≤ n := by omega
      have a2 : n ≤ 1000000000 := by omega
      simp [h1, h2, a1, a2]
/-- A drawing region that makes a block, and in which one call panics. -/
theorem wp_regPa {P : Program} {l : List Oper} {id : Nat} {Q : Exit → Act → World → Prop} {a : Act} {w : World} {o oi : Oper} (b0 : Obj) (c i : Nat) (D : List Nat) (hm : P.follows .mixedOrders = true) (hB : badB [i] D c l = true) (hoi : l[i]? = some oi) (hri : ∀ (a : Act) (w : World), (execOp a.eval oi).run P w = .ok (.value (.pointer (some ⟨w.heap.size, 0, none⟩))) (w.alloc b0)) (ho : l[c]? = some o)
    (h : ∃ aF f args, (∀ wb, Gr w wb → wpQuiet P l.toArray (fun w' => ∃ p : GrownBy, w' = grow (wb.drewN p.n) p.os) (fun x => x = aF) (headOps (i :: c :: D) l.length 0 l) a) ∧
      (∀ w', (execOp aF.eval o).run P w' = .ok (.enter f args) w') ∧
      ∀ w', Gr w w' → Calls P f args w' fun e w'' => ∃ ch, e = .panicked ch ∧ ∀ a', a'.defers = a.defers → Q (.panic ch) a' w'') : (Code.region id l.toArray true).wp P Q a w := by
  obtain ⟨aF, f, args, hq, he, hc⟩ := h
  have HK := badOk_of hB
  refine wp_region_any hm ?_
  have := head_bad (P := P) (Q := Q) (blk := fun _ => b0) (w0 := { w with drawn := w.drawn + 1 }) HK (fun j hj o' ho' a' w' => by
      obtain rfl : j = i := by simpa using hj
      obtain rfl : o' = oi := Option.some.inj (ho'.symm.trans hoi)
      exact hri a' w') (fun wb h => hq wb (gr_drawn h))
    (fun o' ho' a' w' K hd hex hg => by
      have : o' = o := Option.some.inj (ho'.symm.trans ho)
      subst this
      unfold Oper.wp
      rw [hex, he w']
      simp only [Oper.upon]
      exact (hc w' (gr_drawn hg)).mono fun e w'' ⟨ch, h1, h2⟩ => by subst h1; exact h2 a' hd)
    l.length (Array.replicate l.length false) a { w with drawn := w.drawn + 1 }
    (by
      unfold undone
      rw [List.filter_eq_self.2 (fun i _ => by rw [getD_replicate_false]; rfl)]; simp)
    ⟨Gr.refl _, rfl, rfl, by simp, fun i _ => getD_replicate_false _ _, fun i d hl => (by rw [getD_replicate_false] at hl; cases hl), fun _ _ => rfl⟩
  simpa using this

set_option maxRecDepth 20000 in
set_option maxHeartbeats 1000000 in
theorem ird_a0 (a b x y g0 g1 : Int) (R N : Nat) (A : Option Addr) (c : Nat) (xs : List (Int × Int)) (w : World) (X : Hid (RdF w A xs)) (hRN : R < N) (hN : N ≤ 40)
    (hLF : ∀ w, Hid (RdF w A xs) → Calls Try.prog 95 #[vn N false, scl a b A xs.length c, fr x y] w fun e w' => e = .returned (.int .i64 (R : Int)) ∧ Gr w w')
    (hLW : ∀ w, Calls Try.prog 131 #[.int .i64 (R : Int), .int .i64 N] w fun e w' => e = .returned (fr g0 g1) ∧ Gr w w')
    (hTM : ∀ w, Calls Try.prog 132 #[fr g0 g1, fr a b] w fun e w' => (∃ x y, e = .panicked [{ v := .iface 125 (fr x y), recovered := false }]) ∧ Gr w w') :
    Calls Try.prog 98 #[vn N false, scl a b A xs.length c, fr x y] w fun e w' => (∃ x y, e = .panicked [{ v := .iface 125 (fr x y), recovered := false }]) ∧ Gr w w' := by
  have hLF := hid hLF
  have hLW := hid hLW
  have hTM := hid hTM
  have _ := hRN
  have _ := hN
  go_enter Try.func98, Try.ntmps98
  go_wp2_with fail
  refine (hLF.out _ (hid (X.out.keep (((((Gr.refl w).al _).al _).al _).al _)))).mono ?_
  rintro e w1 ⟨rfl, hg1⟩
  obtain ⟨x1_0, x1_1, x1_2, x1_3, hz1, g1⟩ := alloc4 hg1
  obtain ⟨_, _⟩ := cells2 x1_0
  have _ := fz x1_0
  have _ := ltb x1_0
  obtain ⟨_, _, _⟩ := cells3 x1_1
  have _ := fz x1_1
  have _ := ltb x1_1
  obtain ⟨_, _⟩ := cells2 x1_2
  have _ := fz x1_2
  have _ := ltb x1_2
  obtain ⟨_, _⟩ := cells2 x1_3
  have _ := fz x1_3
  have _ := ltb x1_3
  have X1_0 := hid x1_0; clear x1_0
  have X1_1 := hid x1_1; clear x1_1
  have X1_2 := hid x1_2; clear x1_2
  have X1_3 := hid x1_3; clear x1_3
  have G1 := hid (g1)
  clear hg1 g1
  go_wp2_with fail
  refine wp_regPa (.cells #[.int .i64 0, .int .i64 0] 29) 6 7 [8] (by kernel_rfl) (by kernel_rfl) rfl (fun _ _ => by kernel_rfl) rfl ?_
  apply Exists.intro
  refine ⟨132, #[fr g0 g1, fr a b], fun wb hb => ?_, ?_⟩
  · obtain ⟨_, _⟩ := hb.at2 X1_0.out
    obtain ⟨_, _, _⟩ := hb.at3 X1_1.out
    obtain ⟨_, _⟩ := hb.at2 X1_2.out
    obtain ⟨_, _⟩ := hb.at2 X1_3.out
    simp only [headOps, List.contains, List.elem, List.length_cons, List.length_nil, Nat.zero_add, Nat.reduceAdd, Nat.reduceBEq, reduceIte, Bool.false_eq_true, dumOp]
    repeat (first | go_big_quiet_step (first | (first | (go_at_call 131; exact Calls.of_gr (hLW.out _)))) | quiet_step (fail))
    exact wpQuiet_nil rfl
  refine ⟨fun w' => by kernel_rfl, fun w' hg' => (hTM.out w').mono fun e w2 ⟨⟨x, y, he⟩, hg2⟩ => ⟨_, he, fun a' ha' => ⟨ha', ⟨x, y, rfl⟩, ((G1.out).trans hg').trans hg2⟩⟩⟩
set_option maxRecDepth 20000 in
set_option maxHeartbeats 1000000 in
theorem ird_a1 (a b x y g0 g1 p0 p1 : Int) (R N : Nat) (A : Option Addr) (c : Nat) (xs : List (Int × Int)) (w : World) (X : Hid (RdF w A xs)) (hRN : R < N) (hN : N ≤ 40)
    (hLF : ∀ w, Hid (RdF w A xs) → Calls Try.prog 95 #[vn N false, scl a b A xs.length c, fr x y] w fun e w' => e = .returned (.int .i64 (R : Int)) ∧ Gr w w')
    (hLW : ∀ w, Calls Try.prog 131 #[.int .i64 (R : Int), .int .i64 N] w fun e w' => e = .returned (fr g0 g1) ∧ Gr w w')
    (hTM : ∀ w, Calls Try.prog 132 #[fr g0 g1, fr a b] w fun e w' => e = .returned (fr p0 p1) ∧ Gr w w')
    (hMN : ∀ w, Calls Try.prog 123 #[fr x y, fr p0 p1] w fun e w' => (∃ x y, e = .panicked [{ v := .iface 125 (fr x y), recovered := false }]) ∧ Gr w w') :
    Calls Try.prog 98 #[vn N false, scl a b A xs.length c, fr x y] w fun e w' => (∃ x y, e = .panicked [{ v := .iface 125 (fr x y), recovered := false }]) ∧ Gr w w' := by
  have hLF := hid hLF
  have hLW := hid hLW
  have hTM := hid hTM
  have hMN := hid hMN
  have _ := hRN
  have _ := hN
  go_enter Try.func98, Try.ntmps98
  go_wp2_with fail
  refine (hLF.out _ (hid (X.out.keep (((((Gr.refl w).al _).al _).al _).al _)))).mono ?_
  rintro e w1 ⟨rfl, hg1⟩
  obtain ⟨x1_0, x1_1, x1_2, x1_3, hz1, g1⟩ := alloc4 hg1
  obtain ⟨_, _⟩ := cells2 x1_0
  have _ := fz x1_0
  have _ := ltb x1_0
  obtain ⟨_, _, _⟩ := cells3 x1_1
  have _ := fz x1_1
  have _ := ltb x1_1
  obtain ⟨_, _⟩ := cells2 x1_2
  have _ := fz x1_2
  have _ := ltb x1_2
  obtain ⟨_, _⟩ := cells2 x1_3
  have _ := fz x1_3
  have _ := ltb x1_3
  have X1_0 := hid x1_0; clear x1_0
  have X1_1 := hid x1_1; clear x1_1
  have X1_2 := hid x1_2; clear x1_2
  have X1_3 := hid x1_3; clear x1_3
  have G1 := hid (g1)
  clear hg1 g1
  go_wp2_with fail
  refine wp_reg1 (b0 := .cells #[.int .i64 0, .int .i64 0] 29) 8 7 8 (by kernel_rfl) (by kernel_rfl) rfl rfl (by simp) (fun _ _ => by kernel_rfl) ?_
  apply Exists.intro
  refine ⟨fun wb hb => ?_, ?_⟩
  · obtain ⟨_, _⟩ := hb.at2 X1_0.out
    obtain ⟨_, _, _⟩ := hb.at3 X1_1.out
    obtain ⟨_, _⟩ := hb.at2 X1_2.out
    obtain ⟨_, _⟩ := hb.at2 X1_3.out
    simp only [headOps, List.contains, List.elem, Nat.reduceAdd, Nat.reduceBEq, reduceIte, Bool.false_eq_true, dumOp]
    repeat (first | go_big_quiet_step (first | (go_at_call 131; exact Calls.of_gr (hLW.out _)) | (go_at_call 132; exact Calls.of_gr (hTM.out _))) | quiet_step (fail))
    exact wpQuiet_nil rfl
  intro w2 b2 hg2 hb2 xb2
  have N2_0 := hid (Nat.ne_of_lt (Nat.lt_of_lt_of_le (ltb X1_0.out) hb2))
  have N2_1 := hid (Nat.ne_of_lt (Nat.lt_of_lt_of_le (ltb X1_1.out) hb2))
  have N2_2 := hid (Nat.ne_of_lt (Nat.lt_of_lt_of_le (ltb X1_2.out) hb2))
  have N2_3 := hid (Nat.ne_of_lt (Nat.lt_of_lt_of_le (ltb X1_3.out) hb2))
  have hge2 := hid (Nat.le_trans (G1.out).size hb2)
  have x2_1 := hg2.keep X1_0.out
  have x2_2 := hg2.keep X1_1.out
  have x2_3 := hg2.keep X1_2.out
  have x2_4 := hg2.keep X1_3.out
  obtain ⟨_, _⟩ := cells2 x2_1
  have _ := fz x2_1
  have _ := ltb x2_1
  obtain ⟨_, _, _⟩ := cells3 x2_2
  have _ := fz x2_2
  have _ := ltb x2_2
  obtain ⟨_, _⟩ := cells2 x2_3
  have _ := fz x2_3
  have _ := ltb x2_3
  obtain ⟨_, _⟩ := cells2 x2_4
  have _ := fz x2_4
  have _ := ltb x2_4
  obtain ⟨_, _⟩ := cells2 xb2
  have _ := fz xb2
  have _ := ltb xb2
  have X2_1 := hid x2_1; clear x2_1
  have X2_2 := hid x2_2; clear x2_2
  have X2_3 := hid x2_3; clear x2_3
  have X2_4 := hid x2_4; clear x2_4
  have Xb2 := hid xb2; clear xb2
  have G2 := hid (G1.out.trans hg2)
  clear hg2
  clear hb2
  go_wp2_with fail
  refine wp_regP 2 [5, 6] (by kernel_rfl) (by kernel_rfl) rfl ?_
  apply Exists.intro
  refine ⟨123, #[fr x y, fr p0 p1], fun wb hb => ?_, ?_⟩
  · obtain ⟨_, _⟩ := hb.at2 (set2_old X2_1.out N2_0.out)
    obtain ⟨_, _, _⟩ := hb.at3 (set2_old X2_2.out N2_1.out)
    obtain ⟨_, _⟩ := hb.at2 (set2_old X2_3.out N2_2.out)
    obtain ⟨_, _⟩ := hb.at2 (set2_old X2_4.out N2_3.out)
    obtain ⟨_, _⟩ := hb.at2 (set2_new Xb2.out)
    simp only [headOps, List.contains, List.elem, List.length_cons, List.length_nil, Nat.zero_add, Nat.reduceAdd, Nat.reduceBEq, reduceIte, Bool.false_eq_true, dumOp]
    repeat (first | go_big_quiet_step (first | (fail)) | quiet_step (fail))
    exact wpQuiet_nil rfl
  refine ⟨fun w' => by kernel_rfl, fun w' hg' => (hMN.out w').mono fun e w2 ⟨⟨x, y, he⟩, hg2⟩ => ⟨_, he, fun a' ha' => ⟨ha', ⟨x, y, rfl⟩, (((G2.out.setCell hge2.out _).setCell hge2.out _).trans hg').trans hg2⟩⟩⟩
set_option maxRecDepth 20000 in
set_option maxHeartbeats 1000000 in
theorem ird_a2 (a b x y g0 g1 p0 p1 d0 d1 : Int) (R N : Nat) (A : Option Addr) (c : Nat) (xs : List (Int × Int)) (w : World) (X : Hid (RdF w A xs)) (hRN : R < N) (hN : N ≤ 40)
    (hLF : ∀ w, Hid (RdF w A xs) → Calls Try.prog 95 #[vn N false, scl a b A xs.length c, fr x y] w fun e w' => e = .returned (.int .i64 (R : Int)) ∧ Gr w w')
    (hLW : ∀ w, Calls Try.prog 131 #[.int .i64 (R : Int), .int .i64 N] w fun e w' => e = .returned (fr g0 g1) ∧ Gr w w')
    (hTM : ∀ w, Calls Try.prog 132 #[fr g0 g1, fr a b] w fun e w' => e = .returned (fr p0 p1) ∧ Gr w w')
    (hMN : ∀ w, Calls Try.prog 123 #[fr x y, fr p0 p1] w fun e w' => e = .returned (fr d0 d1) ∧ Gr w w')
    (hNR : ∀ w, Calls Try.prog 133 #[fr d0 d1, fr a b] w fun e w' => (∃ x y, e = .panicked [{ v := .iface 125 (fr x y), recovered := false }]) ∧ Gr w w') :
    Calls Try.prog 98 #[vn N false, scl a b A xs.length c, fr x y] w fun e w' => (∃ x y, e = .panicked [{ v := .iface 125 (fr x y), recovered := false }]) ∧ Gr w w' := by
  have hLF := hid hLF
  have hLW := hid hLW
  have hTM := hid hTM
  have hMN := hid hMN
  have hNR := hid hNR
  have _ := hRN
  have _ := hN
  go_enter Try.func98, Try.ntmps98
  go_wp2_with fail
  refine (hLF.out _ (hid (X.out.keep (((((Gr.refl w).al _).al _).al _).al _)))).mono ?_
  rintro e w1 ⟨rfl, hg1⟩
  obtain ⟨x1_0, x1_1, x1_2, x1_3, hz1, g1⟩ := alloc4 hg1
  obtain ⟨_, _⟩ := cells2 x1_0
  have _ := fz x1_0
  have _ := ltb x1_0
  obtain ⟨_, _, _⟩ := cells3 x1_1
  have _ := fz x1_1
  have _ := ltb x1_1
  obtain ⟨_, _⟩ := cells2 x1_2
  have _ := fz x1_2
  have _ := ltb x1_2
  obtain ⟨_, _⟩ := cells2 x1_3
  have _ := fz x1_3
  have _ := ltb x1_3
  have X1_0 := hid x1_0; clear x1_0
  have X1_1 := hid x1_1; clear x1_1
  have X1_2 := hid x1_2; clear x1_2
  have X1_3 := hid x1_3; clear x1_3
  have G1 := hid (g1)
  clear hg1 g1
  go_wp2_with fail
  refine wp_reg1 (b0 := .cells #[.int .i64 0, .int .i64 0] 29) 8 7 8 (by kernel_rfl) (by kernel_rfl) rfl rfl (by simp) (fun _ _ => by kernel_rfl) ?_
  apply Exists.intro
  refine ⟨fun wb hb => ?_, ?_⟩
  · obtain ⟨_, _⟩ := hb.at2 X1_0.out
    obtain ⟨_, _, _⟩ := hb.at3 X1_1.out
    obtain ⟨_, _⟩ := hb.at2 X1_2.out
    obtain ⟨_, _⟩ := hb.at2 X1_3.out
    simp only [headOps, List.contains, List.elem, Nat.reduceAdd, Nat.reduceBEq, reduceIte, Bool.false_eq_true, dumOp]
    repeat (first | go_big_quiet_step (first | (go_at_call 131; exact Calls.of_gr (hLW.out _)) | (go_at_call 132; exact Calls.of_gr (hTM.out _))) | quiet_step (fail))
    exact wpQuiet_nil rfl
  intro w2 b2 hg2 hb2 xb2
  have N2_0 := hid (Nat.ne_of_lt (Nat.lt_of_lt_of_le (ltb X1_0.out) hb2))
  have N2_1 := hid (Nat.ne_of_lt (Nat.lt_of_lt_of_le (ltb X1_1.out) hb2))
  have N2_2 := hid (Nat.ne_of_lt (Nat.lt_of_lt_of_le (ltb X1_2.out) hb2))
  have N2_3 := hid (Nat.ne_of_lt (Nat.lt_of_lt_of_le (ltb X1_3.out) hb2))
  have hge2 := hid (Nat.le_trans (G1.out).size hb2)
  have x2_1 := hg2.keep X1_0.out
  have x2_2 := hg2.keep X1_1.out
  have x2_3 := hg2.keep X1_2.out
  have x2_4 := hg2.keep X1_3.out
  obtain ⟨_, _⟩ := cells2 x2_1
  have _ := fz x2_1
  have _ := ltb x2_1
  obtain ⟨_, _, _⟩ := cells3 x2_2
  have _ := fz x2_2
  have _ := ltb x2_2
  obtain ⟨_, _⟩ := cells2 x2_3
  have _ := fz x2_3
  have _ := ltb x2_3
  obtain ⟨_, _⟩ := cells2 x2_4
  have _ := fz x2_4
  have _ := ltb x2_4
  obtain ⟨_, _⟩ := cells2 xb2
  have _ := fz xb2
  have _ := ltb xb2
  have X2_1 := hid x2_1; clear x2_1
  have X2_2 := hid x2_2; clear x2_2
  have X2_3 := hid x2_3; clear x2_3
  have X2_4 := hid x2_4; clear x2_4
  have Xb2 := hid xb2; clear xb2
  have G2 := hid (G1.out.trans hg2)
  clear hg2
  clear hb2
  go_wp2_with fail
  refine wp_regP 5 [6] (by kernel_rfl) (by kernel_rfl) rfl ?_
  apply Exists.intro
  refine ⟨133, #[fr d0 d1, fr a b], fun wb hb => ?_, ?_⟩
  · obtain ⟨_, _⟩ := hb.at2 (set2_old X2_1.out N2_0.out)
    obtain ⟨_, _, _⟩ := hb.at3 (set2_old X2_2.out N2_1.out)
    obtain ⟨_, _⟩ := hb.at2 (set2_old X2_3.out N2_2.out)
    obtain ⟨_, _⟩ := hb.at2 (set2_old X2_4.out N2_3.out)
    obtain ⟨_, _⟩ := hb.at2 (set2_new Xb2.out)
    simp only [headOps, List.contains, List.elem, List.length_cons, List.length_nil, Nat.zero_add, Nat.reduceAdd, Nat.reduceBEq, reduceIte, Bool.false_eq_true, dumOp]
    repeat (first | go_big_quiet_step (first | (first | (go_at_call 123; exact Calls.of_gr (hMN.out _)))) | quiet_step (fail))
    exact wpQuiet_nil rfl
  refine ⟨fun w' => by kernel_rfl, fun w' hg' => (hNR.out w').mono fun e w2 ⟨⟨x, y, he⟩, hg2⟩ => ⟨_, he, fun a' ha' => ⟨ha', ⟨x, y, rfl⟩, (((G2.out.setCell hge2.out _).setCell hge2.out _).trans hg').trans hg2⟩⟩⟩
set_option maxRecDepth 20000 in
set_option maxHeartbeats 1000000 in
theorem ird_a3 (a b x y g0 g1 p0 p1 d0 d1 nn : Int) (R N : Nat) (A : Option Addr) (c : Nat) (xs : List (Int × Int)) (w : World) (X : Hid (RdF w A xs)) (hRN : R < N) (hN : N ≤ 40)
    (hLF : ∀ w, Hid (RdF w A xs) → Calls Try.prog 95 #[vn N false, scl a b A xs.length c, fr x y] w fun e w' => e = .returned (.int .i64 (R : Int)) ∧ Gr w w')
    (hLW : ∀ w, Calls Try.prog 131 #[.int .i64 (R : Int), .int .i64 N] w fun e w' => e = .returned (fr g0 g1) ∧ Gr w w')
    (hTM : ∀ w, Calls Try.prog 132 #[fr g0 g1, fr a b] w fun e w' => e = .returned (fr p0 p1) ∧ Gr w w')
    (hMN : ∀ w, Calls Try.prog 123 #[fr x y, fr p0 p1] w fun e w' => e = .returned (fr d0 d1) ∧ Gr w w')
    (hNR : ∀ w, Calls Try.prog 133 #[fr d0 d1, fr a b] w fun e w' => e = .returned (.int .i64 nn) ∧ Gr w w')
    (hTW : ∀ w, Calls Try.prog 103 #[fr a b, .int .i64 nn] w fun e w' => (∃ x y, e = .panicked [{ v := .iface 125 (fr x y), recovered := false }]) ∧ Gr w w') :
    Calls Try.prog 98 #[vn N false, scl a b A xs.length c, fr x y] w fun e w' => (∃ x y, e = .panicked [{ v := .iface 125 (fr x y), recovered := false }]) ∧ Gr w w' := by
  have hLF := hid hLF
  have hLW := hid hLW
  have hTM := hid hTM
  have hMN := hid hMN
  have hNR := hid hNR
  have hTW := hid hTW
  have _ := hRN
  have _ := hN
  go_enter Try.func98, Try.ntmps98
  go_wp2_with fail
  refine (hLF.out _ (hid (X.out.keep (((((Gr.refl w).al _).al _).al _).al _)))).mono ?_
  rintro e w1 ⟨rfl, hg1⟩
  obtain ⟨x1_0, x1_1, x1_2, x1_3, hz1, g1⟩ := alloc4 hg1
  obtain ⟨_, _⟩ := cells2 x1_0
  have _ := fz x1_0
  have _ := ltb x1_0
  obtain ⟨_, _, _⟩ := cells3 x1_1
  have _ := fz x1_1
  have _ := ltb x1_1
  obtain ⟨_, _⟩ := cells2 x1_2
  have _ := fz x1_2
  have _ := ltb x1_2
  obtain ⟨_, _⟩ := cells2 x1_3
  have _ := fz x1_3
  have _ := ltb x1_3
  have X1_0 := hid x1_0; clear x1_0
  have X1_1 := hid x1_1; clear x1_1
  have X1_2 := hid x1_2; clear x1_2
  have X1_3 := hid x1_3; clear x1_3
  have G1 := hid (g1)
  clear hg1 g1
  go_wp2_with fail
  refine wp_reg1 (b0 := .cells #[.int .i64 0, .int .i64 0] 29) 8 7 8 (by kernel_rfl) (by kernel_rfl) rfl rfl (by simp) (fun _ _ => by kernel_rfl) ?_
  apply Exists.intro
  refine ⟨fun wb hb => ?_, ?_⟩
  · obtain ⟨_, _⟩ := hb.at2 X1_0.out
    obtain ⟨_, _, _⟩ := hb.at3 X1_1.out
    obtain ⟨_, _⟩ := hb.at2 X1_2.out
    obtain ⟨_, _⟩ := hb.at2 X1_3.out
    simp only [headOps, List.contains, List.elem, Nat.reduceAdd, Nat.reduceBEq, reduceIte, Bool.false_eq_true, dumOp]
    repeat (first | go_big_quiet_step (first | (go_at_call 131; exact Calls.of_gr (hLW.out _)) | (go_at_call 132; exact Calls.of_gr (hTM.out _))) | quiet_step (fail))
    exact wpQuiet_nil rfl
  intro w2 b2 hg2 hb2 xb2
  have N2_0 := hid (Nat.ne_of_lt (Nat.lt_of_lt_of_le (ltb X1_0.out) hb2))
  have N2_1 := hid (Nat.ne_of_lt (Nat.lt_of_lt_of_le (ltb X1_1.out) hb2))
  have N2_2 := hid (Nat.ne_of_lt (Nat.lt_of_lt_of_le (ltb X1_2.out) hb2))
  have N2_3 := hid (Nat.ne_of_lt (Nat.lt_of_lt_of_le (ltb X1_3.out) hb2))
  have hge2 := hid (Nat.le_trans (G1.out).size hb2)
  have x2_1 := hg2.keep X1_0.out
  have x2_2 := hg2.keep X1_1.out
  have x2_3 := hg2.keep X1_2.out
  have x2_4 := hg2.keep X1_3.out
  obtain ⟨_, _⟩ := cells2 x2_1
  have _ := fz x2_1
  have _ := ltb x2_1
  obtain ⟨_, _, _⟩ := cells3 x2_2
  have _ := fz x2_2
  have _ := ltb x2_2
  obtain ⟨_, _⟩ := cells2 x2_3
  have _ := fz x2_3
  have _ := ltb x2_3
  obtain ⟨_, _⟩ := cells2 x2_4
  have _ := fz x2_4
  have _ := ltb x2_4
  obtain ⟨_, _⟩ := cells2 xb2
  have _ := fz xb2
  have _ := ltb xb2
  have X2_1 := hid x2_1; clear x2_1
  have X2_2 := hid x2_2; clear x2_2
  have X2_3 := hid x2_3; clear x2_3
  have X2_4 := hid x2_4; clear x2_4
  have Xb2 := hid xb2; clear xb2
  have G2 := hid (G1.out.trans hg2)
  clear hg2
  clear hb2
  go_wp2_with fail
  refine wp_reg0 6 (by kernel_rfl) (by kernel_rfl) ?_
  apply Exists.intro
  refine ⟨fun wb hb => ?_, ?_⟩
  · obtain ⟨_, _⟩ := hb.at2 (set2_old X2_1.out N2_0.out)
    obtain ⟨_, _, _⟩ := hb.at3 (set2_old X2_2.out N2_1.out)
    obtain ⟨_, _⟩ := hb.at2 (set2_old X2_3.out N2_2.out)
    obtain ⟨_, _⟩ := hb.at2 (set2_old X2_4.out N2_3.out)
    obtain ⟨_, _⟩ := hb.at2 (set2_new Xb2.out)
    simp only [headOps, List.contains, List.elem, reduceIte, Bool.false_eq_true]
    repeat (first | go_big_quiet_step (first | (go_at_call 123; exact Calls.of_gr (hMN.out _)) | (go_at_call 133; exact Calls.of_gr (hNR.out _))) | quiet_step (fail))
    exact wpQuiet_nil rfl
  intro w3 hg3
  have x3_1 := hg3.keep (set2_old X2_1.out N2_0.out)
  have x3_2 := hg3.keep (set2_old X2_2.out N2_1.out)
  have x3_3 := hg3.keep (set2_old X2_3.out N2_2.out)
  have x3_4 := hg3.keep (set2_old X2_4.out N2_3.out)
  have x3_5 := hg3.keep (set2_new Xb2.out)
  obtain ⟨_, _⟩ := cells2 x3_1
  have _ := fz x3_1
  have _ := ltb x3_1
  obtain ⟨_, _, _⟩ := cells3 x3_2
  have _ := fz x3_2
  have _ := ltb x3_2
  obtain ⟨_, _⟩ := cells2 x3_3
  have _ := fz x3_3
  have _ := ltb x3_3
  obtain ⟨_, _⟩ := cells2 x3_4
  have _ := fz x3_4
  have _ := ltb x3_4
  obtain ⟨_, _⟩ := cells2 x3_5
  have _ := fz x3_5
  have _ := ltb x3_5
  have X3_1 := hid x3_1; clear x3_1
  have X3_2 := hid x3_2; clear x3_2
  have X3_3 := hid x3_3; clear x3_3
  have X3_4 := hid x3_4; clear x3_4
  have X3_5 := hid x3_5; clear x3_5
  have G3 := hid ((((G2.out).setCell hge2.out _).setCell hge2.out _).trans hg3)
  clear hg3
  go_wp2_with fail
  refine wp_regP 4 [5, 6] (by kernel_rfl) (by kernel_rfl) rfl ?_
  apply Exists.intro
  refine ⟨103, #[fr a b, .int .i64 nn], fun wb hb => ?_, ?_⟩
  · obtain ⟨_, _⟩ := hb.at2 X3_1.out
    obtain ⟨_, _, _⟩ := hb.at3 X3_2.out
    obtain ⟨_, _⟩ := hb.at2 X3_3.out
    obtain ⟨_, _⟩ := hb.at2 X3_4.out
    obtain ⟨_, _⟩ := hb.at2 X3_5.out
    simp only [headOps, List.contains, List.elem, List.length_cons, List.length_nil, Nat.zero_add, Nat.reduceAdd, Nat.reduceBEq, reduceIte, Bool.false_eq_true, dumOp]
    repeat (first | go_big_quiet_step (first | (fail)) | quiet_step (fail))
    exact wpQuiet_nil rfl
  refine ⟨fun w' => by kernel_rfl, fun w' hg' => (hTW.out w').mono fun e w2 ⟨⟨x, y, he⟩, hg2⟩ => ⟨_, he, fun a' ha' => ⟨ha', ⟨x, y, rfl⟩, ((G3.out).trans hg').trans hg2⟩⟩⟩
set_option maxRecDepth 20000 in
set_option maxHeartbeats 1000000 in
theorem ird_a4 (a b x y g0 g1 p0 p1 d0 d1 nn t0 t1 : Int) (R N : Nat) (A : Option Addr) (c : Nat) (xs : List (Int × Int)) (w : World) (X : Hid (RdF w A xs)) (hRN : R < N) (hN : N ≤ 40)
    (hLF : ∀ w, Hid (RdF w A xs) → Calls Try.prog 95 #[vn N false, scl a b A xs.length c, fr x y] w fun e w' => e = .returned (.int .i64 (R : Int)) ∧ Gr w w')
    (hLW : ∀ w, Calls Try.prog 131 #[.int .i64 (R : Int), .int .i64 N] w fun e w' => e = .returned (fr g0 g1) ∧ Gr w w')
    (hTM : ∀ w, Calls Try.prog 132 #[fr g0 g1, fr a b] w fun e w' => e = .returned (fr p0 p1) ∧ Gr w w')
    (hMN : ∀ w, Calls Try.prog 123 #[fr x y, fr p0 p1] w fun e w' => e = .returned (fr d0 d1) ∧ Gr w w')
    (hNR : ∀ w, Calls Try.prog 133 #[fr d0 d1, fr a b] w fun e w' => e = .returned (.int .i64 nn) ∧ Gr w w')
    (hTW : ∀ w, Calls Try.prog 103 #[fr a b, .int .i64 nn] w fun e w' => e = .returned (fr t0 t1) ∧ Gr w w')
    (hPL : ∀ w, Calls Try.prog 102 #[fr p0 p1, fr t0 t1] w fun e w' => (∃ x y, e = .panicked [{ v := .iface 125 (fr x y), recovered := false }]) ∧ Gr w w') :
    Calls Try.prog 98 #[vn N false, scl a b A xs.length c, fr x y] w fun e w' => (∃ x y, e = .panicked [{ v := .iface 125 (fr x y), recovered := false }]) ∧ Gr w w' := by
  have hLF := hid hLF
  have hLW := hid hLW
  have hTM := hid hTM
  have hMN := hid hMN
  have hNR := hid hNR
  have hTW := hid hTW
  have hPL := hid hPL
  have _ := hRN
  have _ := hN
  go_enter Try.func98, Try.ntmps98
  go_wp2_with fail
  refine (hLF.out _ (hid (X.out.keep (((((Gr.refl w).al _).al _).al _).al _)))).mono ?_
  rintro e w1 ⟨rfl, hg1⟩
  obtain ⟨x1_0, x1_1, x1_2, x1_3, hz1, g1⟩ := alloc4 hg1
  obtain ⟨_, _⟩ := cells2 x1_0
  have _ := fz x1_0
  have _ := ltb x1_0
  obtain ⟨_, _, _⟩ := cells3 x1_1
  have _ := fz x1_1
  have _ := ltb x1_1
  obtain ⟨_, _⟩ := cells2 x1_2
  have _ := fz x1_2
  have _ := ltb x1_2
  obtain ⟨_, _⟩ := cells2 x1_3
  have _ := fz x1_3
  have _ := ltb x1_3
  have X1_0 := hid x1_0; clear x1_0
  have X1_1 := hid x1_1; clear x1_1
  have X1_2 := hid x1_2; clear x1_2
  have X1_3 := hid x1_3; clear x1_3
  have G1 := hid (g1)
  clear hg1 g1
  go_wp2_with fail
  refine wp_reg1 (b0 := .cells #[.int .i64 0, .int .i64 0] 29) 8 7 8 (by kernel_rfl) (by kernel_rfl) rfl rfl (by simp) (fun _ _ => by kernel_rfl) ?_
  apply Exists.intro
  refine ⟨fun wb hb => ?_, ?_⟩
  · obtain ⟨_, _⟩ := hb.at2 X1_0.out
    obtain ⟨_, _, _⟩ := hb.at3 X1_1.out
    obtain ⟨_, _⟩ := hb.at2 X1_2.out
    obtain ⟨_, _⟩ := hb.at2 X1_3.out
    simp only [headOps, List.contains, List.elem, Nat.reduceAdd, Nat.reduceBEq, reduceIte, Bool.false_eq_true, dumOp]
    repeat (first | go_big_quiet_step (first | (go_at_call 131; exact Calls.of_gr (hLW.out _)) | (go_at_call 132; exact Calls.of_gr (hTM.out _))) | quiet_step (fail))
    exact wpQuiet_nil rfl
  intro w2 b2 hg2 hb2 xb2
  have N2_0 := hid (Nat.ne_of_lt (Nat.lt_of_lt_of_le (ltb X1_0.out) hb2))
  have N2_1 := hid (Nat.ne_of_lt (Nat.lt_of_lt_of_le (ltb X1_1.out) hb2))
  have N2_2 := hid (Nat.ne_of_lt (Nat.lt_of_lt_of_le (ltb X1_2.out) hb2))
  have N2_3 := hid (Nat.ne_of_lt (Nat.lt_of_lt_of_le (ltb X1_3.out) hb2))
  have hge2 := hid (Nat.le_trans (G1.out).size hb2)
  have x2_1 := hg2.keep X1_0.out
  have x2_2 := hg2.keep X1_1.out
  have x2_3 := hg2.keep X1_2.out
  have x2_4 := hg2.keep X1_3.out
  obtain ⟨_, _⟩ := cells2 x2_1
  have _ := fz x2_1
  have _ := ltb x2_1
  obtain ⟨_, _, _⟩ := cells3 x2_2
  have _ := fz x2_2
  have _ := ltb x2_2
  obtain ⟨_, _⟩ := cells2 x2_3
  have _ := fz x2_3
  have _ := ltb x2_3
  obtain ⟨_, _⟩ := cells2 x2_4
  have _ := fz x2_4
  have _ := ltb x2_4
  obtain ⟨_, _⟩ := cells2 xb2
  have _ := fz xb2
  have _ := ltb xb2
  have X2_1 := hid x2_1; clear x2_1
  have X2_2 := hid x2_2; clear x2_2
  have X2_3 := hid x2_3; clear x2_3
  have X2_4 := hid x2_4; clear x2_4
  have Xb2 := hid xb2; clear xb2
  have G2 := hid (G1.out.trans hg2)
  clear hg2
  clear hb2
  go_wp2_with fail
  refine wp_reg0 6 (by kernel_rfl) (by kernel_rfl) ?_
  apply Exists.intro
  refine ⟨fun wb hb => ?_, ?_⟩
  · obtain ⟨_, _⟩ := hb.at2 (set2_old X2_1.out N2_0.out)
    obtain ⟨_, _, _⟩ := hb.at3 (set2_old X2_2.out N2_1.out)
    obtain ⟨_, _⟩ := hb.at2 (set2_old X2_3.out N2_2.out)
    obtain ⟨_, _⟩ := hb.at2 (set2_old X2_4.out N2_3.out)
    obtain ⟨_, _⟩ := hb.at2 (set2_new Xb2.out)
    simp only [headOps, List.contains, List.elem, reduceIte, Bool.false_eq_true]
    repeat (first | go_big_quiet_step (first | (go_at_call 123; exact Calls.of_gr (hMN.out _)) | (go_at_call 133; exact Calls.of_gr (hNR.out _))) | quiet_step (fail))
    exact wpQuiet_nil rfl
  intro w3 hg3
  have x3_1 := hg3.keep (set2_old X2_1.out N2_0.out)
  have x3_2 := hg3.keep (set2_old X2_2.out N2_1.out)
  have x3_3 := hg3.keep (set2_old X2_3.out N2_2.out)
  have x3_4 := hg3.keep (set2_old X2_4.out N2_3.out)
  have x3_5 := hg3.keep (set2_new Xb2.out)
  obtain ⟨_, _⟩ := cells2 x3_1
  have _ := fz x3_1
  have _ := ltb x3_1
  obtain ⟨_, _, _⟩ := cells3 x3_2
  have _ := fz x3_2
  have _ := ltb x3_2
  obtain ⟨_, _⟩ := cells2 x3_3
  have _ := fz x3_3
  have _ := ltb x3_3
  obtain ⟨_, _⟩ := cells2 x3_4
  have _ := fz x3_4
  have _ := ltb x3_4
  obtain ⟨_, _⟩ := cells2 x3_5
  have _ := fz x3_5
  have _ := ltb x3_5
  have X3_1 := hid x3_1; clear x3_1
  have X3_2 := hid x3_2; clear x3_2
  have X3_3 := hid x3_3; clear x3_3
  have X3_4 := hid x3_4; clear x3_4
  have X3_5 := hid x3_5; clear x3_5
  have G3 := hid ((((G2.out).setCell hge2.out _).setCell hge2.out _).trans hg3)
  clear hg3
  go_wp2_with fail
  refine wp_regP 5 [6] (by kernel_rfl) (by kernel_rfl) rfl ?_
  apply Exists.intro
  refine ⟨102, #[fr p0 p1, fr t0 t1], fun wb hb => ?_, ?_⟩
  · obtain ⟨_, _⟩ := hb.at2 X3_1.out
    obtain ⟨_, _, _⟩ := hb.at3 X3_2.out
    obtain ⟨_, _⟩ := hb.at2 X3_3.out
    obtain ⟨_, _⟩ := hb.at2 X3_4.out
    obtain ⟨_, _⟩ := hb.at2 X3_5.out
    simp only [headOps, List.contains, List.elem, List.length_cons, List.length_nil, Nat.zero_add, Nat.reduceAdd, Nat.reduceBEq, reduceIte, Bool.false_eq_true, dumOp]
    repeat (first | go_big_quiet_step (first | (first | (go_at_call 103; exact Calls.of_gr (hTW.out _)))) | quiet_step (fail))
    exact wpQuiet_nil rfl
  refine ⟨fun w' => by kernel_rfl, fun w' hg' => (hPL.out w').mono fun e w2 ⟨⟨x, y, he⟩, hg2⟩ => ⟨_, he, fun a' ha' => ⟨ha', ⟨x, y, rfl⟩, ((G3.out).trans hg').trans hg2⟩⟩⟩
set_option maxRecDepth 20000 in
set_option maxHeartbeats 1000000 in
theorem ird_a5 (a b x y g0 g1 p0 p1 d0 d1 nn t0 t1 s0 s1 : Int) (R N : Nat) (A : Option Addr) (c : Nat) (xs : List (Int × Int)) (w : World) (X : Hid (RdF w A xs)) (hRN : R < N) (hN : N ≤ 40)
    (hLF : ∀ w, Hid (RdF w A xs) → Calls Try.prog 95 #[vn N false, scl a b A xs.length c, fr x y] w fun e w' => e = .returned (.int .i64 (R : Int)) ∧ Gr w w')
    (hLW : ∀ w, Calls Try.prog 131 #[.int .i64 (R : Int), .int .i64 N] w fun e w' => e = .returned (fr g0 g1) ∧ Gr w w')
    (hTM : ∀ w, Calls Try.prog 132 #[fr g0 g1, fr a b] w fun e w' => e = .returned (fr p0 p1) ∧ Gr w w')
    (hMN : ∀ w, Calls Try.prog 123 #[fr x y, fr p0 p1] w fun e w' => e = .returned (fr d0 d1) ∧ Gr w w')
    (hNR : ∀ w, Calls Try.prog 133 #[fr d0 d1, fr a b] w fun e w' => e = .returned (.int .i64 nn) ∧ Gr w w')
    (hTW : ∀ w, Calls Try.prog 103 #[fr a b, .int .i64 nn] w fun e w' => e = .returned (fr t0 t1) ∧ Gr w w')
    (hPL : ∀ w, Calls Try.prog 102 #[fr p0 p1, fr t0 t1] w fun e w' => e = .returned (fr s0 s1) ∧ Gr w w') :
    Calls Try.prog 98 #[vn N false, scl a b A xs.length c, fr x y] w fun e w' => e = .returned (fr s0 s1) ∧ Gr w w' := by
  have hLF := hid hLF
  have hLW := hid hLW
  have hTM := hid hTM
  have hMN := hid hMN
  have hNR := hid hNR
  have hTW := hid hTW
  have hPL := hid hPL
  have _ := hRN
  have _ := hN
  go_enter Try.func98, Try.ntmps98
  go_wp2_with fail
  refine (hLF.out _ (hid (X.out.keep (((((Gr.refl w).al _).al _).al _).al _)))).mono ?_
  rintro e w1 ⟨rfl, hg1⟩
  obtain ⟨x1_0, x1_1, x1_2, x1_3, hz1, g1⟩ := alloc4 hg1
  obtain ⟨_, _⟩ := cells2 x1_0
  have _ := fz x1_0
  have _ := ltb x1_0
  obtain ⟨_, _, _⟩ := cells3 x1_1
  have _ := fz x1_1
  have _ := ltb x1_1
  obtain ⟨_, _⟩ := cells2 x1_2
  have _ := fz x1_2
  have _ := ltb x1_2
  obtain ⟨_, _⟩ := cells2 x1_3
  have _ := fz x1_3
  have _ := ltb x1_3
  have X1_0 := hid x1_0; clear x1_0
  have X1_1 := hid x1_1; clear x1_1
  have X1_2 := hid x1_2; clear x1_2
  have X1_3 := hid x1_3; clear x1_3
  have G1 := hid (g1)
  clear hg1 g1
  go_wp2_with fail
  refine wp_reg1 (b0 := .cells #[.int .i64 0, .int .i64 0] 29) 8 7 8 (by kernel_rfl) (by kernel_rfl) rfl rfl (by simp) (fun _ _ => by kernel_rfl) ?_
  apply Exists.intro
  refine ⟨fun wb hb => ?_, ?_⟩
  · obtain ⟨_, _⟩ := hb.at2 X1_0.out
    obtain ⟨_, _, _⟩ := hb.at3 X1_1.out
    obtain ⟨_, _⟩ := hb.at2 X1_2.out
    obtain ⟨_, _⟩ := hb.at2 X1_3.out
    simp only [headOps, List.contains, List.elem, Nat.reduceAdd, Nat.reduceBEq, reduceIte, Bool.false_eq_true, dumOp]
    repeat (first | go_big_quiet_step (first | (go_at_call 131; exact Calls.of_gr (hLW.out _)) | (go_at_call 132; exact Calls.of_gr (hTM.out _))) | quiet_step (fail))
    exact wpQuiet_nil rfl
  intro w2 b2 hg2 hb2 xb2
  have N2_0 := hid (Nat.ne_of_lt (Nat.lt_of_lt_of_le (ltb X1_0.out) hb2))
  have N2_1 := hid (Nat.ne_of_lt (Nat.lt_of_lt_of_le (ltb X1_1.out) hb2))
  have N2_2 := hid (Nat.ne_of_lt (Nat.lt_of_lt_of_le (ltb X1_2.out) hb2))
  have N2_3 := hid (Nat.ne_of_lt (Nat.lt_of_lt_of_le (ltb X1_3.out) hb2))
  have hge2 := hid (Nat.le_trans (G1.out).size hb2)
  have x2_1 := hg2.keep X1_0.out
  have x2_2 := hg2.keep X1_1.out
  have x2_3 := hg2.keep X1_2.out
  have x2_4 := hg2.keep X1_3.out
  obtain ⟨_, _⟩ := cells2 x2_1
  have _ := fz x2_1
  have _ := ltb x2_1
  obtain ⟨_, _, _⟩ := cells3 x2_2
  have _ := fz x2_2
  have _ := ltb x2_2
  obtain ⟨_, _⟩ := cells2 x2_3
  have _ := fz x2_3
  have _ := ltb x2_3
  obtain ⟨_, _⟩ := cells2 x2_4
  have _ := fz x2_4
  have _ := ltb x2_4
  obtain ⟨_, _⟩ := cells2 xb2
  have _ := fz xb2
  have _ := ltb xb2
  have X2_1 := hid x2_1; clear x2_1
  have X2_2 := hid x2_2; clear x2_2
  have X2_3 := hid x2_3; clear x2_3
  have X2_4 := hid x2_4; clear x2_4
  have Xb2 := hid xb2; clear xb2
  have G2 := hid (G1.out.trans hg2)
  clear hg2
  clear hb2
  go_wp2_with fail
  refine wp_reg0 6 (by kernel_rfl) (by kernel_rfl) ?_
  apply Exists.intro
  refine ⟨fun wb hb => ?_, ?_⟩
  · obtain ⟨_, _⟩ := hb.at2 (set2_old X2_1.out N2_0.out)
    obtain ⟨_, _, _⟩ := hb.at3 (set2_old X2_2.out N2_1.out)
    obtain ⟨_, _⟩ := hb.at2 (set2_old X2_3.out N2_2.out)
    obtain ⟨_, _⟩ := hb.at2 (set2_old X2_4.out N2_3.out)
    obtain ⟨_, _⟩ := hb.at2 (set2_new Xb2.out)
    simp only [headOps, List.contains, List.elem, reduceIte, Bool.false_eq_true]
    repeat (first | go_big_quiet_step (first | (go_at_call 123; exact Calls.of_gr (hMN.out _)) | (go_at_call 133; exact Calls.of_gr (hNR.out _))) | quiet_step (fail))
    exact wpQuiet_nil rfl
  intro w3 hg3
  have x3_1 := hg3.keep (set2_old X2_1.out N2_0.out)
  have x3_2 := hg3.keep (set2_old X2_2.out N2_1.out)
  have x3_3 := hg3.keep (set2_old X2_3.out N2_2.out)
  have x3_4 := hg3.keep (set2_old X2_4.out N2_3.out)
  have x3_5 := hg3.keep (set2_new Xb2.out)
  obtain ⟨_, _⟩ := cells2 x3_1
  have _ := fz x3_1
  have _ := ltb x3_1
  obtain ⟨_, _, _⟩ := cells3 x3_2
  have _ := fz x3_2
  have _ := ltb x3_2
  obtain ⟨_, _⟩ := cells2 x3_3
  have _ := fz x3_3
  have _ := ltb x3_3
  obtain ⟨_, _⟩ := cells2 x3_4
  have _ := fz x3_4
  have _ := ltb x3_4
  obtain ⟨_, _⟩ := cells2 x3_5
  have _ := fz x3_5
  have _ := ltb x3_5
  have X3_1 := hid x3_1; clear x3_1
  have X3_2 := hid x3_2; clear x3_2
  have X3_3 := hid x3_3; clear x3_3
  have X3_4 := hid x3_4; clear x3_4
  have X3_5 := hid x3_5; clear x3_5
  have G3 := hid ((((G2.out).setCell hge2.out _).setCell hge2.out _).trans hg3)
  clear hg3
  go_wp2_with fail
  refine wp_reg0 6 (by kernel_rfl) (by kernel_rfl) ?_
  apply Exists.intro
  refine ⟨fun wb hb => ?_, ?_⟩
  · obtain ⟨_, _⟩ := hb.at2 X3_1.out
    obtain ⟨_, _, _⟩ := hb.at3 X3_2.out
    obtain ⟨_, _⟩ := hb.at2 X3_3.out
    obtain ⟨_, _⟩ := hb.at2 X3_4.out
    obtain ⟨_, _⟩ := hb.at2 X3_5.out
    simp only [headOps, List.contains, List.elem, reduceIte, Bool.false_eq_true]
    repeat (first | go_big_quiet_step (first | (go_at_call 103; exact Calls.of_gr (hTW.out _)) | (go_at_call 102; exact Calls.of_gr (hPL.out _))) | quiet_step (fail))
    exact wpQuiet_nil rfl
  intro w4 hg4
  have x4_1 := hg4.keep X3_1.out
  have x4_2 := hg4.keep X3_2.out
  have x4_3 := hg4.keep X3_3.out
  have x4_4 := hg4.keep X3_4.out
  have x4_5 := hg4.keep X3_5.out
  obtain ⟨_, _⟩ := cells2 x4_1
  have _ := fz x4_1
  have _ := ltb x4_1
  obtain ⟨_, _, _⟩ := cells3 x4_2
  have _ := fz x4_2
  have _ := ltb x4_2
  obtain ⟨_, _⟩ := cells2 x4_3
  have _ := fz x4_3
  have _ := ltb x4_3
  obtain ⟨_, _⟩ := cells2 x4_4
  have _ := fz x4_4
  have _ := ltb x4_4
  obtain ⟨_, _⟩ := cells2 x4_5
  have _ := fz x4_5
  have _ := ltb x4_5
  have X4_1 := hid x4_1; clear x4_1
  have X4_2 := hid x4_2; clear x4_2
  have X4_3 := hid x4_3; clear x4_3
  have X4_4 := hid x4_4; clear x4_4
  have X4_5 := hid x4_5; clear x4_5
  have G4 := hid (G3.out.trans hg4)
  clear hg4
  go_wp2
  refine bodyPost_ret (v := fr s0 s1) (by simp [results, Try.results98, go_sem, *]) rfl ⟨rfl, ?_⟩
  exact ((G4.out).setCell (by simp <;> omega) _).setCell (by simp <;> omega) _
set_option maxRecDepth 20000 in
set_option maxHeartbeats 1000000 in
theorem srd_a0 (a b x y g0 g1 : Int) (R N : Nat) (A : Option Addr) (c : Nat) (xs : List (Int × Int)) (w : World) (k1 k2 : Nat) (X1 : Hid (w.heap[k1]? = some (.cells #[.int .i64 a, .int .i64 b, .slice A xs.length c] 32))) (X2 : Hid (w.heap[k2]? = some (.cells #[.int .i64 N, .bool false] 53))) (hRN : R < N) (hN : N ≤ 40)
    (hLF : ∀ w', Gr w w' → Calls Try.prog 92 #[.pointer (some ⟨k1, 0, none⟩), .pointer (some ⟨k2, 0, none⟩), fr x y] w' fun e w'' => e = .returned (.tuple #[.int .i64 (R : Int), .int .i64 0]) ∧ Gr w' w'')
    (hDV : ∀ w, Calls Try.prog 81 #[fr (R : Int) 1, fr N 1] w fun e w' => e = .returned (.tuple #[fr g0 g1, .int .i64 0]) ∧ Gr w w')
    (hML : ∀ w, Calls Try.prog 115 #[fr g0 g1, fr a b] w fun e w' => e = .returned (.tuple #[fr 0 0, .int .i64 3]) ∧ Gr w w') :
    Calls Try.prog 96 #[.pointer (some ⟨k1, 0, none⟩), .pointer (some ⟨k2, 0, none⟩), fr x y] w fun e w' => e = .returned (.tuple #[fr 0 0, .int .i64 3]) ∧ Gr w w' := by
  have HLF := hid hLF
  have HDV := hid hDV
  have HML := hid hML
  have _ := hRN
  have _ := hN
  clear hLF hDV hML
  go_enter Try.func96, Try.ntmps96
  obtain ⟨_, _, _⟩ := cells3 X1.out
  have _ := fz X1.out
  have _ := ltb X1.out
  obtain ⟨_, _⟩ := cells2 X2.out
  have _ := fz X2.out
  have _ := ltb X2.out
  go_wp2_with fail
  refine (HLF.out _ (((Gr.refl w).al _).al _)).mono ?_
  rintro e w1 ⟨rfl, hg1⟩
  obtain ⟨x1_0, x1_1, hz1, g1⟩ := alloc2 hg1
  have x1_2 := g1.keep X1.out
  have x1_3 := g1.keep X2.out
  obtain ⟨_, _⟩ := cells2 x1_0
  have _ := fz x1_0
  have _ := ltb x1_0
  obtain ⟨_, _⟩ := cells2 x1_1
  have _ := fz x1_1
  have _ := ltb x1_1
  obtain ⟨_, _, _⟩ := cells3 x1_2
  have _ := fz x1_2
  have _ := ltb x1_2
  obtain ⟨_, _⟩ := cells2 x1_3
  have _ := fz x1_3
  have _ := ltb x1_3
  have X1_0 := hid x1_0; clear x1_0
  have X1_1 := hid x1_1; clear x1_1
  have X1_2 := hid x1_2; clear x1_2
  have X1_3 := hid x1_3; clear x1_3
  have G1 := hid (g1)
  clear hg1 g1
  go_wp2_with fail
  refine wp_reg1s #[.int .i64 0, .int .i64 0] 13 11 10 12 54 (by kernel_rfl) (by kernel_rfl) rfl rfl (by simp) rfl rfl (by decide) (fun _ _ => by kernel_rfl) (by kernel_rfl) ?_
  apply Exists.intro; apply Exists.intro
  refine ⟨fun wb hb => ?_, ?_⟩
  · obtain ⟨_, _⟩ := hb.at2 X1_0.out
    obtain ⟨_, _⟩ := hb.at2 X1_1.out
    obtain ⟨_, _, _⟩ := hb.at3 X1_2.out
    obtain ⟨_, _⟩ := hb.at2 X1_3.out
    simp only [headOps, List.contains, List.elem, Nat.reduceAdd, Nat.reduceBEq, reduceIte, Bool.false_eq_true, dumOp]
    repeat (first | go_big_quiet_step (first | (go_at_call 65; exact Calls.of_gr (swhole1 _ _)) | (go_at_call 81; exact Calls.of_gr (HDV.out _))) | quiet_step (fail))
    exact wpQuiet_nil rfl
  refine ⟨rfl, ⟨rfl, by simp [Value.oneCell']⟩, fun w2 b2 hg2 _ xb2 => ?_⟩
  have x2_1 := hg2.keep X1_0.out
  have x2_2 := hg2.keep X1_1.out
  have x2_3 := hg2.keep X1_2.out
  have x2_4 := hg2.keep X1_3.out
  obtain ⟨_, _⟩ := cells2 x2_1
  have _ := fz x2_1
  have _ := ltb x2_1
  obtain ⟨_, _⟩ := cells2 x2_2
  have _ := fz x2_2
  have _ := ltb x2_2
  obtain ⟨_, _, _⟩ := cells3 x2_3
  have _ := fz x2_3
  have _ := ltb x2_3
  obtain ⟨_, _⟩ := cells2 x2_4
  have _ := fz x2_4
  have _ := ltb x2_4
  obtain ⟨_, _⟩ := cells2 xb2
  have _ := fz xb2
  have _ := ltb xb2
  have X2_1 := hid x2_1; clear x2_1
  have X2_2 := hid x2_2; clear x2_2
  have X2_3 := hid x2_3; clear x2_3
  have X2_4 := hid x2_4; clear x2_4
  have Xb2 := hid xb2; clear xb2
  have G2 := hid (G1.out.trans hg2)
  clear hg2
  go_wp2_with fail
  refine wp_reg1s #[.int .i64 0, .int .i64 0] 11 9 12 10 63 (by kernel_rfl) (by kernel_rfl) rfl rfl (by simp) rfl rfl (by decide) (fun _ _ => by kernel_rfl) (by kernel_rfl) ?_
  apply Exists.intro; apply Exists.intro
  refine ⟨fun wb hb => ?_, ?_⟩
  · obtain ⟨_, _⟩ := hb.at2 X2_1.out
    obtain ⟨_, _⟩ := hb.at2 X2_2.out
    obtain ⟨_, _, _⟩ := hb.at3 X2_3.out
    obtain ⟨_, _⟩ := hb.at2 X2_4.out
    obtain ⟨_, _⟩ := hb.at2 Xb2.out
    simp only [headOps, List.contains, List.elem, Nat.reduceAdd, Nat.reduceBEq, reduceIte, Bool.false_eq_true, dumOp]
    repeat (first | go_big_quiet_step (first | (go_at_call 115; exact Calls.of_gr (HML.out _))) | quiet_step (fail))
    exact wpQuiet_nil rfl
  refine ⟨rfl, ⟨rfl, by simp [Value.oneCell']⟩, fun w3 b3 hg3 _ xb3 => ?_⟩
  have x3_1 := hg3.keep X2_1.out
  have x3_2 := hg3.keep X2_2.out
  have x3_3 := hg3.keep X2_3.out
  have x3_4 := hg3.keep X2_4.out
  have x3_5 := hg3.keep Xb2.out
  obtain ⟨_, _⟩ := cells2 x3_1
  have _ := fz x3_1
  have _ := ltb x3_1
  obtain ⟨_, _⟩ := cells2 x3_2
  have _ := fz x3_2
  have _ := ltb x3_2
  obtain ⟨_, _, _⟩ := cells3 x3_3
  have _ := fz x3_3
  have _ := ltb x3_3
  obtain ⟨_, _⟩ := cells2 x3_4
  have _ := fz x3_4
  have _ := ltb x3_4
  obtain ⟨_, _⟩ := cells2 x3_5
  have _ := fz x3_5
  have _ := ltb x3_5
  obtain ⟨_, _⟩ := cells2 xb3
  have _ := fz xb3
  have _ := ltb xb3
  have X3_1 := hid x3_1; clear x3_1
  have X3_2 := hid x3_2; clear x3_2
  have X3_3 := hid x3_3; clear x3_3
  have X3_4 := hid x3_4; clear x3_4
  have X3_5 := hid x3_5; clear x3_5
  have Xb3 := hid xb3; clear xb3
  have G3 := hid (G2.out.trans hg3)
  clear hg3
  go_wp2
  refine bodyPost_ret (v := .tuple #[fr 0 0, .int .i64 3]) (by simp [results, Try.results96, go_sem, *]) rfl ⟨rfl, ?_⟩
  exact ((G3.out).setCell (by simp <;> omega) _).setCell (by simp <;> omega) _
set_option maxRecDepth 20000 in
set_option maxHeartbeats 1000000 in
theorem srd_a1 (a b x y g0 g1 p0 p1 : Int) (R N : Nat) (A : Option Addr) (c : Nat) (xs : List (Int × Int)) (w : World) (k1 k2 : Nat) (X1 : Hid (w.heap[k1]? = some (.cells #[.int .i64 a, .int .i64 b, .slice A xs.length c] 32))) (X2 : Hid (w.heap[k2]? = some (.cells #[.int .i64 N, .bool false] 53))) (hRN : R < N) (hN : N ≤ 40)
    (hLF : ∀ w', Gr w w' → Calls Try.prog 92 #[.pointer (some ⟨k1, 0, none⟩), .pointer (some ⟨k2, 0, none⟩), fr x y] w' fun e w'' => e = .returned (.tuple #[.int .i64 (R : Int), .int .i64 0]) ∧ Gr w' w'')
    (hDV : ∀ w, Calls Try.prog 81 #[fr (R : Int) 1, fr N 1] w fun e w' => e = .returned (.tuple #[fr g0 g1, .int .i64 0]) ∧ Gr w w')
    (hML : ∀ w, Calls Try.prog 115 #[fr g0 g1, fr a b] w fun e w' => e = .returned (.tuple #[fr p0 p1, .int .i64 0]) ∧ Gr w w')
    (hSB : ∀ w, Calls Try.prog 120 #[fr x y, fr p0 p1] w fun e w' => e = .returned (.tuple #[fr 0 0, .int .i64 3]) ∧ Gr w w') :
    Calls Try.prog 96 #[.pointer (some ⟨k1, 0, none⟩), .pointer (some ⟨k2, 0, none⟩), fr x y] w fun e w' => e = .returned (.tuple #[fr 0 0, .int .i64 3]) ∧ Gr w w' := by
  have HLF := hid hLF
  have HDV := hid hDV
  have HML := hid hML
  have HSB := hid hSB
  have _ := hRN
  have _ := hN
  clear hLF hDV hML hSB
  go_enter Try.func96, Try.ntmps96
  obtain ⟨_, _, _⟩ := cells3 X1.out
  have _ := fz X1.out
  have _ := ltb X1.out
  obtain ⟨_, _⟩ := cells2 X2.out
  have _ := fz X2.out
  have _ := ltb X2.out
  go_wp2_with fail
  refine (HLF.out _ (((Gr.refl w).al _).al _)).mono ?_
  rintro e w1 ⟨rfl, hg1⟩
  obtain ⟨x1_0, x1_1, hz1, g1⟩ := alloc2 hg1
  have x1_2 := g1.keep X1.out
  have x1_3 := g1.keep X2.out
  obtain ⟨_, _⟩ := cells2 x1_0
  have _ := fz x1_0
  have _ := ltb x1_0
  obtain ⟨_, _⟩ := cells2 x1_1
  have _ := fz x1_1
  have _ := ltb x1_1
  obtain ⟨_, _, _⟩ := cells3 x1_2
  have _ := fz x1_2
  have _ := ltb x1_2
  obtain ⟨_, _⟩ := cells2 x1_3
  have _ := fz x1_3
  have _ := ltb x1_3
  have X1_0 := hid x1_0; clear x1_0
  have X1_1 := hid x1_1; clear x1_1
  have X1_2 := hid x1_2; clear x1_2
  have X1_3 := hid x1_3; clear x1_3
  have G1 := hid (g1)
  clear hg1 g1
  go_wp2_with fail
  refine wp_reg1s #[.int .i64 0, .int .i64 0] 13 11 10 12 54 (by kernel_rfl) (by kernel_rfl) rfl rfl (by simp) rfl rfl (by decide) (fun _ _ => by kernel_rfl) (by kernel_rfl) ?_
  apply Exists.intro; apply Exists.intro
  refine ⟨fun wb hb => ?_, ?_⟩
  · obtain ⟨_, _⟩ := hb.at2 X1_0.out
    obtain ⟨_, _⟩ := hb.at2 X1_1.out
    obtain ⟨_, _, _⟩ := hb.at3 X1_2.out
    obtain ⟨_, _⟩ := hb.at2 X1_3.out
    simp only [headOps, List.contains, List.elem, Nat.reduceAdd, Nat.reduceBEq, reduceIte, Bool.false_eq_true, dumOp]
    repeat (first | go_big_quiet_step (first | (go_at_call 65; exact Calls.of_gr (swhole1 _ _)) | (go_at_call 81; exact Calls.of_gr (HDV.out _))) | quiet_step (fail))
    exact wpQuiet_nil rfl
  refine ⟨rfl, ⟨rfl, by simp [Value.oneCell']⟩, fun w2 b2 hg2 _ xb2 => ?_⟩
  have x2_1 := hg2.keep X1_0.out
  have x2_2 := hg2.keep X1_1.out
  have x2_3 := hg2.keep X1_2.out
  have x2_4 := hg2.keep X1_3.out
  obtain ⟨_, _⟩ := cells2 x2_1
  have _ := fz x2_1
  have _ := ltb x2_1
  obtain ⟨_, _⟩ := cells2 x2_2
  have _ := fz x2_2
  have _ := ltb x2_2
  obtain ⟨_, _, _⟩ := cells3 x2_3
  have _ := fz x2_3
  have _ := ltb x2_3
  obtain ⟨_, _⟩ := cells2 x2_4
  have _ := fz x2_4
  have _ := ltb x2_4
  obtain ⟨_, _⟩ := cells2 xb2
  have _ := fz xb2
  have _ := ltb xb2
  have X2_1 := hid x2_1; clear x2_1
  have X2_2 := hid x2_2; clear x2_2
  have X2_3 := hid x2_3; clear x2_3
  have X2_4 := hid x2_4; clear x2_4
  have Xb2 := hid xb2; clear xb2
  have G2 := hid (G1.out.trans hg2)
  clear hg2
  go_wp2_with fail
  refine wp_reg1s #[.int .i64 0, .int .i64 0] 11 9 12 10 63 (by kernel_rfl) (by kernel_rfl) rfl rfl (by simp) rfl rfl (by decide) (fun _ _ => by kernel_rfl) (by kernel_rfl) ?_
  apply Exists.intro; apply Exists.intro
  refine ⟨fun wb hb => ?_, ?_⟩
  · obtain ⟨_, _⟩ := hb.at2 X2_1.out
    obtain ⟨_, _⟩ := hb.at2 X2_2.out
    obtain ⟨_, _, _⟩ := hb.at3 X2_3.out
    obtain ⟨_, _⟩ := hb.at2 X2_4.out
    obtain ⟨_, _⟩ := hb.at2 Xb2.out
    simp only [headOps, List.contains, List.elem, Nat.reduceAdd, Nat.reduceBEq, reduceIte, Bool.false_eq_true, dumOp]
    repeat (first | go_big_quiet_step (first | (go_at_call 115; exact Calls.of_gr (HML.out _))) | quiet_step (fail))
    exact wpQuiet_nil rfl
  refine ⟨rfl, ⟨rfl, by simp [Value.oneCell']⟩, fun w3 b3 hg3 _ xb3 => ?_⟩
  have x3_1 := hg3.keep X2_1.out
  have x3_2 := hg3.keep X2_2.out
  have x3_3 := hg3.keep X2_3.out
  have x3_4 := hg3.keep X2_4.out
  have x3_5 := hg3.keep Xb2.out
  obtain ⟨_, _⟩ := cells2 x3_1
  have _ := fz x3_1
  have _ := ltb x3_1
  obtain ⟨_, _⟩ := cells2 x3_2
  have _ := fz x3_2
  have _ := ltb x3_2
  obtain ⟨_, _, _⟩ := cells3 x3_3
  have _ := fz x3_3
  have _ := ltb x3_3
  obtain ⟨_, _⟩ := cells2 x3_4
  have _ := fz x3_4
  have _ := ltb x3_4
  obtain ⟨_, _⟩ := cells2 x3_5
  have _ := fz x3_5
  have _ := ltb x3_5
  obtain ⟨_, _⟩ := cells2 xb3
  have _ := fz xb3
  have _ := ltb xb3
  have X3_1 := hid x3_1; clear x3_1
  have X3_2 := hid x3_2; clear x3_2
  have X3_3 := hid x3_3; clear x3_3
  have X3_4 := hid x3_4; clear x3_4
  have X3_5 := hid x3_5; clear x3_5
  have Xb3 := hid xb3; clear xb3
  have G3 := hid (G2.out.trans hg3)
  clear hg3
  go_wp2_with fail
  refine (HSB.out _).mono ?_
  rintro e w4 ⟨rfl, hg4⟩
  have x4_1 := hg4.keep X3_1.out
  have x4_2 := hg4.keep X3_2.out
  have x4_3 := hg4.keep X3_3.out
  have x4_4 := hg4.keep X3_4.out
  have x4_5 := hg4.keep X3_5.out
  have x4_6 := hg4.keep Xb3.out
  obtain ⟨_, _⟩ := cells2 x4_1
  have _ := fz x4_1
  have _ := ltb x4_1
  obtain ⟨_, _⟩ := cells2 x4_2
  have _ := fz x4_2
  have _ := ltb x4_2
  obtain ⟨_, _, _⟩ := cells3 x4_3
  have _ := fz x4_3
  have _ := ltb x4_3
  obtain ⟨_, _⟩ := cells2 x4_4
  have _ := fz x4_4
  have _ := ltb x4_4
  obtain ⟨_, _⟩ := cells2 x4_5
  have _ := fz x4_5
  have _ := ltb x4_5
  obtain ⟨_, _⟩ := cells2 x4_6
  have _ := fz x4_6
  have _ := ltb x4_6
  have X4_1 := hid x4_1; clear x4_1
  have X4_2 := hid x4_2; clear x4_2
  have X4_3 := hid x4_3; clear x4_3
  have X4_4 := hid x4_4; clear x4_4
  have X4_5 := hid x4_5; clear x4_5
  have X4_6 := hid x4_6; clear x4_6
  have G4 := hid (G3.out.trans hg4)
  clear hg4
  go_wp2
  refine bodyPost_ret (v := .tuple #[fr 0 0, .int .i64 3]) (by simp [results, Try.results96, go_sem, *]) rfl ⟨rfl, ?_⟩
  exact (((G4.out).setCell (by simp <;> omega) _).setCell (by simp <;> omega) _).al _
set_option maxRecDepth 20000 in
set_option maxHeartbeats 1000000 in
theorem srd_a2 (a b x y g0 g1 p0 p1 d0 d1 nn : Int) (R N : Nat) (A : Option Addr) (c : Nat) (xs : List (Int × Int)) (w : World) (k1 k2 : Nat) (X1 : Hid (w.heap[k1]? = some (.cells #[.int .i64 a, .int .i64 b, .slice A xs.length c] 32))) (X2 : Hid (w.heap[k2]? = some (.cells #[.int .i64 N, .bool false] 53))) (hRN : R < N) (hN : N ≤ 40)
    (hLF : ∀ w', Gr w w' → Calls Try.prog 92 #[.pointer (some ⟨k1, 0, none⟩), .pointer (some ⟨k2, 0, none⟩), fr x y] w' fun e w'' => e = .returned (.tuple #[.int .i64 (R : Int), .int .i64 0]) ∧ Gr w' w'')
    (hDV : ∀ w, Calls Try.prog 81 #[fr (R : Int) 1, fr N 1] w fun e w' => e = .returned (.tuple #[fr g0 g1, .int .i64 0]) ∧ Gr w w')
    (hML : ∀ w, Calls Try.prog 115 #[fr g0 g1, fr a b] w fun e w' => e = .returned (.tuple #[fr p0 p1, .int .i64 0]) ∧ Gr w w')
    (hSB : ∀ w, Calls Try.prog 120 #[fr x y, fr p0 p1] w fun e w' => e = .returned (.tuple #[fr d0 d1, .int .i64 0]) ∧ Gr w w')
    (hNE : ∀ w, Calls Try.prog 130 #[fr d0 d1, fr a b] w fun e w' => e = .returned (.int .i64 nn) ∧ Gr w w')
    (hIN : ∀ w, Calls Try.prog 129 #[.int .i64 nn] w fun e w' => e = .returned (.tuple #[.int .i64 0, .int .i64 3]) ∧ Gr w w') :
    Calls Try.prog 96 #[.pointer (some ⟨k1, 0, none⟩), .pointer (some ⟨k2, 0, none⟩), fr x y] w fun e w' => e = .returned (.tuple #[fr 0 0, .int .i64 3]) ∧ Gr w w' := by
  have HLF := hid hLF
  have HDV := hid hDV
  have HML := hid hML
  have HSB := hid hSB
  have HNE := hid hNE
  have HIN := hid hIN
  have _ := hRN
  have _ := hN
  clear hLF hDV hML hSB hNE hIN
  go_enter Try.func96, Try.ntmps96
  obtain ⟨_, _, _⟩ := cells3 X1.out
  have _ := fz X1.out
  have _ := ltb X1.out
  obtain ⟨_, _⟩ := cells2 X2.out
  have _ := fz X2.out
  have _ := ltb X2.out
  go_wp2_with fail
  refine (HLF.out _ (((Gr.refl w).al _).al _)).mono ?_
  rintro e w1 ⟨rfl, hg1⟩
  obtain ⟨x1_0, x1_1, hz1, g1⟩ := alloc2 hg1
  have x1_2 := g1.keep X1.out
  have x1_3 := g1.keep X2.out
  obtain ⟨_, _⟩ := cells2 x1_0
  have _ := fz x1_0
  have _ := ltb x1_0
  obtain ⟨_, _⟩ := cells2 x1_1
  have _ := fz x1_1
  have _ := ltb x1_1
  obtain ⟨_, _, _⟩ := cells3 x1_2
  have _ := fz x1_2
  have _ := ltb x1_2
  obtain ⟨_, _⟩ := cells2 x1_3
  have _ := fz x1_3
  have _ := ltb x1_3
  have X1_0 := hid x1_0; clear x1_0
  have X1_1 := hid x1_1; clear x1_1
  have X1_2 := hid x1_2; clear x1_2
  have X1_3 := hid x1_3; clear x1_3
  have G1 := hid (g1)
  clear hg1 g1
  go_wp2_with fail
  refine wp_reg1s #[.int .i64 0, .int .i64 0] 13 11 10 12 54 (by kernel_rfl) (by kernel_rfl) rfl rfl (by simp) rfl rfl (by decide) (fun _ _ => by kernel_rfl) (by kernel_rfl) ?_
  apply Exists.intro; apply Exists.intro
  refine ⟨fun wb hb => ?_, ?_⟩
  · obtain ⟨_, _⟩ := hb.at2 X1_0.out
    obtain ⟨_, _⟩ := hb.at2 X1_1.out
    obtain ⟨_, _, _⟩ := hb.at3 X1_2.out
    obtain ⟨_, _⟩ := hb.at2 X1_3.out
    simp only [headOps, List.contains, List.elem, Nat.reduceAdd, Nat.reduceBEq, reduceIte, Bool.false_eq_true, dumOp]
    repeat (first | go_big_quiet_step (first | (go_at_call 65; exact Calls.of_gr (swhole1 _ _)) | (go_at_call 81; exact Calls.of_gr (HDV.out _))) | quiet_step (fail))
    exact wpQuiet_nil rfl
  refine ⟨rfl, ⟨rfl, by simp [Value.oneCell']⟩, fun w2 b2 hg2 _ xb2 => ?_⟩
  have x2_1 := hg2.keep X1_0.out
  have x2_2 := hg2.keep X1_1.out
  have x2_3 := hg2.keep X1_2.out
  have x2_4 := hg2.keep X1_3.out
  obtain ⟨_, _⟩ := cells2 x2_1
  have _ := fz x2_1
  have _ := ltb x2_1
  obtain ⟨_, _⟩ := cells2 x2_2
  have _ := fz x2_2
  have _ := ltb x2_2
  obtain ⟨_, _, _⟩ := cells3 x2_3
  have _ := fz x2_3
  have _ := ltb x2_3
  obtain ⟨_, _⟩ := cells2 x2_4
  have _ := fz x2_4
  have _ := ltb x2_4
  obtain ⟨_, _⟩ := cells2 xb2
  have _ := fz xb2
  have _ := ltb xb2
  have X2_1 := hid x2_1; clear x2_1
  have X2_2 := hid x2_2; clear x2_2
  have X2_3 := hid x2_3; clear x2_3
  have X2_4 := hid x2_4; clear x2_4
  have Xb2 := hid xb2; clear xb2
  have G2 := hid (G1.out.trans hg2)
  clear hg2
  go_wp2_with fail
  refine wp_reg1s #[.int .i64 0, .int .i64 0] 11 9 12 10 63 (by kernel_rfl) (by kernel_rfl) rfl rfl (by simp) rfl rfl (by decide) (fun _ _ => by kernel_rfl) (by kernel_rfl) ?_
  apply Exists.intro; apply Exists.intro
  refine ⟨fun wb hb => ?_, ?_⟩
  · obtain ⟨_, _⟩ := hb.at2 X2_1.out
    obtain ⟨_, _⟩ := hb.at2 X2_2.out
    obtain ⟨_, _, _⟩ := hb.at3 X2_3.out
    obtain ⟨_, _⟩ := hb.at2 X2_4.out
    obtain ⟨_, _⟩ := hb.at2 Xb2.out
    simp only [headOps, List.contains, List.elem, Nat.reduceAdd, Nat.reduceBEq, reduceIte, Bool.false_eq_true, dumOp]
    repeat (first | go_big_quiet_step (first | (go_at_call 115; exact Calls.of_gr (HML.out _))) | quiet_step (fail))
    exact wpQuiet_nil rfl
  refine ⟨rfl, ⟨rfl, by simp [Value.oneCell']⟩, fun w3 b3 hg3 _ xb3 => ?_⟩
  have x3_1 := hg3.keep X2_1.out
  have x3_2 := hg3.keep X2_2.out
  have x3_3 := hg3.keep X2_3.out
  have x3_4 := hg3.keep X2_4.out
  have x3_5 := hg3.keep Xb2.out
  obtain ⟨_, _⟩ := cells2 x3_1
  have _ := fz x3_1
  have _ := ltb x3_1
  obtain ⟨_, _⟩ := cells2 x3_2
  have _ := fz x3_2
  have _ := ltb x3_2
  obtain ⟨_, _, _⟩ := cells3 x3_3
  have _ := fz x3_3
  have _ := ltb x3_3
  obtain ⟨_, _⟩ := cells2 x3_4
  have _ := fz x3_4
  have _ := ltb x3_4
  obtain ⟨_, _⟩ := cells2 x3_5
  have _ := fz x3_5
  have _ := ltb x3_5
  obtain ⟨_, _⟩ := cells2 xb3
  have _ := fz xb3
  have _ := ltb xb3
  have X3_1 := hid x3_1; clear x3_1
  have X3_2 := hid x3_2; clear x3_2
  have X3_3 := hid x3_3; clear x3_3
  have X3_4 := hid x3_4; clear x3_4
  have X3_5 := hid x3_5; clear x3_5
  have Xb3 := hid xb3; clear xb3
  have G3 := hid (G2.out.trans hg3)
  clear hg3
  go_wp2_with fail
  refine (HSB.out _).mono ?_
  rintro e w4 ⟨rfl, hg4⟩
  have x4_1 := hg4.keep X3_1.out
  have x4_2 := hg4.keep X3_2.out
  have x4_3 := hg4.keep X3_3.out
  have x4_4 := hg4.keep X3_4.out
  have x4_5 := hg4.keep X3_5.out
  have x4_6 := hg4.keep Xb3.out
  obtain ⟨_, _⟩ := cells2 x4_1
  have _ := fz x4_1
  have _ := ltb x4_1
  obtain ⟨_, _⟩ := cells2 x4_2
  have _ := fz x4_2
  have _ := ltb x4_2
  obtain ⟨_, _, _⟩ := cells3 x4_3
  have _ := fz x4_3
  have _ := ltb x4_3
  obtain ⟨_, _⟩ := cells2 x4_4
  have _ := fz x4_4
  have _ := ltb x4_4
  obtain ⟨_, _⟩ := cells2 x4_5
  have _ := fz x4_5
  have _ := ltb x4_5
  obtain ⟨_, _⟩ := cells2 x4_6
  have _ := fz x4_6
  have _ := ltb x4_6
  have X4_1 := hid x4_1; clear x4_1
  have X4_2 := hid x4_2; clear x4_2
  have X4_3 := hid x4_3; clear x4_3
  have X4_4 := hid x4_4; clear x4_4
  have X4_5 := hid x4_5; clear x4_5
  have X4_6 := hid x4_6; clear x4_6
  have G4 := hid (G3.out.trans hg4)
  clear hg4
  go_wp2_with fail
  refine wp_reg0 11 (by kernel_rfl) (by kernel_rfl) ?_
  apply Exists.intro
  refine ⟨fun wb hb => ?_, ?_⟩
  · obtain ⟨_, _⟩ := hb.at2 (((Gr.refl _).al _).keep X4_1.out)
    obtain ⟨_, _⟩ := hb.at2 (((Gr.refl _).al _).keep X4_2.out)
    obtain ⟨_, _, _⟩ := hb.at3 (((Gr.refl _).al _).keep X4_3.out)
    obtain ⟨_, _⟩ := hb.at2 (((Gr.refl _).al _).keep X4_4.out)
    obtain ⟨_, _⟩ := hb.at2 (((Gr.refl _).al _).keep X4_5.out)
    obtain ⟨_, _⟩ := hb.at2 (((Gr.refl _).al _).keep X4_6.out)
    obtain ⟨_, _⟩ := hb.at2 (alloc1 (Gr.refl _)).1
    simp only [headOps, List.contains, List.elem, reduceIte, Bool.false_eq_true]
    repeat (first | go_big_quiet_step (first | (go_at_call 130; exact Calls.of_gr (HNE.out _)) | (go_at_call 129; exact Calls.of_gr (HIN.out _))) | quiet_step (fail))
    exact wpQuiet_nil rfl
  intro w5 hg5
  obtain ⟨x5_0, hz5, g5⟩ := alloc1 hg5
  have x5_1 := g5.keep X4_1.out
  have x5_2 := g5.keep X4_2.out
  have x5_3 := g5.keep X4_3.out
  have x5_4 := g5.keep X4_4.out
  have x5_5 := g5.keep X4_5.out
  have x5_6 := g5.keep X4_6.out
  obtain ⟨_, _⟩ := cells2 x5_1
  have _ := fz x5_1
  have _ := ltb x5_1
  obtain ⟨_, _⟩ := cells2 x5_2
  have _ := fz x5_2
  have _ := ltb x5_2
  obtain ⟨_, _, _⟩ := cells3 x5_3
  have _ := fz x5_3
  have _ := ltb x5_3
  obtain ⟨_, _⟩ := cells2 x5_4
  have _ := fz x5_4
  have _ := ltb x5_4
  obtain ⟨_, _⟩ := cells2 x5_5
  have _ := fz x5_5
  have _ := ltb x5_5
  obtain ⟨_, _⟩ := cells2 x5_6
  have _ := fz x5_6
  have _ := ltb x5_6
  obtain ⟨_, _⟩ := cells2 x5_0
  have _ := fz x5_0
  have _ := ltb x5_0
  have X5_1 := hid x5_1; clear x5_1
  have X5_2 := hid x5_2; clear x5_2
  have X5_3 := hid x5_3; clear x5_3
  have X5_4 := hid x5_4; clear x5_4
  have X5_5 := hid x5_5; clear x5_5
  have X5_6 := hid x5_6; clear x5_6
  have X5_0 := hid x5_0; clear x5_0
  have G5 := hid (G4.out.trans g5)
  clear hg5 g5
  go_wp2
  refine bodyPost_ret (v := .tuple #[fr 0 0, .int .i64 3]) (by simp [results, Try.results96, go_sem, *]) rfl ⟨rfl, ?_⟩
  exact ((G5.out).setCell (by simp <;> omega) _).setCell (by simp <;> omega) _
set_option maxRecDepth 20000 in
set_option maxHeartbeats 1000000 in
theorem srd_a3 (a b x y g0 g1 p0 p1 d0 d1 nn : Int) (R N : Nat) (A : Option Addr) (c : Nat) (xs : List (Int × Int)) (w : World) (k1 k2 : Nat) (X1 : Hid (w.heap[k1]? = some (.cells #[.int .i64 a, .int .i64 b, .slice A xs.length c] 32))) (X2 : Hid (w.heap[k2]? = some (.cells #[.int .i64 N, .bool false] 53))) (hRN : R < N) (hN : N ≤ 40)
    (hLF : ∀ w', Gr w w' → Calls Try.prog 92 #[.pointer (some ⟨k1, 0, none⟩), .pointer (some ⟨k2, 0, none⟩), fr x y] w' fun e w'' => e = .returned (.tuple #[.int .i64 (R : Int), .int .i64 0]) ∧ Gr w' w'')
    (hDV : ∀ w, Calls Try.prog 81 #[fr (R : Int) 1, fr N 1] w fun e w' => e = .returned (.tuple #[fr g0 g1, .int .i64 0]) ∧ Gr w w')
    (hML : ∀ w, Calls Try.prog 115 #[fr g0 g1, fr a b] w fun e w' => e = .returned (.tuple #[fr p0 p1, .int .i64 0]) ∧ Gr w w')
    (hSB : ∀ w, Calls Try.prog 120 #[fr x y, fr p0 p1] w fun e w' => e = .returned (.tuple #[fr d0 d1, .int .i64 0]) ∧ Gr w w')
    (hNE : ∀ w, Calls Try.prog 130 #[fr d0 d1, fr a b] w fun e w' => e = .returned (.int .i64 nn) ∧ Gr w w')
    (hIN : ∀ w, Calls Try.prog 129 #[.int .i64 nn] w fun e w' => e = .returned (.tuple #[.int .i64 nn, .int .i64 0]) ∧ Gr w w')
    (hMW : ∀ w, Calls Try.prog 115 #[fr nn 1, fr a b] w fun e w' => e = .returned (.tuple #[fr 0 0, .int .i64 3]) ∧ Gr w w') :
    Calls Try.prog 96 #[.pointer (some ⟨k1, 0, none⟩), .pointer (some ⟨k2, 0, none⟩), fr x y] w fun e w' => e = .returned (.tuple #[fr 0 0, .int .i64 3]) ∧ Gr w w' := by
  have HLF := hid hLF
  have HDV := hid hDV
  have HML := hid hML
  have HSB := hid hSB
  have HNE := hid hNE
  have HIN := hid hIN
  have HMW := hid hMW
  have _ := hRN
  have _ := hN
  clear hLF hDV hML hSB hNE hIN hMW
  go_enter Try.func96, Try.ntmps96
  obtain ⟨_, _, _⟩ := cells3 X1.out
  have _ := fz X1.out
  have _ := ltb X1.out
  obtain ⟨_, _⟩ := cells2 X2.out
  have _ := fz X2.out
  have _ := ltb X2.out
  go_wp2_with fail
  refine (HLF.out _ (((Gr.refl w).al _).al _)).mono ?_
  rintro e w1 ⟨rfl, hg1⟩
  obtain ⟨x1_0, x1_1, hz1, g1⟩ := alloc2 hg1
  have x1_2 := g1.keep X1.out
  have x1_3 := g1.keep X2.out
  obtain ⟨_, _⟩ := cells2 x1_0
  have _ := fz x1_0
  have _ := ltb x1_0
  obtain ⟨_, _⟩ := cells2 x1_1
  have _ := fz x1_1
  have _ := ltb x1_1
  obtain ⟨_, _, _⟩ := cells3 x1_2
  have _ := fz x1_2
  have _ := ltb x1_2
  obtain ⟨_, _⟩ := cells2 x1_3
  have _ := fz x1_3
  have _ := ltb x1_3
  have X1_0 := hid x1_0; clear x1_0
  have X1_1 := hid x1_1; clear x1_1
  have X1_2 := hid x1_2; clear x1_2
  have X1_3 := hid x1_3; clear x1_3
  have G1 := hid (g1)
  clear hg1 g1
  go_wp2_with fail
  refine wp_reg1s #[.int .i64 0, .int .i64 0] 13 11 10 12 54 (by kernel_rfl) (by kernel_rfl) rfl rfl (by simp) rfl rfl (by decide) (fun _ _ => by kernel_rfl) (by kernel_rfl) ?_
  apply Exists.intro; apply Exists.intro
  refine ⟨fun wb hb => ?_, ?_⟩
  · obtain ⟨_, _⟩ := hb.at2 X1_0.out
    obtain ⟨_, _⟩ := hb.at2 X1_1.out
    obtain ⟨_, _, _⟩ := hb.at3 X1_2.out
    obtain ⟨_, _⟩ := hb.at2 X1_3.out
    simp only [headOps, List.contains, List.elem, Nat.reduceAdd, Nat.reduceBEq, reduceIte, Bool.false_eq_true, dumOp]
    repeat (first | go_big_quiet_step (first | (go_at_call 65; exact Calls.of_gr (swhole1 _ _)) | (go_at_call 81; exact Calls.of_gr (HDV.out _))) | quiet_step (fail))
    exact wpQuiet_nil rfl
  refine ⟨rfl, ⟨rfl, by simp [Value.oneCell']⟩, fun w2 b2 hg2 _ xb2 => ?_⟩
  have x2_1 := hg2.keep X1_0.out
  have x2_2 := hg2.keep X1_1.out
  have x2_3 := hg2.keep X1_2.out
  have x2_4 := hg2.keep X1_3.out
  obtain ⟨_, _⟩ := cells2 x2_1
  have _ := fz x2_1
  have _ := ltb x2_1
  obtain ⟨_, _⟩ := cells2 x2_2
  have _ := fz x2_2
  have _ := ltb x2_2
  obtain ⟨_, _, _⟩ := cells3 x2_3
  have _ := fz x2_3
  have _ := ltb x2_3
  obtain ⟨_, _⟩ := cells2 x2_4
  have _ := fz x2_4
  have _ := ltb x2_4
  obtain ⟨_, _⟩ := cells2 xb2
  have _ := fz xb2
  have _ := ltb xb2
  have X2_1 := hid x2_1; clear x2_1
  have X2_2 := hid x2_2; clear x2_2
  have X2_3 := hid x2_3; clear x2_3
  have X2_4 := hid x2_4; clear x2_4
  have Xb2 := hid xb2; clear xb2
  have G2 := hid (G1.out.trans hg2)
  clear hg2
  go_wp2_with fail
  refine wp_reg1s #[.int .i64 0, .int .i64 0] 11 9 12 10 63 (by kernel_rfl) (by kernel_rfl) rfl rfl (by simp) rfl rfl (by decide) (fun _ _ => by kernel_rfl) (by kernel_rfl) ?_
  apply Exists.intro; apply Exists.intro
  refine ⟨fun wb hb => ?_, ?_⟩
  · obtain ⟨_, _⟩ := hb.at2 X2_1.out
    obtain ⟨_, _⟩ := hb.at2 X2_2.out
    obtain ⟨_, _, _⟩ := hb.at3 X2_3.out
    obtain ⟨_, _⟩ := hb.at2 X2_4.out
    obtain ⟨_, _⟩ := hb.at2 Xb2.out
    simp only [headOps, List.contains, List.elem, Nat.reduceAdd, Nat.reduceBEq, reduceIte, Bool.false_eq_true, dumOp]
    repeat (first | go_big_quiet_step (first | (go_at_call 115; exact Calls.of_gr (HML.out _))) | quiet_step (fail))
    exact wpQuiet_nil rfl
  refine ⟨rfl, ⟨rfl, by simp [Value.oneCell']⟩, fun w3 b3 hg3 _ xb3 => ?_⟩
  have x3_1 := hg3.keep X2_1.out
  have x3_2 := hg3.keep X2_2.out
  have x3_3 := hg3.keep X2_3.out
  have x3_4 := hg3.keep X2_4.out
  have x3_5 := hg3.keep Xb2.out
  obtain ⟨_, _⟩ := cells2 x3_1
  have _ := fz x3_1
  have _ := ltb x3_1
  obtain ⟨_, _⟩ := cells2 x3_2
  have _ := fz x3_2
  have _ := ltb x3_2
  obtain ⟨_, _, _⟩ := cells3 x3_3
  have _ := fz x3_3
  have _ := ltb x3_3
  obtain ⟨_, _⟩ := cells2 x3_4
  have _ := fz x3_4
  have _ := ltb x3_4
  obtain ⟨_, _⟩ := cells2 x3_5
  have _ := fz x3_5
  have _ := ltb x3_5
  obtain ⟨_, _⟩ := cells2 xb3
  have _ := fz xb3
  have _ := ltb xb3
  have X3_1 := hid x3_1; clear x3_1
  have X3_2 := hid x3_2; clear x3_2
  have X3_3 := hid x3_3; clear x3_3
  have X3_4 := hid x3_4; clear x3_4
  have X3_5 := hid x3_5; clear x3_5
  have Xb3 := hid xb3; clear xb3
  have G3 := hid (G2.out.trans hg3)
  clear hg3
  go_wp2_with fail
  refine (HSB.out _).mono ?_
  rintro e w4 ⟨rfl, hg4⟩
  have x4_1 := hg4.keep X3_1.out
  have x4_2 := hg4.keep X3_2.out
  have x4_3 := hg4.keep X3_3.out
  have x4_4 := hg4.keep X3_4.out
  have x4_5 := hg4.keep X3_5.out
  have x4_6 := hg4.keep Xb3.out
  obtain ⟨_, _⟩ := cells2 x4_1
  have _ := fz x4_1
  have _ := ltb x4_1
  obtain ⟨_, _⟩ := cells2 x4_2
  have _ := fz x4_2
  have _ := ltb x4_2
  obtain ⟨_, _, _⟩ := cells3 x4_3
  have _ := fz x4_3
  have _ := ltb x4_3
  obtain ⟨_, _⟩ := cells2 x4_4
  have _ := fz x4_4
  have _ := ltb x4_4
  obtain ⟨_, _⟩ := cells2 x4_5
  have _ := fz x4_5
  have _ := ltb x4_5
  obtain ⟨_, _⟩ := cells2 x4_6
  have _ := fz x4_6
  have _ := ltb x4_6
  have X4_1 := hid x4_1; clear x4_1
  have X4_2 := hid x4_2; clear x4_2
  have X4_3 := hid x4_3; clear x4_3
  have X4_4 := hid x4_4; clear x4_4
  have X4_5 := hid x4_5; clear x4_5
  have X4_6 := hid x4_6; clear x4_6
  have G4 := hid (G3.out.trans hg4)
  clear hg4
  go_wp2_with fail
  refine wp_reg0 11 (by kernel_rfl) (by kernel_rfl) ?_
  apply Exists.intro
  refine ⟨fun wb hb => ?_, ?_⟩
  · obtain ⟨_, _⟩ := hb.at2 (((Gr.refl _).al _).keep X4_1.out)
    obtain ⟨_, _⟩ := hb.at2 (((Gr.refl _).al _).keep X4_2.out)
    obtain ⟨_, _, _⟩ := hb.at3 (((Gr.refl _).al _).keep X4_3.out)
    obtain ⟨_, _⟩ := hb.at2 (((Gr.refl _).al _).keep X4_4.out)
    obtain ⟨_, _⟩ := hb.at2 (((Gr.refl _).al _).keep X4_5.out)
    obtain ⟨_, _⟩ := hb.at2 (((Gr.refl _).al _).keep X4_6.out)
    obtain ⟨_, _⟩ := hb.at2 (alloc1 (Gr.refl _)).1
    simp only [headOps, List.contains, List.elem, reduceIte, Bool.false_eq_true]
    repeat (first | go_big_quiet_step (first | (go_at_call 130; exact Calls.of_gr (HNE.out _)) | (go_at_call 129; exact Calls.of_gr (HIN.out _))) | quiet_step (fail))
    exact wpQuiet_nil rfl
  intro w5 hg5
  obtain ⟨x5_0, hz5, g5⟩ := alloc1 hg5
  have x5_1 := g5.keep X4_1.out
  have x5_2 := g5.keep X4_2.out
  have x5_3 := g5.keep X4_3.out
  have x5_4 := g5.keep X4_4.out
  have x5_5 := g5.keep X4_5.out
  have x5_6 := g5.keep X4_6.out
  obtain ⟨_, _⟩ := cells2 x5_1
  have _ := fz x5_1
  have _ := ltb x5_1
  obtain ⟨_, _⟩ := cells2 x5_2
  have _ := fz x5_2
  have _ := ltb x5_2
  obtain ⟨_, _, _⟩ := cells3 x5_3
  have _ := fz x5_3
  have _ := ltb x5_3
  obtain ⟨_, _⟩ := cells2 x5_4
  have _ := fz x5_4
  have _ := ltb x5_4
  obtain ⟨_, _⟩ := cells2 x5_5
  have _ := fz x5_5
  have _ := ltb x5_5
  obtain ⟨_, _⟩ := cells2 x5_6
  have _ := fz x5_6
  have _ := ltb x5_6
  obtain ⟨_, _⟩ := cells2 x5_0
  have _ := fz x5_0
  have _ := ltb x5_0
  have X5_1 := hid x5_1; clear x5_1
  have X5_2 := hid x5_2; clear x5_2
  have X5_3 := hid x5_3; clear x5_3
  have X5_4 := hid x5_4; clear x5_4
  have X5_5 := hid x5_5; clear x5_5
  have X5_6 := hid x5_6; clear x5_6
  have X5_0 := hid x5_0; clear x5_0
  have G5 := hid (G4.out.trans g5)
  clear hg5 g5
  go_wp2_with fail
  refine wp_reg1s #[.int .i64 0, .int .i64 0] 12 10 18 11 101 (by kernel_rfl) (by kernel_rfl) rfl rfl (by simp) rfl rfl (by decide) (fun _ _ => by kernel_rfl) (by kernel_rfl) ?_
  apply Exists.intro; apply Exists.intro
  refine ⟨fun wb hb => ?_, ?_⟩
  · obtain ⟨_, _⟩ := hb.at2 X5_1.out
    obtain ⟨_, _⟩ := hb.at2 X5_2.out
    obtain ⟨_, _, _⟩ := hb.at3 X5_3.out
    obtain ⟨_, _⟩ := hb.at2 X5_4.out
    obtain ⟨_, _⟩ := hb.at2 X5_5.out
    obtain ⟨_, _⟩ := hb.at2 X5_6.out
    obtain ⟨_, _⟩ := hb.at2 X5_0.out
    simp only [headOps, List.contains, List.elem, Nat.reduceAdd, Nat.reduceBEq, reduceIte, Bool.false_eq_true, dumOp]
    repeat (first | go_big_quiet_step (first | (go_at_call 65; exact Calls.of_gr (swhole1 _ _)) | (go_at_call 115; exact Calls.of_gr (HMW.out _))) | quiet_step (fail))
    exact wpQuiet_nil rfl
  refine ⟨rfl, ⟨rfl, by simp [Value.oneCell']⟩, fun w6 b6 hg6 _ xb6 => ?_⟩
  have x6_1 := hg6.keep X5_1.out
  have x6_2 := hg6.keep X5_2.out
  have x6_3 := hg6.keep X5_3.out
  have x6_4 := hg6.keep X5_4.out
  have x6_5 := hg6.keep X5_5.out
  have x6_6 := hg6.keep X5_6.out
  have x6_7 := hg6.keep X5_0.out
  obtain ⟨_, _⟩ := cells2 x6_1
  have _ := fz x6_1
  have _ := ltb x6_1
  obtain ⟨_, _⟩ := cells2 x6_2
  have _ := fz x6_2
  have _ := ltb x6_2
  obtain ⟨_, _, _⟩ := cells3 x6_3
  have _ := fz x6_3
  have _ := ltb x6_3
  obtain ⟨_, _⟩ := cells2 x6_4
  have _ := fz x6_4
  have _ := ltb x6_4
  obtain ⟨_, _⟩ := cells2 x6_5
  have _ := fz x6_5
  have _ := ltb x6_5
  obtain ⟨_, _⟩ := cells2 x6_6
  have _ := fz x6_6
  have _ := ltb x6_6
  obtain ⟨_, _⟩ := cells2 x6_7
  have _ := fz x6_7
  have _ := ltb x6_7
  obtain ⟨_, _⟩ := cells2 xb6
  have _ := fz xb6
  have _ := ltb xb6
  have X6_1 := hid x6_1; clear x6_1
  have X6_2 := hid x6_2; clear x6_2
  have X6_3 := hid x6_3; clear x6_3
  have X6_4 := hid x6_4; clear x6_4
  have X6_5 := hid x6_5; clear x6_5
  have X6_6 := hid x6_6; clear x6_6
  have X6_7 := hid x6_7; clear x6_7
  have Xb6 := hid xb6; clear xb6
  have G6 := hid (G5.out.trans hg6)
  clear hg6
  go_wp2
  refine bodyPost_ret (v := .tuple #[fr 0 0, .int .i64 3]) (by simp [results, Try.results96, go_sem, *]) rfl ⟨rfl, ?_⟩
  exact ((G6.out).setCell (by simp <;> omega) _).setCell (by simp <;> omega) _
set_option maxRecDepth 20000 in
set_option maxHeartbeats 1000000 in
theorem srd_a4 (a b x y g0 g1 p0 p1 d0 d1 nn t0 t1 s0 s1 C : Int) (R N : Nat) (A : Option Addr) (c : Nat) (xs : List (Int × Int)) (w : World) (k1 k2 : Nat) (X1 : Hid (w.heap[k1]? = some (.cells #[.int .i64 a, .int .i64 b, .slice A xs.length c] 32))) (X2 : Hid (w.heap[k2]? = some (.cells #[.int .i64 N, .bool false] 53))) (hRN : R < N) (hN : N ≤ 40)
    (hLF : ∀ w', Gr w w' → Calls Try.prog 92 #[.pointer (some ⟨k1, 0, none⟩), .pointer (some ⟨k2, 0, none⟩), fr x y] w' fun e w'' => e = .returned (.tuple #[.int .i64 (R : Int), .int .i64 0]) ∧ Gr w' w'')
    (hDV : ∀ w, Calls Try.prog 81 #[fr (R : Int) 1, fr N 1] w fun e w' => e = .returned (.tuple #[fr g0 g1, .int .i64 0]) ∧ Gr w w')
    (hML : ∀ w, Calls Try.prog 115 #[fr g0 g1, fr a b] w fun e w' => e = .returned (.tuple #[fr p0 p1, .int .i64 0]) ∧ Gr w w')
    (hSB : ∀ w, Calls Try.prog 120 #[fr x y, fr p0 p1] w fun e w' => e = .returned (.tuple #[fr d0 d1, .int .i64 0]) ∧ Gr w w')
    (hNE : ∀ w, Calls Try.prog 130 #[fr d0 d1, fr a b] w fun e w' => e = .returned (.int .i64 nn) ∧ Gr w w')
    (hIN : ∀ w, Calls Try.prog 129 #[.int .i64 nn] w fun e w' => e = .returned (.tuple #[.int .i64 nn, .int .i64 0]) ∧ Gr w w')
    (hMW : ∀ w, Calls Try.prog 115 #[fr nn 1, fr a b] w fun e w' => e = .returned (.tuple #[fr t0 t1, .int .i64 0]) ∧ Gr w w')
    (hAD : ∀ w, Calls Try.prog 116 #[fr p0 p1, fr t0 t1] w fun e w' => e = .returned (.tuple #[fr s0 s1, .int .i64 C]) ∧ Gr w w') :
    Calls Try.prog 96 #[.pointer (some ⟨k1, 0, none⟩), .pointer (some ⟨k2, 0, none⟩), fr x y] w fun e w' => e = .returned (.tuple #[fr s0 s1, .int .i64 C]) ∧ Gr w w' := by
  have HLF := hid hLF
  have HDV := hid hDV
  have HML := hid hML
  have HSB := hid hSB
  have HNE := hid hNE
  have HIN := hid hIN
  have HMW := hid hMW
  have HAD := hid hAD
  have _ := hRN
  have _ := hN
  clear hLF hDV hML hSB hNE hIN hMW hAD
  go_enter Try.func96, Try.ntmps96
  obtain ⟨_, _, _⟩ := cells3 X1.out
  have _ := fz X1.out
  have _ := ltb X1.out
  obtain ⟨_, _⟩ := cells2 X2.out
  have _ := fz X2.out
  have _ := ltb X2.out
  go_wp2_with fail
  refine (HLF.out _ (((Gr.refl w).al _).al _)).mono ?_
  rintro e w1 ⟨rfl, hg1⟩
  obtain ⟨x1_0, x1_1, hz1, g1⟩ := alloc2 hg1
  have x1_2 := g1.keep X1.out
  have x1_3 := g1.keep X2.out
  obtain ⟨_, _⟩ := cells2 x1_0
  have _ := fz x1_0
  have _ := ltb x1_0
  obtain ⟨_, _⟩ := cells2 x1_1
  have _ := fz x1_1
  have _ := ltb x1_1
  obtain ⟨_, _, _⟩ := cells3 x1_2
  have _ := fz x1_2
  have _ := ltb x1_2
  obtain ⟨_, _⟩ := cells2 x1_3
  have _ := fz x1_3
  have _ := ltb x1_3
  have X1_0 := hid x1_0; clear x1_0
  have X1_1 := hid x1_1; clear x1_1
  have X1_2 := hid x1_2; clear x1_2
  have X1_3 := hid x1_3; clear x1_3
  have G1 := hid (g1)
  clear hg1 g1
  go_wp2_with fail
  refine wp_reg1s #[.int .i64 0, .int .i64 0] 13 11 10 12 54 (by kernel_rfl) (by kernel_rfl) rfl rfl (by simp) rfl rfl (by decide) (fun _ _ => by kernel_rfl) (by kernel_rfl) ?_
  apply Exists.intro; apply Exists.intro
  refine ⟨fun wb hb => ?_, ?_⟩
  · obtain ⟨_, _⟩ := hb.at2 X1_0.out
    obtain ⟨_, _⟩ := hb.at2 X1_1.out
    obtain ⟨_, _, _⟩ := hb.at3 X1_2.out
    obtain ⟨_, _⟩ := hb.at2 X1_3.out
    simp only [headOps, List.contains, List.elem, Nat.reduceAdd, Nat.reduceBEq, reduceIte, Bool.false_eq_true, dumOp]
    repeat (first | go_big_quiet_step (first | (go_at_call 65; exact Calls.of_gr (swhole1 _ _)) | (go_at_call 81; exact Calls.of_gr (HDV.out _))) | quiet_step (fail))
    exact wpQuiet_nil rfl
  refine ⟨rfl, ⟨rfl, by simp [Value.oneCell']⟩, fun w2 b2 hg2 _ xb2 => ?_⟩
  have x2_1 := hg2.keep X1_0.out
  have x2_2 := hg2.keep X1_1.out
  have x2_3 := hg2.keep X1_2.out
  have x2_4 := hg2.keep X1_3.out
  obtain ⟨_, _⟩ := cells2 x2_1
  have _ := fz x2_1
  have _ := ltb x2_1
  obtain ⟨_, _⟩ := cells2 x2_2
  have _ := fz x2_2
  have _ := ltb x2_2
  obtain ⟨_, _, _⟩ := cells3 x2_3
  have _ := fz x2_3
  have _ := ltb x2_3
  obtain ⟨_, _⟩ := cells2 x2_4
  have _ := fz x2_4
  have _ := ltb x2_4
  obtain ⟨_, _⟩ := cells2 xb2
  have _ := fz xb2
  have _ := ltb xb2
  have X2_1 := hid x2_1; clear x2_1
  have X2_2 := hid x2_2; clear x2_2
  have X2_3 := hid x2_3; clear x2_3
  have X2_4 := hid x2_4; clear x2_4
  have Xb2 := hid xb2; clear xb2
  have G2 := hid (G1.out.trans hg2)
  clear hg2
  go_wp2_with fail
  refine wp_reg1s #[.int .i64 0, .int .i64 0] 11 9 12 10 63 (by kernel_rfl) (by kernel_rfl) rfl rfl (by simp) rfl rfl (by decide) (fun _ _ => by kernel_rfl) (by kernel_rfl) ?_
  apply Exists.intro; apply Exists.intro
  refine ⟨fun wb hb => ?_, ?_⟩
  · obtain ⟨_, _⟩ := hb.at2 X2_1.out
    obtain ⟨_, _⟩ := hb.at2 X2_2.out
    obtain ⟨_, _, _⟩ := hb.at3 X2_3.out
    obtain ⟨_, _⟩ := hb.at2 X2_4.out
    obtain ⟨_, _⟩ := hb.at2 Xb2.out
    simp only [headOps, List.contains, List.elem, Nat.reduceAdd, Nat.reduceBEq, reduceIte, Bool.false_eq_true, dumOp]
    repeat (first | go_big_quiet_step (first | (go_at_call 115; exact Calls.of_gr (HML.out _))) | quiet_step (fail))
    exact wpQuiet_nil rfl
  refine ⟨rfl, ⟨rfl, by simp [Value.oneCell']⟩, fun w3 b3 hg3 _ xb3 => ?_⟩
  have x3_1 := hg3.keep X2_1.out
  have x3_2 := hg3.keep X2_2.out
  have x3_3 := hg3.keep X2_3.out
  have x3_4 := hg3.keep X2_4.out
  have x3_5 := hg3.keep Xb2.out
  obtain ⟨_, _⟩ := cells2 x3_1
  have _ := fz x3_1
  have _ := ltb x3_1
  obtain ⟨_, _⟩ := cells2 x3_2
  have _ := fz x3_2
  have _ := ltb x3_2
  obtain ⟨_, _, _⟩ := cells3 x3_3
  have _ := fz x3_3
  have _ := ltb x3_3
  obtain ⟨_, _⟩ := cells2 x3_4
  have _ := fz x3_4
  have _ := ltb x3_4
  obtain ⟨_, _⟩ := cells2 x3_5
  have _ := fz x3_5
  have _ := ltb x3_5
  obtain ⟨_, _⟩ := cells2 xb3
  have _ := fz xb3
  have _ := ltb xb3
  have X3_1 := hid x3_1; clear x3_1
  have X3_2 := hid x3_2; clear x3_2
  have X3_3 := hid x3_3; clear x3_3
  have X3_4 := hid x3_4; clear x3_4
  have X3_5 := hid x3_5; clear x3_5
  have Xb3 := hid xb3; clear xb3
  have G3 := hid (G2.out.trans hg3)
  clear hg3
  go_wp2_with fail
  refine (HSB.out _).mono ?_
  rintro e w4 ⟨rfl, hg4⟩
  have x4_1 := hg4.keep X3_1.out
  have x4_2 := hg4.keep X3_2.out
  have x4_3 := hg4.keep X3_3.out
  have x4_4 := hg4.keep X3_4.out
  have x4_5 := hg4.keep X3_5.out
  have x4_6 := hg4.keep Xb3.out
  obtain ⟨_, _⟩ := cells2 x4_1
  have _ := fz x4_1
  have _ := ltb x4_1
  obtain ⟨_, _⟩ := cells2 x4_2
  have _ := fz x4_2
  have _ := ltb x4_2
  obtain ⟨_, _, _⟩ := cells3 x4_3
  have _ := fz x4_3
  have _ := ltb x4_3
  obtain ⟨_, _⟩ := cells2 x4_4
  have _ := fz x4_4
  have _ := ltb x4_4
  obtain ⟨_, _⟩ := cells2 x4_5
  have _ := fz x4_5
  have _ := ltb x4_5
  obtain ⟨_, _⟩ := cells2 x4_6
  have _ := fz x4_6
  have _ := ltb x4_6
  have X4_1 := hid x4_1; clear x4_1
  have X4_2 := hid x4_2; clear x4_2
  have X4_3 := hid x4_3; clear x4_3
  have X4_4 := hid x4_4; clear x4_4
  have X4_5 := hid x4_5; clear x4_5
  have X4_6 := hid x4_6; clear x4_6
  have G4 := hid (G3.out.trans hg4)
  clear hg4
  go_wp2_with fail
  refine wp_reg0 11 (by kernel_rfl) (by kernel_rfl) ?_
  apply Exists.intro
  refine ⟨fun wb hb => ?_, ?_⟩
  · obtain ⟨_, _⟩ := hb.at2 (((Gr.refl _).al _).keep X4_1.out)
    obtain ⟨_, _⟩ := hb.at2 (((Gr.refl _).al _).keep X4_2.out)
    obtain ⟨_, _, _⟩ := hb.at3 (((Gr.refl _).al _).keep X4_3.out)
    obtain ⟨_, _⟩ := hb.at2 (((Gr.refl _).al _).keep X4_4.out)
    obtain ⟨_, _⟩ := hb.at2 (((Gr.refl _).al _).keep X4_5.out)
    obtain ⟨_, _⟩ := hb.at2 (((Gr.refl _).al _).keep X4_6.out)
    obtain ⟨_, _⟩ := hb.at2 (alloc1 (Gr.refl _)).1
    simp only [headOps, List.contains, List.elem, reduceIte, Bool.false_eq_true]
    repeat (first | go_big_quiet_step (first | (go_at_call 130; exact Calls.of_gr (HNE.out _)) | (go_at_call 129; exact Calls.of_gr (HIN.out _))) | quiet_step (fail))
    exact wpQuiet_nil rfl
  intro w5 hg5
  obtain ⟨x5_0, hz5, g5⟩ := alloc1 hg5
  have x5_1 := g5.keep X4_1.out
  have x5_2 := g5.keep X4_2.out
  have x5_3 := g5.keep X4_3.out
  have x5_4 := g5.keep X4_4.out
  have x5_5 := g5.keep X4_5.out
  have x5_6 := g5.keep X4_6.out
  obtain ⟨_, _⟩ := cells2 x5_1
  have _ := fz x5_1
  have _ := ltb x5_1
  obtain ⟨_, _⟩ := cells2 x5_2
  have _ := fz x5_2
  have _ := ltb x5_2
  obtain ⟨_, _, _⟩ := cells3 x5_3
  have _ := fz x5_3
  have _ := ltb x5_3
  obtain ⟨_, _⟩ := cells2 x5_4
  have _ := fz x5_4
  have _ := ltb x5_4
  obtain ⟨_, _⟩ := cells2 x5_5
  have _ := fz x5_5
  have _ := ltb x5_5
  obtain ⟨_, _⟩ := cells2 x5_6
  have _ := fz x5_6
  have _ := ltb x5_6
  obtain ⟨_, _⟩ := cells2 x5_0
  have _ := fz x5_0
  have _ := ltb x5_0
  have X5_1 := hid x5_1; clear x5_1
  have X5_2 := hid x5_2; clear x5_2
  have X5_3 := hid x5_3; clear x5_3
  have X5_4 := hid x5_4; clear x5_4
  have X5_5 := hid x5_5; clear x5_5
  have X5_6 := hid x5_6; clear x5_6
  have X5_0 := hid x5_0; clear x5_0
  have G5 := hid (G4.out.trans g5)
  clear hg5 g5
  go_wp2_with fail
  refine wp_reg1s #[.int .i64 0, .int .i64 0] 12 10 18 11 101 (by kernel_rfl) (by kernel_rfl) rfl rfl (by simp) rfl rfl (by decide) (fun _ _ => by kernel_rfl) (by kernel_rfl) ?_
  apply Exists.intro; apply Exists.intro
  refine ⟨fun wb hb => ?_, ?_⟩
  · obtain ⟨_, _⟩ := hb.at2 X5_1.out
    obtain ⟨_, _⟩ := hb.at2 X5_2.out
    obtain ⟨_, _, _⟩ := hb.at3 X5_3.out
    obtain ⟨_, _⟩ := hb.at2 X5_4.out
    obtain ⟨_, _⟩ := hb.at2 X5_5.out
    obtain ⟨_, _⟩ := hb.at2 X5_6.out
    obtain ⟨_, _⟩ := hb.at2 X5_0.out
    simp only [headOps, List.contains, List.elem, Nat.reduceAdd, Nat.reduceBEq, reduceIte, Bool.false_eq_true, dumOp]
    repeat (first | go_big_quiet_step (first | (go_at_call 65; exact Calls.of_gr (swhole1 _ _)) | (go_at_call 115; exact Calls.of_gr (HMW.out _))) | quiet_step (fail))
    exact wpQuiet_nil rfl
  refine ⟨rfl, ⟨rfl, by simp [Value.oneCell']⟩, fun w6 b6 hg6 _ xb6 => ?_⟩
  have x6_1 := hg6.keep X5_1.out
  have x6_2 := hg6.keep X5_2.out
  have x6_3 := hg6.keep X5_3.out
  have x6_4 := hg6.keep X5_4.out
  have x6_5 := hg6.keep X5_5.out
  have x6_6 := hg6.keep X5_6.out
  have x6_7 := hg6.keep X5_0.out
  obtain ⟨_, _⟩ := cells2 x6_1
  have _ := fz x6_1
  have _ := ltb x6_1
  obtain ⟨_, _⟩ := cells2 x6_2
  have _ := fz x6_2
  have _ := ltb x6_2
  obtain ⟨_, _, _⟩ := cells3 x6_3
  have _ := fz x6_3
  have _ := ltb x6_3
  obtain ⟨_, _⟩ := cells2 x6_4
  have _ := fz x6_4
  have _ := ltb x6_4
  obtain ⟨_, _⟩ := cells2 x6_5
  have _ := fz x6_5
  have _ := ltb x6_5
  obtain ⟨_, _⟩ := cells2 x6_6
  have _ := fz x6_6
  have _ := ltb x6_6
  obtain ⟨_, _⟩ := cells2 x6_7
  have _ := fz x6_7
  have _ := ltb x6_7
  obtain ⟨_, _⟩ := cells2 xb6
  have _ := fz xb6
  have _ := ltb xb6
  have X6_1 := hid x6_1; clear x6_1
  have X6_2 := hid x6_2; clear x6_2
  have X6_3 := hid x6_3; clear x6_3
  have X6_4 := hid x6_4; clear x6_4
  have X6_5 := hid x6_5; clear x6_5
  have X6_6 := hid x6_6; clear x6_6
  have X6_7 := hid x6_7; clear x6_7
  have Xb6 := hid xb6; clear xb6
  have G6 := hid (G5.out.trans hg6)
  clear hg6
  go_wp2_with fail
  refine (HAD.out _).mono ?_
  rintro e w7 ⟨rfl, hg7⟩
  have x7_1 := hg7.keep X6_1.out
  have x7_2 := hg7.keep X6_2.out
  have x7_3 := hg7.keep X6_3.out
  have x7_4 := hg7.keep X6_4.out
  have x7_5 := hg7.keep X6_5.out
  have x7_6 := hg7.keep X6_6.out
  have x7_7 := hg7.keep X6_7.out
  have x7_8 := hg7.keep Xb6.out
  obtain ⟨_, _⟩ := cells2 x7_1
  have _ := fz x7_1
  have _ := ltb x7_1
  obtain ⟨_, _⟩ := cells2 x7_2
  have _ := fz x7_2
  have _ := ltb x7_2
  obtain ⟨_, _, _⟩ := cells3 x7_3
  have _ := fz x7_3
  have _ := ltb x7_3
  obtain ⟨_, _⟩ := cells2 x7_4
  have _ := fz x7_4
  have _ := ltb x7_4
  obtain ⟨_, _⟩ := cells2 x7_5
  have _ := fz x7_5
  have _ := ltb x7_5
  obtain ⟨_, _⟩ := cells2 x7_6
  have _ := fz x7_6
  have _ := ltb x7_6
  obtain ⟨_, _⟩ := cells2 x7_7
  have _ := fz x7_7
  have _ := ltb x7_7
  obtain ⟨_, _⟩ := cells2 x7_8
  have _ := fz x7_8
  have _ := ltb x7_8
  have X7_1 := hid x7_1; clear x7_1
  have X7_2 := hid x7_2; clear x7_2
  have X7_3 := hid x7_3; clear x7_3
  have X7_4 := hid x7_4; clear x7_4
  have X7_5 := hid x7_5; clear x7_5
  have X7_6 := hid x7_6; clear x7_6
  have X7_7 := hid x7_7; clear x7_7
  have X7_8 := hid x7_8; clear x7_8
  have G7 := hid (G6.out.trans hg7)
  clear hg7
  go_wp2
  refine bodyPost_ret (v := .tuple #[fr s0 s1, .int .i64 C]) (by simp [results, Try.results96, go_sem, *]) rfl ⟨rfl, ?_⟩
  exact ((G7.out).setCell (by simp <;> omega) _).setCell (by simp <;> omega) _
set_option maxRecDepth 20000 in
set_option maxHeartbeats 1000000 in
theorem ird_b0 (a b x y g0 g1 : Int) (N : Nat) (A : Option Addr) (c : Nat) (xs : List (Int × Int)) (w : World) (X : Hid (RdF w A xs)) (hN : N ≤ 40)
    (hLF : ∀ w, Hid (RdF w A xs) → Calls Try.prog 95 #[vn N true, scl a b A xs.length c, fr x y] w fun e w' => e = .returned (.int .i64 0) ∧ Gr w w')
    (hLW : ∀ w, Calls Try.prog 131 #[.int .i64 0, .int .i64 N] w fun e w' => e = .returned (fr g0 g1) ∧ Gr w w')
    (hTM : ∀ w, Calls Try.prog 132 #[fr g0 g1, fr a b] w fun e w' => (∃ x y, e = .panicked [{ v := .iface 125 (fr x y), recovered := false }]) ∧ Gr w w') :
    Calls Try.prog 98 #[vn N true, scl a b A xs.length c, fr x y] w fun e w' => (∃ x y, e = .panicked [{ v := .iface 125 (fr x y), recovered := false }]) ∧ Gr w w' := by
  have hLF := hid hLF
  have hLW := hid hLW
  have hTM := hid hTM
  have _ := hN
  go_enter Try.func98, Try.ntmps98
  go_wp2_with fail
  refine (hLF.out _ (hid (X.out.keep (((((Gr.refl w).al _).al _).al _).al _)))).mono ?_
  rintro e w1 ⟨rfl, hg1⟩
  obtain ⟨x1_0, x1_1, x1_2, x1_3, hz1, g1⟩ := alloc4 hg1
  obtain ⟨_, _⟩ := cells2 x1_0
  have _ := fz x1_0
  have _ := ltb x1_0
  obtain ⟨_, _, _⟩ := cells3 x1_1
  have _ := fz x1_1
  have _ := ltb x1_1
  obtain ⟨_, _⟩ := cells2 x1_2
  have _ := fz x1_2
  have _ := ltb x1_2
  obtain ⟨_, _⟩ := cells2 x1_3
  have _ := fz x1_3
  have _ := ltb x1_3
  have X1_0 := hid x1_0; clear x1_0
  have X1_1 := hid x1_1; clear x1_1
  have X1_2 := hid x1_2; clear x1_2
  have X1_3 := hid x1_3; clear x1_3
  have G1 := hid (g1)
  clear hg1 g1
  go_wp2_with fail
  refine wp_regPa (.cells #[.int .i64 0, .int .i64 0] 29) 6 7 [8] (by kernel_rfl) (by kernel_rfl) rfl (fun _ _ => by kernel_rfl) rfl ?_
  apply Exists.intro
  refine ⟨132, #[fr g0 g1, fr a b], fun wb hb => ?_, ?_⟩
  · obtain ⟨_, _⟩ := hb.at2 X1_0.out
    obtain ⟨_, _, _⟩ := hb.at3 X1_1.out
    obtain ⟨_, _⟩ := hb.at2 X1_2.out
    obtain ⟨_, _⟩ := hb.at2 X1_3.out
    simp only [headOps, List.contains, List.elem, List.length_cons, List.length_nil, Nat.zero_add, Nat.reduceAdd, Nat.reduceBEq, reduceIte, Bool.false_eq_true, dumOp]
    repeat (first | go_big_quiet_step (first | (first | (go_at_call 131; exact Calls.of_gr (hLW.out _)))) | quiet_step (fail))
    exact wpQuiet_nil rfl
  refine ⟨fun w' => by kernel_rfl, fun w' hg' => (hTM.out w').mono fun e w2 ⟨⟨x, y, he⟩, hg2⟩ => ⟨_, he, fun a' ha' => ⟨ha', ⟨x, y, rfl⟩, ((G1.out).trans hg').trans hg2⟩⟩⟩
set_option maxRecDepth 20000 in
set_option maxHeartbeats 1000000 in
theorem ird_b1 (a b x y g0 g1 p0 p1 : Int) (N : Nat) (A : Option Addr) (c : Nat) (xs : List (Int × Int)) (w : World) (X : Hid (RdF w A xs)) (hN : N ≤ 40)
    (hLF : ∀ w, Hid (RdF w A xs) → Calls Try.prog 95 #[vn N true, scl a b A xs.length c, fr x y] w fun e w' => e = .returned (.int .i64 0) ∧ Gr w w')
    (hLW : ∀ w, Calls Try.prog 131 #[.int .i64 0, .int .i64 N] w fun e w' => e = .returned (fr g0 g1) ∧ Gr w w')
    (hTM : ∀ w, Calls Try.prog 132 #[fr g0 g1, fr a b] w fun e w' => e = .returned (fr p0 p1) ∧ Gr w w')
    (hMN : ∀ w, Calls Try.prog 123 #[fr x y, fr p0 p1] w fun e w' => (∃ x y, e = .panicked [{ v := .iface 125 (fr x y), recovered := false }]) ∧ Gr w w') :
    Calls Try.prog 98 #[vn N true, scl a b A xs.length c, fr x y] w fun e w' => (∃ x y, e = .panicked [{ v := .iface 125 (fr x y), recovered := false }]) ∧ Gr w w' := by
  have hLF := hid hLF
  have hLW := hid hLW
  have hTM := hid hTM
  have hMN := hid hMN
  have _ := hN
  go_enter Try.func98, Try.ntmps98
  go_wp2_with fail
  refine (hLF.out _ (hid (X.out.keep (((((Gr.refl w).al _).al _).al _).al _)))).mono ?_
  rintro e w1 ⟨rfl, hg1⟩
  obtain ⟨x1_0, x1_1, x1_2, x1_3, hz1, g1⟩ := alloc4 hg1
  obtain ⟨_, _⟩ := cells2 x1_0
  have _ := fz x1_0
  have _ := ltb x1_0
  obtain ⟨_, _, _⟩ := cells3 x1_1
  have _ := fz x1_1
  have _ := ltb x1_1
  obtain ⟨_, _⟩ := cells2 x1_2
  have _ := fz x1_2
  have _ := ltb x1_2
  obtain ⟨_, _⟩ := cells2 x1_3
  have _ := fz x1_3
  have _ := ltb x1_3
  have X1_0 := hid x1_0; clear x1_0
  have X1_1 := hid x1_1; clear x1_1
  have X1_2 := hid x1_2; clear x1_2
  have X1_3 := hid x1_3; clear x1_3
  have G1 := hid (g1)
  clear hg1 g1
  go_wp2_with fail
  refine wp_reg1 (b0 := .cells #[.int .i64 0, .int .i64 0] 29) 8 7 8 (by kernel_rfl) (by kernel_rfl) rfl rfl (by simp) (fun _ _ => by kernel_rfl) ?_
  apply Exists.intro
  refine ⟨fun wb hb => ?_, ?_⟩
  · obtain ⟨_, _⟩ := hb.at2 X1_0.out
    obtain ⟨_, _, _⟩ := hb.at3 X1_1.out
    obtain ⟨_, _⟩ := hb.at2 X1_2.out
    obtain ⟨_, _⟩ := hb.at2 X1_3.out
    simp only [headOps, List.contains, List.elem, Nat.reduceAdd, Nat.reduceBEq, reduceIte, Bool.false_eq_true, dumOp]
    repeat (first | go_big_quiet_step (first | (go_at_call 131; exact Calls.of_gr (hLW.out _)) | (go_at_call 132; exact Calls.of_gr (hTM.out _))) | quiet_step (fail))
    exact wpQuiet_nil rfl
  intro w2 b2 hg2 hb2 xb2
  have N2_0 := hid (Nat.ne_of_lt (Nat.lt_of_lt_of_le (ltb X1_0.out) hb2))
  have N2_1 := hid (Nat.ne_of_lt (Nat.lt_of_lt_of_le (ltb X1_1.out) hb2))
  have N2_2 := hid (Nat.ne_of_lt (Nat.lt_of_lt_of_le (ltb X1_2.out) hb2))
  have N2_3 := hid (Nat.ne_of_lt (Nat.lt_of_lt_of_le (ltb X1_3.out) hb2))
  have hge2 := hid (Nat.le_trans (G1.out).size hb2)
  have x2_1 := hg2.keep X1_0.out
  have x2_2 := hg2.keep X1_1.out
  have x2_3 := hg2.keep X1_2.out
  have x2_4 := hg2.keep X1_3.out
  obtain ⟨_, _⟩ := cells2 x2_1
  have _ := fz x2_1
  have _ := ltb x2_1
  obtain ⟨_, _, _⟩ := cells3 x2_2
  have _ := fz x2_2
  have _ := ltb x2_2
  obtain ⟨_, _⟩ := cells2 x2_3
  have _ := fz x2_3
  have _ := ltb x2_3
  obtain ⟨_, _⟩ := cells2 x2_4
  have _ := fz x2_4
  have _ := ltb x2_4
  obtain ⟨_, _⟩ := cells2 xb2
  have _ := fz xb2
  have _ := ltb xb2
  have X2_1 := hid x2_1; clear x2_1
  have X2_2 := hid x2_2; clear x2_2
  have X2_3 := hid x2_3; clear x2_3
  have X2_4 := hid x2_4; clear x2_4
  have Xb2 := hid xb2; clear xb2
  have G2 := hid (G1.out.trans hg2)
  clear hg2
  clear hb2
  go_wp2_with fail
  refine wp_regP 2 [5, 6] (by kernel_rfl) (by kernel_rfl) rfl ?_
  apply Exists.intro
  refine ⟨123, #[fr x y, fr p0 p1], fun wb hb => ?_, ?_⟩
  · obtain ⟨_, _⟩ := hb.at2 (set2_old X2_1.out N2_0.out)
    obtain ⟨_, _, _⟩ := hb.at3 (set2_old X2_2.out N2_1.out)
    obtain ⟨_, _⟩ := hb.at2 (set2_old X2_3.out N2_2.out)
    obtain ⟨_, _⟩ := hb.at2 (set2_old X2_4.out N2_3.out)
    obtain ⟨_, _⟩ := hb.at2 (set2_new Xb2.out)
    simp only [headOps, List.contains, List.elem, List.length_cons, List.length_nil, Nat.zero_add, Nat.reduceAdd, Nat.reduceBEq, reduceIte, Bool.false_eq_true, dumOp]
    repeat (first | go_big_quiet_step (first | (fail)) | quiet_step (fail))
    exact wpQuiet_nil rfl
  refine ⟨fun w' => by kernel_rfl, fun w' hg' => (hMN.out w').mono fun e w2 ⟨⟨x, y, he⟩, hg2⟩ => ⟨_, he, fun a' ha' => ⟨ha', ⟨x, y, rfl⟩, (((G2.out.setCell hge2.out _).setCell hge2.out _).trans hg').trans hg2⟩⟩⟩
set_option maxRecDepth 20000 in
set_option maxHeartbeats 1000000 in
theorem ird_b2 (a b x y g0 g1 p0 p1 d0 d1 : Int) (N : Nat) (A : Option Addr) (c : Nat) (xs : List (Int × Int)) (w : World) (X : Hid (RdF w A xs)) (hN : N ≤ 40)
    (hLF : ∀ w, Hid (RdF w A xs) → Calls Try.prog 95 #[vn N true, scl a b A xs.length c, fr x y] w fun e w' => e = .returned (.int .i64 0) ∧ Gr w w')
    (hLW : ∀ w, Calls Try.prog 131 #[.int .i64 0, .int .i64 N] w fun e w' => e = .returned (fr g0 g1) ∧ Gr w w')
    (hTM : ∀ w, Calls Try.prog 132 #[fr g0 g1, fr a b] w fun e w' => e = .returned (fr p0 p1) ∧ Gr w w')
    (hMN : ∀ w, Calls Try.prog 123 #[fr x y, fr p0 p1] w fun e w' => e = .returned (fr d0 d1) ∧ Gr w w')
    (hNR : ∀ w, Calls Try.prog 133 #[fr d0 d1, fr a b] w fun e w' => (∃ x y, e = .panicked [{ v := .iface 125 (fr x y), recovered := false }]) ∧ Gr w w') :
    Calls Try.prog 98 #[vn N true, scl a b A xs.length c, fr x y] w fun e w' => (∃ x y, e = .panicked [{ v := .iface 125 (fr x y), recovered := false }]) ∧ Gr w w' := by
  have hLF := hid hLF
  have hLW := hid hLW
  have hTM := hid hTM
  have hMN := hid hMN
  have hNR := hid hNR
  have _ := hN
  go_enter Try.func98, Try.ntmps98
  go_wp2_with fail
  refine (hLF.out _ (hid (X.out.keep (((((Gr.refl w).al _).al _).al _).al _)))).mono ?_
  rintro e w1 ⟨rfl, hg1⟩
  obtain ⟨x1_0, x1_1, x1_2, x1_3, hz1, g1⟩ := alloc4 hg1
  obtain ⟨_, _⟩ := cells2 x1_0
  have _ := fz x1_0
  have _ := ltb x1_0
  obtain ⟨_, _, _⟩ := cells3 x1_1
  have _ := fz x1_1
  have _ := ltb x1_1
  obtain ⟨_, _⟩ := cells2 x1_2
  have _ := fz x1_2
  have _ := ltb x1_2
  obtain ⟨_, _⟩ := cells2 x1_3
  have _ := fz x1_3
  have _ := ltb x1_3
  have X1_0 := hid x1_0; clear x1_0
  have X1_1 := hid x1_1; clear x1_1
  have X1_2 := hid x1_2; clear x1_2
  have X1_3 := hid x1_3; clear x1_3
  have G1 := hid (g1)
  clear hg1 g1
  go_wp2_with fail
  refine wp_reg1 (b0 := .cells #[.int .i64 0, .int .i64 0] 29) 8 7 8 (by kernel_rfl) (by kernel_rfl) rfl rfl (by simp) (fun _ _ => by kernel_rfl) ?_
  apply Exists.intro
  refine ⟨fun wb hb => ?_, ?_⟩
  · obtain ⟨_, _⟩ := hb.at2 X1_0.out
    obtain ⟨_, _, _⟩ := hb.at3 X1_1.out
    obtain ⟨_, _⟩ := hb.at2 X1_2.out
    obtain ⟨_, _⟩ := hb.at2 X1_3.out
    simp only [headOps, List.contains, List.elem, Nat.reduceAdd, Nat.reduceBEq, reduceIte, Bool.false_eq_true, dumOp]
    repeat (first | go_big_quiet_step (first | (go_at_call 131; exact Calls.of_gr (hLW.out _)) | (go_at_call 132; exact Calls.of_gr (hTM.out _))) | quiet_step (fail))
    exact wpQuiet_nil rfl
  intro w2 b2 hg2 hb2 xb2
  have N2_0 := hid (Nat.ne_of_lt (Nat.lt_of_lt_of_le (ltb X1_0.out) hb2))
  have N2_1 := hid (Nat.ne_of_lt (Nat.lt_of_lt_of_le (ltb X1_1.out) hb2))
  have N2_2 := hid (Nat.ne_of_lt (Nat.lt_of_lt_of_le (ltb X1_2.out) hb2))
  have N2_3 := hid (Nat.ne_of_lt (Nat.lt_of_lt_of_le (ltb X1_3.out) hb2))
  have hge2 := hid (Nat.le_trans (G1.out).size hb2)
  have x2_1 := hg2.keep X1_0.out
  have x2_2 := hg2.keep X1_1.out
  have x2_3 := hg2.keep X1_2.out
  have x2_4 := hg2.keep X1_3.out
  obtain ⟨_, _⟩ := cells2 x2_1
  have _ := fz x2_1
  have _ := ltb x2_1
  obtain ⟨_, _, _⟩ := cells3 x2_2
  have _ := fz x2_2
  have _ := ltb x2_2
  obtain ⟨_, _⟩ := cells2 x2_3
  have _ := fz x2_3
  have _ := ltb x2_3
  obtain ⟨_, _⟩ := cells2 x2_4
  have _ := fz x2_4
  have _ := ltb x2_4
  obtain ⟨_, _⟩ := cells2 xb2
  have _ := fz xb2
  have _ := ltb xb2
  have X2_1 := hid x2_1; clear x2_1
  have X2_2 := hid x2_2; clear x2_2
  have X2_3 := hid x2_3; clear x2_3
  have X2_4 := hid x2_4; clear x2_4
  have Xb2 := hid xb2; clear xb2
  have G2 := hid (G1.out.trans hg2)
  clear hg2
  clear hb2
  go_wp2_with fail
  refine wp_regP 5 [6] (by kernel_rfl) (by kernel_rfl) rfl ?_
  apply Exists.intro
  refine ⟨133, #[fr d0 d1, fr a b], fun wb hb => ?_, ?_⟩
  · obtain ⟨_, _⟩ := hb.at2 (set2_old X2_1.out N2_0.out)
    obtain ⟨_, _, _⟩ := hb.at3 (set2_old X2_2.out N2_1.out)
    obtain ⟨_, _⟩ := hb.at2 (set2_old X2_3.out N2_2.out)
    obtain ⟨_, _⟩ := hb.at2 (set2_old X2_4.out N2_3.out)
    obtain ⟨_, _⟩ := hb.at2 (set2_new Xb2.out)
    simp only [headOps, List.contains, List.elem, List.length_cons, List.length_nil, Nat.zero_add, Nat.reduceAdd, Nat.reduceBEq, reduceIte, Bool.false_eq_true, dumOp]
    repeat (first | go_big_quiet_step (first | (first | (go_at_call 123; exact Calls.of_gr (hMN.out _)))) | quiet_step (fail))
    exact wpQuiet_nil rfl
  refine ⟨fun w' => by kernel_rfl, fun w' hg' => (hNR.out w').mono fun e w2 ⟨⟨x, y, he⟩, hg2⟩ => ⟨_, he, fun a' ha' => ⟨ha', ⟨x, y, rfl⟩, (((G2.out.setCell hge2.out _).setCell hge2.out _).trans hg').trans hg2⟩⟩⟩
set_option maxRecDepth 20000 in
set_option maxHeartbeats 1000000 in
theorem ird_b3 (a b x y g0 g1 p0 p1 d0 d1 nn : Int) (N : Nat) (A : Option Addr) (c : Nat) (xs : List (Int × Int)) (w : World) (X : Hid (RdF w A xs)) (hN : N ≤ 40)
    (hLF : ∀ w, Hid (RdF w A xs) → Calls Try.prog 95 #[vn N true, scl a b A xs.length c, fr x y] w fun e w' => e = .returned (.int .i64 0) ∧ Gr w w')
    (hLW : ∀ w, Calls Try.prog 131 #[.int .i64 0, .int .i64 N] w fun e w' => e = .returned (fr g0 g1) ∧ Gr w w')
    (hTM : ∀ w, Calls Try.prog 132 #[fr g0 g1, fr a b] w fun e w' => e = .returned (fr p0 p1) ∧ Gr w w')
    (hMN : ∀ w, Calls Try.prog 123 #[fr x y, fr p0 p1] w fun e w' => e = .returned (fr d0 d1) ∧ Gr w w')
    (hNR : ∀ w, Calls Try.prog 133 #[fr d0 d1, fr a b] w fun e w' => e = .returned (.int .i64 nn) ∧ Gr w w')
    (hTW : ∀ w, Calls Try.prog 103 #[fr a b, .int .i64 nn] w fun e w' => (∃ x y, e = .panicked [{ v := .iface 125 (fr x y), recovered := false }]) ∧ Gr w w') :
    Calls Try.prog 98 #[vn N true, scl a b A xs.length c, fr x y] w fun e w' => (∃ x y, e = .panicked [{ v := .iface 125 (fr x y), recovered := false }]) ∧ Gr w w' := by
  have hLF := hid hLF
  have hLW := hid hLW
  have hTM := hid hTM
  have hMN := hid hMN
  have hNR := hid hNR
  have hTW := hid hTW
  have _ := hN
  go_enter Try.func98, Try.ntmps98
  go_wp2_with fail
  refine (hLF.out _ (hid (X.out.keep (((((Gr.refl w).al _).al _).al _).al _)))).mono ?_
  rintro e w1 ⟨rfl, hg1⟩
  obtain ⟨x1_0, x1_1, x1_2, x1_3, hz1, g1⟩ := alloc4 hg1
  obtain ⟨_, _⟩ := cells2 x1_0
  have _ := fz x1_0
  have _ := ltb x1_0
  obtain ⟨_, _, _⟩ := cells3 x1_1
  have _ := fz x1_1
  have _ := ltb x1_1
  obtain ⟨_, _⟩ := cells2 x1_2
  have _ := fz x1_2
  have _ := ltb x1_2
  obtain ⟨_, _⟩ := cells2 x1_3
  have _ := fz x1_3
  have _ := ltb x1_3
  have X1_0 := hid x1_0; clear x1_0
  have X1_1 := hid x1_1; clear x1_1
  have X1_2 := hid x1_2; clear x1_2
  have X1_3 := hid x1_3; clear x1_3
  have G1 := hid (g1)
  clear hg1 g1
  go_wp2_with fail
  refine wp_reg1 (b0 := .cells #[.int .i64 0, .int .i64 0] 29) 8 7 8 (by kernel_rfl) (by kernel_rfl) rfl rfl (by simp) (fun _ _ => by kernel_rfl) ?_
  apply Exists.intro
  refine ⟨fun wb hb => ?_, ?_⟩
  · obtain ⟨_, _⟩ := hb.at2 X1_0.out
    obtain ⟨_, _, _⟩ := hb.at3 X1_1.out
    obtain ⟨_, _⟩ := hb.at2 X1_2.out
    obtain ⟨_, _⟩ := hb.at2 X1_3.out
    simp only [headOps, List.contains, List.elem, Nat.reduceAdd, Nat.reduceBEq, reduceIte, Bool.false_eq_true, dumOp]
    repeat (first | go_big_quiet_step (first | (go_at_call 131; exact Calls.of_gr (hLW.out _)) | (go_at_call 132; exact Calls.of_gr (hTM.out _))) | quiet_step (fail))
    exact wpQuiet_nil rfl
  intro w2 b2 hg2 hb2 xb2
  have N2_0 := hid (Nat.ne_of_lt (Nat.lt_of_lt_of_le (ltb X1_0.out) hb2))
  have N2_1 := hid (Nat.ne_of_lt (Nat.lt_of_lt_of_le (ltb X1_1.out) hb2))
  have N2_2 := hid (Nat.ne_of_lt (Nat.lt_of_lt_of_le (ltb X1_2.out) hb2))
  have N2_3 := hid (Nat.ne_of_lt (Nat.lt_of_lt_of_le (ltb X1_3.out) hb2))
  have hge2 := hid (Nat.le_trans (G1.out).size hb2)
  have x2_1 := hg2.keep X1_0.out
  have x2_2 := hg2.keep X1_1.out
  have x2_3 := hg2.keep X1_2.out
  have x2_4 := hg2.keep X1_3.out
  obtain ⟨_, _⟩ := cells2 x2_1
  have _ := fz x2_1
  have _ := ltb x2_1
  obtain ⟨_, _, _⟩ := cells3 x2_2
  have _ := fz x2_2
  have _ := ltb x2_2
  obtain ⟨_, _⟩ := cells2 x2_3
  have _ := fz x2_3
  have _ := ltb x2_3
  obtain ⟨_, _⟩ := cells2 x2_4
  have _ := fz x2_4
  have _ := ltb x2_4
  obtain ⟨_, _⟩ := cells2 xb2
  have _ := fz xb2
  have _ := ltb xb2
  have X2_1 := hid x2_1; clear x2_1
  have X2_2 := hid x2_2; clear x2_2
  have X2_3 := hid x2_3; clear x2_3
  have X2_4 := hid x2_4; clear x2_4
  have Xb2 := hid xb2; clear xb2
  have G2 := hid (G1.out.trans hg2)
  clear hg2
  clear hb2
  go_wp2_with fail
  refine wp_reg0 6 (by kernel_rfl) (by kernel_rfl) ?_
  apply Exists.intro
  refine ⟨fun wb hb => ?_, ?_⟩
  · obtain ⟨_, _⟩ := hb.at2 (set2_old X2_1.out N2_0.out)
    obtain ⟨_, _, _⟩ := hb.at3 (set2_old X2_2.out N2_1.out)
    obtain ⟨_, _⟩ := hb.at2 (set2_old X2_3.out N2_2.out)
    obtain ⟨_, _⟩ := hb.at2 (set2_old X2_4.out N2_3.out)
    obtain ⟨_, _⟩ := hb.at2 (set2_new Xb2.out)
    simp only [headOps, List.contains, List.elem, reduceIte, Bool.false_eq_true]
    repeat (first | go_big_quiet_step (first | (go_at_call 123; exact Calls.of_gr (hMN.out _)) | (go_at_call 133; exact Calls.of_gr (hNR.out _))) | quiet_step (fail))
    exact wpQuiet_nil rfl
  intro w3 hg3
  have x3_1 := hg3.keep (set2_old X2_1.out N2_0.out)
  have x3_2 := hg3.keep (set2_old X2_2.out N2_1.out)
  have x3_3 := hg3.keep (set2_old X2_3.out N2_2.out)
  have x3_4 := hg3.keep (set2_old X2_4.out N2_3.out)
  have x3_5 := hg3.keep (set2_new Xb2.out)
  obtain ⟨_, _⟩ := cells2 x3_1
  have _ := fz x3_1
  have _ := ltb x3_1
  obtain ⟨_, _, _⟩ := cells3 x3_2
  have _ := fz x3_2
  have _ := ltb x3_2
  obtain ⟨_, _⟩ := cells2 x3_3
  have _ := fz x3_3
  have _ := ltb x3_3
  obtain ⟨_, _⟩ := cells2 x3_4
  have _ := fz x3_4
  have _ := ltb x3_4
  obtain ⟨_, _⟩ := cells2 x3_5
  have _ := fz x3_5
  have _ := ltb x3_5
  have X3_1 := hid x3_1; clear x3_1
  have X3_2 := hid x3_2; clear x3_2
  have X3_3 := hid x3_3; clear x3_3
  have X3_4 := hid x3_4; clear x3_4
  have X3_5 := hid x3_5; clear x3_5
  have G3 := hid ((((G2.out).setCell hge2.out _).setCell hge2.out _).trans hg3)
  clear hg3
  go_wp2_with fail
  refine wp_regP 4 [5, 6] (by kernel_rfl) (by kernel_rfl) rfl ?_
  apply Exists.intro
  refine ⟨103, #[fr a b, .int .i64 nn], fun wb hb => ?_, ?_⟩
  · obtain ⟨_, _⟩ := hb.at2 X3_1.out
    obtain ⟨_, _, _⟩ := hb.at3 X3_2.out
    obtain ⟨_, _⟩ := hb.at2 X3_3.out
    obtain ⟨_, _⟩ := hb.at2 X3_4.out
    obtain ⟨_, _⟩ := hb.at2 X3_5.out
    simp only [headOps, List.contains, List.elem, List.length_cons, List.length_nil, Nat.zero_add, Nat.reduceAdd, Nat.reduceBEq, reduceIte, Bool.false_eq_true, dumOp]
    repeat (first | go_big_quiet_step (first | (fail)) | quiet_step (fail))
    exact wpQuiet_nil rfl
  refine ⟨fun w' => by kernel_rfl, fun w' hg' => (hTW.out w').mono fun e w2 ⟨⟨x, y, he⟩, hg2⟩ => ⟨_, he, fun a' ha' => ⟨ha', ⟨x, y, rfl⟩, ((G3.out).trans hg').trans hg2⟩⟩⟩
set_option maxRecDepth 20000 in
set_option maxHeartbeats 1000000 in
theorem ird_b4 (a b x y g0 g1 p0 p1 d0 d1 nn t0 t1 : Int) (N : Nat) (A : Option Addr) (c : Nat) (xs : List (Int × Int)) (w : World) (X : Hid (RdF w A xs)) (hN : N ≤ 40)
    (hLF : ∀ w, Hid (RdF w A xs) → Calls Try.prog 95 #[vn N true, scl a b A xs.length c, fr x y] w fun e w' => e = .returned (.int .i64 0) ∧ Gr w w')
    (hLW : ∀ w, Calls Try.prog 131 #[.int .i64 0, .int .i64 N] w fun e w' => e = .returned (fr g0 g1) ∧ Gr w w')
    (hTM : ∀ w, Calls Try.prog 132 #[fr g0 g1, fr a b] w fun e w' => e = .returned (fr p0 p1) ∧ Gr w w')
    (hMN : ∀ w, Calls Try.prog 123 #[fr x y, fr p0 p1] w fun e w' => e = .returned (fr d0 d1) ∧ Gr w w')
    (hNR : ∀ w, Calls Try.prog 133 #[fr d0 d1, fr a b] w fun e w' => e = .returned (.int .i64 nn) ∧ Gr w w')
    (hTW : ∀ w, Calls Try.prog 103 #[fr a b, .int .i64 nn] w fun e w' => e = .returned (fr t0 t1) ∧ Gr w w')
    (hPL : ∀ w, Calls Try.prog 102 #[fr p0 p1, fr t0 t1] w fun e w' => (∃ x y, e = .panicked [{ v := .iface 125 (fr x y), recovered := false }]) ∧ Gr w w') :
    Calls Try.prog 98 #[vn N true, scl a b A xs.length c, fr x y] w fun e w' => (∃ x y, e = .panicked [{ v := .iface 125 (fr x y), recovered := false }]) ∧ Gr w w' := by
  have hLF := hid hLF
  have hLW := hid hLW
  have hTM := hid hTM
  have hMN := hid hMN
  have hNR := hid hNR
  have hTW := hid hTW
  have hPL := hid hPL
  have _ := hN
  go_enter Try.func98, Try.ntmps98
  go_wp2_with fail
  refine (hLF.out _ (hid (X.out.keep (((((Gr.refl w).al _).al _).al _).al _)))).mono ?_
  rintro e w1 ⟨rfl, hg1⟩
  obtain ⟨x1_0, x1_1, x1_2, x1_3, hz1, g1⟩ := alloc4 hg1
  obtain ⟨_, _⟩ := cells2 x1_0
  have _ := fz x1_0
  have _ := ltb x1_0
  obtain ⟨_, _, _⟩ := cells3 x1_1
  have _ := fz x1_1
  have _ := ltb x1_1
  obtain ⟨_, _⟩ := cells2 x1_2
  have _ := fz x1_2
  have _ := ltb x1_2
  obtain ⟨_, _⟩ := cells2 x1_3
  have _ := fz x1_3
  have _ := ltb x1_3
  have X1_0 := hid x1_0; clear x1_0
  have X1_1 := hid x1_1; clear x1_1
  have X1_2 := hid x1_2; clear x1_2
  have X1_3 := hid x1_3; clear x1_3
  have G1 := hid (g1)
  clear hg1 g1
  go_wp2_with fail
  refine wp_reg1 (b0 := .cells #[.int .i64 0, .int .i64 0] 29) 8 7 8 (by kernel_rfl) (by kernel_rfl) rfl rfl (by simp) (fun _ _ => by kernel_rfl) ?_
  apply Exists.intro
  refine ⟨fun wb hb => ?_, ?_⟩
  · obtain ⟨_, _⟩ := hb.at2 X1_0.out
    obtain ⟨_, _, _⟩ := hb.at3 X1_1.out
    obtain ⟨_, _⟩ := hb.at2 X1_2.out
    obtain ⟨_, _⟩ := hb.at2 X1_3.out
    simp only [headOps, List.contains, List.elem, Nat.reduceAdd, Nat.reduceBEq, reduceIte, Bool.false_eq_true, dumOp]
    repeat (first | go_big_quiet_step (first | (go_at_call 131; exact Calls.of_gr (hLW.out _)) | (go_at_call 132; exact Calls.of_gr (hTM.out _))) | quiet_step (fail))
    exact wpQuiet_nil rfl
  intro w2 b2 hg2 hb2 xb2
  have N2_0 := hid (Nat.ne_of_lt (Nat.lt_of_lt_of_le (ltb X1_0.out) hb2))
  have N2_1 := hid (Nat.ne_of_lt (Nat.lt_of_lt_of_le (ltb X1_1.out) hb2))
  have N2_2 := hid (Nat.ne_of_lt (Nat.lt_of_lt_of_le (ltb X1_2.out) hb2))
  have N2_3 := hid (Nat.ne_of_lt (Nat.lt_of_lt_of_le (ltb X1_3.out) hb2))
  have hge2 := hid (Nat.le_trans (G1.out).size hb2)
  have x2_1 := hg2.keep X1_0.out
  have x2_2 := hg2.keep X1_1.out
  have x2_3 := hg2.keep X1_2.out
  have x2_4 := hg2.keep X1_3.out
  obtain ⟨_, _⟩ := cells2 x2_1
  have _ := fz x2_1
  have _ := ltb x2_1
  obtain ⟨_, _, _⟩ := cells3 x2_2
  have _ := fz x2_2
  have _ := ltb x2_2
  obtain ⟨_, _⟩ := cells2 x2_3
  have _ := fz x2_3
  have _ := ltb x2_3
  obtain ⟨_, _⟩ := cells2 x2_4
  have _ := fz x2_4
  have _ := ltb x2_4
  obtain ⟨_, _⟩ := cells2 xb2
  have _ := fz xb2
  have _ := ltb xb2
  have X2_1 := hid x2_1; clear x2_1
  have X2_2 := hid x2_2; clear x2_2
  have X2_3 := hid x2_3; clear x2_3
  have X2_4 := hid x2_4; clear x2_4
  have Xb2 := hid xb2; clear xb2
  have G2 := hid (G1.out.trans hg2)
  clear hg2
  clear hb2
  go_wp2_with fail
  refine wp_reg0 6 (by kernel_rfl) (by kernel_rfl) ?_
  apply Exists.intro
  refine ⟨fun wb hb => ?_, ?_⟩
  · obtain ⟨_, _⟩ := hb.at2 (set2_old X2_1.out N2_0.out)
    obtain ⟨_, _, _⟩ := hb.at3 (set2_old X2_2.out N2_1.out)
    obtain ⟨_, _⟩ := hb.at2 (set2_old X2_3.out N2_2.out)
    obtain ⟨_, _⟩ := hb.at2 (set2_old X2_4.out N2_3.out)
    obtain ⟨_, _⟩ := hb.at2 (set2_new Xb2.out)
    simp only [headOps, List.contains, List.elem, reduceIte, Bool.false_eq_true]
    repeat (first | go_big_quiet_step (first | (go_at_call 123; exact Calls.of_gr (hMN.out _)) | (go_at_call 133; exact Calls.of_gr (hNR.out _))) | quiet_step (fail))
    exact wpQuiet_nil rfl
  intro w3 hg3
  have x3_1 := hg3.keep (set2_old X2_1.out N2_0.out)
  have x3_2 := hg3.keep (set2_old X2_2.out N2_1.out)
  have x3_3 := hg3.keep (set2_old X2_3.out N2_2.out)
  have x3_4 := hg3.keep (set2_old X2_4.out N2_3.out)
  have x3_5 := hg3.keep (set2_new Xb2.out)
  obtain ⟨_, _⟩ := cells2 x3_1
  have _ := fz x3_1
  have _ := ltb x3_1
  obtain ⟨_, _, _⟩ := cells3 x3_2
  have _ := fz x3_2
  have _ := ltb x3_2
  obtain ⟨_, _⟩ := cells2 x3_3
  have _ := fz x3_3
  have _ := ltb x3_3
  obtain ⟨_, _⟩ := cells2 x3_4
  have _ := fz x3_4
  have _ := ltb x3_4
  obtain ⟨_, _⟩ := cells2 x3_5
  have _ := fz x3_5
  have _ := ltb x3_5
  have X3_1 := hid x3_1; clear x3_1
  have X3_2 := hid x3_2; clear x3_2
  have X3_3 := hid x3_3; clear x3_3
  have X3_4 := hid x3_4; clear x3_4
  have X3_5 := hid x3_5; clear x3_5
  have G3 := hid ((((G2.out).setCell hge2.out _).setCell hge2.out _).trans hg3)
  clear hg3
  go_wp2_with fail
  refine wp_regP 5 [6] (by kernel_rfl) (by kernel_rfl) rfl ?_
  apply Exists.intro
  refine ⟨102, #[fr p0 p1, fr t0 t1], fun wb hb => ?_, ?_⟩
  · obtain ⟨_, _⟩ := hb.at2 X3_1.out
    obtain ⟨_, _, _⟩ := hb.at3 X3_2.out
    obtain ⟨_, _⟩ := hb.at2 X3_3.out
    obtain ⟨_, _⟩ := hb.at2 X3_4.out
    obtain ⟨_, _⟩ := hb.at2 X3_5.out
    simp only [headOps, List.contains, List.elem, List.length_cons, List.length_nil, Nat.zero_add, Nat.reduceAdd, Nat.reduceBEq, reduceIte, Bool.false_eq_true, dumOp]
    repeat (first | go_big_quiet_step (first | (first | (go_at_call 103; exact Calls.of_gr (hTW.out _)))) | quiet_step (fail))
    exact wpQuiet_nil rfl
  refine ⟨fun w' => by kernel_rfl, fun w' hg' => (hPL.out w').mono fun e w2 ⟨⟨x, y, he⟩, hg2⟩ => ⟨_, he, fun a' ha' => ⟨ha', ⟨x, y, rfl⟩, ((G3.out).trans hg').trans hg2⟩⟩⟩
set_option maxRecDepth 20000 in
set_option maxHeartbeats 1000000 in
theorem ird_b5 (a b x y g0 g1 p0 p1 d0 d1 nn t0 t1 s0 s1 : Int) (N : Nat) (A : Option Addr) (c : Nat) (xs : List (Int × Int)) (w : World) (X : Hid (RdF w A xs)) (hN : N ≤ 40)
    (hLF : ∀ w, Hid (RdF w A xs) → Calls Try.prog 95 #[vn N true, scl a b A xs.length c, fr x y] w fun e w' => e = .returned (.int .i64 0) ∧ Gr w w')
    (hLW : ∀ w, Calls Try.prog 131 #[.int .i64 0, .int .i64 N] w fun e w' => e = .returned (fr g0 g1) ∧ Gr w w')
    (hTM : ∀ w, Calls Try.prog 132 #[fr g0 g1, fr a b] w fun e w' => e = .returned (fr p0 p1) ∧ Gr w w')
    (hMN : ∀ w, Calls Try.prog 123 #[fr x y, fr p0 p1] w fun e w' => e = .returned (fr d0 d1) ∧ Gr w w')
    (hNR : ∀ w, Calls Try.prog 133 #[fr d0 d1, fr a b] w fun e w' => e = .returned (.int .i64 nn) ∧ Gr w w')
    (hTW : ∀ w, Calls Try.prog 103 #[fr a b, .int .i64 nn] w fun e w' => e = .returned (fr t0 t1) ∧ Gr w w')
    (hPL : ∀ w, Calls Try.prog 102 #[fr p0 p1, fr t0 t1] w fun e w' => e = .returned (fr s0 s1) ∧ Gr w w') :
    Calls Try.prog 98 #[vn N true, scl a b A xs.length c, fr x y] w fun e w' => e = .returned (fr s0 s1) ∧ Gr w w' := by
  have hLF := hid hLF
  have hLW := hid hLW
  have hTM := hid hTM
  have hMN := hid hMN
  have hNR := hid hNR
  have hTW := hid hTW
  have hPL := hid hPL
  have _ := hN
  go_enter Try.func98, Try.ntmps98
  go_wp2_with fail
  refine (hLF.out _ (hid (X.out.keep (((((Gr.refl w).al _).al _).al _).al _)))).mono ?_
  rintro e w1 ⟨rfl, hg1⟩
  obtain ⟨x1_0, x1_1, x1_2, x1_3, hz1, g1⟩ := alloc4 hg1
  obtain ⟨_, _⟩ := cells2 x1_0
  have _ := fz x1_0
  have _ := ltb x1_0
  obtain ⟨_, _, _⟩ := cells3 x1_1
  have _ := fz x1_1
  have _ := ltb x1_1
  obtain ⟨_, _⟩ := cells2 x1_2
  have _ := fz x1_2
  have _ := ltb x1_2
  obtain ⟨_, _⟩ := cells2 x1_3
  have _ := fz x1_3
  have _ := ltb x1_3
  have X1_0 := hid x1_0; clear x1_0
  have X1_1 := hid x1_1; clear x1_1
  have X1_2 := hid x1_2; clear x1_2
  have X1_3 := hid x1_3; clear x1_3
  have G1 := hid (g1)
  clear hg1 g1
  go_wp2_with fail
  refine wp_reg1 (b0 := .cells #[.int .i64 0, .int .i64 0] 29) 8 7 8 (by kernel_rfl) (by kernel_rfl) rfl rfl (by simp) (fun _ _ => by kernel_rfl) ?_
  apply Exists.intro
  refine ⟨fun wb hb => ?_, ?_⟩
  · obtain ⟨_, _⟩ := hb.at2 X1_0.out
    obtain ⟨_, _, _⟩ := hb.at3 X1_1.out
    obtain ⟨_, _⟩ := hb.at2 X1_2.out
    obtain ⟨_, _⟩ := hb.at2 X1_3.out
    simp only [headOps, List.contains, List.elem, Nat.reduceAdd, Nat.reduceBEq, reduceIte, Bool.false_eq_true, dumOp]
    repeat (first | go_big_quiet_step (first | (go_at_call 131; exact Calls.of_gr (hLW.out _)) | (go_at_call 132; exact Calls.of_gr (hTM.out _))) | quiet_step (fail))
    exact wpQuiet_nil rfl
  intro w2 b2 hg2 hb2 xb2
  have N2_0 := hid (Nat.ne_of_lt (Nat.lt_of_lt_of_le (ltb X1_0.out) hb2))
  have N2_1 := hid (Nat.ne_of_lt (Nat.lt_of_lt_of_le (ltb X1_1.out) hb2))
  have N2_2 := hid (Nat.ne_of_lt (Nat.lt_of_lt_of_le (ltb X1_2.out) hb2))
  have N2_3 := hid (Nat.ne_of_lt (Nat.lt_of_lt_of_le (ltb X1_3.out) hb2))
  have hge2 := hid (Nat.le_trans (G1.out).size hb2)
  have x2_1 := hg2.keep X1_0.out
  have x2_2 := hg2.keep X1_1.out
  have x2_3 := hg2.keep X1_2.out
  have x2_4 := hg2.keep X1_3.out
  obtain ⟨_, _⟩ := cells2 x2_1
  have _ := fz x2_1
  have _ := ltb x2_1
  obtain ⟨_, _, _⟩ := cells3 x2_2
  have _ := fz x2_2
  have _ := ltb x2_2
  obtain ⟨_, _⟩ := cells2 x2_3
  have _ := fz x2_3
  have _ := ltb x2_3
  obtain ⟨_, _⟩ := cells2 x2_4
  have _ := fz x2_4
  have _ := ltb x2_4
  obtain ⟨_, _⟩ := cells2 xb2
  have _ := fz xb2
  have _ := ltb xb2
  have X2_1 := hid x2_1; clear x2_1
  have X2_2 := hid x2_2; clear x2_2
  have X2_3 := hid x2_3; clear x2_3
  have X2_4 := hid x2_4; clear x2_4
  have Xb2 := hid xb2; clear xb2
  have G2 := hid (G1.out.trans hg2)
  clear hg2
  clear hb2
  go_wp2_with fail
  refine wp_reg0 6 (by kernel_rfl) (by kernel_rfl) ?_
  apply Exists.intro
  refine ⟨fun wb hb => ?_, ?_⟩
  · obtain ⟨_, _⟩ := hb.at2 (set2_old X2_1.out N2_0.out)
    obtain ⟨_, _, _⟩ := hb.at3 (set2_old X2_2.out N2_1.out)
    obtain ⟨_, _⟩ := hb.at2 (set2_old X2_3.out N2_2.out)
    obtain ⟨_, _⟩ := hb.at2 (set2_old X2_4.out N2_3.out)
    obtain ⟨_, _⟩ := hb.at2 (set2_new Xb2.out)
    simp only [headOps, List.contains, List.elem, reduceIte, Bool.false_eq_true]
    repeat (first | go_big_quiet_step (first | (go_at_call 123; exact Calls.of_gr (hMN.out _)) | (go_at_call 133; exact Calls.of_gr (hNR.out _))) | quiet_step (fail))
    exact wpQuiet_nil rfl
  intro w3 hg3
  have x3_1 := hg3.keep (set2_old X2_1.out N2_0.out)
  have x3_2 := hg3.keep (set2_old X2_2.out N2_1.out)
  have x3_3 := hg3.keep (set2_old X2_3.out N2_2.out)
  have x3_4 := hg3.keep (set2_old X2_4.out N2_3.out)
  have x3_5 := hg3.keep (set2_new Xb2.out)
  obtain ⟨_, _⟩ := cells2 x3_1
  have _ := fz x3_1
  have _ := ltb x3_1
  obtain ⟨_, _, _⟩ := cells3 x3_2
  have _ := fz x3_2
  have _ := ltb x3_2
  obtain ⟨_, _⟩ := cells2 x3_3
  have _ := fz x3_3
  have _ := ltb x3_3
  obtain ⟨_, _⟩ := cells2 x3_4
  have _ := fz x3_4
  have _ := ltb x3_4
  obtain ⟨_, _⟩ := cells2 x3_5
  have _ := fz x3_5
  have _ := ltb x3_5
  have X3_1 := hid x3_1; clear x3_1
  have X3_2 := hid x3_2; clear x3_2
  have X3_3 := hid x3_3; clear x3_3
  have X3_4 := hid x3_4; clear x3_4
  have X3_5 := hid x3_5; clear x3_5
  have G3 := hid ((((G2.out).setCell hge2.out _).setCell hge2.out _).trans hg3)
  clear hg3
  go_wp2_with fail
  refine wp_reg0 6 (by kernel_rfl) (by kernel_rfl) ?_
  apply Exists.intro
  refine ⟨fun wb hb => ?_, ?_⟩
  · obtain ⟨_, _⟩ := hb.at2 X3_1.out
    obtain ⟨_, _, _⟩ := hb.at3 X3_2.out
    obtain ⟨_, _⟩ := hb.at2 X3_3.out
    obtain ⟨_, _⟩ := hb.at2 X3_4.out
    obtain ⟨_, _⟩ := hb.at2 X3_5.out
    simp only [headOps, List.contains, List.elem, reduceIte, Bool.false_eq_true]
    repeat (first | go_big_quiet_step (first | (go_at_call 103; exact Calls.of_gr (hTW.out _)) | (go_at_call 102; exact Calls.of_gr (hPL.out _))) | quiet_step (fail))
    exact wpQuiet_nil rfl
  intro w4 hg4
  have x4_1 := hg4.keep X3_1.out
  have x4_2 := hg4.keep X3_2.out
  have x4_3 := hg4.keep X3_3.out
  have x4_4 := hg4.keep X3_4.out
  have x4_5 := hg4.keep X3_5.out
  obtain ⟨_, _⟩ := cells2 x4_1
  have _ := fz x4_1
  have _ := ltb x4_1
  obtain ⟨_, _, _⟩ := cells3 x4_2
  have _ := fz x4_2
  have _ := ltb x4_2
  obtain ⟨_, _⟩ := cells2 x4_3
  have _ := fz x4_3
  have _ := ltb x4_3
  obtain ⟨_, _⟩ := cells2 x4_4
  have _ := fz x4_4
  have _ := ltb x4_4
  obtain ⟨_, _⟩ := cells2 x4_5
  have _ := fz x4_5
  have _ := ltb x4_5
  have X4_1 := hid x4_1; clear x4_1
  have X4_2 := hid x4_2; clear x4_2
  have X4_3 := hid x4_3; clear x4_3
  have X4_4 := hid x4_4; clear x4_4
  have X4_5 := hid x4_5; clear x4_5
  have G4 := hid (G3.out.trans hg4)
  clear hg4
  go_wp2
  refine bodyPost_ret (v := fr s0 s1) (by simp [results, Try.results98, go_sem, *]) rfl ⟨rfl, ?_⟩
  exact ((G4.out).setCell (by simp <;> omega) _).setCell (by simp <;> omega) _
set_option maxRecDepth 20000 in
set_option maxHeartbeats 1000000 in
theorem srd_b0 (a b x y g0 g1 : Int) (N : Nat) (A : Option Addr) (c : Nat) (xs : List (Int × Int)) (w : World) (k1 k2 : Nat) (X1 : Hid (w.heap[k1]? = some (.cells #[.int .i64 a, .int .i64 b, .slice A xs.length c] 32))) (X2 : Hid (w.heap[k2]? = some (.cells #[.int .i64 N, .bool true] 53))) (hN : N ≤ 40)
    (hLF : ∀ w', Gr w w' → Calls Try.prog 92 #[.pointer (some ⟨k1, 0, none⟩), .pointer (some ⟨k2, 0, none⟩), fr x y] w' fun e w'' => e = .returned (.tuple #[.int .i64 0, .int .i64 0]) ∧ Gr w' w'')
    (hDV : ∀ w, Calls Try.prog 81 #[fr 0 1, fr N 1] w fun e w' => e = .returned (.tuple #[fr g0 g1, .int .i64 0]) ∧ Gr w w')
    (hML : ∀ w, Calls Try.prog 115 #[fr g0 g1, fr a b] w fun e w' => e = .returned (.tuple #[fr 0 0, .int .i64 3]) ∧ Gr w w') :
    Calls Try.prog 96 #[.pointer (some ⟨k1, 0, none⟩), .pointer (some ⟨k2, 0, none⟩), fr x y] w fun e w' => e = .returned (.tuple #[fr 0 0, .int .i64 3]) ∧ Gr w w' := by
  have HLF := hid hLF
  have HDV := hid hDV
  have HML := hid hML
  have _ := hN
  clear hLF hDV hML
  go_enter Try.func96, Try.ntmps96
  obtain ⟨_, _, _⟩ := cells3 X1.out
  have _ := fz X1.out
  have _ := ltb X1.out
  obtain ⟨_, _⟩ := cells2 X2.out
  have _ := fz X2.out
  have _ := ltb X2.out
  go_wp2_with fail
  refine (HLF.out _ (((Gr.refl w).al _).al _)).mono ?_
  rintro e w1 ⟨rfl, hg1⟩
  obtain ⟨x1_0, x1_1, hz1, g1⟩ := alloc2 hg1
  have x1_2 := g1.keep X1.out
  have x1_3 := g1.keep X2.out
  obtain ⟨_, _⟩ := cells2 x1_0
  have _ := fz x1_0
  have _ := ltb x1_0
  obtain ⟨_, _⟩ := cells2 x1_1
  have _ := fz x1_1
  have _ := ltb x1_1
  obtain ⟨_, _, _⟩ := cells3 x1_2
  have _ := fz x1_2
  have _ := ltb x1_2
  obtain ⟨_, _⟩ := cells2 x1_3
  have _ := fz x1_3
  have _ := ltb x1_3
  have X1_0 := hid x1_0; clear x1_0
  have X1_1 := hid x1_1; clear x1_1
  have X1_2 := hid x1_2; clear x1_2
  have X1_3 := hid x1_3; clear x1_3
  have G1 := hid (g1)
  clear hg1 g1
  go_wp2_with fail
  refine wp_reg1s #[.int .i64 0, .int .i64 0] 13 11 10 12 54 (by kernel_rfl) (by kernel_rfl) rfl rfl (by simp) rfl rfl (by decide) (fun _ _ => by kernel_rfl) (by kernel_rfl) ?_
  apply Exists.intro; apply Exists.intro
  refine ⟨fun wb hb => ?_, ?_⟩
  · obtain ⟨_, _⟩ := hb.at2 X1_0.out
    obtain ⟨_, _⟩ := hb.at2 X1_1.out
    obtain ⟨_, _, _⟩ := hb.at3 X1_2.out
    obtain ⟨_, _⟩ := hb.at2 X1_3.out
    simp only [headOps, List.contains, List.elem, Nat.reduceAdd, Nat.reduceBEq, reduceIte, Bool.false_eq_true, dumOp]
    repeat (first | go_big_quiet_step (first | (go_at_call 65; exact Calls.of_gr (swhole1 _ _)) | (go_at_call 81; exact Calls.of_gr (HDV.out _))) | quiet_step (fail))
    exact wpQuiet_nil rfl
  refine ⟨rfl, ⟨rfl, by simp [Value.oneCell']⟩, fun w2 b2 hg2 _ xb2 => ?_⟩
  have x2_1 := hg2.keep X1_0.out
  have x2_2 := hg2.keep X1_1.out
  have x2_3 := hg2.keep X1_2.out
  have x2_4 := hg2.keep X1_3.out
  obtain ⟨_, _⟩ := cells2 x2_1
  have _ := fz x2_1
  have _ := ltb x2_1
  obtain ⟨_, _⟩ := cells2 x2_2
  have _ := fz x2_2
  have _ := ltb x2_2
  obtain ⟨_, _, _⟩ := cells3 x2_3
  have _ := fz x2_3
  have _ := ltb x2_3
  obtain ⟨_, _⟩ := cells2 x2_4
  have _ := fz x2_4
  have _ := ltb x2_4
  obtain ⟨_, _⟩ := cells2 xb2
  have _ := fz xb2
  have _ := ltb xb2
  have X2_1 := hid x2_1; clear x2_1
  have X2_2 := hid x2_2; clear x2_2
  have X2_3 := hid x2_3; clear x2_3
  have X2_4 := hid x2_4; clear x2_4
  have Xb2 := hid xb2; clear xb2
  have G2 := hid (G1.out.trans hg2)
  clear hg2
  go_wp2_with fail
  refine wp_reg1s #[.int .i64 0, .int .i64 0] 11 9 12 10 63 (by kernel_rfl) (by kernel_rfl) rfl rfl (by simp) rfl rfl (by decide) (fun _ _ => by kernel_rfl) (by kernel_rfl) ?_
  apply Exists.intro; apply Exists.intro
  refine ⟨fun wb hb => ?_, ?_⟩
  · obtain ⟨_, _⟩ := hb.at2 X2_1.out
    obtain ⟨_, _⟩ := hb.at2 X2_2.out
    obtain ⟨_, _, _⟩ := hb.at3 X2_3.out
    obtain ⟨_, _⟩ := hb.at2 X2_4.out
    obtain ⟨_, _⟩ := hb.at2 Xb2.out
    simp only [headOps, List.contains, List.elem, Nat.reduceAdd, Nat.reduceBEq, reduceIte, Bool.false_eq_true, dumOp]
    repeat (first | go_big_quiet_step (first | (go_at_call 115; exact Calls.of_gr (HML.out _))) | quiet_step (fail))
    exact wpQuiet_nil rfl
  refine ⟨rfl, ⟨rfl, by simp [Value.oneCell']⟩, fun w3 b3 hg3 _ xb3 => ?_⟩
  have x3_1 := hg3.keep X2_1.out
  have x3_2 := hg3.keep X2_2.out
  have x3_3 := hg3.keep X2_3.out
  have x3_4 := hg3.keep X2_4.out
  have x3_5 := hg3.keep Xb2.out
  obtain ⟨_, _⟩ := cells2 x3_1
  have _ := fz x3_1
  have _ := ltb x3_1
  obtain ⟨_, _⟩ := cells2 x3_2
  have _ := fz x3_2
  have _ := ltb x3_2
  obtain ⟨_, _, _⟩ := cells3 x3_3
  have _ := fz x3_3
  have _ := ltb x3_3
  obtain ⟨_, _⟩ := cells2 x3_4
  have _ := fz x3_4
  have _ := ltb x3_4
  obtain ⟨_, _⟩ := cells2 x3_5
  have _ := fz x3_5
  have _ := ltb x3_5
  obtain ⟨_, _⟩ := cells2 xb3
  have _ := fz xb3
  have _ := ltb xb3
  have X3_1 := hid x3_1; clear x3_1
  have X3_2 := hid x3_2; clear x3_2
  have X3_3 := hid x3_3; clear x3_3
  have X3_4 := hid x3_4; clear x3_4
  have X3_5 := hid x3_5; clear x3_5
  have Xb3 := hid xb3; clear xb3
  have G3 := hid (G2.out.trans hg3)
  clear hg3
  go_wp2
  refine bodyPost_ret (v := .tuple #[fr 0 0, .int .i64 3]) (by simp [results, Try.results96, go_sem, *]) rfl ⟨rfl, ?_⟩
  exact ((G3.out).setCell (by simp <;> omega) _).setCell (by simp <;> omega) _
set_option maxRecDepth 20000 in
set_option maxHeartbeats 1000000 in
theorem srd_b1 (a b x y g0 g1 p0 p1 : Int) (N : Nat) (A : Option Addr) (c : Nat) (xs : List (Int × Int)) (w : World) (k1 k2 : Nat) (X1 : Hid (w.heap[k1]? = some (.cells #[.int .i64 a, .int .i64 b, .slice A xs.length c] 32))) (X2 : Hid (w.heap[k2]? = some (.cells #[.int .i64 N, .bool true] 53))) (hN : N ≤ 40)
    (hLF : ∀ w', Gr w w' → Calls Try.prog 92 #[.pointer (some ⟨k1, 0, none⟩), .pointer (some ⟨k2, 0, none⟩), fr x y] w' fun e w'' => e = .returned (.tuple #[.int .i64 0, .int .i64 0]) ∧ Gr w' w'')
    (hDV : ∀ w, Calls Try.prog 81 #[fr 0 1, fr N 1] w fun e w' => e = .returned (.tuple #[fr g0 g1, .int .i64 0]) ∧ Gr w w')
    (hML : ∀ w, Calls Try.prog 115 #[fr g0 g1, fr a b] w fun e w' => e = .returned (.tuple #[fr p0 p1, .int .i64 0]) ∧ Gr w w')
    (hSB : ∀ w, Calls Try.prog 120 #[fr x y, fr p0 p1] w fun e w' => e = .returned (.tuple #[fr 0 0, .int .i64 3]) ∧ Gr w w') :
    Calls Try.prog 96 #[.pointer (some ⟨k1, 0, none⟩), .pointer (some ⟨k2, 0, none⟩), fr x y] w fun e w' => e = .returned (.tuple #[fr 0 0, .int .i64 3]) ∧ Gr w w' := by
  have HLF := hid hLF
  have HDV := hid hDV
  have HML := hid hML
  have HSB := hid hSB
  have _ := hN
  clear hLF hDV hML hSB
  go_enter Try.func96, Try.ntmps96
  obtain ⟨_, _, _⟩ := cells3 X1.out
  have _ := fz X1.out
  have _ := ltb X1.out
  obtain ⟨_, _⟩ := cells2 X2.out
  have _ := fz X2.out
  have _ := ltb X2.out
  go_wp2_with fail
  refine (HLF.out _ (((Gr.refl w).al _).al _)).mono ?_
  rintro e w1 ⟨rfl, hg1⟩
  obtain ⟨x1_0, x1_1, hz1, g1⟩ := alloc2 hg1
  have x1_2 := g1.keep X1.out
  have x1_3 := g1.keep X2.out
  obtain ⟨_, _⟩ := cells2 x1_0
  have _ := fz x1_0
  have _ := ltb x1_0
  obtain ⟨_, _⟩ := cells2 x1_1
  have _ := fz x1_1
  have _ := ltb x1_1
  obtain ⟨_, _, _⟩ := cells3 x1_2
  have _ := fz x1_2
  have _ := ltb x1_2
  obtain ⟨_, _⟩ := cells2 x1_3
  have _ := fz x1_3
  have _ := ltb x1_3
  have X1_0 := hid x1_0; clear x1_0
  have X1_1 := hid x1_1; clear x1_1
  have X1_2 := hid x1_2; clear x1_2
  have X1_3 := hid x1_3; clear x1_3
  have G1 := hid (g1)
  clear hg1 g1
  go_wp2_with fail
  refine wp_reg1s #[.int .i64 0, .int .i64 0] 13 11 10 12 54 (by kernel_rfl) (by kernel_rfl) rfl rfl (by simp) rfl rfl (by decide) (fun _ _ => by kernel_rfl) (by kernel_rfl) ?_
  apply Exists.intro; apply Exists.intro
  refine ⟨fun wb hb => ?_, ?_⟩
  · obtain ⟨_, _⟩ := hb.at2 X1_0.out
    obtain ⟨_, _⟩ := hb.at2 X1_1.out
    obtain ⟨_, _, _⟩ := hb.at3 X1_2.out
    obtain ⟨_, _⟩ := hb.at2 X1_3.out
    simp only [headOps, List.contains, List.elem, Nat.reduceAdd, Nat.reduceBEq, reduceIte, Bool.false_eq_true, dumOp]
    repeat (first | go_big_quiet_step (first | (go_at_call 65; exact Calls.of_gr (swhole1 _ _)) | (go_at_call 81; exact Calls.of_gr (HDV.out _))) | quiet_step (fail))
    exact wpQuiet_nil rfl
  refine ⟨rfl, ⟨rfl, by simp [Value.oneCell']⟩, fun w2 b2 hg2 _ xb2 => ?_⟩
  have x2_1 := hg2.keep X1_0.out
  have x2_2 := hg2.keep X1_1.out
  have x2_3 := hg2.keep X1_2.out
  have x2_4 := hg2.keep X1_3.out
  obtain ⟨_, _⟩ := cells2 x2_1
  have _ := fz x2_1
  have _ := ltb x2_1
  obtain ⟨_, _⟩ := cells2 x2_2
  have _ := fz x2_2
  have _ := ltb x2_2
  obtain ⟨_, _, _⟩ := cells3 x2_3
  have _ := fz x2_3
  have _ := ltb x2_3
  obtain ⟨_, _⟩ := cells2 x2_4
  have _ := fz x2_4
  have _ := ltb x2_4
  obtain ⟨_, _⟩ := cells2 xb2
  have _ := fz xb2
  have _ := ltb xb2
  have X2_1 := hid x2_1; clear x2_1
  have X2_2 := hid x2_2; clear x2_2
  have X2_3 := hid x2_3; clear x2_3
  have X2_4 := hid x2_4; clear x2_4
  have Xb2 := hid xb2; clear xb2
  have G2 := hid (G1.out.trans hg2)
  clear hg2
  go_wp2_with fail
  refine wp_reg1s #[.int .i64 0, .int .i64 0] 11 9 12 10 63 (by kernel_rfl) (by kernel_rfl) rfl rfl (by simp) rfl rfl (by decide) (fun _ _ => by kernel_rfl) (by kernel_rfl) ?_
  apply Exists.intro; apply Exists.intro
  refine ⟨fun wb hb => ?_, ?_⟩
  · obtain ⟨_, _⟩ := hb.at2 X2_1.out
    obtain ⟨_, _⟩ := hb.at2 X2_2.out
    obtain ⟨_, _, _⟩ := hb.at3 X2_3.out
    obtain ⟨_, _⟩ := hb.at2 X2_4.out
    obtain ⟨_, _⟩ := hb.at2 Xb2.out
    simp only [headOps, List.contains, List.elem, Nat.reduceAdd, Nat.reduceBEq, reduceIte, Bool.false_eq_true, dumOp]
    repeat (first | go_big_quiet_step (first | (go_at_call 115; exact Calls.of_gr (HML.out _))) | quiet_step (fail))
    exact wpQuiet_nil rfl
  refine ⟨rfl, ⟨rfl, by simp [Value.oneCell']⟩, fun w3 b3 hg3 _ xb3 => ?_⟩
  have x3_1 := hg3.keep X2_1.out
  have x3_2 := hg3.keep X2_2.out
  have x3_3 := hg3.keep X2_3.out
  have x3_4 := hg3.keep X2_4.out
  have x3_5 := hg3.keep Xb2.out
  obtain ⟨_, _⟩ := cells2 x3_1
  have _ := fz x3_1
  have _ := ltb x3_1
  obtain ⟨_, _⟩ := cells2 x3_2
  have _ := fz x3_2
  have _ := ltb x3_2
  obtain ⟨_, _, _⟩ := cells3 x3_3
  have _ := fz x3_3
  have _ := ltb x3_3
  obtain ⟨_, _⟩ := cells2 x3_4
  have _ := fz x3_4
  have _ := ltb x3_4
  obtain ⟨_, _⟩ := cells2 x3_5
  have _ := fz x3_5
  have _ := ltb x3_5
  obtain ⟨_, _⟩ := cells2 xb3
  have _ := fz xb3
  have _ := ltb xb3
  have X3_1 := hid x3_1; clear x3_1
  have X3_2 := hid x3_2; clear x3_2
  have X3_3 := hid x3_3; clear x3_3
  have X3_4 := hid x3_4; clear x3_4
  have X3_5 := hid x3_5; clear x3_5
  have Xb3 := hid xb3; clear xb3
  have G3 := hid (G2.out.trans hg3)
  clear hg3
  go_wp2_with fail
  refine (HSB.out _).mono ?_
  rintro e w4 ⟨rfl, hg4⟩
  have x4_1 := hg4.keep X3_1.out
  have x4_2 := hg4.keep X3_2.out
  have x4_3 := hg4.keep X3_3.out
  have x4_4 := hg4.keep X3_4.out
  have x4_5 := hg4.keep X3_5.out
  have x4_6 := hg4.keep Xb3.out
  obtain ⟨_, _⟩ := cells2 x4_1
  have _ := fz x4_1
  have _ := ltb x4_1
  obtain ⟨_, _⟩ := cells2 x4_2
  have _ := fz x4_2
  have _ := ltb x4_2
  obtain ⟨_, _, _⟩ := cells3 x4_3
  have _ := fz x4_3
  have _ := ltb x4_3
  obtain ⟨_, _⟩ := cells2 x4_4
  have _ := fz x4_4
  have _ := ltb x4_4
  obtain ⟨_, _⟩ := cells2 x4_5
  have _ := fz x4_5
  have _ := ltb x4_5
  obtain ⟨_, _⟩ := cells2 x4_6
  have _ := fz x4_6
  have _ := ltb x4_6
  have X4_1 := hid x4_1; clear x4_1
  have X4_2 := hid x4_2; clear x4_2
  have X4_3 := hid x4_3; clear x4_3
  have X4_4 := hid x4_4; clear x4_4
  have X4_5 := hid x4_5; clear x4_5
  have X4_6 := hid x4_6; clear x4_6
  have G4 := hid (G3.out.trans hg4)
  clear hg4
  go_wp2
  refine bodyPost_ret (v := .tuple #[fr 0 0, .int .i64 3]) (by simp [results, Try.results96, go_sem, *]) rfl ⟨rfl, ?_⟩
  exact (((G4.out).setCell (by simp <;> omega) _).setCell (by simp <;> omega) _).al _
set_option maxRecDepth 20000 in
set_option maxHeartbeats 1000000 in
theorem srd_b2 (a b x y g0 g1 p0 p1 d0 d1 nn : Int) (N : Nat) (A : Option Addr) (c : Nat) (xs : List (Int × Int)) (w : World) (k1 k2 : Nat) (X1 : Hid (w.heap[k1]? = some (.cells #[.int .i64 a, .int .i64 b, .slice A xs.length c] 32))) (X2 : Hid (w.heap[k2]? = some (.cells #[.int .i64 N, .bool true] 53))) (hN : N ≤ 40)
    (hLF : ∀ w', Gr w w' → Calls Try.prog 92 #[.pointer (some ⟨k1, 0, none⟩), .pointer (some ⟨k2, 0, none⟩), fr x y] w' fun e w'' => e = .returned (.tuple #[.int .i64 0, .int .i64 0]) ∧ Gr w' w'')
    (hDV : ∀ w, Calls Try.prog 81 #[fr 0 1, fr N 1] w fun e w' => e = .returned (.tuple #[fr g0 g1, .int .i64 0]) ∧ Gr w w')
    (hML : ∀ w, Calls Try.prog 115 #[fr g0 g1, fr a b] w fun e w' => e = .returned (.tuple #[fr p0 p1, .int .i64 0]) ∧ Gr w w')
    (hSB : ∀ w, Calls Try.prog 120 #[fr x y, fr p0 p1] w fun e w' => e = .returned (.tuple #[fr d0 d1, .int .i64 0]) ∧ Gr w w')
    (hNE : ∀ w, Calls Try.prog 130 #[fr d0 d1, fr a b] w fun e w' => e = .returned (.int .i64 nn) ∧ Gr w w')
    (hIN : ∀ w, Calls Try.prog 129 #[.int .i64 nn] w fun e w' => e = .returned (.tuple #[.int .i64 0, .int .i64 3]) ∧ Gr w w') :
    Calls Try.prog 96 #[.pointer (some ⟨k1, 0, none⟩), .pointer (some ⟨k2, 0, none⟩), fr x y] w fun e w' => e = .returned (.tuple #[fr 0 0, .int .i64 3]) ∧ Gr w w' := by
  have HLF := hid hLF
  have HDV := hid hDV
  have HML := hid hML
  have HSB := hid hSB
  have HNE := hid hNE
  have HIN := hid hIN
  have _ := hN
  clear hLF hDV hML hSB hNE hIN
  go_enter Try.func96, Try.ntmps96
  obtain ⟨_, _, _⟩ := cells3 X1.out
  have _ := fz X1.out
  have _ := ltb X1.out
  obtain ⟨_, _⟩ := cells2 X2.out
  have _ := fz X2.out
  have _ := ltb X2.out
  go_wp2_with fail
  refine (HLF.out _ (((Gr.refl w).al _).al _)).mono ?_
  rintro e w1 ⟨rfl, hg1⟩
  obtain ⟨x1_0, x1_1, hz1, g1⟩ := alloc2 hg1
  have x1_2 := g1.keep X1.out
  have x1_3 := g1.keep X2.out
  obtain ⟨_, _⟩ := cells2 x1_0
  have _ := fz x1_0
  have _ := ltb x1_0
  obtain ⟨_, _⟩ := cells2 x1_1
  have _ := fz x1_1
  have _ := ltb x1_1
  obtain ⟨_, _, _⟩ := cells3 x1_2
  have _ := fz x1_2
  have _ := ltb x1_2
  obtain ⟨_, _⟩ := cells2 x1_3
  have _ := fz x1_3
  have _ := ltb x1_3
  have X1_0 := hid x1_0; clear x1_0
  have X1_1 := hid x1_1; clear x1_1
  have X1_2 := hid x1_2; clear x1_2
  have X1_3 := hid x1_3; clear x1_3
  have G1 := hid (g1)
  clear hg1 g1
  go_wp2_with fail
  refine wp_reg1s #[.int .i64 0, .int .i64 0] 13 11 10 12 54 (by kernel_rfl) (by kernel_rfl) rfl rfl (by simp) rfl rfl (by decide) (fun _ _ => by kernel_rfl) (by kernel_rfl) ?_
  apply Exists.intro; apply Exists.intro
  refine ⟨fun wb hb => ?_, ?_⟩
  · obtain ⟨_, _⟩ := hb.at2 X1_0.out
    obtain ⟨_, _⟩ := hb.at2 X1_1.out
    obtain ⟨_, _, _⟩ := hb.at3 X1_2.out
    obtain ⟨_, _⟩ := hb.at2 X1_3.out
    simp only [headOps, List.contains, List.elem, Nat.reduceAdd, Nat.reduceBEq, reduceIte, Bool.false_eq_true, dumOp]
    repeat (first | go_big_quiet_step (first | (go_at_call 65; exact Calls.of_gr (swhole1 _ _)) | (go_at_call 81; exact Calls.of_gr (HDV.out _))) | quiet_step (fail))
    exact wpQuiet_nil rfl
  refine ⟨rfl, ⟨rfl, by simp [Value.oneCell']⟩, fun w2 b2 hg2 _ xb2 => ?_⟩
  have x2_1 := hg2.keep X1_0.out
  have x2_2 := hg2.keep X1_1.out
  have x2_3 := hg2.keep X1_2.out
  have x2_4 := hg2.keep X1_3.out
  obtain ⟨_, _⟩ := cells2 x2_1
  have _ := fz x2_1
  have _ := ltb x2_1
  obtain ⟨_, _⟩ := cells2 x2_2
  have _ := fz x2_2
  have _ := ltb x2_2
  obtain ⟨_, _, _⟩ := cells3 x2_3
  have _ := fz x2_3
  have _ := ltb x2_3
  obtain ⟨_, _⟩ := cells2 x2_4
  have _ := fz x2_4
  have _ := ltb x2_4
  obtain ⟨_, _⟩ := cells2 xb2
  have _ := fz xb2
  have _ := ltb xb2
  have X2_1 := hid x2_1; clear x2_1
  have X2_2 := hid x2_2; clear x2_2
  have X2_3 := hid x2_3; clear x2_3
  have X2_4 := hid x2_4; clear x2_4
  have Xb2 := hid xb2; clear xb2
  have G2 := hid (G1.out.trans hg2)
  clear hg2
  go_wp2_with fail
  refine wp_reg1s #[.int .i64 0, .int .i64 0] 11 9 12 10 63 (by kernel_rfl) (by kernel_rfl) rfl rfl (by simp) rfl rfl (by decide) (fun _ _ => by kernel_rfl) (by kernel_rfl) ?_
  apply Exists.intro; apply Exists.intro
  refine ⟨fun wb hb => ?_, ?_⟩
  · obtain ⟨_, _⟩ := hb.at2 X2_1.out
    obtain ⟨_, _⟩ := hb.at2 X2_2.out
    obtain ⟨_, _, _⟩ := hb.at3 X2_3.out
    obtain ⟨_, _⟩ := hb.at2 X2_4.out
    obtain ⟨_, _⟩ := hb.at2 Xb2.out
    simp only [headOps, List.contains, List.elem, Nat.reduceAdd, Nat.reduceBEq, reduceIte, Bool.false_eq_true, dumOp]
    repeat (first | go_big_quiet_step (first | (go_at_call 115; exact Calls.of_gr (HML.out _))) | quiet_step (fail))
    exact wpQuiet_nil rfl
  refine ⟨rfl, ⟨rfl, by simp [Value.oneCell']⟩, fun w3 b3 hg3 _ xb3 => ?_⟩
  have x3_1 := hg3.keep X2_1.out
  have x3_2 := hg3.keep X2_2.out
  have x3_3 := hg3.keep X2_3.out
  have x3_4 := hg3.keep X2_4.out
  have x3_5 := hg3.keep Xb2.out
  obtain ⟨_, _⟩ := cells2 x3_1
  have _ := fz x3_1
  have _ := ltb x3_1
  obtain ⟨_, _⟩ := cells2 x3_2
  have _ := fz x3_2
  have _ := ltb x3_2
  obtain ⟨_, _, _⟩ := cells3 x3_3
  have _ := fz x3_3
  have _ := ltb x3_3
  obtain ⟨_, _⟩ := cells2 x3_4
  have _ := fz x3_4
  have _ := ltb x3_4
  obtain ⟨_, _⟩ := cells2 x3_5
  have _ := fz x3_5
  have _ := ltb x3_5
  obtain ⟨_, _⟩ := cells2 xb3
  have _ := fz xb3
  have _ := ltb xb3
  have X3_1 := hid x3_1; clear x3_1
  have X3_2 := hid x3_2; clear x3_2
  have X3_3 := hid x3_3; clear x3_3
  have X3_4 := hid x3_4; clear x3_4
  have X3_5 := hid x3_5; clear x3_5
  have Xb3 := hid xb3; clear xb3
  have G3 := hid (G2.out.trans hg3)
  clear hg3
  go_wp2_with fail
  refine (HSB.out _).mono ?_
  rintro e w4 ⟨rfl, hg4⟩
  have x4_1 := hg4.keep X3_1.out
  have x4_2 := hg4.keep X3_2.out
  have x4_3 := hg4.keep X3_3.out
  have x4_4 := hg4.keep X3_4.out
  have x4_5 := hg4.keep X3_5.out
  have x4_6 := hg4.keep Xb3.out
  obtain ⟨_, _⟩ := cells2 x4_1
  have _ := fz x4_1
  have _ := ltb x4_1
  obtain ⟨_, _⟩ := cells2 x4_2
  have _ := fz x4_2
  have _ := ltb x4_2
  obtain ⟨_, _, _⟩ := cells3 x4_3
  have _ := fz x4_3
  have _ := ltb x4_3
  obtain ⟨_, _⟩ := cells2 x4_4
  have _ := fz x4_4
  have _ := ltb x4_4
  obtain ⟨_, _⟩ := cells2 x4_5
  have _ := fz x4_5
  have _ := ltb x4_5
  obtain ⟨_, _⟩ := cells2 x4_6
  have _ := fz x4_6
  have _ := ltb x4_6
  have X4_1 := hid x4_1; clear x4_1
  have X4_2 := hid x4_2; clear x4_2
  have X4_3 := hid x4_3; clear x4_3
  have X4_4 := hid x4_4; clear x4_4
  have X4_5 := hid x4_5; clear x4_5
  have X4_6 := hid x4_6; clear x4_6
  have G4 := hid (G3.out.trans hg4)
  clear hg4
  go_wp2_with fail
  refine wp_reg0 11 (by kernel_rfl) (by kernel_rfl) ?_
  apply Exists.intro
  refine ⟨fun wb hb => ?_, ?_⟩
  · obtain ⟨_, _⟩ := hb.at2 (((Gr.refl _).al _).keep X4_1.out)
    obtain ⟨_, _⟩ := hb.at2 (((Gr.refl _).al _).keep X4_2.out)
    obtain ⟨_, _, _⟩ := hb.at3 (((Gr.refl _).al _).keep X4_3.out)
    obtain ⟨_, _⟩ := hb.at2 (((Gr.refl _).al _).keep X4_4.out)
    obtain ⟨_, _⟩ := hb.at2 (((Gr.refl _).al _).keep X4_5.out)
    obtain ⟨_, _⟩ := hb.at2 (((Gr.refl _).al _).keep X4_6.out)
    obtain ⟨_, _⟩ := hb.at2 (alloc1 (Gr.refl _)).1
    simp only [headOps, List.contains, List.elem, reduceIte, Bool.false_eq_true]
    repeat (first | go_big_quiet_step (first | (go_at_call 130; exact Calls.of_gr (HNE.out _)) | (go_at_call 129; exact Calls.of_gr (HIN.out _))) | quiet_step (fail))
    exact wpQuiet_nil rfl
  intro w5 hg5
  obtain ⟨x5_0, hz5, g5⟩ := alloc1 hg5
  have x5_1 := g5.keep X4_1.out
  have x5_2 := g5.keep X4_2.out
  have x5_3 := g5.keep X4_3.out
  have x5_4 := g5.keep X4_4.out
  have x5_5 := g5.keep X4_5.out
  have x5_6 := g5.keep X4_6.out
  obtain ⟨_, _⟩ := cells2 x5_1
  have _ := fz x5_1
  have _ := ltb x5_1
  obtain ⟨_, _⟩ := cells2 x5_2
  have _ := fz x5_2
  have _ := ltb x5_2
  obtain ⟨_, _, _⟩ := cells3 x5_3
  have _ := fz x5_3
  have _ := ltb x5_3
  obtain ⟨_, _⟩ := cells2 x5_4
  have _ := fz x5_4
  have _ := ltb x5_4
  obtain ⟨_, _⟩ := cells2 x5_5
  have _ := fz x5_5
  have _ := ltb x5_5
  obtain ⟨_, _⟩ := cells2 x5_6
  have _ := fz x5_6
  have _ := ltb x5_6
  obtain ⟨_, _⟩ := cells2 x5_0
  have _ := fz x5_0
  have _ := ltb x5_0
  have X5_1 := hid x5_1; clear x5_1
  have X5_2 := hid x5_2; clear x5_2
  have X5_3 := hid x5_3; clear x5_3
  have X5_4 := hid x5_4; clear x5_4
  have X5_5 := hid x5_5; clear x5_5
  have X5_6 := hid x5_6; clear x5_6
  have X5_0 := hid x5_0; clear x5_0
  have G5 := hid (G4.out.trans g5)
  clear hg5 g5
  go_wp2
  refine bodyPost_ret (v := .tuple #[fr 0 0, .int .i64 3]) (by simp [results, Try.results96, go_sem, *]) rfl ⟨rfl, ?_⟩
  exact ((G5.out).setCell (by simp <;> omega) _).setCell (by simp <;> omega) _
set_option maxRecDepth 20000 in
set_option maxHeartbeats 1000000 in
theorem srd_b3 (a b x y g0 g1 p0 p1 d0 d1 nn : Int) (N : Nat) (A : Option Addr) (c : Nat) (xs : List (Int × Int)) (w : World) (k1 k2 : Nat) (X1 : Hid (w.heap[k1]? = some (.cells #[.int .i64 a, .int .i64 b, .slice A xs.length c] 32))) (X2 : Hid (w.heap[k2]? = some (.cells #[.int .i64 N, .bool true] 53))) (hN : N ≤ 40)
    (hLF : ∀ w', Gr w w' → Calls Try.prog 92 #[.pointer (some ⟨k1, 0, none⟩), .pointer (some ⟨k2, 0, none⟩), fr x y] w' fun e w'' => e = .returned (.tuple #[.int .i64 0, .int .i64 0]) ∧ Gr w' w'')
    (hDV : ∀ w, Calls Try.prog 81 #[fr 0 1, fr N 1] w fun e w' => e = .returned (.tuple #[fr g0 g1, .int .i64 0]) ∧ Gr w w')
    (hML : ∀ w, Calls Try.prog 115 #[fr g0 g1, fr a b] w fun e w' => e = .returned (.tuple #[fr p0 p1, .int .i64 0]) ∧ Gr w w')
    (hSB : ∀ w, Calls Try.prog 120 #[fr x y, fr p0 p1] w fun e w' => e = .returned (.tuple #[fr d0 d1, .int .i64 0]) ∧ Gr w w')
    (hNE : ∀ w, Calls Try.prog 130 #[fr d0 d1, fr a b] w fun e w' => e = .returned (.int .i64 nn) ∧ Gr w w')
    (hIN : ∀ w, Calls Try.prog 129 #[.int .i64 nn] w fun e w' => e = .returned (.tuple #[.int .i64 nn, .int .i64 0]) ∧ Gr w w')
    (hMW : ∀ w, Calls Try.prog 115 #[fr nn 1, fr a b] w fun e w' => e = .returned (.tuple #[fr 0 0, .int .i64 3]) ∧ Gr w w') :
    Calls Try.prog 96 #[.pointer (some ⟨k1, 0, none⟩), .pointer (some ⟨k2, 0, none⟩), fr x y] w fun e w' => e = .returned (.tuple #[fr 0 0, .int .i64 3]) ∧ Gr w w' := by
  have HLF := hid hLF
  have HDV := hid hDV
  have HML := hid hML
  have HSB := hid hSB
  have HNE := hid hNE
  have HIN := hid hIN
  have HMW := hid hMW
  have _ := hN
  clear hLF hDV hML hSB hNE hIN hMW
  go_enter Try.func96, Try.ntmps96
  obtain ⟨_, _, _⟩ := cells3 X1.out
  have _ := fz X1.out
  have _ := ltb X1.out
  obtain ⟨_, _⟩ := cells2 X2.out
  have _ := fz X2.out
  have _ := ltb X2.out
  go_wp2_with fail
  refine (HLF.out _ (((Gr.refl w).al _).al _)).mono ?_
  rintro e w1 ⟨rfl, hg1⟩
  obtain ⟨x1_0, x1_1, hz1, g1⟩ := alloc2 hg1
  have x1_2 := g1.keep X1.out
  have x1_3 := g1.keep X2.out
  obtain ⟨_, _⟩ := cells2 x1_0
  have _ := fz x1_0
  have _ := ltb x1_0
  obtain ⟨_, _⟩ := cells2 x1_1
  have _ := fz x1_1
  have _ := ltb x1_1
  obtain ⟨_, _, _⟩ := cells3 x1_2
  have _ := fz x1_2
  have _ := ltb x1_2
  obtain ⟨_, _⟩ := cells2 x1_3
  have _ := fz x1_3
  have _ := ltb x1_3
  have X1_0 := hid x1_0; clear x1_0
  have X1_1 := hid x1_1; clear x1_1
  have X1_2 := hid x1_2; clear x1_2
  have X1_3 := hid x1_3; clear x1_3
  have G1 := hid (g1)
  clear hg1 g1
  go_wp2_with fail
  refine wp_reg1s #[.int .i64 0, .int .i64 0] 13 11 10 12 54 (by kernel_rfl) (by kernel_rfl) rfl rfl (by simp) rfl rfl (by decide) (fun _ _ => by kernel_rfl) (by kernel_rfl) ?_
  apply Exists.intro; apply Exists.intro
  refine ⟨fun wb hb => ?_, ?_⟩
  · obtain ⟨_, _⟩ := hb.at2 X1_0.out
    obtain ⟨_, _⟩ := hb.at2 X1_1.out
    obtain ⟨_, _, _⟩ := hb.at3 X1_2.out
    obtain ⟨_, _⟩ := hb.at2 X1_3.out
    simp only [headOps, List.contains, List.elem, Nat.reduceAdd, Nat.reduceBEq, reduceIte, Bool.false_eq_true, dumOp]
    repeat (first | go_big_quiet_step (first | (go_at_call 65; exact Calls.of_gr (swhole1 _ _)) | (go_at_call 81; exact Calls.of_gr (HDV.out _))) | quiet_step (fail))
    exact wpQuiet_nil rfl
  refine ⟨rfl, ⟨rfl, by simp [Value.oneCell']⟩, fun w2 b2 hg2 _ xb2 => ?_⟩
  have x2_1 := hg2.keep X1_0.out
  have x2_2 := hg2.keep X1_1.out
  have x2_3 := hg2.keep X1_2.out
  have x2_4 := hg2.keep X1_3.out
  obtain ⟨_, _⟩ := cells2 x2_1
  have _ := fz x2_1
  have _ := ltb x2_1
  obtain ⟨_, _⟩ := cells2 x2_2
  have _ := fz x2_2
  have _ := ltb x2_2
  obtain ⟨_, _, _⟩ := cells3 x2_3
  have _ := fz x2_3
  have _ := ltb x2_3
  obtain ⟨_, _⟩ := cells2 x2_4
  have _ := fz x2_4
  have _ := ltb x2_4
  obtain ⟨_, _⟩ := cells2 xb2
  have _ := fz xb2
  have _ := ltb xb2
  have X2_1 := hid x2_1; clear x2_1
  have X2_2 := hid x2_2; clear x2_2
  have X2_3 := hid x2_3; clear x2_3
  have X2_4 := hid x2_4; clear x2_4
  have Xb2 := hid xb2; clear xb2
  have G2 := hid (G1.out.trans hg2)
  clear hg2
  go_wp2_with fail
  refine wp_reg1s #[.int .i64 0, .int .i64 0] 11 9 12 10 63 (by kernel_rfl) (by kernel_rfl) rfl rfl (by simp) rfl rfl (by decide) (fun _ _ => by kernel_rfl) (by kernel_rfl) ?_
  apply Exists.intro; apply Exists.intro
  refine ⟨fun wb hb => ?_, ?_⟩
  · obtain ⟨_, _⟩ := hb.at2 X2_1.out
    obtain ⟨_, _⟩ := hb.at2 X2_2.out
    obtain ⟨_, _, _⟩ := hb.at3 X2_3.out
    obtain ⟨_, _⟩ := hb.at2 X2_4.out
    obtain ⟨_, _⟩ := hb.at2 Xb2.out
    simp only [headOps, List.contains, List.elem, Nat.reduceAdd, Nat.reduceBEq, reduceIte, Bool.false_eq_true, dumOp]
    repeat (first | go_big_quiet_step (first | (go_at_call 115; exact Calls.of_gr (HML.out _))) | quiet_step (fail))
    exact wpQuiet_nil rfl
  refine ⟨rfl, ⟨rfl, by simp [Value.oneCell']⟩, fun w3 b3 hg3 _ xb3 => ?_⟩
  have x3_1 := hg3.keep X2_1.out
  have x3_2 := hg3.keep X2_2.out
  have x3_3 := hg3.keep X2_3.out
  have x3_4 := hg3.keep X2_4.out
  have x3_5 := hg3.keep Xb2.out
  obtain ⟨_, _⟩ := cells2 x3_1
  have _ := fz x3_1
  have _ := ltb x3_1
  obtain ⟨_, _⟩ := cells2 x3_2
  have _ := fz x3_2
  have _ := ltb x3_2
  obtain ⟨_, _, _⟩ := cells3 x3_3
  have _ := fz x3_3
  have _ := ltb x3_3
  obtain ⟨_, _⟩ := cells2 x3_4
  have _ := fz x3_4
  have _ := ltb x3_4
  obtain ⟨_, _⟩ := cells2 x3_5
  have _ := fz x3_5
  have _ := ltb x3_5
  obtain ⟨_, _⟩ := cells2 xb3
  have _ := fz xb3
  have _ := ltb xb3
  have X3_1 := hid x3_1; clear x3_1
  have X3_2 := hid x3_2; clear x3_2
  have X3_3 := hid x3_3; clear x3_3
  have X3_4 := hid x3_4; clear x3_4
  have X3_5 := hid x3_5; clear x3_5
  have Xb3 := hid xb3; clear xb3
  have G3 := hid (G2.out.trans hg3)
  clear hg3
  go_wp2_with fail
  refine (HSB.out _).mono ?_
  rintro e w4 ⟨rfl, hg4⟩
  have x4_1 := hg4.keep X3_1.out
  have x4_2 := hg4.keep X3_2.out
  have x4_3 := hg4.keep X3_3.out
  have x4_4 := hg4.keep X3_4.out
  have x4_5 := hg4.keep X3_5.out
  have x4_6 := hg4.keep Xb3.out
  obtain ⟨_, _⟩ := cells2 x4_1
  have _ := fz x4_1
  have _ := ltb x4_1
  obtain ⟨_, _⟩ := cells2 x4_2
  have _ := fz x4_2
  have _ := ltb x4_2
  obtain ⟨_, _, _⟩ := cells3 x4_3
  have _ := fz x4_3
  have _ := ltb x4_3
  obtain ⟨_, _⟩ := cells2 x4_4
  have _ := fz x4_4
  have _ := ltb x4_4
  obtain ⟨_, _⟩ := cells2 x4_5
  have _ := fz x4_5
  have _ := ltb x4_5
  obtain ⟨_, _⟩ := cells2 x4_6
  have _ := fz x4_6
  have _ := ltb x4_6
  have X4_1 := hid x4_1; clear x4_1
  have X4_2 := hid x4_2; clear x4_2
  have X4_3 := hid x4_3; clear x4_3
  have X4_4 := hid x4_4; clear x4_4
  have X4_5 := hid x4_5; clear x4_5
  have X4_6 := hid x4_6; clear x4_6
  have G4 := hid (G3.out.trans hg4)
  clear hg4
  go_wp2_with fail
  refine wp_reg0 11 (by kernel_rfl) (by kernel_rfl) ?_
  apply Exists.intro
  refine ⟨fun wb hb => ?_, ?_⟩
  · obtain ⟨_, _⟩ := hb.at2 (((Gr.refl _).al _).keep X4_1.out)
    obtain ⟨_, _⟩ := hb.at2 (((Gr.refl _).al _).keep X4_2.out)
    obtain ⟨_, _, _⟩ := hb.at3 (((Gr.refl _).al _).keep X4_3.out)
    obtain ⟨_, _⟩ := hb.at2 (((Gr.refl _).al _).keep X4_4.out)
    obtain ⟨_, _⟩ := hb.at2 (((Gr.refl _).al _).keep X4_5.out)
    obtain ⟨_, _⟩ := hb.at2 (((Gr.refl _).al _).keep X4_6.out)
    obtain ⟨_, _⟩ := hb.at2 (alloc1 (Gr.refl _)).1
    simp only [headOps, List.contains, List.elem, reduceIte, Bool.false_eq_true]
    repeat (first | go_big_quiet_step (first | (go_at_call 130; exact Calls.of_gr (HNE.out _)) | (go_at_call 129; exact Calls.of_gr (HIN.out _))) | quiet_step (fail))
    exact wpQuiet_nil rfl
  intro w5 hg5
  obtain ⟨x5_0, hz5, g5⟩ := alloc1 hg5
  have x5_1 := g5.keep X4_1.out
  have x5_2 := g5.keep X4_2.out
  have x5_3 := g5.keep X4_3.out
  have x5_4 := g5.keep X4_4.out
  have x5_5 := g5.keep X4_5.out
  have x5_6 := g5.keep X4_6.out
  obtain ⟨_, _⟩ := cells2 x5_1
  have _ := fz x5_1
  have _ := ltb x5_1
  obtain ⟨_, _⟩ := cells2 x5_2
  have _ := fz x5_2
  have _ := ltb x5_2
  obtain ⟨_, _, _⟩ := cells3 x5_3
  have _ := fz x5_3
  have _ := ltb x5_3
  obtain ⟨_, _⟩ := cells2 x5_4
  have _ := fz x5_4
  have _ := ltb x5_4
  obtain ⟨_, _⟩ := cells2 x5_5
  have _ := fz x5_5
  have _ := ltb x5_5
  obtain ⟨_, _⟩ := cells2 x5_6
  have _ := fz x5_6
  have _ := ltb x5_6
  obtain ⟨_, _⟩ := cells2 x5_0
  have _ := fz x5_0
  have _ := ltb x5_0
  have X5_1 := hid x5_1; clear x5_1
  have X5_2 := hid x5_2; clear x5_2
  have X5_3 := hid x5_3; clear x5_3
  have X5_4 := hid x5_4; clear x5_4
  have X5_5 := hid x5_5; clear x5_5
  have X5_6 := hid x5_6; clear x5_6
  have X5_0 := hid x5_0; clear x5_0
  have G5 := hid (G4.out.trans g5)
  clear hg5 g5
  go_wp2_with fail
  refine wp_reg1s #[.int .i64 0, .int .i64 0] 12 10 18 11 101 (by kernel_rfl) (by kernel_rfl) rfl rfl (by simp) rfl rfl (by decide) (fun _ _ => by kernel_rfl) (by kernel_rfl) ?_
  apply Exists.intro; apply Exists.intro
  refine ⟨fun wb hb => ?_, ?_⟩
  · obtain ⟨_, _⟩ := hb.at2 X5_1.out
    obtain ⟨_, _⟩ := hb.at2 X5_2.out
    obtain ⟨_, _, _⟩ := hb.at3 X5_3.out
    obtain ⟨_, _⟩ := hb.at2 X5_4.out
    obtain ⟨_, _⟩ := hb.at2 X5_5.out
    obtain ⟨_, _⟩ := hb.at2 X5_6.out
    obtain ⟨_, _⟩ := hb.at2 X5_0.out
    simp only [headOps, List.contains, List.elem, Nat.reduceAdd, Nat.reduceBEq, reduceIte, Bool.false_eq_true, dumOp]
    repeat (first | go_big_quiet_step (first | (go_at_call 65; exact Calls.of_gr (swhole1 _ _)) | (go_at_call 115; exact Calls.of_gr (HMW.out _))) | quiet_step (fail))
    exact wpQuiet_nil rfl
  refine ⟨rfl, ⟨rfl, by simp [Value.oneCell']⟩, fun w6 b6 hg6 _ xb6 => ?_⟩
  have x6_1 := hg6.keep X5_1.out
  have x6_2 := hg6.keep X5_2.out
  have x6_3 := hg6.keep X5_3.out
  have x6_4 := hg6.keep X5_4.out
  have x6_5 := hg6.keep X5_5.out
  have x6_6 := hg6.keep X5_6.out
  have x6_7 := hg6.keep X5_0.out
  obtain ⟨_, _⟩ := cells2 x6_1
  have _ := fz x6_1
  have _ := ltb x6_1
  obtain ⟨_, _⟩ := cells2 x6_2
  have _ := fz x6_2
  have _ := ltb x6_2
  obtain ⟨_, _, _⟩ := cells3 x6_3
  have _ := fz x6_3
  have _ := ltb x6_3
  obtain ⟨_, _⟩ := cells2 x6_4
  have _ := fz x6_4
  have _ := ltb x6_4
  obtain ⟨_, _⟩ := cells2 x6_5
  have _ := fz x6_5
  have _ := ltb x6_5
  obtain ⟨_, _⟩ := cells2 x6_6
  have _ := fz x6_6
  have _ := ltb x6_6
  obtain ⟨_, _⟩ := cells2 x6_7
  have _ := fz x6_7
  have _ := ltb x6_7
  obtain ⟨_, _⟩ := cells2 xb6
  have _ := fz xb6
  have _ := ltb xb6
  have X6_1 := hid x6_1; clear x6_1
  have X6_2 := hid x6_2; clear x6_2
  have X6_3 := hid x6_3; clear x6_3
  have X6_4 := hid x6_4; clear x6_4
  have X6_5 := hid x6_5; clear x6_5
  have X6_6 := hid x6_6; clear x6_6
  have X6_7 := hid x6_7; clear x6_7
  have Xb6 := hid xb6; clear xb6
  have G6 := hid (G5.out.trans hg6)
  clear hg6
  go_wp2
  refine bodyPost_ret (v := .tuple #[fr 0 0, .int .i64 3]) (by simp [results, Try.results96, go_sem, *]) rfl ⟨rfl, ?_⟩
  exact ((G6.out).setCell (by simp <;> omega) _).setCell (by simp <;> omega) _
set_option maxRecDepth 20000 in
set_option maxHeartbeats 1000000 in
theorem srd_b4 (a b x y g0 g1 p0 p1 d0 d1 nn t0 t1 s0 s1 C : Int) (N : Nat) (A : Option Addr) (c : Nat) (xs : List (Int × Int)) (w : World) (k1 k2 : Nat) (X1 : Hid (w.heap[k1]? = some (.cells #[.int .i64 a, .int .i64 b, .slice A xs.length c] 32))) (X2 : Hid (w.heap[k2]? = some (.cells #[.int .i64 N, .bool true] 53))) (hN : N ≤ 40)
    (hLF : ∀ w', Gr w w' → Calls Try.prog 92 #[.pointer (some ⟨k1, 0, none⟩), .pointer (some ⟨k2, 0, none⟩), fr x y] w' fun e w'' => e = .returned (.tuple #[.int .i64 0, .int .i64 0]) ∧ Gr w' w'')
    (hDV : ∀ w, Calls Try.prog 81 #[fr 0 1, fr N 1] w fun e w' => e = .returned (.tuple #[fr g0 g1, .int .i64 0]) ∧ Gr w w')
    (hML : ∀ w, Calls Try.prog 115 #[fr g0 g1, fr a b] w fun e w' => e = .returned (.tuple #[fr p0 p1, .int .i64 0]) ∧ Gr w w')
    (hSB : ∀ w, Calls Try.prog 120 #[fr x y, fr p0 p1] w fun e w' => e = .returned (.tuple #[fr d0 d1, .int .i64 0]) ∧ Gr w w')
    (hNE : ∀ w, Calls Try.prog 130 #[fr d0 d1, fr a b] w fun e w' => e = .returned (.int .i64 nn) ∧ Gr w w')
    (hIN : ∀ w, Calls Try.prog 129 #[.int .i64 nn] w fun e w' => e = .returned (.tuple #[.int .i64 nn, .int .i64 0]) ∧ Gr w w')
    (hMW : ∀ w, Calls Try.prog 115 #[fr nn 1, fr a b] w fun e w' => e = .returned (.tuple #[fr t0 t1, .int .i64 0]) ∧ Gr w w')
    (hAD : ∀ w, Calls Try.prog 116 #[fr p0 p1, fr t0 t1] w fun e w' => e = .returned (.tuple #[fr s0 s1, .int .i64 C]) ∧ Gr w w') :
    Calls Try.prog 96 #[.pointer (some ⟨k1, 0, none⟩), .pointer (some ⟨k2, 0, none⟩), fr x y] w fun e w' => e = .returned (.tuple #[fr s0 s1, .int .i64 C]) ∧ Gr w w' := by
  have HLF := hid hLF
  have HDV := hid hDV
  have HML := hid hML
  have HSB := hid hSB
  have HNE := hid hNE
  have HIN := hid hIN
  have HMW := hid hMW
  have HAD := hid hAD
  have _ := hN
  clear hLF hDV hML hSB hNE hIN hMW hAD
  go_enter Try.func96, Try.ntmps96
  obtain ⟨_, _, _⟩ := cells3 X1.out
  have _ := fz X1.out
  have _ := ltb X1.out
  obtain ⟨_, _⟩ := cells2 X2.out
  have _ := fz X2.out
  have _ := ltb X2.out
  go_wp2_with fail
  refine (HLF.out _ (((Gr.refl w).al _).al _)).mono ?_
  rintro e w1 ⟨rfl, hg1⟩
  obtain ⟨x1_0, x1_1, hz1, g1⟩ := alloc2 hg1
  have x1_2 := g1.keep X1.out
  have x1_3 := g1.keep X2.out
  obtain ⟨_, _⟩ := cells2 x1_0
  have _ := fz x1_0
  have _ := ltb x1_0
  obtain ⟨_, _⟩ := cells2 x1_1
  have _ := fz x1_1
  have _ := ltb x1_1
  obtain ⟨_, _, _⟩ := cells3 x1_2
  have _ := fz x1_2
  have _ := ltb x1_2
  obtain ⟨_, _⟩ := cells2 x1_3
  have _ := fz x1_3
  have _ := ltb x1_3
  have X1_0 := hid x1_0; clear x1_0
  have X1_1 := hid x1_1; clear x1_1
  have X1_2 := hid x1_2; clear x1_2
  have X1_3 := hid x1_3; clear x1_3
  have G1 := hid (g1)
  clear hg1 g1
  go_wp2_with fail
  refine wp_reg1s #[.int .i64 0, .int .i64 0] 13 11 10 12 54 (by kernel_rfl) (by kernel_rfl) rfl rfl (by simp) rfl rfl (by decide) (fun _ _ => by kernel_rfl) (by kernel_rfl) ?_
  apply Exists.intro; apply Exists.intro
  refine ⟨fun wb hb => ?_, ?_⟩
  · obtain ⟨_, _⟩ := hb.at2 X1_0.out
    obtain ⟨_, _⟩ := hb.at2 X1_1.out
    obtain ⟨_, _, _⟩ := hb.at3 X1_2.out
    obtain ⟨_, _⟩ := hb.at2 X1_3.out
    simp only [headOps, List.contains, List.elem, Nat.reduceAdd, Nat.reduceBEq, reduceIte, Bool.false_eq_true, dumOp]
    repeat (first | go_big_quiet_step (first | (go_at_call 65; exact Calls.of_gr (swhole1 _ _)) | (go_at_call 81; exact Calls.of_gr (HDV.out _))) | quiet_step (fail))
    exact wpQuiet_nil rfl
  refine ⟨rfl, ⟨rfl, by simp [Value.oneCell']⟩, fun w2 b2 hg2 _ xb2 => ?_⟩
  have x2_1 := hg2.keep X1_0.out
  have x2_2 := hg2.keep X1_1.out
  have x2_3 := hg2.keep X1_2.out
  have x2_4 := hg2.keep X1_3.out
  obtain ⟨_, _⟩ := cells2 x2_1
  have _ := fz x2_1
  have _ := ltb x2_1
  obtain ⟨_, _⟩ := cells2 x2_2
  have _ := fz x2_2
  have _ := ltb x2_2
  obtain ⟨_, _, _⟩ := cells3 x2_3
  have _ := fz x2_3
  have _ := ltb x2_3
  obtain ⟨_, _⟩ := cells2 x2_4
  have _ := fz x2_4
  have _ := ltb x2_4
  obtain ⟨_, _⟩ := cells2 xb2
  have _ := fz xb2
  have _ := ltb xb2
  have X2_1 := hid x2_1; clear x2_1
  have X2_2 := hid x2_2; clear x2_2
  have X2_3 := hid x2_3; clear x2_3
  have X2_4 := hid x2_4; clear x2_4
  have Xb2 := hid xb2; clear xb2
  have G2 := hid (G1.out.trans hg2)
  clear hg2
  go_wp2_with fail
  refine wp_reg1s #[.int .i64 0, .int .i64 0] 11 9 12 10 63 (by kernel_rfl) (by kernel_rfl) rfl rfl (by simp) rfl rfl (by decide) (fun _ _ => by kernel_rfl) (by kernel_rfl) ?_
  apply Exists.intro; apply Exists.intro
  refine ⟨fun wb hb => ?_, ?_⟩
  · obtain ⟨_, _⟩ := hb.at2 X2_1.out
    obtain ⟨_, _⟩ := hb.at2 X2_2.out
    obtain ⟨_, _, _⟩ := hb.at3 X2_3.out
    obtain ⟨_, _⟩ := hb.at2 X2_4.out
    obtain ⟨_, _⟩ := hb.at2 Xb2.out
    simp only [headOps, List.contains, List.elem, Nat.reduceAdd, Nat.reduceBEq, reduceIte, Bool.false_eq_true, dumOp]
    repeat (first | go_big_quiet_step (first | (go_at_call 115; exact Calls.of_gr (HML.out _))) | quiet_step (fail))
    exact wpQuiet_nil rfl
  refine ⟨rfl, ⟨rfl, by simp [Value.oneCell']⟩, fun w3 b3 hg3 _ xb3 => ?_⟩
  have x3_1 := hg3.keep X2_1.out
  have x3_2 := hg3.keep X2_2.out
  have x3_3 := hg3.keep X2_3.out
  have x3_4 := hg3.keep X2_4.out
  have x3_5 := hg3.keep Xb2.out
  obtain ⟨_, _⟩ := cells2 x3_1
  have _ := fz x3_1
  have _ := ltb x3_1
  obtain ⟨_, _⟩ := cells2 x3_2
  have _ := fz x3_2
  have _ := ltb x3_2
  obtain ⟨_, _, _⟩ := cells3 x3_3
  have _ := fz x3_3
  have _ := ltb x3_3
  obtain ⟨_, _⟩ := cells2 x3_4
  have _ := fz x3_4
  have _ := ltb x3_4
  obtain ⟨_, _⟩ := cells2 x3_5
  have _ := fz x3_5
  have _ := ltb x3_5
  obtain ⟨_, _⟩ := cells2 xb3
  have _ := fz xb3
  have _ := ltb xb3
  have X3_1 := hid x3_1; clear x3_1
  have X3_2 := hid x3_2; clear x3_2
  have X3_3 := hid x3_3; clear x3_3
  have X3_4 := hid x3_4; clear x3_4
  have X3_5 := hid x3_5; clear x3_5
  have Xb3 := hid xb3; clear xb3
  have G3 := hid (G2.out.trans hg3)
  clear hg3
  go_wp2_with fail
  refine (HSB.out _).mono ?_
  rintro e w4 ⟨rfl, hg4⟩
  have x4_1 := hg4.keep X3_1.out
  have x4_2 := hg4.keep X3_2.out
  have x4_3 := hg4.keep X3_3.out
  have x4_4 := hg4.keep X3_4.out
  have x4_5 := hg4.keep X3_5.out
  have x4_6 := hg4.keep Xb3.out
  obtain ⟨_, _⟩ := cells2 x4_1
  have _ := fz x4_1
  have _ := ltb x4_1
  obtain ⟨_, _⟩ := cells2 x4_2
  have _ := fz x4_2
  have _ := ltb x4_2
  obtain ⟨_, _, _⟩ := cells3 x4_3
  have _ := fz x4_3
  have _ := ltb x4_3
  obtain ⟨_, _⟩ := cells2 x4_4
  have _ := fz x4_4
  have _ := ltb x4_4
  obtain ⟨_, _⟩ := cells2 x4_5
  have _ := fz x4_5
  have _ := ltb x4_5
  obtain ⟨_, _⟩ := cells2 x4_6
  have _ := fz x4_6
  have _ := ltb x4_6
  have X4_1 := hid x4_1; clear x4_1
  have X4_2 := hid x4_2; clear x4_2
  have X4_3 := hid x4_3; clear x4_3
  have X4_4 := hid x4_4; clear x4_4
  have X4_5 := hid x4_5; clear x4_5
  have X4_6 := hid x4_6; clear x4_6
  have G4 := hid (G3.out.trans hg4)
  clear hg4
  go_wp2_with fail
  refine wp_reg0 11 (by kernel_rfl) (by kernel_rfl) ?_
  apply Exists.intro
  refine ⟨fun wb hb => ?_, ?_⟩
  · obtain ⟨_, _⟩ := hb.at2 (((Gr.refl _).al _).keep X4_1.out)
    obtain ⟨_, _⟩ := hb.at2 (((Gr.refl _).al _).keep X4_2.out)
    obtain ⟨_, _, _⟩ := hb.at3 (((Gr.refl _).al _).keep X4_3.out)
    obtain ⟨_, _⟩ := hb.at2 (((Gr.refl _).al _).keep X4_4.out)
    obtain ⟨_, _⟩ := hb.at2 (((Gr.refl _).al _).keep X4_5.out)
    obtain ⟨_, _⟩ := hb.at2 (((Gr.refl _).al _).keep X4_6.out)
    obtain ⟨_, _⟩ := hb.at2 (alloc1 (Gr.refl _)).1
    simp only [headOps, List.contains, List.elem, reduceIte, Bool.false_eq_true]
    repeat (first | go_big_quiet_step (first | (go_at_call 130; exact Calls.of_gr (HNE.out _)) | (go_at_call 129; exact Calls.of_gr (HIN.out _))) | quiet_step (fail))
    exact wpQuiet_nil rfl
  intro w5 hg5
  obtain ⟨x5_0, hz5, g5⟩ := alloc1 hg5
  have x5_1 := g5.keep X4_1.out
  have x5_2 := g5.keep X4_2.out
  have x5_3 := g5.keep X4_3.out
  have x5_4 := g5.keep X4_4.out
  have x5_5 := g5.keep X4_5.out
  have x5_6 := g5.keep X4_6.out
  obtain ⟨_, _⟩ := cells2 x5_1
  have _ := fz x5_1
  have _ := ltb x5_1
  obtain ⟨_, _⟩ := cells2 x5_2
  have _ := fz x5_2
  have _ := ltb x5_2
  obtain ⟨_, _, _⟩ := cells3 x5_3
  have _ := fz x5_3
  have _ := ltb x5_3
  obtain ⟨_, _⟩ := cells2 x5_4
  have _ := fz x5_4
  have _ := ltb x5_4
  obtain ⟨_, _⟩ := cells2 x5_5
  have _ := fz x5_5
  have _ := ltb x5_5
  obtain ⟨_, _⟩ := cells2 x5_6
  have _ := fz x5_6
  have _ := ltb x5_6
  obtain ⟨_, _⟩ := cells2 x5_0
  have _ := fz x5_0
  have _ := ltb x5_0
  have X5_1 := hid x5_1; clear x5_1
  have X5_2 := hid x5_2; clear x5_2
  have X5_3 := hid x5_3; clear x5_3
  have X5_4 := hid x5_4; clear x5_4
  have X5_5 := hid x5_5; clear x5_5
  have X5_6 := hid x5_6; clear x5_6
  have X5_0 := hid x5_0; clear x5_0
  have G5 := hid (G4.out.trans g5)
  clear hg5 g5
  go_wp2_with fail
  refine wp_reg1s #[.int .i64 0, .int .i64 0] 12 10 18 11 101 (by kernel_rfl) (by kernel_rfl) rfl rfl (by simp) rfl rfl (by decide) (fun _ _ => by kernel_rfl) (by kernel_rfl) ?_
  apply Exists.intro; apply Exists.intro
  refine ⟨fun wb hb => ?_, ?_⟩
  · obtain ⟨_, _⟩ := hb.at2 X5_1.out
    obtain ⟨_, _⟩ := hb.at2 X5_2.out
    obtain ⟨_, _, _⟩ := hb.at3 X5_3.out
    obtain ⟨_, _⟩ := hb.at2 X5_4.out
    obtain ⟨_, _⟩ := hb.at2 X5_5.out
    obtain ⟨_, _⟩ := hb.at2 X5_6.out
    obtain ⟨_, _⟩ := hb.at2 X5_0.out
    simp only [headOps, List.contains, List.elem, Nat.reduceAdd, Nat.reduceBEq, reduceIte, Bool.false_eq_true, dumOp]
    repeat (first | go_big_quiet_step (first | (go_at_call 65; exact Calls.of_gr (swhole1 _ _)) | (go_at_call 115; exact Calls.of_gr (HMW.out _))) | quiet_step (fail))
    exact wpQuiet_nil rfl
  refine ⟨rfl, ⟨rfl, by simp [Value.oneCell']⟩, fun w6 b6 hg6 _ xb6 => ?_⟩
  have x6_1 := hg6.keep X5_1.out
  have x6_2 := hg6.keep X5_2.out
  have x6_3 := hg6.keep X5_3.out
  have x6_4 := hg6.keep X5_4.out
  have x6_5 := hg6.keep X5_5.out
  have x6_6 := hg6.keep X5_6.out
  have x6_7 := hg6.keep X5_0.out
  obtain ⟨_, _⟩ := cells2 x6_1
  have _ := fz x6_1
  have _ := ltb x6_1
  obtain ⟨_, _⟩ := cells2 x6_2
  have _ := fz x6_2
  have _ := ltb x6_2
  obtain ⟨_, _, _⟩ := cells3 x6_3
  have _ := fz x6_3
  have _ := ltb x6_3
  obtain ⟨_, _⟩ := cells2 x6_4
  have _ := fz x6_4
  have _ := ltb x6_4
  obtain ⟨_, _⟩ := cells2 x6_5
  have _ := fz x6_5
  have _ := ltb x6_5
  obtain ⟨_, _⟩ := cells2 x6_6
  have _ := fz x6_6
  have _ := ltb x6_6
  obtain ⟨_, _⟩ := cells2 x6_7
  have _ := fz x6_7
  have _ := ltb x6_7
  obtain ⟨_, _⟩ := cells2 xb6
  have _ := fz xb6
  have _ := ltb xb6
  have X6_1 := hid x6_1; clear x6_1
  have X6_2 := hid x6_2; clear x6_2
  have X6_3 := hid x6_3; clear x6_3
  have X6_4 := hid x6_4; clear x6_4
  have X6_5 := hid x6_5; clear x6_5
  have X6_6 := hid x6_6; clear x6_6
  have X6_7 := hid x6_7; clear x6_7
  have Xb6 := hid xb6; clear xb6
  have G6 := hid (G5.out.trans hg6)
  clear hg6
  go_wp2_with fail
  refine (HAD.out _).mono ?_
  rintro e w7 ⟨rfl, hg7⟩
  have x7_1 := hg7.keep X6_1.out
  have x7_2 := hg7.keep X6_2.out
  have x7_3 := hg7.keep X6_3.out
  have x7_4 := hg7.keep X6_4.out
  have x7_5 := hg7.keep X6_5.out
  have x7_6 := hg7.keep X6_6.out
  have x7_7 := hg7.keep X6_7.out
  have x7_8 := hg7.keep Xb6.out
  obtain ⟨_, _⟩ := cells2 x7_1
  have _ := fz x7_1
  have _ := ltb x7_1
  obtain ⟨_, _⟩ := cells2 x7_2
  have _ := fz x7_2
  have _ := ltb x7_2
  obtain ⟨_, _, _⟩ := cells3 x7_3
  have _ := fz x7_3
  have _ := ltb x7_3
  obtain ⟨_, _⟩ := cells2 x7_4
  have _ := fz x7_4
  have _ := ltb x7_4
  obtain ⟨_, _⟩ := cells2 x7_5
  have _ := fz x7_5
  have _ := ltb x7_5
  obtain ⟨_, _⟩ := cells2 x7_6
  have _ := fz x7_6
  have _ := ltb x7_6
  obtain ⟨_, _⟩ := cells2 x7_7
  have _ := fz x7_7
  have _ := ltb x7_7
  obtain ⟨_, _⟩ := cells2 x7_8
  have _ := fz x7_8
  have _ := ltb x7_8
  have X7_1 := hid x7_1; clear x7_1
  have X7_2 := hid x7_2; clear x7_2
  have X7_3 := hid x7_3; clear x7_3
  have X7_4 := hid x7_4; clear x7_4
  have X7_5 := hid x7_5; clear x7_5
  have X7_6 := hid x7_6; clear x7_6
  have X7_7 := hid x7_7; clear x7_7
  have X7_8 := hid x7_8; clear x7_8
  have G7 := hid (G6.out.trans hg7)
  clear hg7
  go_wp2
  refine bodyPost_ret (v := .tuple #[fr s0 s1, .int .i64 C]) (by simp [results, Try.results96, go_sem, *]) rfl ⟨rfl, ?_⟩
  exact ((G7.out).setCell (by simp <;> omega) _).setCell (by simp <;> omega) _
set_option maxRecDepth 20000 in
set_option maxHeartbeats 1000000 in
theorem ird_c0 (a b x y g0 g1 : Int) (R N : Nat) (A : Option Addr) (c : Nat) (xs : List (Int × Int)) (w : World) (X : Hid (RdF w A xs)) (hRN : R < N) (hN : N ≤ 40) (hR0 : ((R : Int) == 0) = false)
    (hLF : ∀ w, Hid (RdF w A xs) → Calls Try.prog 95 #[vn N true, scl a b A xs.length c, fr x y] w fun e w' => e = .returned (.int .i64 (R : Int)) ∧ Gr w w')
    (hLW : ∀ w, Calls Try.prog 131 #[.int .i64 ((N : Int) - (R : Int)), .int .i64 N] w fun e w' => e = .returned (fr g0 g1) ∧ Gr w w')
    (hTM : ∀ w, Calls Try.prog 132 #[fr g0 g1, fr a b] w fun e w' => (∃ x y, e = .panicked [{ v := .iface 125 (fr x y), recovered := false }]) ∧ Gr w w') :
    Calls Try.prog 98 #[vn N true, scl a b A xs.length c, fr x y] w fun e w' => (∃ x y, e = .panicked [{ v := .iface 125 (fr x y), recovered := false }]) ∧ Gr w w' := by
  have hLF := hid hLF
  have hLW := hid hLW
  have hTM := hid hTM
  have _ := hRN
  have _ := hN
  have _ := hR0
  go_enter Try.func98, Try.ntmps98
  go_wp2_with fail
  refine (hLF.out _ (hid (X.out.keep (((((Gr.refl w).al _).al _).al _).al _)))).mono ?_
  rintro e w1 ⟨rfl, hg1⟩
  obtain ⟨x1_0, x1_1, x1_2, x1_3, hz1, g1⟩ := alloc4 hg1
  obtain ⟨_, _⟩ := cells2 x1_0
  have _ := fz x1_0
  have _ := ltb x1_0
  obtain ⟨_, _, _⟩ := cells3 x1_1
  have _ := fz x1_1
  have _ := ltb x1_1
  obtain ⟨_, _⟩ := cells2 x1_2
  have _ := fz x1_2
  have _ := ltb x1_2
  obtain ⟨_, _⟩ := cells2 x1_3
  have _ := fz x1_3
  have _ := ltb x1_3
  have X1_0 := hid x1_0; clear x1_0
  have X1_1 := hid x1_1; clear x1_1
  have X1_2 := hid x1_2; clear x1_2
  have X1_3 := hid x1_3; clear x1_3
  have G1 := hid (g1)
  clear hg1 g1
  go_wp2_with fail
  refine wp_regPa (.cells #[.int .i64 0, .int .i64 0] 29) 6 7 [8] (by kernel_rfl) (by kernel_rfl) rfl (fun _ _ => by kernel_rfl) rfl ?_
  apply Exists.intro
  refine ⟨132, #[fr g0 g1, fr a b], fun wb hb => ?_, ?_⟩
  · obtain ⟨_, _⟩ := hb.at2 X1_0.out
    obtain ⟨_, _, _⟩ := hb.at3 X1_1.out
    obtain ⟨_, _⟩ := hb.at2 X1_2.out
    obtain ⟨_, _⟩ := hb.at2 X1_3.out
    simp only [headOps, List.contains, List.elem, List.length_cons, List.length_nil, Nat.zero_add, Nat.reduceAdd, Nat.reduceBEq, reduceIte, Bool.false_eq_true, dumOp]
    repeat (first | go_big_quiet_step (first | (first | (go_at_call 131; exact Calls.of_gr (hLW.out _)))) | quiet_step (fail))
    exact wpQuiet_nil rfl
  refine ⟨fun w' => by kernel_rfl, fun w' hg' => (hTM.out w').mono fun e w2 ⟨⟨x, y, he⟩, hg2⟩ => ⟨_, he, fun a' ha' => ⟨ha', ⟨x, y, rfl⟩, ((G1.out).trans hg').trans hg2⟩⟩⟩
set_option maxRecDepth 20000 in
set_option maxHeartbeats 1000000 in
theorem ird_c1 (a b x y g0 g1 p0 p1 : Int) (R N : Nat) (A : Option Addr) (c : Nat) (xs : List (Int × Int)) (w : World) (X : Hid (RdF w A xs)) (hRN : R < N) (hN : N ≤ 40) (hR0 : ((R : Int) == 0) = false)
    (hLF : ∀ w, Hid (RdF w A xs) → Calls Try.prog 95 #[vn N true, scl a b A xs.length c, fr x y] w fun e w' => e = .returned (.int .i64 (R : Int)) ∧ Gr w w')
    (hLW : ∀ w, Calls Try.prog 131 #[.int .i64 ((N : Int) - (R : Int)), .int .i64 N] w fun e w' => e = .returned (fr g0 g1) ∧ Gr w w')
    (hTM : ∀ w, Calls Try.prog 132 #[fr g0 g1, fr a b] w fun e w' => e = .returned (fr p0 p1) ∧ Gr w w')
    (hMN : ∀ w, Calls Try.prog 123 #[fr x y, fr p0 p1] w fun e w' => (∃ x y, e = .panicked [{ v := .iface 125 (fr x y), recovered := false }]) ∧ Gr w w') :
    Calls Try.prog 98 #[vn N true, scl a b A xs.length c, fr x y] w fun e w' => (∃ x y, e = .panicked [{ v := .iface 125 (fr x y), recovered := false }]) ∧ Gr w w' := by
  have hLF := hid hLF
  have hLW := hid hLW
  have hTM := hid hTM
  have hMN := hid hMN
  have _ := hRN
  have _ := hN
  have _ := hR0
  go_enter Try.func98, Try.ntmps98
  go_wp2_with fail
  refine (hLF.out _ (hid (X.out.keep (((((Gr.refl w).al _).al _).al _).al _)))).mono ?_
  rintro e w1 ⟨rfl, hg1⟩
  obtain ⟨x1_0, x1_1, x1_2, x1_3, hz1, g1⟩ := alloc4 hg1
  obtain ⟨_, _⟩ := cells2 x1_0
  have _ := fz x1_0
  have _ := ltb x1_0
  obtain ⟨_, _, _⟩ := cells3 x1_1
  have _ := fz x1_1
  have _ := ltb x1_1
  obtain ⟨_, _⟩ := cells2 x1_2
  have _ := fz x1_2
  have _ := ltb x1_2
  obtain ⟨_, _⟩ := cells2 x1_3
  have _ := fz x1_3
  have _ := ltb x1_3
  have X1_0 := hid x1_0; clear x1_0
  have X1_1 := hid x1_1; clear x1_1
  have X1_2 := hid x1_2; clear x1_2
  have X1_3 := hid x1_3; clear x1_3
  have G1 := hid (g1)
  clear hg1 g1
  go_wp2_with fail
  refine wp_reg1 (b0 := .cells #[.int .i64 0, .int .i64 0] 29) 8 7 8 (by kernel_rfl) (by kernel_rfl) rfl rfl (by simp) (fun _ _ => by kernel_rfl) ?_
  apply Exists.intro
  refine ⟨fun wb hb => ?_, ?_⟩
  · obtain ⟨_, _⟩ := hb.at2 X1_0.out
    obtain ⟨_, _, _⟩ := hb.at3 X1_1.out
    obtain ⟨_, _⟩ := hb.at2 X1_2.out
    obtain ⟨_, _⟩ := hb.at2 X1_3.out
    simp only [headOps, List.contains, List.elem, Nat.reduceAdd, Nat.reduceBEq, reduceIte, Bool.false_eq_true, dumOp]
    repeat (first | go_big_quiet_step (first | (go_at_call 131; exact Calls.of_gr (hLW.out _)) | (go_at_call 132; exact Calls.of_gr (hTM.out _))) | quiet_step (fail))
    exact wpQuiet_nil rfl
  intro w2 b2 hg2 hb2 xb2
  have N2_0 := hid (Nat.ne_of_lt (Nat.lt_of_lt_of_le (ltb X1_0.out) hb2))
  have N2_1 := hid (Nat.ne_of_lt (Nat.lt_of_lt_of_le (ltb X1_1.out) hb2))
  have N2_2 := hid (Nat.ne_of_lt (Nat.lt_of_lt_of_le (ltb X1_2.out) hb2))
  have N2_3 := hid (Nat.ne_of_lt (Nat.lt_of_lt_of_le (ltb X1_3.out) hb2))
  have hge2 := hid (Nat.le_trans (G1.out).size hb2)
  have x2_1 := hg2.keep X1_0.out
  have x2_2 := hg2.keep X1_1.out
  have x2_3 := hg2.keep X1_2.out
  have x2_4 := hg2.keep X1_3.out
  obtain ⟨_, _⟩ := cells2 x2_1
  have _ := fz x2_1
  have _ := ltb x2_1
  obtain ⟨_, _, _⟩ := cells3 x2_2
  have _ := fz x2_2
  have _ := ltb x2_2
  obtain ⟨_, _⟩ := cells2 x2_3
  have _ := fz x2_3
  have _ := ltb x2_3
  obtain ⟨_, _⟩ := cells2 x2_4
  have _ := fz x2_4
  have _ := ltb x2_4
  obtain ⟨_, _⟩ := cells2 xb2
  have _ := fz xb2
  have _ := ltb xb2
  have X2_1 := hid x2_1; clear x2_1
  have X2_2 := hid x2_2; clear x2_2
  have X2_3 := hid x2_3; clear x2_3
  have X2_4 := hid x2_4; clear x2_4
  have Xb2 := hid xb2; clear xb2
  have G2 := hid (G1.out.trans hg2)
  clear hg2
  clear hb2
  go_wp2_with fail
  refine wp_regP 2 [5, 6] (by kernel_rfl) (by kernel_rfl) rfl ?_
  apply Exists.intro
  refine ⟨123, #[fr x y, fr p0 p1], fun wb hb => ?_, ?_⟩
  · obtain ⟨_, _⟩ := hb.at2 (set2_old X2_1.out N2_0.out)
    obtain ⟨_, _, _⟩ := hb.at3 (set2_old X2_2.out N2_1.out)
    obtain ⟨_, _⟩ := hb.at2 (set2_old X2_3.out N2_2.out)
    obtain ⟨_, _⟩ := hb.at2 (set2_old X2_4.out N2_3.out)
    obtain ⟨_, _⟩ := hb.at2 (set2_new Xb2.out)
    simp only [headOps, List.contains, List.elem, List.length_cons, List.length_nil, Nat.zero_add, Nat.reduceAdd, Nat.reduceBEq, reduceIte, Bool.false_eq_true, dumOp]
    repeat (first | go_big_quiet_step (first | (fail)) | quiet_step (fail))
    exact wpQuiet_nil rfl
  refine ⟨fun w' => by kernel_rfl, fun w' hg' => (hMN.out w').mono fun e w2 ⟨⟨x, y, he⟩, hg2⟩ => ⟨_, he, fun a' ha' => ⟨ha', ⟨x, y, rfl⟩, (((G2.out.setCell hge2.out _).setCell hge2.out _).trans hg').trans hg2⟩⟩⟩
set_option maxRecDepth 20000 in
set_option maxHeartbeats 1000000 in
theorem ird_c2 (a b x y g0 g1 p0 p1 d0 d1 : Int) (R N : Nat) (A : Option Addr) (c : Nat) (xs : List (Int × Int)) (w : World) (X : Hid (RdF w A xs)) (hRN : R < N) (hN : N ≤ 40) (hR0 : ((R : Int) == 0) = false)
    (hLF : ∀ w, Hid (RdF w A xs) → Calls Try.prog 95 #[vn N true, scl a b A xs.length c, fr x y] w fun e w' => e = .returned (.int .i64 (R : Int)) ∧ Gr w w')
    (hLW : ∀ w, Calls Try.prog 131 #[.int .i64 ((N : Int) - (R : Int)), .int .i64 N] w fun e w' => e = .returned (fr g0 g1) ∧ Gr w w')
    (hTM : ∀ w, Calls Try.prog 132 #[fr g0 g1, fr a b] w fun e w' => e = .returned (fr p0 p1) ∧ Gr w w')
    (hMN : ∀ w, Calls Try.prog 123 #[fr x y, fr p0 p1] w fun e w' => e = .returned (fr d0 d1) ∧ Gr w w')
    (hNR : ∀ w, Calls Try.prog 133 #[fr d0 d1, fr a b] w fun e w' => (∃ x y, e = .panicked [{ v := .iface 125 (fr x y), recovered := false }]) ∧ Gr w w') :
    Calls Try.prog 98 #[vn N true, scl a b A xs.length c, fr x y] w fun e w' => (∃ x y, e = .panicked [{ v := .iface 125 (fr x y), recovered := false }]) ∧ Gr w w' := by
  have hLF := hid hLF
  have hLW := hid hLW
  have hTM := hid hTM
  have hMN := hid hMN
  have hNR := hid hNR
  have _ := hRN
  have _ := hN
  have _ := hR0
  go_enter Try.func98, Try.ntmps98
  go_wp2_with fail
  refine (hLF.out _ (hid (X.out.keep (((((Gr.refl w).al _).al _).al _).al _)))).mono ?_
  rintro e w1 ⟨rfl, hg1⟩
  obtain ⟨x1_0, x1_1, x1_2, x1_3, hz1, g1⟩ := alloc4 hg1
  obtain ⟨_, _⟩ := cells2 x1_0
  have _ := fz x1_0
  have _ := ltb x1_0
  obtain ⟨_, _, _⟩ := cells3 x1_1
  have _ := fz x1_1
  have _ := ltb x1_1
  obtain ⟨_, _⟩ := cells2 x1_2
  have _ := fz x1_2
  have _ := ltb x1_2
  obtain ⟨_, _⟩ := cells2 x1_3
  have _ := fz x1_3
  have _ := ltb x1_3
  have X1_0 := hid x1_0; clear x1_0
  have X1_1 := hid x1_1; clear x1_1
  have X1_2 := hid x1_2; clear x1_2
  have X1_3 := hid x1_3; clear x1_3
  have G1 := hid (g1)
  clear hg1 g1
  go_wp2_with fail
  refine wp_reg1 (b0 := .cells #[.int .i64 0, .int .i64 0] 29) 8 7 8 (by kernel_rfl) (by kernel_rfl) rfl rfl (by simp) (fun _ _ => by kernel_rfl) ?_
  apply Exists.intro
  refine ⟨fun wb hb => ?_, ?_⟩
  · obtain ⟨_, _⟩ := hb.at2 X1_0.out
    obtain ⟨_, _, _⟩ := hb.at3 X1_1.out
    obtain ⟨_, _⟩ := hb.at2 X1_2.out
    obtain ⟨_, _⟩ := hb.at2 X1_3.out
    simp only [headOps, List.contains, List.elem, Nat.reduceAdd, Nat.reduceBEq, reduceIte, Bool.false_eq_true, dumOp]
    repeat (first | go_big_quiet_step (first | (go_at_call 131; exact Calls.of_gr (hLW.out _)) | (go_at_call 132; exact Calls.of_gr (hTM.out _))) | quiet_step (fail))
    exact wpQuiet_nil rfl
  intro w2 b2 hg2 hb2 xb2
  have N2_0 := hid (Nat.ne_of_lt (Nat.lt_of_lt_of_le (ltb X1_0.out) hb2))
  have N2_1 := hid (Nat.ne_of_lt (Nat.lt_of_lt_of_le (ltb X1_1.out) hb2))
  have N2_2 := hid (Nat.ne_of_lt (Nat.lt_of_lt_of_le (ltb X1_2.out) hb2))
  have N2_3 := hid (Nat.ne_of_lt (Nat.lt_of_lt_of_le (ltb X1_3.out) hb2))
  have hge2 := hid (Nat.le_trans (G1.out).size hb2)
  have x2_1 := hg2.keep X1_0.out
  have x2_2 := hg2.keep X1_1.out
  have x2_3 := hg2.keep X1_2.out
  have x2_4 := hg2.keep X1_3.out
  obtain ⟨_, _⟩ := cells2 x2_1
  have _ := fz x2_1
  have _ := ltb x2_1
  obtain ⟨_, _, _⟩ := cells3 x2_2
  have _ := fz x2_2
  have _ := ltb x2_2
  obtain ⟨_, _⟩ := cells2 x2_3
  have _ := fz x2_3
  have _ := ltb x2_3
  obtain ⟨_, _⟩ := cells2 x2_4
  have _ := fz x2_4
  have _ := ltb x2_4
  obtain ⟨_, _⟩ := cells2 xb2
  have _ := fz xb2
  have _ := ltb xb2
  have X2_1 := hid x2_1; clear x2_1
  have X2_2 := hid x2_2; clear x2_2
  have X2_3 := hid x2_3; clear x2_3
  have X2_4 := hid x2_4; clear x2_4
  have Xb2 := hid xb2; clear xb2
  have G2 := hid (G1.out.trans hg2)
  clear hg2
  clear hb2
  go_wp2_with fail
  refine wp_regP 5 [6] (by kernel_rfl) (by kernel_rfl) rfl ?_
  apply Exists.intro
  refine ⟨133, #[fr d0 d1, fr a b], fun wb hb => ?_, ?_⟩
  · obtain ⟨_, _⟩ := hb.at2 (set2_old X2_1.out N2_0.out)
    obtain ⟨_, _, _⟩ := hb.at3 (set2_old X2_2.out N2_1.out)
    obtain ⟨_, _⟩ := hb.at2 (set2_old X2_3.out N2_2.out)
    obtain ⟨_, _⟩ := hb.at2 (set2_old X2_4.out N2_3.out)
    obtain ⟨_, _⟩ := hb.at2 (set2_new Xb2.out)
    simp only [headOps, List.contains, List.elem, List.length_cons, List.length_nil, Nat.zero_add, Nat.reduceAdd, Nat.reduceBEq, reduceIte, Bool.false_eq_true, dumOp]
    repeat (first | go_big_quiet_step (first | (first | (go_at_call 123; exact Calls.of_gr (hMN.out _)))) | quiet_step (fail))
    exact wpQuiet_nil rfl
  refine ⟨fun w' => by kernel_rfl, fun w' hg' => (hNR.out w').mono fun e w2 ⟨⟨x, y, he⟩, hg2⟩ => ⟨_, he, fun a' ha' => ⟨ha', ⟨x, y, rfl⟩, (((G2.out.setCell hge2.out _).setCell hge2.out _).trans hg').trans hg2⟩⟩⟩
set_option maxRecDepth 20000 in
set_option maxHeartbeats 1000000 in
theorem ird_c3 (a b x y g0 g1 p0 p1 d0 d1 nn : Int) (R N : Nat) (A : Option Addr) (c : Nat) (xs : List (Int × Int)) (w : World) (X : Hid (RdF w A xs)) (hRN : R < N) (hN : N ≤ 40) (hR0 : ((R : Int) == 0) = false)
    (hLF : ∀ w, Hid (RdF w A xs) → Calls Try.prog 95 #[vn N true, scl a b A xs.length c, fr x y] w fun e w' => e = .returned (.int .i64 (R : Int)) ∧ Gr w w')
    (hLW : ∀ w, Calls Try.prog 131 #[.int .i64 ((N : Int) - (R : Int)), .int .i64 N] w fun e w' => e = .returned (fr g0 g1) ∧ Gr w w')
    (hTM : ∀ w, Calls Try.prog 132 #[fr g0 g1, fr a b] w fun e w' => e = .returned (fr p0 p1) ∧ Gr w w')
    (hMN : ∀ w, Calls Try.prog 123 #[fr x y, fr p0 p1] w fun e w' => e = .returned (fr d0 d1) ∧ Gr w w')
    (hNR : ∀ w, Calls Try.prog 133 #[fr d0 d1, fr a b] w fun e w' => e = .returned (.int .i64 nn) ∧ Gr w w')
    (hTW : ∀ w, Calls Try.prog 103 #[fr a b, .int .i64 nn] w fun e w' => (∃ x y, e = .panicked [{ v := .iface 125 (fr x y), recovered := false }]) ∧ Gr w w') :
    Calls Try.prog 98 #[vn N true, scl a b A xs.length c, fr x y] w fun e w' => (∃ x y, e = .panicked [{ v := .iface 125 (fr x y), recovered := false }]) ∧ Gr w w' := by
  have hLF := hid hLF
  have hLW := hid hLW
  have hTM := hid hTM
  have hMN := hid hMN
  have hNR := hid hNR
  have hTW := hid hTW
  have _ := hRN
  have _ := hN
  have _ := hR0
  go_enter Try.func98, Try.ntmps98
  go_wp2_with fail
  refine (hLF.out _ (hid (X.out.keep (((((Gr.refl w).al _).al _).al _).al _)))).mono ?_
  rintro e w1 ⟨rfl, hg1⟩
  obtain ⟨x1_0, x1_1, x1_2, x1_3, hz1, g1⟩ := alloc4 hg1
  obtain ⟨_, _⟩ := cells2 x1_0
  have _ := fz x1_0
  have _ := ltb x1_0
  obtain ⟨_, _, _⟩ := cells3 x1_1
  have _ := fz x1_1
  have _ := ltb x1_1
  obtain ⟨_, _⟩ := cells2 x1_2
  have _ := fz x1_2
  have _ := ltb x1_2
  obtain ⟨_, _⟩ := cells2 x1_3
  have _ := fz x1_3
  have _ := ltb x1_3
  have X1_0 := hid x1_0; clear x1_0
  have X1_1 := hid x1_1; clear x1_1
  have X1_2 := hid x1_2; clear x1_2
  have X1_3 := hid x1_3; clear x1_3
  have G1 := hid (g1)
  clear hg1 g1
  go_wp2_with fail
  refine wp_reg1 (b0 := .cells #[.int .i64 0, .int .i64 0] 29) 8 7 8 (by kernel_rfl) (by kernel_rfl) rfl rfl (by simp) (fun _ _ => by kernel_rfl) ?_
  apply Exists.intro
  refine ⟨fun wb hb => ?_, ?_⟩
  · obtain ⟨_, _⟩ := hb.at2 X1_0.out
    obtain ⟨_, _, _⟩ := hb.at3 X1_1.out
    obtain ⟨_, _⟩ := hb.at2 X1_2.out
    obtain ⟨_, _⟩ := hb.at2 X1_3.out
    simp only [headOps, List.contains, List.elem, Nat.reduceAdd, Nat.reduceBEq, reduceIte, Bool.false_eq_true, dumOp]
    repeat (first | go_big_quiet_step (first | (go_at_call 131; exact Calls.of_gr (hLW.out _)) | (go_at_call 132; exact Calls.of_gr (hTM.out _))) | quiet_step (fail))
    exact wpQuiet_nil rfl
  intro w2 b2 hg2 hb2 xb2
  have N2_0 := hid (Nat.ne_of_lt (Nat.lt_of_lt_of_le (ltb X1_0.out) hb2))
  have N2_1 := hid (Nat.ne_of_lt (Nat.lt_of_lt_of_le (ltb X1_1.out) hb2))
  have N2_2 := hid (Nat.ne_of_lt (Nat.lt_of_lt_of_le (ltb X1_2.out) hb2))
  have N2_3 := hid (Nat.ne_of_lt (Nat.lt_of_lt_of_le (ltb X1_3.out) hb2))
  have hge2 := hid (Nat.le_trans (G1.out).size hb2)
  have x2_1 := hg2.keep X1_0.out
  have x2_2 := hg2.keep X1_1.out
  have x2_3 := hg2.keep X1_2.out
  have x2_4 := hg2.keep X1_3.out
  obtain ⟨_, _⟩ := cells2 x2_1
  have _ := fz x2_1
  have _ := ltb x2_1
  obtain ⟨_, _, _⟩ := cells3 x2_2
  have _ := fz x2_2
  have _ := ltb x2_2
  obtain ⟨_, _⟩ := cells2 x2_3
  have _ := fz x2_3
  have _ := ltb x2_3
  obtain ⟨_, _⟩ := cells2 x2_4
  have _ := fz x2_4
  have _ := ltb x2_4
  obtain ⟨_, _⟩ := cells2 xb2
  have _ := fz xb2
  have _ := ltb xb2
  have X2_1 := hid x2_1; clear x2_1
  have X2_2 := hid x2_2; clear x2_2
  have X2_3 := hid x2_3; clear x2_3
  have X2_4 := hid x2_4; clear x2_4
  have Xb2 := hid xb2; clear xb2
  have G2 := hid (G1.out.trans hg2)
  clear hg2
  clear hb2
  go_wp2_with fail
  refine wp_reg0 6 (by kernel_rfl) (by kernel_rfl) ?_
  apply Exists.intro
  refine ⟨fun wb hb => ?_, ?_⟩
  · obtain ⟨_, _⟩ := hb.at2 (set2_old X2_1.out N2_0.out)
    obtain ⟨_, _, _⟩ := hb.at3 (set2_old X2_2.out N2_1.out)
    obtain ⟨_, _⟩ := hb.at2 (set2_old X2_3.out N2_2.out)
    obtain ⟨_, _⟩ := hb.at2 (set2_old X2_4.out N2_3.out)
    obtain ⟨_, _⟩ := hb.at2 (set2_new Xb2.out)
    simp only [headOps, List.contains, List.elem, reduceIte, Bool.false_eq_true]
    repeat (first | go_big_quiet_step (first | (go_at_call 123; exact Calls.of_gr (hMN.out _)) | (go_at_call 133; exact Calls.of_gr (hNR.out _))) | quiet_step (fail))
    exact wpQuiet_nil rfl
  intro w3 hg3
  have x3_1 := hg3.keep (set2_old X2_1.out N2_0.out)
  have x3_2 := hg3.keep (set2_old X2_2.out N2_1.out)
  have x3_3 := hg3.keep (set2_old X2_3.out N2_2.out)
  have x3_4 := hg3.keep (set2_old X2_4.out N2_3.out)
  have x3_5 := hg3.keep (set2_new Xb2.out)
  obtain ⟨_, _⟩ := cells2 x3_1
  have _ := fz x3_1
  have _ := ltb x3_1
  obtain ⟨_, _, _⟩ := cells3 x3_2
  have _ := fz x3_2
  have _ := ltb x3_2
  obtain ⟨_, _⟩ := cells2 x3_3
  have _ := fz x3_3
  have _ := ltb x3_3
  obtain ⟨_, _⟩ := cells2 x3_4
  have _ := fz x3_4
  have _ := ltb x3_4
  obtain ⟨_, _⟩ := cells2 x3_5
  have _ := fz x3_5
  have _ := ltb x3_5
  have X3_1 := hid x3_1; clear x3_1
  have X3_2 := hid x3_2; clear x3_2
  have X3_3 := hid x3_3; clear x3_3
  have X3_4 := hid x3_4; clear x3_4
  have X3_5 := hid x3_5; clear x3_5
  have G3 := hid ((((G2.out).setCell hge2.out _).setCell hge2.out _).trans hg3)
  clear hg3
  go_wp2_with fail
  refine wp_regP 4 [5, 6] (by kernel_rfl) (by kernel_rfl) rfl ?_
  apply Exists.intro
  refine ⟨103, #[fr a b, .int .i64 nn], fun wb hb => ?_, ?_⟩
  · obtain ⟨_, _⟩ := hb.at2 X3_1.out
    obtain ⟨_, _, _⟩ := hb.at3 X3_2.out
    obtain ⟨_, _⟩ := hb.at2 X3_3.out
    obtain ⟨_, _⟩ := hb.at2 X3_4.out
    obtain ⟨_, _⟩ := hb.at2 X3_5.out
    simp only [headOps, List.contains, List.elem, List.length_cons, List.length_nil, Nat.zero_add, Nat.reduceAdd, Nat.reduceBEq, reduceIte, Bool.false_eq_true, dumOp]
    repeat (first | go_big_quiet_step (first | (fail)) | quiet_step (fail))
    exact wpQuiet_nil rfl
  refine ⟨fun w' => by kernel_rfl, fun w' hg' => (hTW.out w').mono fun e w2 ⟨⟨x, y, he⟩, hg2⟩ => ⟨_, he, fun a' ha' => ⟨ha', ⟨x, y, rfl⟩, ((G3.out).trans hg').trans hg2⟩⟩⟩
set_option maxRecDepth 20000 in
set_option maxHeartbeats 1000000 in
theorem ird_c4 (a b x y g0 g1 p0 p1 d0 d1 nn t0 t1 : Int) (R N : Nat) (A : Option Addr) (c : Nat) (xs : List (Int × Int)) (w : World) (X : Hid (RdF w A xs)) (hRN : R < N) (hN : N ≤ 40) (hR0 : ((R : Int) == 0) = false)
    (hLF : ∀ w, Hid (RdF w A xs) → Calls Try.prog 95 #[vn N true, scl a b A xs.length c, fr x y] w fun e w' => e = .returned (.int .i64 (R : Int)) ∧ Gr w w')
    (hLW : ∀ w, Calls Try.prog 131 #[.int .i64 ((N : Int) - (R : Int)), .int .i64 N] w fun e w' => e = .returned (fr g0 g1) ∧ Gr w w')
    (hTM : ∀ w, Calls Try.prog 132 #[fr g0 g1, fr a b] w fun e w' => e = .returned (fr p0 p1) ∧ Gr w w')
    (hMN : ∀ w, Calls Try.prog 123 #[fr x y, fr p0 p1] w fun e w' => e = .returned (fr d0 d1) ∧ Gr w w')
    (hNR : ∀ w, Calls Try.prog 133 #[fr d0 d1, fr a b] w fun e w' => e = .returned (.int .i64 nn) ∧ Gr w w')
    (hTW : ∀ w, Calls Try.prog 103 #[fr a b, .int .i64 nn] w fun e w' => e = .returned (fr t0 t1) ∧ Gr w w')
    (hPL : ∀ w, Calls Try.prog 102 #[fr p0 p1, fr t0 t1] w fun e w' => (∃ x y, e = .panicked [{ v := .iface 125 (fr x y), recovered := false }]) ∧ Gr w w') :
    Calls Try.prog 98 #[vn N true, scl a b A xs.length c, fr x y] w fun e w' => (∃ x y, e = .panicked [{ v := .iface 125 (fr x y), recovered := false }]) ∧ Gr w w' := by
  have hLF := hid hLF
  have hLW := hid hLW
  have hTM := hid hTM
  have hMN := hid hMN
  have hNR := hid hNR
  have hTW := hid hTW
  have hPL := hid hPL
  have _ := hRN
  have _ := hN
  have _ := hR0
  go_enter Try.func98, Try.ntmps98
  go_wp2_with fail
  refine (hLF.out _ (hid (X.out.keep (((((Gr.refl w).al _).al _).al _).al _)))).mono ?_
  rintro e w1 ⟨rfl, hg1⟩
  obtain ⟨x1_0, x1_1, x1_2, x1_3, hz1, g1⟩ := alloc4 hg1
  obtain ⟨_, _⟩ := cells2 x1_0
  have _ := fz x1_0
  have _ := ltb x1_0
  obtain ⟨_, _, _⟩ := cells3 x1_1
  have _ := fz x1_1
  have _ := ltb x1_1
  obtain ⟨_, _⟩ := cells2 x1_2
  have _ := fz x1_2
  have _ := ltb x1_2
  obtain ⟨_, _⟩ := cells2 x1_3
  have _ := fz x1_3
  have _ := ltb x1_3
  have X1_0 := hid x1_0; clear x1_0
  have X1_1 := hid x1_1; clear x1_1
  have X1_2 := hid x1_2; clear x1_2
  have X1_3 := hid x1_3; clear x1_3
  have G1 := hid (g1)
  clear hg1 g1
  go_wp2_with fail
  refine wp_reg1 (b0 := .cells #[.int .i64 0, .int .i64 0] 29) 8 7 8 (by kernel_rfl) (by kernel_rfl) rfl rfl (by simp) (fun _ _ => by kernel_rfl) ?_
  apply Exists.intro
  refine ⟨fun wb hb => ?_, ?_⟩
  · obtain ⟨_, _⟩ := hb.at2 X1_0.out
    obtain ⟨_, _, _⟩ := hb.at3 X1_1.out
    obtain ⟨_, _⟩ := hb.at2 X1_2.out
    obtain ⟨_, _⟩ := hb.at2 X1_3.out
    simp only [headOps, List.contains, List.elem, Nat.reduceAdd, Nat.reduceBEq, reduceIte, Bool.false_eq_true, dumOp]
    repeat (first | go_big_quiet_step (first | (go_at_call 131; exact Calls.of_gr (hLW.out _)) | (go_at_call 132; exact Calls.of_gr (hTM.out _))) | quiet_step (fail))
    exact wpQuiet_nil rfl
  intro w2 b2 hg2 hb2 xb2
  have N2_0 := hid (Nat.ne_of_lt (Nat.lt_of_lt_of_le (ltb X1_0.out) hb2))
  have N2_1 := hid (Nat.ne_of_lt (Nat.lt_of_lt_of_le (ltb X1_1.out) hb2))
  have N2_2 := hid (Nat.ne_of_lt (Nat.lt_of_lt_of_le (ltb X1_2.out) hb2))
  have N2_3 := hid (Nat.ne_of_lt (Nat.lt_of_lt_of_le (ltb X1_3.out) hb2))
  have hge2 := hid (Nat.le_trans (G1.out).size hb2)
  have x2_1 := hg2.keep X1_0.out
  have x2_2 := hg2.keep X1_1.out
  have x2_3 := hg2.keep X1_2.out
  have x2_4 := hg2.keep X1_3.out
  obtain ⟨_, _⟩ := cells2 x2_1
  have _ := fz x2_1
  have _ := ltb x2_1
  obtain ⟨_, _, _⟩ := cells3 x2_2
  have _ := fz x2_2
  have _ := ltb x2_2
  obtain ⟨_, _⟩ := cells2 x2_3
  have _ := fz x2_3
  have _ := ltb x2_3
  obtain ⟨_, _⟩ := cells2 x2_4
  have _ := fz x2_4
  have _ := ltb x2_4
  obtain ⟨_, _⟩ := cells2 xb2
  have _ := fz xb2
  have _ := ltb xb2
  have X2_1 := hid x2_1; clear x2_1
  have X2_2 := hid x2_2; clear x2_2
  have X2_3 := hid x2_3; clear x2_3
  have X2_4 := hid x2_4; clear x2_4
  have Xb2 := hid xb2; clear xb2
  have G2 := hid (G1.out.trans hg2)
  clear hg2
  clear hb2
  go_wp2_with fail
  refine wp_reg0 6 (by kernel_rfl) (by kernel_rfl) ?_
  apply Exists.intro
  refine ⟨fun wb hb => ?_, ?_⟩
  · obtain ⟨_, _⟩ := hb.at2 (set2_old X2_1.out N2_0.out)
    obtain ⟨_, _, _⟩ := hb.at3 (set2_old X2_2.out N2_1.out)
    obtain ⟨_, _⟩ := hb.at2 (set2_old X2_3.out N2_2.out)
    obtain ⟨_, _⟩ := hb.at2 (set2_old X2_4.out N2_3.out)
    obtain ⟨_, _⟩ := hb.at2 (set2_new Xb2.out)
    simp only [headOps, List.contains, List.elem, reduceIte, Bool.false_eq_true]
    repeat (first | go_big_quiet_step (first | (go_at_call 123; exact Calls.of_gr (hMN.out _)) | (go_at_call 133; exact Calls.of_gr (hNR.out _))) | quiet_step (fail))
    exact wpQuiet_nil rfl
  intro w3 hg3
  have x3_1 := hg3.keep (set2_old X2_1.out N2_0.out)
  have x3_2 := hg3.keep (set2_old X2_2.out N2_1.out)
  have x3_3 := hg3.keep (set2_old X2_3.out N2_2.out)
  have x3_4 := hg3.keep (set2_old X2_4.out N2_3.out)
  have x3_5 := hg3.keep (set2_new Xb2.out)
  obtain ⟨_, _⟩ := cells2 x3_1
  have _ := fz x3_1
  have _ := ltb x3_1
  obtain ⟨_, _, _⟩ := cells3 x3_2
  have _ := fz x3_2
  have _ := ltb x3_2
  obtain ⟨_, _⟩ := cells2 x3_3
  have _ := fz x3_3
  have _ := ltb x3_3
  obtain ⟨_, _⟩ := cells2 x3_4
  have _ := fz x3_4
  have _ := ltb x3_4
  obtain ⟨_, _⟩ := cells2 x3_5
  have _ := fz x3_5
  have _ := ltb x3_5
  have X3_1 := hid x3_1; clear x3_1
  have X3_2 := hid x3_2; clear x3_2
  have X3_3 := hid x3_3; clear x3_3
  have X3_4 := hid x3_4; clear x3_4
  have X3_5 := hid x3_5; clear x3_5
  have G3 := hid ((((G2.out).setCell hge2.out _).setCell hge2.out _).trans hg3)
  clear hg3
  go_wp2_with fail
  refine wp_regP 5 [6] (by kernel_rfl) (by kernel_rfl) rfl ?_
  apply Exists.intro
  refine ⟨102, #[fr p0 p1, fr t0 t1], fun wb hb => ?_, ?_⟩
  · obtain ⟨_, _⟩ := hb.at2 X3_1.out
    obtain ⟨_, _, _⟩ := hb.at3 X3_2.out
    obtain ⟨_, _⟩ := hb.at2 X3_3.out
    obtain ⟨_, _⟩ := hb.at2 X3_4.out
    obtain ⟨_, _⟩ := hb.at2 X3_5.out
    simp only [headOps, List.contains, List.elem, List.length_cons, List.length_nil, Nat.zero_add, Nat.reduceAdd, Nat.reduceBEq, reduceIte, Bool.false_eq_true, dumOp]
    repeat (first | go_big_quiet_step (first | (first | (go_at_call 103; exact Calls.of_gr (hTW.out _)))) | quiet_step (fail))
    exact wpQuiet_nil rfl
  refine ⟨fun w' => by kernel_rfl, fun w' hg' => (hPL.out w').mono fun e w2 ⟨⟨x, y, he⟩, hg2⟩ => ⟨_, he, fun a' ha' => ⟨ha', ⟨x, y, rfl⟩, ((G3.out).trans hg').trans hg2⟩⟩⟩
set_option maxRecDepth 20000 in
set_option maxHeartbeats 1000000 in
theorem ird_c5 (a b x y g0 g1 p0 p1 d0 d1 nn t0 t1 s0 s1 : Int) (R N : Nat) (A : Option Addr) (c : Nat) (xs : List (Int × Int)) (w : World) (X : Hid (RdF w A xs)) (hRN : R < N) (hN : N ≤ 40) (hR0 : ((R : Int) == 0) = false)
    (hLF : ∀ w, Hid (RdF w A xs) → Calls Try.prog 95 #[vn N true, scl a b A xs.length c, fr x y] w fun e w' => e = .returned (.int .i64 (R : Int)) ∧ Gr w w')
    (hLW : ∀ w, Calls Try.prog 131 #[.int .i64 ((N : Int) - (R : Int)), .int .i64 N] w fun e w' => e = .returned (fr g0 g1) ∧ Gr w w')
    (hTM : ∀ w, Calls Try.prog 132 #[fr g0 g1, fr a b] w fun e w' => e = .returned (fr p0 p1) ∧ Gr w w')
    (hMN : ∀ w, Calls Try.prog 123 #[fr x y, fr p0 p1] w fun e w' => e = .returned (fr d0 d1) ∧ Gr w w')
    (hNR : ∀ w, Calls Try.prog 133 #[fr d0 d1, fr a b] w fun e w' => e = .returned (.int .i64 nn) ∧ Gr w w')
    (hTW : ∀ w, Calls Try.prog 103 #[fr a b, .int .i64 nn] w fun e w' => e = .returned (fr t0 t1) ∧ Gr w w')
    (hPL : ∀ w, Calls Try.prog 102 #[fr p0 p1, fr t0 t1] w fun e w' => e = .returned (fr s0 s1) ∧ Gr w w') :
    Calls Try.prog 98 #[vn N true, scl a b A xs.length c, fr x y] w fun e w' => e = .returned (fr s0 s1) ∧ Gr w w' := by
  have hLF := hid hLF
  have hLW := hid hLW
  have hTM := hid hTM
  have hMN := hid hMN
  have hNR := hid hNR
  have hTW := hid hTW
  have hPL := hid hPL
  have _ := hRN
  have _ := hN
  have _ := hR0
  go_enter Try.func98, Try.ntmps98
  go_wp2_with fail
  refine (hLF.out _ (hid (X.out.keep (((((Gr.refl w).al _).al _).al _).al _)))).mono ?_
  rintro e w1 ⟨rfl, hg1⟩
  obtain ⟨x1_0, x1_1, x1_2, x1_3, hz1, g1⟩ := alloc4 hg1
  obtain ⟨_, _⟩ := cells2 x1_0
  have _ := fz x1_0
  have _ := ltb x1_0
  obtain ⟨_, _, _⟩ := cells3 x1_1
  have _ := fz x1_1
  have _ := ltb x1_1
  obtain ⟨_, _⟩ := cells2 x1_2
  have _ := fz x1_2
  have _ := ltb x1_2
  obtain ⟨_, _⟩ := cells2 x1_3
  have _ := fz x1_3
  have _ := ltb x1_3
  have X1_0 := hid x1_0; clear x1_0
  have X1_1 := hid x1_1; clear x1_1
  have X1_2 := hid x1_2; clear x1_2
  have X1_3 := hid x1_3; clear x1_3
  have G1 := hid (g1)
  clear hg1 g1
  go_wp2_with fail
  refine wp_reg1 (b0 := .cells #[.int .i64 0, .int .i64 0] 29) 8 7 8 (by kernel_rfl) (by kernel_rfl) rfl rfl (by simp) (fun _ _ => by kernel_rfl) ?_
  apply Exists.intro
  refine ⟨fun wb hb => ?_, ?_⟩
  · obtain ⟨_, _⟩ := hb.at2 X1_0.out
    obtain ⟨_, _, _⟩ := hb.at3 X1_1.out
    obtain ⟨_, _⟩ := hb.at2 X1_2.out
    obtain ⟨_, _⟩ := hb.at2 X1_3.out
    simp only [headOps, List.contains, List.elem, Nat.reduceAdd, Nat.reduceBEq, reduceIte, Bool.false_eq_true, dumOp]
    repeat (first | go_big_quiet_step (first | (go_at_call 131; exact Calls.of_gr (hLW.out _)) | (go_at_call 132; exact Calls.of_gr (hTM.out _))) | quiet_step (fail))
    exact wpQuiet_nil rfl
  intro w2 b2 hg2 hb2 xb2
  have N2_0 := hid (Nat.ne_of_lt (Nat.lt_of_lt_of_le (ltb X1_0.out) hb2))
  have N2_1 := hid (Nat.ne_of_lt (Nat.lt_of_lt_of_le (ltb X1_1.out) hb2))
  have N2_2 := hid (Nat.ne_of_lt (Nat.lt_of_lt_of_le (ltb X1_2.out) hb2))
  have N2_3 := hid (Nat.ne_of_lt (Nat.lt_of_lt_of_le (ltb X1_3.out) hb2))
  have hge2 := hid (Nat.le_trans (G1.out).size hb2)
  have x2_1 := hg2.keep X1_0.out
  have x2_2 := hg2.keep X1_1.out
  have x2_3 := hg2.keep X1_2.out
  have x2_4 := hg2.keep X1_3.out
  obtain ⟨_, _⟩ := cells2 x2_1
  have _ := fz x2_1
  have _ := ltb x2_1
  obtain ⟨_, _, _⟩ := cells3 x2_2
  have _ := fz x2_2
  have _ := ltb x2_2
  obtain ⟨_, _⟩ := cells2 x2_3
  have _ := fz x2_3
  have _ := ltb x2_3
  obtain ⟨_, _⟩ := cells2 x2_4
  have _ := fz x2_4
  have _ := ltb x2_4
  obtain ⟨_, _⟩ := cells2 xb2
  have _ := fz xb2
  have _ := ltb xb2
  have X2_1 := hid x2_1; clear x2_1
  have X2_2 := hid x2_2; clear x2_2
  have X2_3 := hid x2_3; clear x2_3
  have X2_4 := hid x2_4; clear x2_4
  have Xb2 := hid xb2; clear xb2
  have G2 := hid (G1.out.trans hg2)
  clear hg2
  clear hb2
  go_wp2_with fail
  refine wp_reg0 6 (by kernel_rfl) (by kernel_rfl) ?_
  apply Exists.intro
  refine ⟨fun wb hb => ?_, ?_⟩
  · obtain ⟨_, _⟩ := hb.at2 (set2_old X2_1.out N2_0.out)
    obtain ⟨_, _, _⟩ := hb.at3 (set2_old X2_2.out N2_1.out)
    obtain ⟨_, _⟩ := hb.at2 (set2_old X2_3.out N2_2.out)
    obtain ⟨_, _⟩ := hb.at2 (set2_old X2_4.out N2_3.out)
    obtain ⟨_, _⟩ := hb.at2 (set2_new Xb2.out)
    simp only [headOps, List.contains, List.elem, reduceIte, Bool.false_eq_true]
    repeat (first | go_big_quiet_step (first | (go_at_call 123; exact Calls.of_gr (hMN.out _)) | (go_at_call 133; exact Calls.of_gr (hNR.out _))) | quiet_step (fail))
    exact wpQuiet_nil rfl
  intro w3 hg3
  have x3_1 := hg3.keep (set2_old X2_1.out N2_0.out)
  have x3_2 := hg3.keep (set2_old X2_2.out N2_1.out)
  have x3_3 := hg3.keep (set2_old X2_3.out N2_2.out)
  have x3_4 := hg3.keep (set2_old X2_4.out N2_3.out)
  have x3_5 := hg3.keep (set2_new Xb2.out)
  obtain ⟨_, _⟩ := cells2 x3_1
  have _ := fz x3_1
  have _ := ltb x3_1
  obtain ⟨_, _, _⟩ := cells3 x3_2
  have _ := fz x3_2
  have _ := ltb x3_2
  obtain ⟨_, _⟩ := cells2 x3_3
  have _ := fz x3_3
  have _ := ltb x3_3
  obtain ⟨_, _⟩ := cells2 x3_4
  have _ := fz x3_4
  have _ := ltb x3_4
  obtain ⟨_, _⟩ := cells2 x3_5
  have _ := fz x3_5
  have _ := ltb x3_5
  have X3_1 := hid x3_1; clear x3_1
  have X3_2 := hid x3_2; clear x3_2
  have X3_3 := hid x3_3; clear x3_3
  have X3_4 := hid x3_4; clear x3_4
  have X3_5 := hid x3_5; clear x3_5
  have G3 := hid ((((G2.out).setCell hge2.out _).setCell hge2.out _).trans hg3)
  clear hg3
  go_wp2_with fail
  refine wp_reg0 6 (by kernel_rfl) (by kernel_rfl) ?_
  apply Exists.intro
  refine ⟨fun wb hb => ?_, ?_⟩
  · obtain ⟨_, _⟩ := hb.at2 X3_1.out
    obtain ⟨_, _, _⟩ := hb.at3 X3_2.out
    obtain ⟨_, _⟩ := hb.at2 X3_3.out
    obtain ⟨_, _⟩ := hb.at2 X3_4.out
    obtain ⟨_, _⟩ := hb.at2 X3_5.out
    simp only [headOps, List.contains, List.elem, reduceIte, Bool.false_eq_true]
    repeat (first | go_big_quiet_step (first | (go_at_call 103; exact Calls.of_gr (hTW.out _)) | (go_at_call 102; exact Calls.of_gr (hPL.out _))) | quiet_step (fail))
    exact wpQuiet_nil rfl
  intro w4 hg4
  have x4_1 := hg4.keep X3_1.out
  have x4_2 := hg4.keep X3_2.out
  have x4_3 := hg4.keep X3_3.out
  have x4_4 := hg4.keep X3_4.out
  have x4_5 := hg4.keep X3_5.out
  obtain ⟨_, _⟩ := cells2 x4_1
  have _ := fz x4_1
  have _ := ltb x4_1
  obtain ⟨_, _, _⟩ := cells3 x4_2
  have _ := fz x4_2
  have _ := ltb x4_2
  obtain ⟨_, _⟩ := cells2 x4_3
  have _ := fz x4_3
  have _ := ltb x4_3
  obtain ⟨_, _⟩ := cells2 x4_4
  have _ := fz x4_4
  have _ := ltb x4_4
  obtain ⟨_, _⟩ := cells2 x4_5
  have _ := fz x4_5
  have _ := ltb x4_5
  have X4_1 := hid x4_1; clear x4_1
  have X4_2 := hid x4_2; clear x4_2
  have X4_3 := hid x4_3; clear x4_3
  have X4_4 := hid x4_4; clear x4_4
  have X4_5 := hid x4_5; clear x4_5
  have G4 := hid (G3.out.trans hg4)
  clear hg4
  go_wp2
  refine bodyPost_ret (v := fr s0 s1) (by simp [results, Try.results98, go_sem, *]) rfl ⟨rfl, ?_⟩
  exact ((G4.out).setCell (by simp <;> omega) _).setCell (by simp <;> omega) _
set_option maxRecDepth 20000 in
set_option maxHeartbeats 1000000 in
theorem srd_c0 (a b x y g0 g1 : Int) (R N : Nat) (A : Option Addr) (c : Nat) (xs : List (Int × Int)) (w : World) (k1 k2 : Nat) (X1 : Hid (w.heap[k1]? = some (.cells #[.int .i64 a, .int .i64 b, .slice A xs.length c] 32))) (X2 : Hid (w.heap[k2]? = some (.cells #[.int .i64 N, .bool true] 53))) (hRN : R < N) (hN : N ≤ 40) (hR0 : ((R : Int) == 0) = false)
    (hLF : ∀ w', Gr w w' → Calls Try.prog 92 #[.pointer (some ⟨k1, 0, none⟩), .pointer (some ⟨k2, 0, none⟩), fr x y] w' fun e w'' => e = .returned (.tuple #[.int .i64 (R : Int), .int .i64 0]) ∧ Gr w' w'')
    (hDV : ∀ w, Calls Try.prog 81 #[fr ((N : Int) - (R : Int)) 1, fr N 1] w fun e w' => e = .returned (.tuple #[fr g0 g1, .int .i64 0]) ∧ Gr w w')
    (hML : ∀ w, Calls Try.prog 115 #[fr g0 g1, fr a b] w fun e w' => e = .returned (.tuple #[fr 0 0, .int .i64 3]) ∧ Gr w w') :
    Calls Try.prog 96 #[.pointer (some ⟨k1, 0, none⟩), .pointer (some ⟨k2, 0, none⟩), fr x y] w fun e w' => e = .returned (.tuple #[fr 0 0, .int .i64 3]) ∧ Gr w w' := by
  have HLF := hid hLF
  have HDV := hid hDV
  have HML := hid hML
  have _ := hRN
  have _ := hN
  have _ := hR0
  clear hLF hDV hML
  go_enter Try.func96, Try.ntmps96
  obtain ⟨_, _, _⟩ := cells3 X1.out
  have _ := fz X1.out
  have _ := ltb X1.out
  obtain ⟨_, _⟩ := cells2 X2.out
  have _ := fz X2.out
  have _ := ltb X2.out
  go_wp2_with fail
  refine (HLF.out _ (((Gr.refl w).al _).al _)).mono ?_
  rintro e w1 ⟨rfl, hg1⟩
  obtain ⟨x1_0, x1_1, hz1, g1⟩ := alloc2 hg1
  have x1_2 := g1.keep X1.out
  have x1_3 := g1.keep X2.out
  obtain ⟨_, _⟩ := cells2 x1_0
  have _ := fz x1_0
  have _ := ltb x1_0
  obtain ⟨_, _⟩ := cells2 x1_1
  have _ := fz x1_1
  have _ := ltb x1_1
  obtain ⟨_, _, _⟩ := cells3 x1_2
  have _ := fz x1_2
  have _ := ltb x1_2
  obtain ⟨_, _⟩ := cells2 x1_3
  have _ := fz x1_3
  have _ := ltb x1_3
  have X1_0 := hid x1_0; clear x1_0
  have X1_1 := hid x1_1; clear x1_1
  have X1_2 := hid x1_2; clear x1_2
  have X1_3 := hid x1_3; clear x1_3
  have G1 := hid (g1)
  clear hg1 g1
  go_wp2_with fail
  refine wp_reg1s #[.int .i64 0, .int .i64 0] 13 11 10 12 54 (by kernel_rfl) (by kernel_rfl) rfl rfl (by simp) rfl rfl (by decide) (fun _ _ => by kernel_rfl) (by kernel_rfl) ?_
  apply Exists.intro; apply Exists.intro
  refine ⟨fun wb hb => ?_, ?_⟩
  · obtain ⟨_, _⟩ := hb.at2 X1_0.out
    obtain ⟨_, _⟩ := hb.at2 X1_1.out
    obtain ⟨_, _, _⟩ := hb.at3 X1_2.out
    obtain ⟨_, _⟩ := hb.at2 X1_3.out
    simp only [headOps, List.contains, List.elem, Nat.reduceAdd, Nat.reduceBEq, reduceIte, Bool.false_eq_true, dumOp]
    repeat (first | go_big_quiet_step (first | (go_at_call 65; exact Calls.of_gr (swhole1 _ _)) | (go_at_call 81; exact Calls.of_gr (HDV.out _))) | quiet_step (fail))
    exact wpQuiet_nil rfl
  refine ⟨rfl, ⟨rfl, by simp [Value.oneCell']⟩, fun w2 b2 hg2 _ xb2 => ?_⟩
  have x2_1 := hg2.keep X1_0.out
  have x2_2 := hg2.keep X1_1.out
  have x2_3 := hg2.keep X1_2.out
  have x2_4 := hg2.keep X1_3.out
  obtain ⟨_, _⟩ := cells2 x2_1
  have _ := fz x2_1
  have _ := ltb x2_1
  obtain ⟨_, _⟩ := cells2 x2_2
  have _ := fz x2_2
  have _ := ltb x2_2
  obtain ⟨_, _, _⟩ := cells3 x2_3
  have _ := fz x2_3
  have _ := ltb x2_3
  obtain ⟨_, _⟩ := cells2 x2_4
  have _ := fz x2_4
  have _ := ltb x2_4
  obtain ⟨_, _⟩ := cells2 xb2
  have _ := fz xb2
  have _ := ltb xb2
  have X2_1 := hid x2_1; clear x2_1
  have X2_2 := hid x2_2; clear x2_2
  have X2_3 := hid x2_3; clear x2_3
  have X2_4 := hid x2_4; clear x2_4
  have Xb2 := hid xb2; clear xb2
  have G2 := hid (G1.out.trans hg2)
  clear hg2
  go_wp2_with fail
  refine wp_reg1s #[.int .i64 0, .int .i64 0] 11 9 12 10 63 (by kernel_rfl) (by kernel_rfl) rfl rfl (by simp) rfl rfl (by decide) (fun _ _ => by kernel_rfl) (by kernel_rfl) ?_
  apply Exists.intro; apply Exists.intro
  refine ⟨fun wb hb => ?_, ?_⟩
  · obtain ⟨_, _⟩ := hb.at2 X2_1.out
    obtain ⟨_, _⟩ := hb.at2 X2_2.out
    obtain ⟨_, _, _⟩ := hb.at3 X2_3.out
    obtain ⟨_, _⟩ := hb.at2 X2_4.out
    obtain ⟨_, _⟩ := hb.at2 Xb2.out
    simp only [headOps, List.contains, List.elem, Nat.reduceAdd, Nat.reduceBEq, reduceIte, Bool.false_eq_true, dumOp]
    repeat (first | go_big_quiet_step (first | (go_at_call 115; exact Calls.of_gr (HML.out _))) | quiet_step (fail))
    exact wpQuiet_nil rfl
  refine ⟨rfl, ⟨rfl, by simp [Value.oneCell']⟩, fun w3 b3 hg3 _ xb3 => ?_⟩
  have x3_1 := hg3.keep X2_1.out
  have x3_2 := hg3.keep X2_2.out
  have x3_3 := hg3.keep X2_3.out
  have x3_4 := hg3.keep X2_4.out
  have x3_5 := hg3.keep Xb2.out
  obtain ⟨_, _⟩ := cells2 x3_1
  have _ := fz x3_1
  have _ := ltb x3_1
  obtain ⟨_, _⟩ := cells2 x3_2
  have _ := fz x3_2
  have _ := ltb x3_2
  obtain ⟨_, _, _⟩ := cells3 x3_3
  have _ := fz x3_3
  have _ := ltb x3_3
  obtain ⟨_, _⟩ := cells2 x3_4
  have _ := fz x3_4
  have _ := ltb x3_4
  obtain ⟨_, _⟩ := cells2 x3_5
  have _ := fz x3_5
  have _ := ltb x3_5
  obtain ⟨_, _⟩ := cells2 xb3
  have _ := fz xb3
  have _ := ltb xb3
  have X3_1 := hid x3_1; clear x3_1
  have X3_2 := hid x3_2; clear x3_2
  have X3_3 := hid x3_3; clear x3_3
  have X3_4 := hid x3_4; clear x3_4
  have X3_5 := hid x3_5; clear x3_5
  have Xb3 := hid xb3; clear xb3
  have G3 := hid (G2.out.trans hg3)
  clear hg3
  go_wp2
  refine bodyPost_ret (v := .tuple #[fr 0 0, .int .i64 3]) (by simp [results, Try.results96, go_sem, *]) rfl ⟨rfl, ?_⟩
  exact ((G3.out).setCell (by simp <;> omega) _).setCell (by simp <;> omega) _
set_option maxRecDepth 20000 in
set_option maxHeartbeats 1000000 in
theorem srd_c1 (a b x y g0 g1 p0 p1 : Int) (R N : Nat) (A : Option Addr) (c : Nat) (xs : List (Int × Int)) (w : World) (k1 k2 : Nat) (X1 : Hid (w.heap[k1]? = some (.cells #[.int .i64 a, .int .i64 b, .slice A xs.length c] 32))) (X2 : Hid (w.heap[k2]? = some (.cells #[.int .i64 N, .bool true] 53))) (hRN : R < N) (hN : N ≤ 40) (hR0 : ((R : Int) == 0) = false)
    (hLF : ∀ w', Gr w w' → Calls Try.prog 92 #[.pointer (some ⟨k1, 0, none⟩), .pointer (some ⟨k2, 0, none⟩), fr x y] w' fun e w'' => e = .returned (.tuple #[.int .i64 (R : Int), .int .i64 0]) ∧ Gr w' w'')
    (hDV : ∀ w, Calls Try.prog 81 #[fr ((N : Int) - (R : Int)) 1, fr N 1] w fun e w' => e = .returned (.tuple #[fr g0 g1, .int .i64 0]) ∧ Gr w w')
    (hML : ∀ w, Calls Try.prog 115 #[fr g0 g1, fr a b] w fun e w' => e = .returned (.tuple #[fr p0 p1, .int .i64 0]) ∧ Gr w w')
    (hSB : ∀ w, Calls Try.prog 120 #[fr x y, fr p0 p1] w fun e w' => e = .returned (.tuple #[fr 0 0, .int .i64 3]) ∧ Gr w w') :
    Calls Try.prog 96 #[.pointer (some ⟨k1, 0, none⟩), .pointer (some ⟨k2, 0, none⟩), fr x y] w fun e w' => e = .returned (.tuple #[fr 0 0, .int .i64 3]) ∧ Gr w w' := by
  have HLF := hid hLF
  have HDV := hid hDV
  have HML := hid hML
  have HSB := hid hSB
  have _ := hRN
  have _ := hN
  have _ := hR0
  clear hLF hDV hML hSB
  go_enter Try.func96, Try.ntmps96
  obtain ⟨_, _, _⟩ := cells3 X1.out
  have _ := fz X1.out
  have _ := ltb X1.out
  obtain ⟨_, _⟩ := cells2 X2.out
  have _ := fz X2.out
  have _ := ltb X2.out
  go_wp2_with fail
  refine (HLF.out _ (((Gr.refl w).al _).al _)).mono ?_
  rintro e w1 ⟨rfl, hg1⟩
  obtain ⟨x1_0, x1_1, hz1, g1⟩ := alloc2 hg1
  have x1_2 := g1.keep X1.out
  have x1_3 := g1.keep X2.out
  obtain ⟨_, _⟩ := cells2 x1_0
  have _ := fz x1_0
  have _ := ltb x1_0
  obtain ⟨_, _⟩ := cells2 x1_1
  have _ := fz x1_1
  have _ := ltb x1_1
  obtain ⟨_, _, _⟩ := cells3 x1_2
  have _ := fz x1_2
  have _ := ltb x1_2
  obtain ⟨_, _⟩ := cells2 x1_3
  have _ := fz x1_3
  have _ := ltb x1_3
  have X1_0 := hid x1_0; clear x1_0
  have X1_1 := hid x1_1; clear x1_1
  have X1_2 := hid x1_2; clear x1_2
  have X1_3 := hid x1_3; clear x1_3
  have G1 := hid (g1)
  clear hg1 g1
  go_wp2_with fail
  refine wp_reg1s #[.int .i64 0, .int .i64 0] 13 11 10 12 54 (by kernel_rfl) (by kernel_rfl) rfl rfl (by simp) rfl rfl (by decide) (fun _ _ => by kernel_rfl) (by kernel_rfl) ?_
  apply Exists.intro; apply Exists.intro
  refine ⟨fun wb hb => ?_, ?_⟩
  · obtain ⟨_, _⟩ := hb.at2 X1_0.out
    obtain ⟨_, _⟩ := hb.at2 X1_1.out
    obtain ⟨_, _, _⟩ := hb.at3 X1_2.out
    obtain ⟨_, _⟩ := hb.at2 X1_3.out
    simp only [headOps, List.contains, List.elem, Nat.reduceAdd, Nat.reduceBEq, reduceIte, Bool.false_eq_true, dumOp]
    repeat (first | go_big_quiet_step (first | (go_at_call 65; exact Calls.of_gr (swhole1 _ _)) | (go_at_call 81; exact Calls.of_gr (HDV.out _))) | quiet_step (fail))
    exact wpQuiet_nil rfl
  refine ⟨rfl, ⟨rfl, by simp [Value.oneCell']⟩, fun w2 b2 hg2 _ xb2 => ?_⟩
  have x2_1 := hg2.keep X1_0.out
  have x2_2 := hg2.keep X1_1.out
  have x2_3 := hg2.keep X1_2.out
  have x2_4 := hg2.keep X1_3.out
  obtain ⟨_, _⟩ := cells2 x2_1
  have _ := fz x2_1
  have _ := ltb x2_1
  obtain ⟨_, _⟩ := cells2 x2_2
  have _ := fz x2_2
  have _ := ltb x2_2
  obtain ⟨_, _, _⟩ := cells3 x2_3
  have _ := fz x2_3
  have _ := ltb x2_3
  obtain ⟨_, _⟩ := cells2 x2_4
  have _ := fz x2_4
  have _ := ltb x2_4
  obtain ⟨_, _⟩ := cells2 xb2
  have _ := fz xb2
  have _ := ltb xb2
  have X2_1 := hid x2_1; clear x2_1
  have X2_2 := hid x2_2; clear x2_2
  have X2_3 := hid x2_3; clear x2_3
  have X2_4 := hid x2_4; clear x2_4
  have Xb2 := hid xb2; clear xb2
  have G2 := hid (G1.out.trans hg2)
  clear hg2
  go_wp2_with fail
  refine wp_reg1s #[.int .i64 0, .int .i64 0] 11 9 12 10 63 (by kernel_rfl) (by kernel_rfl) rfl rfl (by simp) rfl rfl (by decide) (fun _ _ => by kernel_rfl) (by kernel_rfl) ?_
  apply Exists.intro; apply Exists.intro
  refine ⟨fun wb hb => ?_, ?_⟩
  · obtain ⟨_, _⟩ := hb.at2 X2_1.out
    obtain ⟨_, _⟩ := hb.at2 X2_2.out
    obtain ⟨_, _, _⟩ := hb.at3 X2_3.out
    obtain ⟨_, _⟩ := hb.at2 X2_4.out
    obtain ⟨_, _⟩ := hb.at2 Xb2.out
    simp only [headOps, List.contains, List.elem, Nat.reduceAdd, Nat.reduceBEq, reduceIte, Bool.false_eq_true, dumOp]
    repeat (first | go_big_quiet_step (first | (go_at_call 115; exact Calls.of_gr (HML.out _))) | quiet_step (fail))
    exact wpQuiet_nil rfl
  refine ⟨rfl, ⟨rfl, by simp [Value.oneCell']⟩, fun w3 b3 hg3 _ xb3 => ?_⟩
  have x3_1 := hg3.keep X2_1.out
  have x3_2 := hg3.keep X2_2.out
  have x3_3 := hg3.keep X2_3.out
  have x3_4 := hg3.keep X2_4.out
  have x3_5 := hg3.keep Xb2.out
  obtain ⟨_, _⟩ := cells2 x3_1
  have _ := fz x3_1
  have _ := ltb x3_1
  obtain ⟨_, _⟩ := cells2 x3_2
  have _ := fz x3_2
  have _ := ltb x3_2
  obtain ⟨_, _, _⟩ := cells3 x3_3
  have _ := fz x3_3
  have _ := ltb x3_3
  obtain ⟨_, _⟩ := cells2 x3_4
  have _ := fz x3_4
  have _ := ltb x3_4
  obtain ⟨_, _⟩ := cells2 x3_5
  have _ := fz x3_5
  have _ := ltb x3_5
  obtain ⟨_, _⟩ := cells2 xb3
  have _ := fz xb3
  have _ := ltb xb3
  have X3_1 := hid x3_1; clear x3_1
  have X3_2 := hid x3_2; clear x3_2
  have X3_3 := hid x3_3; clear x3_3
  have X3_4 := hid x3_4; clear x3_4
  have X3_5 := hid x3_5; clear x3_5
  have Xb3 := hid xb3; clear xb3
  have G3 := hid (G2.out.trans hg3)
  clear hg3
  go_wp2_with fail
  refine (HSB.out _).mono ?_
  rintro e w4 ⟨rfl, hg4⟩
  have x4_1 := hg4.keep X3_1.out
  have x4_2 := hg4.keep X3_2.out
  have x4_3 := hg4.keep X3_3.out
  have x4_4 := hg4.keep X3_4.out
  have x4_5 := hg4.keep X3_5.out
  have x4_6 := hg4.keep Xb3.out
  obtain ⟨_, _⟩ := cells2 x4_1
  have _ := fz x4_1
  have _ := ltb x4_1
  obtain ⟨_, _⟩ := cells2 x4_2
  have _ := fz x4_2
  have _ := ltb x4_2
  obtain ⟨_, _, _⟩ := cells3 x4_3
  have _ := fz x4_3
  have _ := ltb x4_3
  obtain ⟨_, _⟩ := cells2 x4_4
  have _ := fz x4_4
  have _ := ltb x4_4
  obtain ⟨_, _⟩ := cells2 x4_5
  have _ := fz x4_5
  have _ := ltb x4_5
  obtain ⟨_, _⟩ := cells2 x4_6
  have _ := fz x4_6
  have _ := ltb x4_6
  have X4_1 := hid x4_1; clear x4_1
  have X4_2 := hid x4_2; clear x4_2
  have X4_3 := hid x4_3; clear x4_3
  have X4_4 := hid x4_4; clear x4_4
  have X4_5 := hid x4_5; clear x4_5
  have X4_6 := hid x4_6; clear x4_6
  have G4 := hid (G3.out.trans hg4)
  clear hg4
  go_wp2
  refine bodyPost_ret (v := .tuple #[fr 0 0, .int .i64 3]) (by simp [results, Try.results96, go_sem, *]) rfl ⟨rfl, ?_⟩
  exact (((G4.out).setCell (by simp <;> omega) _).setCell (by simp <;> omega) _).al _
set_option maxRecDepth 20000 in
set_option maxHeartbeats 1000000 in
theorem srd_c2 (a b x y g0 g1 p0 p1 d0 d1 nn : Int) (R N : Nat) (A : Option Addr) (c : Nat) (xs : List (Int × Int)) (w : World) (k1 k2 : Nat) (X1 : Hid (w.heap[k1]? = some (.cells #[.int .i64 a, .int .i64 b, .slice A xs.length c] 32))) (X2 : Hid (w.heap[k2]? = some (.cells #[.int .i64 N, .bool true] 53))) (hRN : R < N) (hN : N ≤ 40) (hR0 : ((R : Int) == 0) = false)
    (hLF : ∀ w', Gr w w' → Calls Try.prog 92 #[.pointer (some ⟨k1, 0, none⟩), .pointer (some ⟨k2, 0, none⟩), fr x y] w' fun e w'' => e = .returned (.tuple #[.int .i64 (R : Int), .int .i64 0]) ∧ Gr w' w'')
    (hDV : ∀ w, Calls Try.prog 81 #[fr ((N : Int) - (R : Int)) 1, fr N 1] w fun e w' => e = .returned (.tuple #[fr g0 g1, .int .i64 0]) ∧ Gr w w')
    (hML : ∀ w, Calls Try.prog 115 #[fr g0 g1, fr a b] w fun e w' => e = .returned (.tuple #[fr p0 p1, .int .i64 0]) ∧ Gr w w')
    (hSB : ∀ w, Calls Try.prog 120 #[fr x y, fr p0 p1] w fun e w' => e = .returned (.tuple #[fr d0 d1, .int .i64 0]) ∧ Gr w w')
    (hNE : ∀ w, Calls Try.prog 130 #[fr d0 d1, fr a b] w fun e w' => e = .returned (.int .i64 nn) ∧ Gr w w')
    (hIN : ∀ w, Calls Try.prog 129 #[.int .i64 nn] w fun e w' => e = .returned (.tuple #[.int .i64 0, .int .i64 3]) ∧ Gr w w') :
    Calls Try.prog 96 #[.pointer (some ⟨k1, 0, none⟩), .pointer (some ⟨k2, 0, none⟩), fr x y] w fun e w' => e = .returned (.tuple #[fr 0 0, .int .i64 3]) ∧ Gr w w' := by
  have HLF := hid hLF
  have HDV := hid hDV
  have HML := hid hML
  have HSB := hid hSB
  have HNE := hid hNE
  have HIN := hid hIN
  have _ := hRN
  have _ := hN
  have _ := hR0
  clear hLF hDV hML hSB hNE hIN
  go_enter Try.func96, Try.ntmps96
  obtain ⟨_, _, _⟩ := cells3 X1.out
  have _ := fz X1.out
  have _ := ltb X1.out
  obtain ⟨_, _⟩ := cells2 X2.out
  have _ := fz X2.out
  have _ := ltb X2.out
  go_wp2_with fail
  refine (HLF.out _ (((Gr.refl w).al _).al _)).mono ?_
  rintro e w1 ⟨rfl, hg1⟩
  obtain ⟨x1_0, x1_1, hz1, g1⟩ := alloc2 hg1
  have x1_2 := g1.keep X1.out
  have x1_3 := g1.keep X2.out
  obtain ⟨_, _⟩ := cells2 x1_0
  have _ := fz x1_0
  have _ := ltb x1_0
  obtain ⟨_, _⟩ := cells2 x1_1
  have _ := fz x1_1
  have _ := ltb x1_1
  obtain ⟨_, _, _⟩ := cells3 x1_2
  have _ := fz x1_2
  have _ := ltb x1_2
  obtain ⟨_, _⟩ := cells2 x1_3
  have _ := fz x1_3
  have _ := ltb x1_3
  have X1_0 := hid x1_0; clear x1_0
  have X1_1 := hid x1_1; clear x1_1
  have X1_2 := hid x1_2; clear x1_2
  have X1_3 := hid x1_3; clear x1_3
  have G1 := hid (g1)
  clear hg1 g1
  go_wp2_with fail
  refine wp_reg1s #[.int .i64 0, .int .i64 0] 13 11 10 12 54 (by kernel_rfl) (by kernel_rfl) rfl rfl (by simp) rfl rfl (by decide) (fun _ _ => by kernel_rfl) (by kernel_rfl) ?_
  apply Exists.intro; apply Exists.intro
  refine ⟨fun wb hb => ?_, ?_⟩
  · obtain ⟨_, _⟩ := hb.at2 X1_0.out
    obtain ⟨_, _⟩ := hb.at2 X1_1.out
    obtain ⟨_, _, _⟩ := hb.at3 X1_2.out
    obtain ⟨_, _⟩ := hb.at2 X1_3.out
    simp only [headOps, List.contains, List.elem, Nat.reduceAdd, Nat.reduceBEq, reduceIte, Bool.false_eq_true, dumOp]
    repeat (first | go_big_quiet_step (first | (go_at_call 65; exact Calls.of_gr (swhole1 _ _)) | (go_at_call 81; exact Calls.of_gr (HDV.out _))) | quiet_step (fail))
    exact wpQuiet_nil rfl
  refine ⟨rfl, ⟨rfl, by simp [Value.oneCell']⟩, fun w2 b2 hg2 _ xb2 => ?_⟩
  have x2_1 := hg2.keep X1_0.out
  have x2_2 := hg2.keep X1_1.out
  have x2_3 := hg2.keep X1_2.out
  have x2_4 := hg2.keep X1_3.out
  obtain ⟨_, _⟩ := cells2 x2_1
  have _ := fz x2_1
  have _ := ltb x2_1
  obtain ⟨_, _⟩ := cells2 x2_2
  have _ := fz x2_2
  have _ := ltb x2_2
  obtain ⟨_, _, _⟩ := cells3 x2_3
  have _ := fz x2_3
  have _ := ltb x2_3
  obtain ⟨_, _⟩ := cells2 x2_4
  have _ := fz x2_4
  have _ := ltb x2_4
  obtain ⟨_, _⟩ := cells2 xb2
  have _ := fz xb2
  have _ := ltb xb2
  have X2_1 := hid x2_1; clear x2_1
  have X2_2 := hid x2_2; clear x2_2
  have X2_3 := hid x2_3; clear x2_3
  have X2_4 := hid x2_4; clear x2_4
  have Xb2 := hid xb2; clear xb2
  have G2 := hid (G1.out.trans hg2)
  clear hg2
  go_wp2_with fail
  refine wp_reg1s #[.int .i64 0, .int .i64 0] 11 9 12 10 63 (by kernel_rfl) (by kernel_rfl) rfl rfl (by simp) rfl rfl (by decide) (fun _ _ => by kernel_rfl) (by kernel_rfl) ?_
  apply Exists.intro; apply Exists.intro
  refine ⟨fun wb hb => ?_, ?_⟩
  · obtain ⟨_, _⟩ := hb.at2 X2_1.out
    obtain ⟨_, _⟩ := hb.at2 X2_2.out
    obtain ⟨_, _, _⟩ := hb.at3 X2_3.out
    obtain ⟨_, _⟩ := hb.at2 X2_4.out
    obtain ⟨_, _⟩ := hb.at2 Xb2.out
    simp only [headOps, List.contains, List.elem, Nat.reduceAdd, Nat.reduceBEq, reduceIte, Bool.false_eq_true, dumOp]
    repeat (first | go_big_quiet_step (first | (go_at_call 115; exact Calls.of_gr (HML.out _))) | quiet_step (fail))
    exact wpQuiet_nil rfl
  refine ⟨rfl, ⟨rfl, by simp [Value.oneCell']⟩, fun w3 b3 hg3 _ xb3 => ?_⟩
  have x3_1 := hg3.keep X2_1.out
  have x3_2 := hg3.keep X2_2.out
  have x3_3 := hg3.keep X2_3.out
  have x3_4 := hg3.keep X2_4.out
  have x3_5 := hg3.keep Xb2.out
  obtain ⟨_, _⟩ := cells2 x3_1
  have _ := fz x3_1
  have _ := ltb x3_1
  obtain ⟨_, _⟩ := cells2 x3_2
  have _ := fz x3_2
  have _ := ltb x3_2
  obtain ⟨_, _, _⟩ := cells3 x3_3
  have _ := fz x3_3
  have _ := ltb x3_3
  obtain ⟨_, _⟩ := cells2 x3_4
  have _ := fz x3_4
  have _ := ltb x3_4
  obtain ⟨_, _⟩ := cells2 x3_5
  have _ := fz x3_5
  have _ := ltb x3_5
  obtain ⟨_, _⟩ := cells2 xb3
  have _ := fz xb3
  have _ := ltb xb3
  have X3_1 := hid x3_1; clear x3_1
  have X3_2 := hid x3_2; clear x3_2
  have X3_3 := hid x3_3; clear x3_3
  have X3_4 := hid x3_4; clear x3_4
  have X3_5 := hid x3_5; clear x3_5
  have Xb3 := hid xb3; clear xb3
  have G3 := hid (G2.out.trans hg3)
  clear hg3
  go_wp2_with fail
  refine (HSB.out _).mono ?_
  rintro e w4 ⟨rfl, hg4⟩
  have x4_1 := hg4.keep X3_1.out
  have x4_2 := hg4.keep X3_2.out
  have x4_3 := hg4.keep X3_3.out
  have x4_4 := hg4.keep X3_4.out
  have x4_5 := hg4.keep X3_5.out
  have x4_6 := hg4.keep Xb3.out
  obtain ⟨_, _⟩ := cells2 x4_1
  have _ := fz x4_1
  have _ := ltb x4_1
  obtain ⟨_, _⟩ := cells2 x4_2
  have _ := fz x4_2
  have _ := ltb x4_2
  obtain ⟨_, _, _⟩ := cells3 x4_3
  have _ := fz x4_3
  have _ := ltb x4_3
  obtain ⟨_, _⟩ := cells2 x4_4
  have _ := fz x4_4
  have _ := ltb x4_4
  obtain ⟨_, _⟩ := cells2 x4_5
  have _ := fz x4_5
  have _ := ltb x4_5
  obtain ⟨_, _⟩ := cells2 x4_6
  have _ := fz x4_6
  have _ := ltb x4_6
  have X4_1 := hid x4_1; clear x4_1
  have X4_2 := hid x4_2; clear x4_2
  have X4_3 := hid x4_3; clear x4_3
  have X4_4 := hid x4_4; clear x4_4
  have X4_5 := hid x4_5; clear x4_5
  have X4_6 := hid x4_6; clear x4_6
  have G4 := hid (G3.out.trans hg4)
  clear hg4
  go_wp2_with fail
  refine wp_reg0 11 (by kernel_rfl) (by kernel_rfl) ?_
  apply Exists.intro
  refine ⟨fun wb hb => ?_, ?_⟩
  · obtain ⟨_, _⟩ := hb.at2 (((Gr.refl _).al _).keep X4_1.out)
    obtain ⟨_, _⟩ := hb.at2 (((Gr.refl _).al _).keep X4_2.out)
    obtain ⟨_, _, _⟩ := hb.at3 (((Gr.refl _).al _).keep X4_3.out)
    obtain ⟨_, _⟩ := hb.at2 (((Gr.refl _).al _).keep X4_4.out)
    obtain ⟨_, _⟩ := hb.at2 (((Gr.refl _).al _).keep X4_5.out)
    obtain ⟨_, _⟩ := hb.at2 (((Gr.refl _).al _).keep X4_6.out)
    obtain ⟨_, _⟩ := hb.at2 (alloc1 (Gr.refl _)).1
    simp only [headOps, List.contains, List.elem, reduceIte, Bool.false_eq_true]
    repeat (first | go_big_quiet_step (first | (go_at_call 130; exact Calls.of_gr (HNE.out _)) | (go_at_call 129; exact Calls.of_gr (HIN.out _))) | quiet_step (fail))
    exact wpQuiet_nil rfl
  intro w5 hg5
  obtain ⟨x5_0, hz5, g5⟩ := alloc1 hg5
  have x5_1 := g5.keep X4_1.out
  have x5_2 := g5.keep X4_2.out
  have x5_3 := g5.keep X4_3.out
  have x5_4 := g5.keep X4_4.out
  have x5_5 := g5.keep X4_5.out
  have x5_6 := g5.keep X4_6.out
  obtain ⟨_, _⟩ := cells2 x5_1
  have _ := fz x5_1
  have _ := ltb x5_1
  obtain ⟨_, _⟩ := cells2 x5_2
  have _ := fz x5_2
  have _ := ltb x5_2
  obtain ⟨_, _, _⟩ := cells3 x5_3
  have _ := fz x5_3
  have _ := ltb x5_3
  obtain ⟨_, _⟩ := cells2 x5_4
  have _ := fz x5_4
  have _ := ltb x5_4
  obtain ⟨_, _⟩ := cells2 x5_5
  have _ := fz x5_5
  have _ := ltb x5_5
  obtain ⟨_, _⟩ := cells2 x5_6
  have _ := fz x5_6
  have _ := ltb x5_6
  obtain ⟨_, _⟩ := cells2 x5_0
  have _ := fz x5_0
  have _ := ltb x5_0
  have X5_1 := hid x5_1; clear x5_1
  have X5_2 := hid x5_2; clear x5_2
  have X5_3 := hid x5_3; clear x5_3
  have X5_4 := hid x5_4; clear x5_4
  have X5_5 := hid x5_5; clear x5_5
  have X5_6 := hid x5_6; clear x5_6
  have X5_0 := hid x5_0; clear x5_0
  have G5 := hid (G4.out.trans g5)
  clear hg5 g5
  go_wp2
  refine bodyPost_ret (v := .tuple #[fr 0 0, .int .i64 3]) (by simp [results, Try.results96, go_sem, *]) rfl ⟨rfl, ?_⟩
  exact ((G5.out).setCell (by simp <;> omega) _).setCell (by simp <;> omega) _
set_option maxRecDepth 20000 in
set_option maxHeartbeats 1000000 in
theorem srd_c3 (a b x y g0 g1 p0 p1 d0 d1 nn : Int) (R N : Nat) (A : Option Addr) (c : Nat) (xs : List (Int × Int)) (w : World) (k1 k2 : Nat) (X1 : Hid (w.heap[k1]? = some (.cells #[.int .i64 a, .int .i64 b, .slice A xs.length c] 32))) (X2 : Hid (w.heap[k2]? = some (.cells #[.int .i64 N, .bool true] 53))) (hRN : R < N) (hN : N ≤ 40) (hR0 : ((R : Int) == 0) = false)
    (hLF : ∀ w', Gr w w' → Calls Try.prog 92 #[.pointer (some ⟨k1, 0, none⟩), .pointer (some ⟨k2, 0, none⟩), fr x y] w' fun e w'' => e = .returned (.tuple #[.int .i64 (R : Int), .int .i64 0]) ∧ Gr w' w'')
    (hDV : ∀ w, Calls Try.prog 81 #[fr ((N : Int) - (R : Int)) 1, fr N 1] w fun e w' => e = .returned (.tuple #[fr g0 g1, .int .i64 0]) ∧ Gr w w')
    (hML : ∀ w, Calls Try.prog 115 #[fr g0 g1, fr a b] w fun e w' => e = .returned (.tuple #[fr p0 p1, .int .i64 0]) ∧ Gr w w')
    (hSB : ∀ w, Calls Try.prog 120 #[fr x y, fr p0 p1] w fun e w' => e = .returned (.tuple #[fr d0 d1, .int .i64 0]) ∧ Gr w w')
    (hNE : ∀ w, Calls Try.prog 130 #[fr d0 d1, fr a b] w fun e w' => e = .returned (.int .i64 nn) ∧ Gr w w')
    (hIN : ∀ w, Calls Try.prog 129 #[.int .i64 nn] w fun e w' => e = .returned (.tuple #[.int .i64 nn, .int .i64 0]) ∧ Gr w w')
    (hMW : ∀ w, Calls Try.prog 115 #[fr nn 1, fr a b] w fun e w' => e = .returned (.tuple #[fr 0 0, .int .i64 3]) ∧ Gr w w') :
    Calls Try.prog 96 #[.pointer (some ⟨k1, 0, none⟩), .pointer (some ⟨k2, 0, none⟩), fr x y] w fun e w' => e = .returned (.tuple #[fr 0 0, .int .i64 3]) ∧ Gr w w' := by
  have HLF := hid hLF
  have HDV := hid hDV
  have HML := hid hML
  have HSB := hid hSB
  have HNE := hid hNE
  have HIN := hid hIN
  have HMW := hid hMW
  have _ := hRN
  have _ := hN
  have _ := hR0
  clear hLF hDV hML hSB hNE hIN hMW
  go_enter Try.func96, Try.ntmps96
  obtain ⟨_, _, _⟩ := cells3 X1.out
  have _ := fz X1.out
  have _ := ltb X1.out
  obtain ⟨_, _⟩ := cells2 X2.out
  have _ := fz X2.out
  have _ := ltb X2.out
  go_wp2_with fail
  refine (HLF.out _ (((Gr.refl w).al _).al _)).mono ?_
  rintro e w1 ⟨rfl, hg1⟩
  obtain ⟨x1_0, x1_1, hz1, g1⟩ := alloc2 hg1
  have x1_2 := g1.keep X1.out
  have x1_3 := g1.keep X2.out
  obtain ⟨_, _⟩ := cells2 x1_0
  have _ := fz x1_0
  have _ := ltb x1_0
  obtain ⟨_, _⟩ := cells2 x1_1
  have _ := fz x1_1
  have _ := ltb x1_1
  obtain ⟨_, _, _⟩ := cells3 x1_2
  have _ := fz x1_2
  have _ := ltb x1_2
  obtain ⟨_, _⟩ := cells2 x1_3
  have _ := fz x1_3
  have _ := ltb x1_3
  have X1_0 := hid x1_0; clear x1_0
  have X1_1 := hid x1_1; clear x1_1
  have X1_2 := hid x1_2; clear x1_2
  have X1_3 := hid x1_3; clear x1_3
  have G1 := hid (g1)
  clear hg1 g1
  go_wp2_with fail
  refine wp_reg1s #[.int .i64 0, .int .i64 0] 13 11 10 12 54 (by kernel_rfl) (by kernel_rfl) rfl rfl (by simp) rfl rfl (by decide) (fun _ _ => by kernel_rfl) (by kernel_rfl) ?_
  apply Exists.intro; apply Exists.intro
  refine ⟨fun wb hb => ?_, ?_⟩
  · obtain ⟨_, _⟩ := hb.at2 X1_0.out
    obtain ⟨_, _⟩ := hb.at2 X1_1.out
    obtain ⟨_, _, _⟩ := hb.at3 X1_2.out
    obtain ⟨_, _⟩ := hb.at2 X1_3.out
    simp only [headOps, List.contains, List.elem, Nat.reduceAdd, Nat.reduceBEq, reduceIte, Bool.false_eq_true, dumOp]
    repeat (first | go_big_quiet_step (first | (go_at_call 65; exact Calls.of_gr (swhole1 _ _)) | (go_at_call 81; exact Calls.of_gr (HDV.out _))) | quiet_step (fail))
    exact wpQuiet_nil rfl
  refine ⟨rfl, ⟨rfl, by simp [Value.oneCell']⟩, fun w2 b2 hg2 _ xb2 => ?_⟩
  have x2_1 := hg2.keep X1_0.out
  have x2_2 := hg2.keep X1_1.out
  have x2_3 := hg2.keep X1_2.out
  have x2_4 := hg2.keep X1_3.out
  obtain ⟨_, _⟩ := cells2 x2_1
  have _ := fz x2_1
  have _ := ltb x2_1
  obtain ⟨_, _⟩ := cells2 x2_2
  have _ := fz x2_2
  have _ := ltb x2_2
  obtain ⟨_, _, _⟩ := cells3 x2_3
  have _ := fz x2_3
  have _ := ltb x2_3
  obtain ⟨_, _⟩ := cells2 x2_4
  have _ := fz x2_4
  have _ := ltb x2_4
  obtain ⟨_, _⟩ := cells2 xb2
  have _ := fz xb2
  have _ := ltb xb2
  have X2_1 := hid x2_1; clear x2_1
  have X2_2 := hid x2_2; clear x2_2
  have X2_3 := hid x2_3; clear x2_3
  have X2_4 := hid x2_4; clear x2_4
  have Xb2 := hid xb2; clear xb2
  have G2 := hid (G1.out.trans hg2)
  clear hg2
  go_wp2_with fail
  refine wp_reg1s #[.int .i64 0, .int .i64 0] 11 9 12 10 63 (by kernel_rfl) (by kernel_rfl) rfl rfl (by simp) rfl rfl (by decide) (fun _ _ => by kernel_rfl) (by kernel_rfl) ?_
  apply Exists.intro; apply Exists.intro
  refine ⟨fun wb hb => ?_, ?_⟩
  · obtain ⟨_, _⟩ := hb.at2 X2_1.out
    obtain ⟨_, _⟩ := hb.at2 X2_2.out
    obtain ⟨_, _, _⟩ := hb.at3 X2_3.out
    obtain ⟨_, _⟩ := hb.at2 X2_4.out
    obtain ⟨_, _⟩ := hb.at2 Xb2.out
    simp only [headOps, List.contains, List.elem, Nat.reduceAdd, Nat.reduceBEq, reduceIte, Bool.false_eq_true, dumOp]
    repeat (first | go_big_quiet_step (first | (go_at_call 115; exact Calls.of_gr (HML.out _))) | quiet_step (fail))
    exact wpQuiet_nil rfl
  refine ⟨rfl, ⟨rfl, by simp [Value.oneCell']⟩, fun w3 b3 hg3 _ xb3 => ?_⟩
  have x3_1 := hg3.keep X2_1.out
  have x3_2 := hg3.keep X2_2.out
  have x3_3 := hg3.keep X2_3.out
  have x3_4 := hg3.keep X2_4.out
  have x3_5 := hg3.keep Xb2.out
  obtain ⟨_, _⟩ := cells2 x3_1
  have _ := fz x3_1
  have _ := ltb x3_1
  obtain ⟨_, _⟩ := cells2 x3_2
  have _ := fz x3_2
  have _ := ltb x3_2
  obtain ⟨_, _, _⟩ := cells3 x3_3
  have _ := fz x3_3
  have _ := ltb x3_3
  obtain ⟨_, _⟩ := cells2 x3_4
  have _ := fz x3_4
  have _ := ltb x3_4
  obtain ⟨_, _⟩ := cells2 x3_5
  have _ := fz x3_5
  have _ := ltb x3_5
  obtain ⟨_, _⟩ := cells2 xb3
  have _ := fz xb3
  have _ := ltb xb3
  have X3_1 := hid x3_1; clear x3_1
  have X3_2 := hid x3_2; clear x3_2
  have X3_3 := hid x3_3; clear x3_3
  have X3_4 := hid x3_4; clear x3_4
  have X3_5 := hid x3_5; clear x3_5
  have Xb3 := hid xb3; clear xb3
  have G3 := hid (G2.out.trans hg3)
  clear hg3
  go_wp2_with fail
  refine (HSB.out _).mono ?_
  rintro e w4 ⟨rfl, hg4⟩
  have x4_1 := hg4.keep X3_1.out
  have x4_2 := hg4.keep X3_2.out
  have x4_3 := hg4.keep X3_3.out
  have x4_4 := hg4.keep X3_4.out
  have x4_5 := hg4.keep X3_5.out
  have x4_6 := hg4.keep Xb3.out
  obtain ⟨_, _⟩ := cells2 x4_1
  have _ := fz x4_1
  have _ := ltb x4_1
  obtain ⟨_, _⟩ := cells2 x4_2
  have _ := fz x4_2
  have _ := ltb x4_2
  obtain ⟨_, _, _⟩ := cells3 x4_3
  have _ := fz x4_3
  have _ := ltb x4_3
  obtain ⟨_, _⟩ := cells2 x4_4
  have _ := fz x4_4
  have _ := ltb x4_4
  obtain ⟨_, _⟩ := cells2 x4_5
  have _ := fz x4_5
  have _ := ltb x4_5
  obtain ⟨_, _⟩ := cells2 x4_6
  have _ := fz x4_6
  have _ := ltb x4_6
  have X4_1 := hid x4_1; clear x4_1
  have X4_2 := hid x4_2; clear x4_2
  have X4_3 := hid x4_3; clear x4_3
  have X4_4 := hid x4_4; clear x4_4
  have X4_5 := hid x4_5; clear x4_5
  have X4_6 := hid x4_6; clear x4_6
  have G4 := hid (G3.out.trans hg4)
  clear hg4
  go_wp2_with fail
  refine wp_reg0 11 (by kernel_rfl) (by kernel_rfl) ?_
  apply Exists.intro
  refine ⟨fun wb hb => ?_, ?_⟩
  · obtain ⟨_, _⟩ := hb.at2 (((Gr.refl _).al _).keep X4_1.out)
    obtain ⟨_, _⟩ := hb.at2 (((Gr.refl _).al _).keep X4_2.out)
    obtain ⟨_, _, _⟩ := hb.at3 (((Gr.refl _).al _).keep X4_3.out)
    obtain ⟨_, _⟩ := hb.at2 (((Gr.refl _).al _).keep X4_4.out)
    obtain ⟨_, _⟩ := hb.at2 (((Gr.refl _).al _).keep X4_5.out)
    obtain ⟨_, _⟩ := hb.at2 (((Gr.refl _).al _).keep X4_6.out)
    obtain ⟨_, _⟩ := hb.at2 (alloc1 (Gr.refl _)).1
    simp only [headOps, List.contains, List.elem, reduceIte, Bool.false_eq_true]
    repeat (first | go_big_quiet_step (first | (go_at_call 130; exact Calls.of_gr (HNE.out _)) | (go_at_call 129; exact Calls.of_gr (HIN.out _))) | quiet_step (fail))
    exact wpQuiet_nil rfl
  intro w5 hg5
  obtain ⟨x5_0, hz5, g5⟩ := alloc1 hg5
  have x5_1 := g5.keep X4_1.out
  have x5_2 := g5.keep X4_2.out
  have x5_3 := g5.keep X4_3.out
  have x5_4 := g5.keep X4_4.out
  have x5_5 := g5.keep X4_5.out
  have x5_6 := g5.keep X4_6.out
  obtain ⟨_, _⟩ := cells2 x5_1
  have _ := fz x5_1
  have _ := ltb x5_1
  obtain ⟨_, _⟩ := cells2 x5_2
  have _ := fz x5_2
  have _ := ltb x5_2
  obtain ⟨_, _, _⟩ := cells3 x5_3
  have _ := fz x5_3
  have _ := ltb x5_3
  obtain ⟨_, _⟩ := cells2 x5_4
  have _ := fz x5_4
  have _ := ltb x5_4
  obtain ⟨_, _⟩ := cells2 x5_5
  have _ := fz x5_5
  have _ := ltb x5_5
  obtain ⟨_, _⟩ := cells2 x5_6
  have _ := fz x5_6
  have _ := ltb x5_6
  obtain ⟨_, _⟩ := cells2 x5_0
  have _ := fz x5_0
  have _ := ltb x5_0
  have X5_1 := hid x5_1; clear x5_1
  have X5_2 := hid x5_2; clear x5_2
  have X5_3 := hid x5_3; clear x5_3
  have X5_4 := hid x5_4; clear x5_4
  have X5_5 := hid x5_5; clear x5_5
  have X5_6 := hid x5_6; clear x5_6
  have X5_0 := hid x5_0; clear x5_0
  have G5 := hid (G4.out.trans g5)
  clear hg5 g5
  go_wp2_with fail
  refine wp_reg1s #[.int .i64 0, .int .i64 0] 12 10 18 11 101 (by kernel_rfl) (by kernel_rfl) rfl rfl (by simp) rfl rfl (by decide) (fun _ _ => by kernel_rfl) (by kernel_rfl) ?_
  apply Exists.intro; apply Exists.intro
  refine ⟨fun wb hb => ?_, ?_⟩
  · obtain ⟨_, _⟩ := hb.at2 X5_1.out
    obtain ⟨_, _⟩ := hb.at2 X5_2.out
    obtain ⟨_, _, _⟩ := hb.at3 X5_3.out
    obtain ⟨_, _⟩ := hb.at2 X5_4.out
    obtain ⟨_, _⟩ := hb.at2 X5_5.out
    obtain ⟨_, _⟩ := hb.at2 X5_6.out
    obtain ⟨_, _⟩ := hb.at2 X5_0.out
    simp only [headOps, List.contains, List.elem, Nat.reduceAdd, Nat.reduceBEq, reduceIte, Bool.false_eq_true, dumOp]
    repeat (first | go_big_quiet_step (first | (go_at_call 65; exact Calls.of_gr (swhole1 _ _)) | (go_at_call 115; exact Calls.of_gr (HMW.out _))) | quiet_step (fail))
    exact wpQuiet_nil rfl
  refine ⟨rfl, ⟨rfl, by simp [Value.oneCell']⟩, fun w6 b6 hg6 _ xb6 => ?_⟩
  have x6_1 := hg6.keep X5_1.out
  have x6_2 := hg6.keep X5_2.out
  have x6_3 := hg6.keep X5_3.out
  have x6_4 := hg6.keep X5_4.out
  have x6_5 := hg6.keep X5_5.out
  have x6_6 := hg6.keep X5_6.out
  have x6_7 := hg6.keep X5_0.out
  obtain ⟨_, _⟩ := cells2 x6_1
  have _ := fz x6_1
  have _ := ltb x6_1
  obtain ⟨_, _⟩ := cells2 x6_2
  have _ := fz x6_2
  have _ := ltb x6_2
  obtain ⟨_, _, _⟩ := cells3 x6_3
  have _ := fz x6_3
  have _ := ltb x6_3
  obtain ⟨_, _⟩ := cells2 x6_4
  have _ := fz x6_4
  have _ := ltb x6_4
  obtain ⟨_, _⟩ := cells2 x6_5
  have _ := fz x6_5
  have _ := ltb x6_5
  obtain ⟨_, _⟩ := cells2 x6_6
  have _ := fz x6_6
  have _ := ltb x6_6
  obtain ⟨_, _⟩ := cells2 x6_7
  have _ := fz x6_7
  have _ := ltb x6_7
  obtain ⟨_, _⟩ := cells2 xb6
  have _ := fz xb6
  have _ := ltb xb6
  have X6_1 := hid x6_1; clear x6_1
  have X6_2 := hid x6_2; clear x6_2
  have X6_3 := hid x6_3; clear x6_3
  have X6_4 := hid x6_4; clear x6_4
  have X6_5 := hid x6_5; clear x6_5
  have X6_6 := hid x6_6; clear x6_6
  have X6_7 := hid x6_7; clear x6_7
  have Xb6 := hid xb6; clear xb6
  have G6 := hid (G5.out.trans hg6)
  clear hg6
  go_wp2
  refine bodyPost_ret (v := .tuple #[fr 0 0, .int .i64 3]) (by simp [results, Try.results96, go_sem, *]) rfl ⟨rfl, ?_⟩
  exact ((G6.out).setCell (by simp <;> omega) _).setCell (by simp <;> omega) _
set_option maxRecDepth 20000 in
set_option maxHeartbeats 1000000 in
theorem srd_c4 (a b x y g0 g1 p0 p1 d0 d1 nn t0 t1 s0 s1 C : Int) (R N : Nat) (A : Option Addr) (c : Nat) (xs : List (Int × Int)) (w : World) (k1 k2 : Nat) (X1 : Hid (w.heap[k1]? = some (.cells #[.int .i64 a, .int .i64 b, .slice A xs.length c] 32))) (X2 : Hid (w.heap[k2]? = some (.cells #[.int .i64 N, .bool true] 53))) (hRN : R < N) (hN : N ≤ 40) (hR0 : ((R : Int) == 0) = false)
    (hLF : ∀ w', Gr w w' → Calls Try.prog 92 #[.pointer (some ⟨k1, 0, none⟩), .pointer (some ⟨k2, 0, none⟩), fr x y] w' fun e w'' => e = .returned (.tuple #[.int .i64 (R : Int), .int .i64 0]) ∧ Gr w' w'')
    (hDV : ∀ w, Calls Try.prog 81 #[fr ((N : Int) - (R : Int)) 1, fr N 1] w fun e w' => e = .returned (.tuple #[fr g0 g1, .int .i64 0]) ∧ Gr w w')
    (hML : ∀ w, Calls Try.prog 115 #[fr g0 g1, fr a b] w fun e w' => e = .returned (.tuple #[fr p0 p1, .int .i64 0]) ∧ Gr w w')
    (hSB : ∀ w, Calls Try.prog 120 #[fr x y, fr p0 p1] w fun e w' => e = .returned (.tuple #[fr d0 d1, .int .i64 0]) ∧ Gr w w')
    (hNE : ∀ w, Calls Try.prog 130 #[fr d0 d1, fr a b] w fun e w' => e = .returned (.int .i64 nn) ∧ Gr w w')
    (hIN : ∀ w, Calls Try.prog 129 #[.int .i64 nn] w fun e w' => e = .returned (.tuple #[.int .i64 nn, .int .i64 0]) ∧ Gr w w')
    (hMW : ∀ w, Calls Try.prog 115 #[fr nn 1, fr a b] w fun e w' => e = .returned (.tuple #[fr t0 t1, .int .i64 0]) ∧ Gr w w')
    (hAD : ∀ w, Calls Try.prog 116 #[fr p0 p1, fr t0 t1] w fun e w' => e = .returned (.tuple #[fr s0 s1, .int .i64 C]) ∧ Gr w w') :
    Calls Try.prog 96 #[.pointer (some ⟨k1, 0, none⟩), .pointer (some ⟨k2, 0, none⟩), fr x y] w fun e w' => e = .returned (.tuple #[fr s0 s1, .int .i64 C]) ∧ Gr w w' := by
  have HLF := hid hLF
  have HDV := hid hDV
  have HML := hid hML
  have HSB := hid hSB
  have HNE := hid hNE
  have HIN := hid hIN
  have HMW := hid hMW
  have HAD := hid hAD
  have _ := hRN
  have _ := hN
  have _ := hR0
  clear hLF hDV hML hSB hNE hIN hMW hAD
  go_enter Try.func96, Try.ntmps96
  obtain ⟨_, _, _⟩ := cells3 X1.out
  have _ := fz X1.out
  have _ := ltb X1.out
  obtain ⟨_, _⟩ := cells2 X2.out
  have _ := fz X2.out
  have _ := ltb X2.out
  go_wp2_with fail
  refine (HLF.out _ (((Gr.refl w).al _).al _)).mono ?_
  rintro e w1 ⟨rfl, hg1⟩
  obtain ⟨x1_0, x1_1, hz1, g1⟩ := alloc2 hg1
  have x1_2 := g1.keep X1.out
  have x1_3 := g1.keep X2.out
  obtain ⟨_, _⟩ := cells2 x1_0
  have _ := fz x1_0
  have _ := ltb x1_0
  obtain ⟨_, _⟩ := cells2 x1_1
  have _ := fz x1_1
  have _ := ltb x1_1
  obtain ⟨_, _, _⟩ := cells3 x1_2
  have _ := fz x1_2
  have _ := ltb x1_2
  obtain ⟨_, _⟩ := cells2 x1_3
  have _ := fz x1_3
  have _ := ltb x1_3
  have X1_0 := hid x1_0; clear x1_0
  have X1_1 := hid x1_1; clear x1_1
  have X1_2 := hid x1_2; clear x1_2
  have X1_3 := hid x1_3; clear x1_3
  have G1 := hid (g1)
  clear hg1 g1
  go_wp2_with fail
  refine wp_reg1s #[.int .i64 0, .int .i64 0] 13 11 10 12 54 (by kernel_rfl) (by kernel_rfl) rfl rfl (by simp) rfl rfl (by decide) (fun _ _ => by kernel_rfl) (by kernel_rfl) ?_
  apply Exists.intro; apply Exists.intro
  refine ⟨fun wb hb => ?_, ?_⟩
  · obtain ⟨_, _⟩ := hb.at2 X1_0.out
    obtain ⟨_, _⟩ := hb.at2 X1_1.out
    obtain ⟨_, _, _⟩ := hb.at3 X1_2.out
    obtain ⟨_, _⟩ := hb.at2 X1_3.out
    simp only [headOps, List.contains, List.elem, Nat.reduceAdd, Nat.reduceBEq, reduceIte, Bool.false_eq_true, dumOp]
    repeat (first | go_big_quiet_step (first | (go_at_call 65; exact Calls.of_gr (swhole1 _ _)) | (go_at_call 81; exact Calls.of_gr (HDV.out _))) | quiet_step (fail))
    exact wpQuiet_nil rfl
  refine ⟨rfl, ⟨rfl, by simp [Value.oneCell']⟩, fun w2 b2 hg2 _ xb2 => ?_⟩
  have x2_1 := hg2.keep X1_0.out
  have x2_2 := hg2.keep X1_1.out
  have x2_3 := hg2.keep X1_2.out
  have x2_4 := hg2.keep X1_3.out
  obtain ⟨_, _⟩ := cells2 x2_1
  have _ := fz x2_1
  have _ := ltb x2_1
  obtain ⟨_, _⟩ := cells2 x2_2
  have _ := fz x2_2
  have _ := ltb x2_2
  obtain ⟨_, _, _⟩ := cells3 x2_3
  have _ := fz x2_3
  have _ := ltb x2_3
  obtain ⟨_, _⟩ := cells2 x2_4
  have _ := fz x2_4
  have _ := ltb x2_4
  obtain ⟨_, _⟩ := cells2 xb2
  have _ := fz xb2
  have _ := ltb xb2
  have X2_1 := hid x2_1; clear x2_1
  have X2_2 := hid x2_2; clear x2_2
  have X2_3 := hid x2_3; clear x2_3
  have X2_4 := hid x2_4; clear x2_4
  have Xb2 := hid xb2; clear xb2
  have G2 := hid (G1.out.trans hg2)
  clear hg2
  go_wp2_with fail
  refine wp_reg1s #[.int .i64 0, .int .i64 0] 11 9 12 10 63 (by kernel_rfl) (by kernel_rfl) rfl rfl (by simp) rfl rfl (by decide) (fun _ _ => by kernel_rfl) (by kernel_rfl) ?_
  apply Exists.intro; apply Exists.intro
  refine ⟨fun wb hb => ?_, ?_⟩
  · obtain ⟨_, _⟩ := hb.at2 X2_1.out
    obtain ⟨_, _⟩ := hb.at2 X2_2.out
    obtain ⟨_, _, _⟩ := hb.at3 X2_3.out
    obtain ⟨_, _⟩ := hb.at2 X2_4.out
    obtain ⟨_, _⟩ := hb.at2 Xb2.out
    simp only [headOps, List.contains, List.elem, Nat.reduceAdd, Nat.reduceBEq, reduceIte, Bool.false_eq_true, dumOp]
    repeat (first | go_big_quiet_step (first | (go_at_call 115; exact Calls.of_gr (HML.out _))) | quiet_step (fail))
    exact wpQuiet_nil rfl
  refine ⟨rfl, ⟨rfl, by simp [Value.oneCell']⟩, fun w3 b3 hg3 _ xb3 => ?_⟩
  have x3_1 := hg3.keep X2_1.out
  have x3_2 := hg3.keep X2_2.out
  have x3_3 := hg3.keep X2_3.out
  have x3_4 := hg3.keep X2_4.out
  have x3_5 := hg3.keep Xb2.out
  obtain ⟨_, _⟩ := cells2 x3_1
  have _ := fz x3_1
  have _ := ltb x3_1
  obtain ⟨_, _⟩ := cells2 x3_2
  have _ := fz x3_2
  have _ := ltb x3_2
  obtain ⟨_, _, _⟩ := cells3 x3_3
  have _ := fz x3_3
  have _ := ltb x3_3
  obtain ⟨_, _⟩ := cells2 x3_4
  have _ := fz x3_4
  have _ := ltb x3_4
  obtain ⟨_, _⟩ := cells2 x3_5
  have _ := fz x3_5
  have _ := ltb x3_5
  obtain ⟨_, _⟩ := cells2 xb3
  have _ := fz xb3
  have _ := ltb xb3
  have X3_1 := hid x3_1; clear x3_1
  have X3_2 := hid x3_2; clear x3_2
  have X3_3 := hid x3_3; clear x3_3
  have X3_4 := hid x3_4; clear x3_4
  have X3_5 := hid x3_5; clear x3_5
  have Xb3 := hid xb3; clear xb3
  have G3 := hid (G2.out.trans hg3)
  clear hg3
  go_wp2_with fail
  refine (HSB.out _).mono ?_
  rintro e w4 ⟨rfl, hg4⟩
  have x4_1 := hg4.keep X3_1.out
  have x4_2 := hg4.keep X3_2.out
  have x4_3 := hg4.keep X3_3.out
  have x4_4 := hg4.keep X3_4.out
  have x4_5 := hg4.keep X3_5.out
  have x4_6 := hg4.keep Xb3.out
  obtain ⟨_, _⟩ := cells2 x4_1
  have _ := fz x4_1
  have _ := ltb x4_1
  obtain ⟨_, _⟩ := cells2 x4_2
  have _ := fz x4_2
  have _ := ltb x4_2
  obtain ⟨_, _, _⟩ := cells3 x4_3
  have _ := fz x4_3
  have _ := ltb x4_3
  obtain ⟨_, _⟩ := cells2 x4_4
  have _ := fz x4_4
  have _ := ltb x4_4
  obtain ⟨_, _⟩ := cells2 x4_5
  have _ := fz x4_5
  have _ := ltb x4_5
  obtain ⟨_, _⟩ := cells2 x4_6
  have _ := fz x4_6
  have _ := ltb x4_6
  have X4_1 := hid x4_1; clear x4_1
  have X4_2 := hid x4_2; clear x4_2
  have X4_3 := hid x4_3; clear x4_3
  have X4_4 := hid x4_4; clear x4_4
  have X4_5 := hid x4_5; clear x4_5
  have X4_6 := hid x4_6; clear x4_6
  have G4 := hid (G3.out.trans hg4)
  clear hg4
  go_wp2_with fail
  refine wp_reg0 11 (by kernel_rfl) (by kernel_rfl) ?_
  apply Exists.intro
  refine ⟨fun wb hb => ?_, ?_⟩
  · obtain ⟨_, _⟩ := hb.at2 (((Gr.refl _).al _).keep X4_1.out)
    obtain ⟨_, _⟩ := hb.at2 (((Gr.refl _).al _).keep X4_2.out)
    obtain ⟨_, _, _⟩ := hb.at3 (((Gr.refl _).al _).keep X4_3.out)
    obtain ⟨_, _⟩ := hb.at2 (((Gr.refl _).al _).keep X4_4.out)
    obtain ⟨_, _⟩ := hb.at2 (((Gr.refl _).al _).keep X4_5.out)
    obtain ⟨_, _⟩ := hb.at2 (((Gr.refl _).al _).keep X4_6.out)
    obtain ⟨_, _⟩ := hb.at2 (alloc1 (Gr.refl _)).1
    simp only [headOps, List.contains, List.elem, reduceIte, Bool.false_eq_true]
    repeat (first | go_big_quiet_step (first | (go_at_call 130; exact Calls.of_gr (HNE.out _)) | (go_at_call 129; exact Calls.of_gr (HIN.out _))) | quiet_step (fail))
    exact wpQuiet_nil rfl
  intro w5 hg5
  obtain ⟨x5_0, hz5, g5⟩ := alloc1 hg5
  have x5_1 := g5.keep X4_1.out
  have x5_2 := g5.keep X4_2.out
  have x5_3 := g5.keep X4_3.out
  have x5_4 := g5.keep X4_4.out
  have x5_5 := g5.keep X4_5.out
  have x5_6 := g5.keep X4_6.out
  obtain ⟨_, _⟩ := cells2 x5_1
  have _ := fz x5_1
  have _ := ltb x5_1
  obtain ⟨_, _⟩ := cells2 x5_2
  have _ := fz x5_2
  have _ := ltb x5_2
  obtain ⟨_, _, _⟩ := cells3 x5_3
  have _ := fz x5_3
  have _ := ltb x5_3
  obtain ⟨_, _⟩ := cells2 x5_4
  have _ := fz x5_4
  have _ := ltb x5_4
  obtain ⟨_, _⟩ := cells2 x5_5
  have _ := fz x5_5
  have _ := ltb x5_5
  obtain ⟨_, _⟩ := cells2 x5_6
  have _ := fz x5_6
  have _ := ltb x5_6
  obtain ⟨_, _⟩ := cells2 x5_0
  have _ := fz x5_0
  have _ := ltb x5_0
  have X5_1 := hid x5_1; clear x5_1
  have X5_2 := hid x5_2; clear x5_2
  have X5_3 := hid x5_3; clear x5_3
  have X5_4 := hid x5_4; clear x5_4
  have X5_5 := hid x5_5; clear x5_5
  have X5_6 := hid x5_6; clear x5_6
  have X5_0 := hid x5_0; clear x5_0
  have G5 := hid (G4.out.trans g5)
  clear hg5 g5
  go_wp2_with fail
  refine wp_reg1s #[.int .i64 0, .int .i64 0] 12 10 18 11 101 (by kernel_rfl) (by kernel_rfl) rfl rfl (by simp) rfl rfl (by decide) (fun _ _ => by kernel_rfl) (by kernel_rfl) ?_
  apply Exists.intro; apply Exists.intro
  refine ⟨fun wb hb => ?_, ?_⟩
  · obtain ⟨_, _⟩ := hb.at2 X5_1.out
    obtain ⟨_, _⟩ := hb.at2 X5_2.out
    obtain ⟨_, _, _⟩ := hb.at3 X5_3.out
    obtain ⟨_, _⟩ := hb.at2 X5_4.out
    obtain ⟨_, _⟩ := hb.at2 X5_5.out
    obtain ⟨_, _⟩ := hb.at2 X5_6.out
    obtain ⟨_, _⟩ := hb.at2 X5_0.out
    simp only [headOps, List.contains, List.elem, Nat.reduceAdd, Nat.reduceBEq, reduceIte, Bool.false_eq_true, dumOp]
    repeat (first | go_big_quiet_step (first | (go_at_call 65; exact Calls.of_gr (swhole1 _ _)) | (go_at_call 115; exact Calls.of_gr (HMW.out _))) | quiet_step (fail))
    exact wpQuiet_nil rfl
  refine ⟨rfl, ⟨rfl, by simp [Value.oneCell']⟩, fun w6 b6 hg6 _ xb6 => ?_⟩
  have x6_1 := hg6.keep X5_1.out
  have x6_2 := hg6.keep X5_2.out
  have x6_3 := hg6.keep X5_3.out
  have x6_4 := hg6.keep X5_4.out
  have x6_5 := hg6.keep X5_5.out
  have x6_6 := hg6.keep X5_6.out
  have x6_7 := hg6.keep X5_0.out
  obtain ⟨_, _⟩ := cells2 x6_1
  have _ := fz x6_1
  have _ := ltb x6_1
  obtain ⟨_, _⟩ := cells2 x6_2
  have _ := fz x6_2
  have _ := ltb x6_2
  obtain ⟨_, _, _⟩ := cells3 x6_3
  have _ := fz x6_3
  have _ := ltb x6_3
  obtain ⟨_, _⟩ := cells2 x6_4
  have _ := fz x6_4
  have _ := ltb x6_4
  obtain ⟨_, _⟩ := cells2 x6_5
  have _ := fz x6_5
  have _ := ltb x6_5
  obtain ⟨_, _⟩ := cells2 x6_6
  have _ := fz x6_6
  have _ := ltb x6_6
  obtain ⟨_, _⟩ := cells2 x6_7
  have _ := fz x6_7
  have _ := ltb x6_7
  obtain ⟨_, _⟩ := cells2 xb6
  have _ := fz xb6
  have _ := ltb xb6
  have X6_1 := hid x6_1; clear x6_1
  have X6_2 := hid x6_2; clear x6_2
  have X6_3 := hid x6_3; clear x6_3
  have X6_4 := hid x6_4; clear x6_4
  have X6_5 := hid x6_5; clear x6_5
  have X6_6 := hid x6_6; clear x6_6
  have X6_7 := hid x6_7; clear x6_7
  have Xb6 := hid xb6; clear xb6
  have G6 := hid (G5.out.trans hg6)
  clear hg6
  go_wp2_with fail
  refine (HAD.out _).mono ?_
  rintro e w7 ⟨rfl, hg7⟩
  have x7_1 := hg7.keep X6_1.out
  have x7_2 := hg7.keep X6_2.out
  have x7_3 := hg7.keep X6_3.out
  have x7_4 := hg7.keep X6_4.out
  have x7_5 := hg7.keep X6_5.out
  have x7_6 := hg7.keep X6_6.out
  have x7_7 := hg7.keep X6_7.out
  have x7_8 := hg7.keep Xb6.out
  obtain ⟨_, _⟩ := cells2 x7_1
  have _ := fz x7_1
  have _ := ltb x7_1
  obtain ⟨_, _⟩ := cells2 x7_2
  have _ := fz x7_2
  have _ := ltb x7_2
  obtain ⟨_, _, _⟩ := cells3 x7_3
  have _ := fz x7_3
  have _ := ltb x7_3
  obtain ⟨_, _⟩ := cells2 x7_4
  have _ := fz x7_4
  have _ := ltb x7_4
  obtain ⟨_, _⟩ := cells2 x7_5
  have _ := fz x7_5
  have _ := ltb x7_5
  obtain ⟨_, _⟩ := cells2 x7_6
  have _ := fz x7_6
  have _ := ltb x7_6
  obtain ⟨_, _⟩ := cells2 x7_7
  have _ := fz x7_7
  have _ := ltb x7_7
  obtain ⟨_, _⟩ := cells2 x7_8
  have _ := fz x7_8
  have _ := ltb x7_8
  have X7_1 := hid x7_1; clear x7_1
  have X7_2 := hid x7_2; clear x7_2
  have X7_3 := hid x7_3; clear x7_3
  have X7_4 := hid x7_4; clear x7_4
  have X7_5 := hid x7_5; clear x7_5
  have X7_6 := hid x7_6; clear x7_6
  have X7_7 := hid x7_7; clear x7_7
  have X7_8 := hid x7_8; clear x7_8
  have G7 := hid (G6.out.trans hg7)
  clear hg7
  go_wp2
  refine bodyPost_ret (v := .tuple #[fr s0 s1, .int .i64 C]) (by simp [results, Try.results96, go_sem, *]) rfl ⟨rfl, ?_⟩
  exact ((G7.out).setCell (by simp <;> omega) _).setCell (by simp <;> omega) _
end Go.Proofs.Ytfkmlgndggnhaaa
