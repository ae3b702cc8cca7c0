/- TABLES: a table without one observation: WithoutObs, of both sides. -/
import Derived.Test.YtjhlpaeenjbljaaCo
import Derived.Test.YtjhlpaeenjbljaaOi
import Derived.Test.YtjhlpaeenjbljaaRi
import Derived.Test.YtjhlpaeenjbljaaSa
namespace Go.Proofs.Ytjhlpaeenjbljaa
open Go.RowKit Go.Sort

theorem RdO.cellAt {w : World} {g : Nat} {xs : List Obv} (h : RdO w (some ⟨g, 0, none⟩) xs) (j : Nat) (u : Value) (hj : (flO xs)[j]? = some u) : w.cell? ⟨g, j, none⟩ = some u := by
  have hjl : j < xs.length * 9 := by have := (List.getElem?_eq_some_iff.1 hj).1; rwa [flO_len] at this
  obtain ⟨q, r, hr, rfl⟩ : ∃ q r, r < 9 ∧ j = q * 9 + r := ⟨j / 9, j % 9, by omega, by omega⟩
  obtain ⟨x, hk⟩ : ∃ x, xs[q]? = some x := ⟨xs[q]'(by omega), List.getElem?_eq_getElem _⟩
  obtain ⟨ad, e, c⟩ := h _ x hk
  cases e
  have h1 := flO_get xs _ x hk r hr
  rw [hj] at h1
  have c0 := c.h0; have c1 := c.h1; have c2 := c.h2; have c3 := c.h3; have c4 := c.h4; have c5 := c.h5; have c6 := c.h6; have c7 := c.h7; have c8 := c.h8
  simp only [add_at] at c0 c1 c2 c3 c4 c5 c6 c7 c8
  rcases (show r = 0 ∨ r = 1 ∨ r = 2 ∨ r = 3 ∨ r = 4 ∨ r = 5 ∨ r = 6 ∨ r = 7 ∨ r = 8 by omega) with rfl | rfl | rfl | rfl | rfl | rfl | rfl | rfl | rfl
  all_goals
    simp [cO] at h1
    subst h1
    assumption
theorem RdO.vTake {w : World} {g : Nat} {xs : List Obv} (h : RdO w (some ⟨g, 0, none⟩) xs) (m : Nat) : RdV w (some ⟨g, 0, none⟩) ((flO xs).take m) :=
  .inr ⟨_, rfl, fun j u hj => by
    rw [List.getElem?_take] at hj
    split at hj
    · rw [add_at]; exact h.cellAt j u hj
    · cases hj⟩
theorem add_off (g n j : Nat) : (⟨g, n, none⟩ : Addr).add j = ⟨g, n + j, none⟩ := by
  unfold Addr.add
  split <;> simp_all
theorem RdO.vDrop {w : World} {g : Nat} {xs : List Obv} (h : RdO w (some ⟨g, 0, none⟩) xs) (m : Nat) : RdV w (some ⟨g, m, none⟩) ((flO xs).drop m) :=
  .inr ⟨_, rfl, fun j u hj => by
    rw [List.getElem?_drop] at hj
    rw [add_off]
    exact h.cellAt _ u hj⟩
theorem flO_take {xs : List Obv} {m : Nat} (h : m ≤ xs.length) : (flO xs).take (m * 9) = flO (xs.take m) := by
  have e : flO xs = flO (xs.take m) ++ flO (xs.drop m) := by rw [← flO_app2, List.take_append_drop]
  rw [e, List.take_left' (by rw [flO_len, List.length_take]; omega)]
theorem flO_drop {xs : List Obv} {m : Nat} (h : m ≤ xs.length) : (flO xs).drop (m * 9) = flO (xs.drop m) := by
  have e : flO xs = flO (xs.take m) ++ flO (xs.drop m) := by rw [← flO_app2, List.take_append_drop]
  rw [e, List.drop_left' (by rw [flO_len, List.length_take]; omega)]
/-- The observations without the one at a place. -/
def woO (xs : List Obv) (o : Nat) : List Obv := xs.take o ++ xs.drop (o + 1)
theorem woO_len {xs : List Obv} {o : Nat} (h : o < xs.length) : (woO xs o).length = o + (xs.length - (o + 1)) := by
  unfold woO
  rw [List.length_append, List.length_take, List.length_drop]
  omega
theorem flO_wo {xs : List Obv} {o : Nat} (h : o < xs.length) : (flO xs).take (o * 9) ++ (flO xs).drop ((o + 1) * 9) = flO (woO xs o) := by
  unfold woO
  rw [flO_app2, flO_take (by omega), flO_drop (by omega)]
theorem tb_24 {n : Int} {b : Bool} {p q : Int} {xs : List Obv} (h : tblB n b p q xs = true) : xs.length ≤ 24 := by
  unfold tblB at h
  simp only [Bool.and_eq_true, decide_eq_true_eq] at h
  exact h.2.1
/-- What lies behind a place of a slice of observations. -/
theorem cutO (g m c o : Nat) (ho : o < m) (_hc : m ≤ c) : ∃ B : Option Addr, (∀ w, (Instr.sliceAt 48 (.slice (some ⟨g, 0, none⟩) m c) (some (.int .i64 ((o : Int) + 1))) none none).run Try.prog w = .ok (.slice B (m - (o + 1)) (c - (o + 1))) w) ∧
    ∀ (w : World) (xs : List Obv), xs.length = m → RdO w (some ⟨g, 0, none⟩) xs → RdV w B ((flO xs).drop ((o + 1) * 9)) := by
  have hsz : ∀ w, (sizeOf (Try.prog.elem 48)).run Try.prog w = .ok 9 w := fun w => by kernel_rfl
  have ht : Try.prog.underlying 48 = some (.slice (Try.prog.elem 48)) := by kernel_rfl
  by_cases h : c = o + 1
  · refine ⟨some ⟨g, 0, none⟩, fun w => ?_, fun w xs hl _ => .inl ?_⟩
    · rw [run_sliceAt_slice w 48 _ _ _ _ ht, run_slice_l w 48 _ _ _ ht .i64 _ (by omega) (by omega), hsz]
      have e : ((o : Int) + 1).toNat = o + 1 := by omega
      simp [Result.andThen, sliced, e, h]
    · rw [List.drop_eq_nil_iff, flO_len]
      omega
  · refine ⟨some ⟨g, (o + 1) * 9, none⟩, fun w => ?_, fun w xs hl hx => hx.vDrop _⟩
    rw [run_sliceAt_slice w 48 _ _ _ _ ht, run_slice_l w 48 _ _ _ ht .i64 _ (by omega) (by omega), hsz]
    have e : ((o : Int) + 1).toNat = o + 1 := by omega
    simp [Result.andThen, sliced, e, h, add_at]
theorem headO (g m c o : Nat) (ho : o ≤ c) (w : World) : (Instr.sliceAt 48 (.slice (some ⟨g, 0, none⟩) m c) none (some (.int .i64 (o : Int))) none).run Try.prog w = .ok (.slice (some ⟨g, 0, none⟩) o c) w := by
  have hsz : ∀ w, (sizeOf (Try.prog.elem 48)).run Try.prog w = .ok 9 w := fun w => by kernel_rfl
  have ht : Try.prog.underlying 48 = some (.slice (Try.prog.elem 48)) := by kernel_rfl
  rw [run_sliceAt_slice w 48 _ _ _ _ ht, run_slice_h w 48 _ _ _ ht .i64 _ (by omega) (by omega), hsz]
  simp [Result.andThen, sliced, add_at]
set_option maxRecDepth 20000 in
set_option maxHeartbeats 4000000 in
theorem iWithout_a (n : Int) (g m : Nat) (b : Bool) (p q : Int) (xs : List Obv) (o : Nat) (w : World) (X : Hid (RdO w (some ⟨g, 0, none⟩) xs)) (hm : xs.length = m) (hc : m ≤ o + 1) (hw : xs.all wfE = true) (h : tblB n b p q xs = true) (ho : o < m) :
    Calls Try.prog 39 #[tbl n (some ⟨g, 0, none⟩) m (o + 1) b p q, .int .i64 (o : Int)] w fun e w' => GivesTb w w' e n b p q (woO xs o) 0 := by
  have h24 := tb_24 h
  have HV := hid (fun (w : World) (X : Hid (RdO w (some ⟨g, 0, none⟩) xs)) => hm ▸ h ▸ iTbOk n (some ⟨g, 0, none⟩) (o + 1) b p q xs w X (by omega) hw)
  have HM := hid hm
  have hm24 : m ≤ 24 := by omega
  clear h hw h24 hm
  have HC := hid (show ∀ w2, Gr w w2 → ∀ k T, w2.heap[k]? = some (.cells #[.slice (some ⟨g, 0, none⟩) o (o + 1), .slice (some ⟨g, 0, none⟩) (m - (o + 1)) (o + 1 - (o + 1))] T) → Calls Try.prog 90 #[.slice (some ⟨k, 0, none⟩) 2 2] w2 fun e w' => ∃ A c', e = .returned (.slice A (o + (m - (o + 1))) c') ∧ w'.ownsRow w2.heap.size 104 9 (.slice A (o + (m - (o + 1))) c') (o + (m - (o + 1))) (flO (woO xs o)) ∧ Gr w2 w' from fun w2 hg k T hk => by
    have e := iConcatO k o (m - (o + 1)) (o + 1) (o + 1 - (o + 1)) (some ⟨g, 0, none⟩) (some ⟨g, 0, none⟩) ((flO xs).take (o * 9)) ((flO xs).drop ((o + 1) * 9)) T w2 (hid hk) (hid ((X.out.keep hg).vTake _)) (hid (.inl (by rw [List.drop_eq_nil_iff, flO_len, HM.out]; omega))) (hid (by rw [List.length_take, flO_len, HM.out]; omega)) (hid (by rw [List.length_drop, flO_len, HM.out]; omega)) (by omega) (by omega) (fun u hu => flO_one xs u (List.mem_of_mem_take hu)) (fun u hu => flO_one xs u (List.mem_of_mem_drop hu))
    rw [flO_wo (by rw [HM.out]; exact ho)] at e
    exact e)
  have HLN := hid (show (woO xs o).length = o + (m - (o + 1)) by rw [woO_len (by rw [HM.out]; exact ho), HM.out])
  have h0 : m - (o + 1) = 0 := by omega
  rw [h0, Nat.sub_self] at HC
  rw [h0] at HLN
  have hmo : m = o + 1 := by omega
  subst hmo
  go_enter Try.func39, Try.ntmps39
  go_wp2_with fail
  refine (HV.out _ (hid (X.out.keep (((Gr.refl w).al _).al _)))).mono ?_
  rintro e w1 ⟨rfl, hg1⟩
  obtain ⟨x1_0, x1_1, hz1, g1⟩ := alloc2 hg1
  obtain ⟨_, _, _, _, _⟩ := cells5 x1_0
  have _ := fz x1_0
  have _ := ltb x1_0
  obtain ⟨_, _, _, _, _⟩ := cells5 x1_1
  have _ := fz x1_1
  have _ := ltb x1_1
  have X1_0 := hid x1_0; clear x1_0
  have X1_1 := hid x1_1; clear x1_1
  have G1 := hid (g1)
  clear hg1 g1
  go_wp2_with fail
  have hhd := headO g (o + 1) (o + 1) o (by omega)
  refine wp_reg0 9 (by kernel_rfl) (by kernel_rfl) ?_
  apply Exists.intro
  refine ⟨fun wb hb => ?_, ?_⟩
  · obtain ⟨_, _, _, _, _⟩ := hb.at5 X1_0.out
    obtain ⟨_, _, _, _, _⟩ := hb.at5 X1_1.out
    simp only [headOps, List.contains, List.elem, reduceIte, Bool.false_eq_true]
    repeat (first | go_big_quiet_step (first | (fail)) | quiet_step (fail))
    exact wpQuiet_nil rfl
  intro w5 hg5
  simp only [List.drop_succ_cons, List.drop_zero]
  have G5 := hid (G1.out.trans hg5)
  have x0 := hg5.keep X1_0.out
  obtain ⟨_, _, _, _, _⟩ := cells5 x0
  have _ := ltb x0
  have Y0 := hid x0; have Y1 := hid (hg5.keep X1_1.out)
  clear hg5 x0
  go_wp2_with fail
  refine (HC.out _ (G5.out.al _) _ _ (alloc1 (Gr.refl _)).1).mono ?_
  rintro e w6 ⟨A3, c3, rfl, own, hg⟩
  have gx := ((Gr.refl w5).al (.cells #[.slice (some ⟨g, 0, none⟩) o (o + 1), .slice (some ⟨g, 0, none⟩) (0) (0)] 48)).trans hg
  have y0 := gx.keep Y0.out; have y1 := gx.keep Y1.out
  have G6 := hid (G5.out.trans gx)
  have OWN := hid own
  have hs6 : w.heap.size + 1 < w5.heap.size := ltb Y1.out
  obtain ⟨_, _, _, _, _⟩ := cells5 y0
  obtain ⟨_, _, _, _, _⟩ := cells5 y1
  have _ := fz y0; have _ := ltb y0; have _ := fz y1; have _ := ltb y1
  clear own hg gx y0 y1
  go_wp2_with fail
  refine bodyPost_ret (v := .tuple #[tbl n A3 (o + 0) c3 b p q, .int .i64 0]) (by simp [results, Try.results39, go_sem, *]) rfl ?_
  exact ⟨A3, c3, by rw [HLN.out], by rw [HLN.out]; exact own_base (own_low (own_low (own_low (own_low (own_low (own_low OWN.out (by simp; omega) _) (by simp; omega) _) (by simp; omega) _) (by simp; omega) _) (by simp; omega) _) (by simp; omega) _) (by have := G5.out.size; simp; omega), ((((((G6.out.setCell (by simp) _).setCell (by simp) _).setCell (by simp) _).setCell (by simp) _).setCell (by simp) _).setCell (by simp) _)⟩
set_option maxRecDepth 20000 in
set_option maxHeartbeats 4000000 in
theorem iWithout_b (n : Int) (g c m : Nat) (b : Bool) (p q : Int) (xs : List Obv) (o : Nat) (w : World) (X : Hid (RdO w (some ⟨g, 0, none⟩) xs)) (hm : xs.length = m) (hc : m ≤ c) (hw : xs.all wfE = true) (h : tblB n b p q xs = true) (ho : o < m) (hcn : ¬ c = o + 1) :
    Calls Try.prog 39 #[tbl n (some ⟨g, 0, none⟩) m (c) b p q, .int .i64 (o : Int)] w fun e w' => GivesTb w w' e n b p q (woO xs o) 0 := by
  have h24 := tb_24 h
  have HV := hid (fun (w : World) (X : Hid (RdO w (some ⟨g, 0, none⟩) xs)) => hm ▸ h ▸ iTbOk n (some ⟨g, 0, none⟩) (c) b p q xs w X (by omega) hw)
  have HM := hid hm
  have hm24 : m ≤ 24 := by omega
  clear h hw h24 hm
  have HC := hid (show ∀ w2, Gr w w2 → ∀ k T, w2.heap[k]? = some (.cells #[.slice (some ⟨g, 0, none⟩) o (c), .slice (some ⟨g, (o + 1) * 9, none⟩) (m - (o + 1)) (c - (o + 1))] T) → Calls Try.prog 90 #[.slice (some ⟨k, 0, none⟩) 2 2] w2 fun e w' => ∃ A c', e = .returned (.slice A (o + (m - (o + 1))) c') ∧ w'.ownsRow w2.heap.size 104 9 (.slice A (o + (m - (o + 1))) c') (o + (m - (o + 1))) (flO (woO xs o)) ∧ Gr w2 w' from fun w2 hg k T hk => by
    have e := iConcatO k o (m - (o + 1)) (c) (c - (o + 1)) (some ⟨g, 0, none⟩) (some ⟨g, (o + 1) * 9, none⟩) ((flO xs).take (o * 9)) ((flO xs).drop ((o + 1) * 9)) T w2 (hid hk) (hid ((X.out.keep hg).vTake _)) (hid ((X.out.keep hg).vDrop _)) (hid (by rw [List.length_take, flO_len, HM.out]; omega)) (hid (by rw [List.length_drop, flO_len, HM.out]; omega)) (by omega) (by omega) (fun u hu => flO_one xs u (List.mem_of_mem_take hu)) (fun u hu => flO_one xs u (List.mem_of_mem_drop hu))
    rw [flO_wo (by rw [HM.out]; exact ho)] at e
    exact e)
  have HLN := hid (show (woO xs o).length = o + (m - (o + 1)) by rw [woO_len (by rw [HM.out]; exact ho), HM.out])

  go_enter Try.func39, Try.ntmps39
  go_wp2_with fail
  refine (HV.out _ (hid (X.out.keep (((Gr.refl w).al _).al _)))).mono ?_
  rintro e w1 ⟨rfl, hg1⟩
  obtain ⟨x1_0, x1_1, hz1, g1⟩ := alloc2 hg1
  obtain ⟨_, _, _, _, _⟩ := cells5 x1_0
  have _ := fz x1_0
  have _ := ltb x1_0
  obtain ⟨_, _, _, _, _⟩ := cells5 x1_1
  have _ := fz x1_1
  have _ := ltb x1_1
  have X1_0 := hid x1_0; clear x1_0
  have X1_1 := hid x1_1; clear x1_1
  have G1 := hid (g1)
  clear hg1 g1
  go_wp2_with fail
  have hhd := headO g m c o (by omega)
  refine wp_reg0 9 (by kernel_rfl) (by kernel_rfl) ?_
  apply Exists.intro
  refine ⟨fun wb hb => ?_, ?_⟩
  · obtain ⟨_, _, _, _, _⟩ := hb.at5 X1_0.out
    obtain ⟨_, _, _, _, _⟩ := hb.at5 X1_1.out
    simp only [headOps, List.contains, List.elem, reduceIte, Bool.false_eq_true]
    repeat (first | go_big_quiet_step (first | (fail)) | quiet_step (fail))
    exact wpQuiet_nil rfl
  intro w5 hg5
  simp only [List.drop_succ_cons, List.drop_zero]
  have G5 := hid (G1.out.trans hg5)
  have x0 := hg5.keep X1_0.out
  obtain ⟨_, _, _, _, _⟩ := cells5 x0
  have _ := ltb x0
  have Y0 := hid x0; have Y1 := hid (hg5.keep X1_1.out)
  clear hg5 x0
  go_wp2_with fail
  refine (HC.out _ (G5.out.al _) _ _ (alloc1 (Gr.refl _)).1).mono ?_
  rintro e w6 ⟨A3, c3, rfl, own, hg⟩
  have gx := ((Gr.refl w5).al (.cells #[.slice (some ⟨g, 0, none⟩) o (c), .slice (some ⟨g, (o + 1) * 9, none⟩) (m - (o + 1)) (c - (o + 1))] 48)).trans hg
  have y0 := gx.keep Y0.out; have y1 := gx.keep Y1.out
  have G6 := hid (G5.out.trans gx)
  have OWN := hid own
  have hs6 : w.heap.size + 1 < w5.heap.size := ltb Y1.out
  obtain ⟨_, _, _, _, _⟩ := cells5 y0
  obtain ⟨_, _, _, _, _⟩ := cells5 y1
  have _ := fz y0; have _ := ltb y0; have _ := fz y1; have _ := ltb y1
  clear own hg gx y0 y1
  go_wp2_with fail
  refine bodyPost_ret (v := .tuple #[tbl n A3 (o + (m - (o + 1))) c3 b p q, .int .i64 0]) (by simp [results, Try.results39, go_sem, *]) rfl ?_
  exact ⟨A3, c3, by rw [HLN.out], by rw [HLN.out]; exact own_base (own_low (own_low (own_low (own_low (own_low (own_low OWN.out (by simp; omega) _) (by simp; omega) _) (by simp; omega) _) (by simp; omega) _) (by simp; omega) _) (by simp; omega) _) (by have := G5.out.size; simp; omega), ((((((G6.out.setCell (by simp) _).setCell (by simp) _).setCell (by simp) _).setCell (by simp) _).setCell (by simp) _).setCell (by simp) _)⟩
theorem iWithout_yes (n : Int) (g c m : Nat) (b : Bool) (p q : Int) (xs : List Obv) (o : Nat) (w : World) (X : Hid (RdO w (some ⟨g, 0, none⟩) xs)) (hm : xs.length = m) (hc : m ≤ c) (hw : xs.all wfE = true) (h : tblB n b p q xs = true) (ho : o < m) :
    Calls Try.prog 39 #[tbl n (some ⟨g, 0, none⟩) m c b p q, .int .i64 (o : Int)] w fun e w' => GivesTb w w' e n b p q (woO xs o) 0 := by
  by_cases hcn : c = o + 1
  · subst hcn
    exact iWithout_a n g m b p q xs o w X hm hc hw h ho
  · exact iWithout_b n g c m b p q xs o w X hm hc hw h ho hcn
set_option maxRecDepth 20000 in
set_option maxHeartbeats 1000000 in
theorem iWithout_0 (n : Int) (g c m : Nat) (b : Bool) (p q : Int) (xs : List Obv) (o : Int) (w : World) (X : Hid (RdO w (some ⟨g, 0, none⟩) xs)) (hm : xs.length = m) (hn : m ≤ 1048576) (hw : xs.all wfE = true) (h : tblB n b p q xs = false) :
    Calls Try.prog 39 #[tbl n (some ⟨g, 0, none⟩) m c b p q, .int .i64 o] w fun e w' => GivesTb w w' e 0 false 0 0 [] 1 := by
  have HV := hid (fun (w : World) (X : Hid (RdO w (some ⟨g, 0, none⟩) xs)) => hm ▸ h ▸ iTbOk n (some ⟨g, 0, none⟩) c b p q xs w X (by omega) hw)
  clear h hw hm
  go_enter Try.func39, Try.ntmps39
  go_wp2_with fail
  refine (HV.out _ (hid (X.out.keep (((Gr.refl w).al _).al _)))).mono ?_
  rintro e w1 ⟨rfl, hg1⟩
  obtain ⟨x1_0, x1_1, hz1, g1⟩ := alloc2 hg1
  obtain ⟨_, _, _, _, _⟩ := cells5 x1_0
  have _ := fz x1_0
  have _ := ltb x1_0
  obtain ⟨_, _, _, _, _⟩ := cells5 x1_1
  have _ := fz x1_1
  have _ := ltb x1_1
  have X1_0 := hid x1_0; clear x1_0
  have X1_1 := hid x1_1; clear x1_1
  have G1 := hid (g1)
  clear hg1 g1
  go_wp2
  refine bodyPost_ret (v := .tuple #[tbl 0 none 0 0 false 0 0, .int .i64 1]) (by simp [results, Try.results39, go_sem, *]) rfl ?_
  exact ⟨none, 0, rfl, World.ownsRow_nil _ _ _ _, by first | exact G1.out | exact (((((G1.out.setCell (by simp) _).setCell (by simp) _).setCell (by simp) _).setCell (by simp) _).setCell (by simp) _)⟩
set_option maxRecDepth 20000 in
set_option maxHeartbeats 1000000 in
theorem iWithout_1 (n : Int) (g c m : Nat) (b : Bool) (p q : Int) (xs : List Obv) (o : Int) (w : World) (X : Hid (RdO w (some ⟨g, 0, none⟩) xs)) (hm : xs.length = m) (hw : xs.all wfE = true) (h : tblB n b p q xs = true) (ho : o < 0 ∨ (m : Int) ≤ o) :
    Calls Try.prog 39 #[tbl n (some ⟨g, 0, none⟩) m c b p q, .int .i64 o] w fun e w' => GivesTb w w' e 0 false 0 0 [] 2 := by
  have h24 := tb_24 h
  have HV := hid (fun (w : World) (X : Hid (RdO w (some ⟨g, 0, none⟩) xs)) => hm ▸ h ▸ iTbOk n (some ⟨g, 0, none⟩) c b p q xs w X (by omega) hw)
  have hm24 : m ≤ 24 := by omega
  clear h hw hm h24
  by_cases h1 : o < 0
  · clear ho
    go_enter Try.func39, Try.ntmps39
    go_wp2_with fail
    refine (HV.out _ (hid (X.out.keep (((Gr.refl w).al _).al _)))).mono ?_
    rintro e w1 ⟨rfl, hg1⟩
    obtain ⟨x1_0, x1_1, hz1, g1⟩ := alloc2 hg1
    obtain ⟨_, _, _, _, _⟩ := cells5 x1_0
    have _ := fz x1_0
    have _ := ltb x1_0
    obtain ⟨_, _, _, _, _⟩ := cells5 x1_1
    have _ := fz x1_1
    have _ := ltb x1_1
    have X1_0 := hid x1_0; clear x1_0
    have X1_1 := hid x1_1; clear x1_1
    have G1 := hid (g1)
    clear hg1 g1
    go_wp2
    refine bodyPost_ret (v := .tuple #[tbl 0 none 0 0 false 0 0, .int .i64 2]) (by simp [results, Try.results39, go_sem, *]) rfl ?_
    exact ⟨none, 0, rfl, World.ownsRow_nil _ _ _ _, by first | exact G1.out | exact (((((G1.out.setCell (by simp) _).setCell (by simp) _).setCell (by simp) _).setCell (by simp) _).setCell (by simp) _)⟩
  · have h2 : (m : Int) ≤ o := by omega
    clear ho
    go_enter Try.func39, Try.ntmps39
    go_wp2_with fail
    refine (HV.out _ (hid (X.out.keep (((Gr.refl w).al _).al _)))).mono ?_
    rintro e w1 ⟨rfl, hg1⟩
    obtain ⟨x1_0, x1_1, hz1, g1⟩ := alloc2 hg1
    obtain ⟨_, _, _, _, _⟩ := cells5 x1_0
    have _ := fz x1_0
    have _ := ltb x1_0
    obtain ⟨_, _, _, _, _⟩ := cells5 x1_1
    have _ := fz x1_1
    have _ := ltb x1_1
    have X1_0 := hid x1_0; clear x1_0
    have X1_1 := hid x1_1; clear x1_1
    have G1 := hid (g1)
    clear hg1 g1
    go_wp2
    refine bodyPost_ret (v := .tuple #[tbl 0 none 0 0 false 0 0, .int .i64 2]) (by simp [results, Try.results39, go_sem, *]) rfl ?_
    exact ⟨none, 0, rfl, World.ownsRow_nil _ _ _ _, by first | exact G1.out | exact (((((G1.out.setCell (by simp) _).setCell (by simp) _).setCell (by simp) _).setCell (by simp) _).setCell (by simp) _)⟩
end Go.Proofs.Ytjhlpaeenjbljaa
