/- CHAINS: the standard behind a root; RecallOf and UsersOf. -/
import Derived.Test.YtadpoocafhddeaaDoorRw
import Derived.Test.YtadpoocafhddeaaDoorRgb
import Derived.Test.YtadpoocafhddeaaDoorRgi
namespace Go.Proofs.YtadpoocafhddeaaDoor
open Go.RowKit Go.Sort Go.Shelf
attribute [local go_sem] Oper.semAt_some wide_fn

set_option maxRecDepth 100000 in
set_option maxHeartbeats 2000000 in
/-- The iterator, stopped at place M. -/
theorem up_handsB (n : Nat) (hn : 1 ≤ n) (A : Option Addr) (nl c b bx bi : Nat) (xs : List Sdv) (i : Int) (L : List Int) (M : Nat) (hM : M < L.length) (I : Nat → World → Prop) (w : World) (hxl : xs.length = nl) (hL : Hid (UpR xs i L))
    (hI : ∀ k W, I k W → W.heap[bi]? = some (.cells #[.int .i64 i] 2) ∧ W.heap[bx]? = some (.cells #[.slice A nl c, .map (some b)] 59) ∧ RdSd W A xs) :
    HandsB Fence.wide n Tryd.prog 90 #[.pointer (some ⟨bi, 0, none⟩), .pointer (some ⟨bx, 0, none⟩)] (encI L) M I w := by
  intro l J Jx W1 _ hJg hJI hXg hY hX h0
  have HY := hid hY; have HXL := hid hxl; have HX := hid hX
  have HI := hid (fun k W h => hI k W (hJI k W h))
  clear hY hJg hJI hI hxl hXg hX
  have hb0 := (HI.out 0 W1 h0).1
  have _ := cells1 hb0
  refine callsIn_of_wp Tryd.func90 rfl trivial ?_ rfl
  simp only [Tryd.ntmps90, List.size_toArray, List.length_cons, List.length_nil, Nat.reduceAdd, Nat.reduceSub, Array.replicate_succ, Array.replicate_zero, List.push_toArray, List.append_toArray, List.nil_append, List.cons_append]
  gi_wp2
  gi_loopw [4] (fun u wr => ∃ k : Nat, k ≤ M ∧ u = .int .i64 (upAt L k) ∧ J k wr) (fun u _ => (intOf u + 1).toNat)
  case atStart => exact ⟨0, Nat.zero_le _, by rw [upR_zero hL.out], h0⟩
  case round =>
    obtain ⟨k, hk, rfl, hJ⟩ := hrel
    obtain ⟨p, hp⟩ : ∃ p, L[k]? = some p := ⟨L[k]'(by omega), List.getElem?_eq_getElem _⟩
    obtain ⟨j, y, rfl, hy, hn1, hn2, hn3⟩ := upR_get hL.out k p hp
    have hat : upAt L k = (j : Int) := by unfold upAt; rw [hp]; rfl
    have hne : ¬ (j : Int) = -1 := by omega
    have hjl : j < nl := by rw [← HXL.out]; exact (List.getElem?_eq_some_iff.1 hy).1
    have HY2 := hid hy; have HN := hid hn1
    by_cases hlt : k < M
    · obtain ⟨fn, tmps, assign, body, hyd, hR⟩ := HY.out k wr hJ hlt
      rw [encI_at hp] at hyd
      clear hp hy hJ hn1
      rw [hat]
      gi_wp2
      refine hR.mono ?_
      rintro e W3 ⟨rfl, hJ3⟩
      obtain ⟨_, hbx, hr3⟩ := HI.out (k + 1) W3 hJ3
      obtain ⟨ad, rfl, cy⟩ := hr3 j y HY2.out
      obtain ⟨_, _⟩ := cells2 hbx
      have _ := cy.h1
      have HJ3 := hid hJ3
      clear hbx hr3 cy hJ3
      gi_wp2
      refine ⟨⟨k + 1, by omega, by rw [HN.out], HJ3.out⟩, by simp [intOf]; omega⟩
    · obtain rfl : k = M := by omega
      obtain ⟨fn, tmps, assign, body, hyd, hR⟩ := HX.out wr hJ
      rw [encI_at hp] at hyd
      clear hp hy hJ hn1
      rw [hat]
      gi_wp2
      refine hR.mono ?_
      rintro e W3 ⟨rfl, hJ3⟩
      have HJ3 := hid hJ3
      clear hJ3
      gi_wp2
      go_end0
      exact ⟨⟨_, rfl⟩, HJ3.out⟩
/-! who is a user -/
theorem upR_unique {xs : List Sdv} {i : Int} {L : List Int} (h : UpR xs i L) : ∀ {L' : List Int}, UpR xs i L' → L = L' := by
  induction h with
  | nil =>
    intro L' h'
    generalize hi : (-1 : Int) = i at h'
    cases h' with
    | nil => rfl
    | cons hy _ _ => omega
  | @cons j y L hy hlt hu ih =>
    intro L' h'
    generalize hi : (j : Int) = i at h'
    cases h' with
    | nil => omega
    | @cons j' y' L2 hy' hlt' hu' =>
      have e : j = j' := by omega
      subst e
      rw [hy] at hy'
      cases hy'
      rw [ih hu']
theorem upR_inv {xs : List Sdv} {k : Nat} {y : Sdv} {L : List Int} (h : UpR xs (k : Int) L) (hy : xs[k]? = some y) : ∃ L', L = (k : Int) :: L' ∧ UpR xs y.f L' ∧ y.f < (k : Int) := by
  generalize hi : (k : Int) = i at h
  cases h with
  | nil => omega
  | @cons j y' L2 hy' hlt' hu' =>
    have e : k = j := by omega
    subst e
    rw [hy] at hy'
    cases hy'
    exact ⟨_, by rw [hi], hu', by omega⟩
/-- Whether the first standard on a path that the root has calibrated was calibrated on the day or later. -/
def usL (xs : List Sdv) (i d : Int) : List Int → Bool
  | [] => false
  | j :: L => if upAt L 0 = i then (match xs[j.toNat]? with | some y => decide (d ≤ y.m) | none => false) else usL xs i d L
theorem usL_cases (xs : List Sdv) (i d : Int) : ∀ L : List Int,
    (∃ (M : Nat) (j : Int), L[M]? = some j ∧ upAt L (M + 1) = i ∧ (∀ k, k < M → upAt L (k + 1) ≠ i) ∧ usL xs i d L = (match xs[j.toNat]? with | some y => decide (d ≤ y.m) | none => false)) ∨
    ((∀ k, k < L.length → upAt L (k + 1) ≠ i) ∧ usL xs i d L = false)
  | [] => .inr ⟨fun k hk => by simp at hk, rfl⟩
  | j :: L => by
    by_cases h : upAt L 0 = i
    · exact .inl ⟨0, j, rfl, h, fun k hk => by omega, by unfold usL; rw [if_pos h]⟩
    · have hu : usL xs i d (j :: L) = usL xs i d L := by
        show (if upAt L 0 = i then _ else _) = _
        rw [if_neg h]
      rcases usL_cases xs i d L with ⟨M, p, h1, h2, h3, h4⟩ | ⟨h1, h2⟩
      · refine .inl ⟨M + 1, p, h1, h2, fun k hk => ?_, hu.trans h4⟩
        cases k with
        | zero => exact h
        | succ k => exact h3 k (by omega)
      · refine .inr ⟨fun k hk => ?_, hu.trans h2⟩
        cases k with
        | zero => exact h
        | succ k => exact h1 k (by simp at hk; omega)
/-- The paths of all standards of a chain. -/
theorem ups_ex {xs : List Sdv} (h : chP xs) : ∃ Lf : Nat → List Int, ∀ k, k < xs.length → UpR xs (k : Int) (Lf k) ∧ (Lf k).length ≤ 64 := by
  have h30 := ch_len h
  have hx : ∀ k : Nat, ∃ L : List Int, k < xs.length → UpR xs (k : Int) L ∧ L.length ≤ 64 := fun k => by
    by_cases hk : k < xs.length
    · obtain ⟨L, h1, _, h2⟩ := upR_ex h (k + 1) k (by omega) hk
      exact ⟨L, fun _ => ⟨h1, by omega⟩⟩
    · exact ⟨[], fun h => absurd h hk⟩
  exact ⟨fun k => Classical.choose (hx k), fun k => Classical.choose_spec (hx k)⟩
/-- A standard that is no later than the root has no such standard on its path. -/
theorem usL_low {xs : List Sdv} {i d : Int} {k : Int} {L : List Int} (h : UpR xs k L) (hk : k ≤ i) : usL xs i d L = false := by
  induction h with
  | nil => rfl
  | @cons j y L hy hlt hu ih =>
    unfold usL
    rw [upR_zero hu, if_neg (by omega)]
    exact ih (by omega)
theorem usL_step {xs : List Sdv} {i d : Int} {Lf : Nat → List Int} {n : Nat} (hLf : ∀ k, k < n → UpR xs (k : Int) (Lf k)) {k : Nat} (hk : k < n) {y : Sdv} (hy : xs[k]? = some y) (hi : 0 ≤ i) :
    y.f < (k : Int) ∧ (usL xs i d (Lf k) = if y.f = i then decide (d ≤ y.m) else if i < y.f then usL xs i d (Lf y.f.toNat) else false) := by
  obtain ⟨L', h1, h2, h3⟩ := upR_inv (hLf k hk) hy
  refine ⟨h3, ?_⟩
  rw [h1]
  show (if upAt L' 0 = i then (match xs[((k : Int)).toNat]? with | some y => decide (d ≤ y.m) | none => false) else usL xs i d L') = _
  rw [upR_zero h2]
  by_cases e : y.f = i
  · rw [if_pos e, if_pos e]
    have : (k : Int).toNat = k := by omega
    rw [this, hy]
  · rw [if_neg e, if_neg e]
    by_cases g : i < y.f
    · rw [if_pos g]
      have hj : ((y.f.toNat : Nat) : Int) = y.f := by omega
      have := hLf y.f.toNat (by omega)
      rw [hj] at this
      rw [upR_unique h2 this]
    · rw [if_neg g]
      exact usL_low h2 (by omega)
theorem setSd10 {w : World} {g : Nat} {T : TypeId} {z0 z1 z2 z3 z4 z5 z6 z7 z8 z9 : Value} (y : Sdv) (h : w.heap[g]? = some (.cells #[z0, z1, z2, z3, z4, z5, z6, z7, z8, z9] T)) :
    ((((((((((w.setCell ⟨g, 0, none⟩ (.string y.nm)).setCell ⟨g, 1, none⟩ (.int .i64 y.f)).setCell ⟨g, 2, none⟩ (.int .i64 y.a)).setCell ⟨g, 3, none⟩ (.int .i64 y.b)).setCell ⟨g, 4, none⟩ (.int .i64 y.c)).setCell ⟨g, 5, none⟩ (.int .i64 y.d)).setCell ⟨g, 6, none⟩ (.int .i64 y.p)).setCell ⟨g, 7, none⟩ (.int .i64 y.q)).setCell ⟨g, 8, none⟩ (.int .i64 y.m)).setCell ⟨g, 9, none⟩ (.int .i64 y.g)).heap[g]? = some (.cells (cSd y).toArray T) := by
  have := (Joins.block_setCell (i := 9) (Joins.block_setCell (i := 8) (Joins.block_setCell (i := 7) (Joins.block_setCell (i := 6) (Joins.block_setCell (i := 5) (Joins.block_setCell (i := 4) (Joins.block_setCell (i := 3) (Joins.block_setCell (i := 2) (Joins.block_setCell (i := 1) (Joins.block_setCell (i := 0) h (.string y.nm)) (.int .i64 y.f)) (.int .i64 y.a)) (.int .i64 y.b)) (.int .i64 y.c)) (.int .i64 y.d)) (.int .i64 y.p)) (.int .i64 y.q)) (.int .i64 y.m)) (.int .i64 y.g))
  simpa [cSd] using this
theorem keepSd10 {w : World} {g b : Nat} {o : Obj} (y : Sdv) (h : w.heap[b]? = some o) (hne : b ≠ g) :
    ((((((((((w.setCell ⟨g, 0, none⟩ (.string y.nm)).setCell ⟨g, 1, none⟩ (.int .i64 y.f)).setCell ⟨g, 2, none⟩ (.int .i64 y.a)).setCell ⟨g, 3, none⟩ (.int .i64 y.b)).setCell ⟨g, 4, none⟩ (.int .i64 y.c)).setCell ⟨g, 5, none⟩ (.int .i64 y.d)).setCell ⟨g, 6, none⟩ (.int .i64 y.p)).setCell ⟨g, 7, none⟩ (.int .i64 y.q)).setCell ⟨g, 8, none⟩ (.int .i64 y.m)).setCell ⟨g, 9, none⟩ (.int .i64 y.g)).heap[b]? = some o := keepSetI (keepSetI (keepSetI (keepSetI (keepSetI (keepSetI (keepSetI (keepSetI (keepSetI (keepSetI (h) hne) hne) hne) hne) hne) hne) hne) hne) hne) hne
section
variable {P : Program} {l : List Oper} {Q : Exit → Act → World → Prop} {a : Act} {w : World}
theorem any_reg0 (n : Nat) (hB : headBA [] [] (fun i => i) n l = true)
    (h : ∃ aF, (∀ wb, Gr w wb → wpQuiet P l.toArray (fun w' => ∃ p : GrownBy, w' = grow (wb.drewN p.n) p.os) (fun x => x = aF) (headOps [] n 0 l) a) ∧
      ∀ w', Gr w w' → wpList P l.toArray Q (l.drop n) aF w') : wpAny P .any l.toArray Q l.toArray.size (Array.replicate l.toArray.size false) a { w with drawn := w.drawn + 1 } := by
  obtain ⟨aF, hq, hT⟩ := h
  refine any_headA (al := []) (sts := []) (own := fun i => i) (blk0 := fun _ => default) (blk1 := fun _ => default) (mk := fun _ _ => undef) n hB (fun j h => by cases h) (fun j h => by cases h) hq fun listed a' w' bs hl S => ?_
  obtain ⟨e1, e2, e3⟩ := sim_finalA (headOk_ofA hB) (hq w (Gr.refl w)) hl S
  rw [act_ext e1 fun s => e3 s (fun i h => by cases h)]
  exact hT w' (gr_drawn S.grown)
end
set_option maxRecDepth 100000 in
set_option maxHeartbeats 2000000 in
theorem iBehind_yes (A : Option Addr) (nl c b : Nat) (xs : List Sdv) (i root : Int) (L : List Int) (M j : Nat) (y : Sdv) (w : World) (hL : Hid (UpR xs i L)) (hxl : xs.length = nl) (hM : L[M]? = some (j : Int)) (hy : xs[j]? = some y) (hf : y.f = root) (hno : ∀ k, k < M → upAt L (k + 1) ≠ root) (X : Hid (RdSd w A xs)) :
    Calls Tryd.prog 78 #[idxV A nl c b, .int .i64 root, .int .i64 i] w fun e w' => e = .returned (.tuple #[vSd y, .bool true]) ∧ Gr w w' := by
  have hMl : M < L.length := (List.getElem?_eq_some_iff.1 hM).1
  have HM := hid hM; have HY := hid hy; have HF := hid hf; have HNO := hid hno; have HXL := hid hxl
  clear hM hy hf hno hxl
  refine (callsIn_wide (n := 5)).1 (callsIn_of_wp_marks Tryd.func78 rfl trivial ?_ rfl)
  simp only [Tryd.ntmps78, List.size_toArray, List.length_cons, List.length_nil, Nat.reduceAdd, Nat.reduceSub, Array.replicate_succ, Array.replicate_zero, List.push_toArray, List.append_toArray, List.nil_append, List.cons_append]
  gi_wp2_with fail
  refine (callsIn_wide.2 (iUp A nl c b i _)).mono ?_
  rintro e w1 ⟨rfl, b1, b2, hg1⟩
  simp only [World.size_alloc] at b1 b2 ⊢
  obtain ⟨x0, x1, x2, x3, _, g0⟩ := alloc4 hg1
  have B1 := hid b1; have B2 := hid b2; have X0 := hid x0; have X1 := hid x1; have X2 := hid x2; have X3 := hid x3; have G1 := hid g0
  clear b1 b2 x0 x1 x2 x3 g0 hg1
  have hsz := G1.out.size
  gi_wp2
  refine wpIn_rangeFunc_brk rfl (by omega) (gf := 90) (lb := #[.pointer (some ⟨w.heap.size + 1 + 1 + 1 + 1 + 1, 0, none⟩), .pointer (some ⟨w.heap.size + 1 + 1 + 1 + 1, 0, none⟩)]) rfl trivial (fun _ _ => by kernel_rfl) (fun _ W => Gr w1 W)
    (fun W => Gr w W ∧ W.heap[w.heap.size + 1 + 1]? = some (.cells (cSd y).toArray 54) ∧ W.heap[w.heap.size + 1 + 1 + 1]? = some (.cells #[.bool true] 4))
    (up_handsB 4 (by omega) A nl c b _ _ xs i L M hMl _ _ HXL.out hL fun k W h => ⟨h.keep B1.out, h.keep B2.out, X.out.keep (G1.out.trans h)⟩) (fun _ => rfl) ?_ ?_ ?_ ?_ (Gr.refl w1) ?round ?last ?done
  · exact fun k W W' h hg => h.trans hg
  · exact fun k W r o o' h hr hc hge => h.putObj hge _
  · rintro W W' ⟨h1, h2, h3⟩ hg
    exact ⟨h1.trans hg, hg.keep h2, hg.keep h3⟩
  · rintro W r o o' ⟨h1, h2, h3⟩ hr hc hge
    exact ⟨h1.putObj (by omega) _, heap_putI _ h2 hr hc, heap_putI _ h3 hr hc⟩
  case round =>
    intro l k W hg hk hlt
    obtain ⟨p, hp⟩ : ∃ p, L[k]? = some p := ⟨L[k]'(by omega), List.getElem?_eq_getElem _⟩
    obtain ⟨j', y', rfl, hy', hn1, _, _⟩ := upR_get hL.out k p hp
    have hne : y'.f ≠ root := fun h => HNO.out k hk (hn1.trans h)
    rw [encI_at hp]
    simp only [List.zip_toArray, List.zip_cons_cons, List.zip_nil_right, List.foldl_toArray, List.foldl_cons, List.foldl_nil]
    have HG := hid hg
    clear hg hp hn1
    gi_wp2
    refine ⟨KeepsOthers.refl _, fun o o' ho hc => ?_⟩
    obtain ⟨Wb, hWb⟩ : ∃ Wb, W.putObj (w1.heap.size + 1) o' = Wb := ⟨_, rfl⟩
    have hgb : Gr w1 Wb := by rw [← hWb]; exact HG.out.putObj (by omega) _
    rw [hWb]
    have HGB := hid hgb
    clear hWb ho hc hgb
    gi_wp2_with fail
    obtain ⟨ad, rfl, cy⟩ := X.out.keep (G1.out.trans HGB.out) j' y' hy'
    have hjn : j' < nl := by rw [← HXL.out]; exact (List.getElem?_eq_some_iff.1 hy').1
    have CY := hid cy
    have hne2 : (y'.f == root) = false := by simpa using hne
    clear cy
    refine region_round (by kernel_rfl) (nodefer (by kernel_rfl)) (fun ⟨_, _, h⟩ => h) (any_reg0 7 (by kernel_rfl) ?_)
    apply Exists.intro
    refine ⟨fun wb hb => ?_, ?_⟩
    · obtain ⟨_, _⟩ := (hb.at2 (HGB.out.keep X0.out))
      have _ := hb.at1 (HGB.out.keep X1.out)
      have _ := hb.atF CY.out.h1
      simp only [headOps, List.contains, List.elem, reduceIte, Bool.false_eq_true]
      repeat (first | go_big_quiet_step (first | (fail)) | quiet_step (fail))
      exact wpQuiet_nil rfl
    intro w5 hg5
    simp only [List.drop_succ_cons, List.drop_zero]
    have HG5 := hid hg5
    clear hg5
    go_wp2_with fail
    gi_wp2
    exact ⟨HG5.out.others, HGB.out.trans HG5.out⟩
  case last =>
    intro l W hg hlt
    rw [encI_at HM.out]
    simp only [List.zip_toArray, List.zip_cons_cons, List.zip_nil_right, List.foldl_toArray, List.foldl_cons, List.foldl_nil]
    have HG := hid hg
    clear hg
    gi_wp2
    refine ⟨KeepsOthers.refl _, fun o o' ho hc => ?_⟩
    obtain ⟨Wb, hWb⟩ : ∃ Wb, W.putObj (w1.heap.size + 1) o' = Wb := ⟨_, rfl⟩
    have hgb : Gr w1 Wb := by rw [← hWb]; exact HG.out.putObj (by omega) _
    rw [hWb]
    have HGB := hid hgb
    clear hWb ho hc hgb
    gi_wp2_with fail
    obtain ⟨ad, rfl, cy⟩ := X.out.keep (G1.out.trans HGB.out) j y HY.out
    have hjn : j < nl := by rw [← HXL.out]; exact (List.getElem?_eq_some_iff.1 HY.out).1
    have CY := hid cy
    have hne2 : (y.f == root) = true := by rw [HF.out]; simp
    clear cy
    refine region_round (by kernel_rfl) (nodefer (by kernel_rfl)) (fun ⟨_, _, h⟩ => h) (any_reg0 7 (by kernel_rfl) ?_)
    apply Exists.intro
    refine ⟨fun wb hb => ?_, ?_⟩
    · obtain ⟨_, _⟩ := (hb.at2 (HGB.out.keep X0.out))
      have _ := hb.at1 (HGB.out.keep X1.out)
      have _ := hb.atF CY.out.h1
      simp only [headOps, List.contains, List.elem, reduceIte, Bool.false_eq_true]
      repeat (first | go_big_quiet_step (first | (fail)) | quiet_step (fail))
      exact wpQuiet_nil rfl
    intro w5 hg5
    simp only [List.drop_succ_cons, List.drop_zero]
    have HG5 := hid (HGB.out.trans hg5); have HK5 := hid hg5.others
    have CY5 := CY.out.keep hg5
    obtain ⟨_, _⟩ := cells2 (HG5.out.keep X0.out)
    have b2 := HG5.out.keep X2.out
    have b3 := HG5.out.keep X3.out
    obtain ⟨_, _, _, _, _, _, _, _, _, _⟩ := cells10 b2
    have f2 := fz b2
    have _ := cells1 b3
    have f3 := fz b3
    have Y2 := hid b2; have Y3 := hid b3
    have _ := CY5.h0; have _ := CY5.h1; have _ := CY5.h2; have _ := CY5.h3; have _ := CY5.h4; have _ := CY5.h5; have _ := CY5.h6; have _ := CY5.h7; have _ := CY5.h8; have _ := CY5.h9
    clear hg5 b2 b3 CY5
    go_wp2_with fail
    gi_wp2
    refine ⟨(((((((((((HK5.out.trans (KeepsOthers.setCell _ _ _)).trans (KeepsOthers.setCell _ _ _)).trans (KeepsOthers.setCell _ _ _)).trans (KeepsOthers.setCell _ _ _)).trans (KeepsOthers.setCell _ _ _)).trans (KeepsOthers.setCell _ _ _)).trans (KeepsOthers.setCell _ _ _)).trans (KeepsOthers.setCell _ _ _)).trans (KeepsOthers.setCell _ _ _)).trans (KeepsOthers.setCell _ _ _)).trans (KeepsOthers.setCell _ _ _)), ((((((((((((G1.out.trans HG5.out).setCell (by simp; omega) _).setCell (by simp; omega) _).setCell (by simp; omega) _).setCell (by simp; omega) _).setCell (by simp; omega) _).setCell (by simp; omega) _).setCell (by simp; omega) _).setCell (by simp; omega) _).setCell (by simp; omega) _).setCell (by simp; omega) _).setCell (by simp; omega) _), ?_, ?_⟩
    · exact keepSetI (setSd10 y Y2.out) (by simp)
    · have e := Joins.block_setCell (i := 0) (keepSd10 y Y3.out (g := w.heap.size + 1 + 1) (by omega)) (.bool true)
      simpa using e
  case done =>
    rintro W ⟨hg, h2, h3⟩ hD
    obtain ⟨_, _, _, _, _, _, _, _, _, _⟩ := cells10 (heap_putI (.deferred none) h2 hD rfl)
    have _ := cells1 (heap_putI (.deferred none) h3 hD rfl)
    have HG := hid hg; have HD := hid hD
    clear hg hD h2 h3
    gi_wp2
    refine ⟨by simp, .inl ⟨_, _, rfl, run_takeDeferred HD.out, ?_⟩⟩
    refine ⟨.tuple #[vSd y, .bool true], ?_, rfl, HG.out.putObj (by omega) _⟩
    simp [results, Tryd.results78, go_sem, *]
set_option maxRecDepth 100000 in
set_option maxHeartbeats 2000000 in
theorem iBehind_no (A : Option Addr) (nl c b : Nat) (xs : List Sdv) (i root : Int) (L : List Int) (w : World) (hL : Hid (UpR xs i L)) (hxl : xs.length = nl) (hno : ∀ k, k < L.length → upAt L (k + 1) ≠ root) (X : Hid (RdSd w A xs)) :
    Calls Tryd.prog 78 #[idxV A nl c b, .int .i64 root, .int .i64 i] w fun e w' => e = .returned (.tuple #[vSd zSd, .bool false]) ∧ Gr w w' := by
  have HNO := hid hno; have HXL := hid hxl
  clear hno hxl
  refine (callsIn_wide (n := 5)).1 (callsIn_of_wp_marks Tryd.func78 rfl trivial ?_ rfl)
  simp only [Tryd.ntmps78, List.size_toArray, List.length_cons, List.length_nil, Nat.reduceAdd, Nat.reduceSub, Array.replicate_succ, Array.replicate_zero, List.push_toArray, List.append_toArray, List.nil_append, List.cons_append]
  gi_wp2_with fail
  refine (callsIn_wide.2 (iUp A nl c b i _)).mono ?_
  rintro e w1 ⟨rfl, b1, b2, hg1⟩
  simp only [World.size_alloc] at b1 b2 ⊢
  obtain ⟨x0, x1, x2, x3, _, g0⟩ := alloc4 hg1
  have B1 := hid b1; have B2 := hid b2; have X0 := hid x0; have X1 := hid x1; have X2 := hid x2; have X3 := hid x3; have G1 := hid g0
  clear b1 b2 x0 x1 x2 x3 g0 hg1
  have hsz := G1.out.size
  gi_wp2
  refine wpIn_rangeFunc_gr rfl (by omega) (gf := 90) (lb := #[.pointer (some ⟨w.heap.size + 1 + 1 + 1 + 1 + 1, 0, none⟩), .pointer (some ⟨w.heap.size + 1 + 1 + 1 + 1, 0, none⟩)]) rfl trivial (fun _ _ => by kernel_rfl) (fun _ W => Gr w1 W)
    (up_hands 4 (by omega) A nl c b _ _ xs i L _ _ HXL.out hL fun k W h => ⟨h.keep B1.out, h.keep B2.out, X.out.keep (G1.out.trans h)⟩) (fun _ => rfl) ?_ ?_ (Gr.refl w1) ?round ?done ?pan
  · exact fun k W W' h hg => h.trans hg
  · exact fun k W r o o' h hr hc hge => h.putObj hge _
  case round =>
    intro l k W hg hk hlt
    obtain ⟨p, hp⟩ : ∃ p, L[k]? = some p := ⟨L[k]'(by omega), List.getElem?_eq_getElem _⟩
    obtain ⟨j', y', rfl, hy', hn1, _, _⟩ := upR_get hL.out k p hp
    have hne : y'.f ≠ root := fun h => HNO.out k hk (hn1.trans h)
    rw [encI_at hp]
    simp only [List.zip_toArray, List.zip_cons_cons, List.zip_nil_right, List.foldl_toArray, List.foldl_cons, List.foldl_nil]
    have HG := hid hg
    clear hg hp hn1
    gi_wp2
    refine ⟨KeepsOthers.refl _, fun o o' ho hc => ?_⟩
    obtain ⟨Wb, hWb⟩ : ∃ Wb, W.putObj (w1.heap.size + 1) o' = Wb := ⟨_, rfl⟩
    have hgb : Gr w1 Wb := by rw [← hWb]; exact HG.out.putObj (by omega) _
    rw [hWb]
    have HGB := hid hgb
    clear hWb ho hc hgb
    gi_wp2_with fail
    obtain ⟨ad, rfl, cy⟩ := X.out.keep (G1.out.trans HGB.out) j' y' hy'
    have hjn : j' < nl := by rw [← HXL.out]; exact (List.getElem?_eq_some_iff.1 hy').1
    have CY := hid cy
    have hne2 : (y'.f == root) = false := by simpa using hne
    clear cy
    refine region_round (by kernel_rfl) (nodefer (by kernel_rfl)) (fun ⟨_, _, h⟩ => h) (any_reg0 7 (by kernel_rfl) ?_)
    apply Exists.intro
    refine ⟨fun wb hb => ?_, ?_⟩
    · obtain ⟨_, _⟩ := (hb.at2 (HGB.out.keep X0.out))
      have _ := hb.at1 (HGB.out.keep X1.out)
      have _ := hb.atF CY.out.h1
      simp only [headOps, List.contains, List.elem, reduceIte, Bool.false_eq_true]
      repeat (first | go_big_quiet_step (first | (fail)) | quiet_step (fail))
      exact wpQuiet_nil rfl
    intro w5 hg5
    simp only [List.drop_succ_cons, List.drop_zero]
    have HG5 := hid hg5
    clear hg5
    go_wp2_with fail
    gi_wp2
    exact ⟨HG5.out.others, HGB.out.trans HG5.out⟩
  case done =>
    rintro W _ hg hD
    have b2 := hg.keep X2.out
    have b3 := hg.keep X3.out
    obtain ⟨_, _, _, _, _, _, _, _, _, _⟩ := cells10 b2
    have f2 := fz b2
    have _ := cells1 b3
    have f3 := fz b3
    have Y2 := hid b2; have Y3 := hid b3
    have HG := hid hg; have HD := hid hD
    clear hg hD b2 b3
    gi_wp2
    refine (show ∀ Wf : World, Wf.heap[w.heap.size + 1 + 1]? = some (.cells (cSd zSd).toArray 54) → Wf.heap[w.heap.size + 1 + 1 + 1]? = some (.cells #[.bool false] 4) → Wf.heap[w1.heap.size]? = some (.deferred (some [])) → Gr w Wf → bodyPostM _ _ _ _ _ _ _ Wf from fun Wf h2 h3 hd hg => ?_) _ ?_ ?_ ?_ ?_
    · obtain ⟨_, _, _, _, _, _, _, _, _, _⟩ := cells10 (heap_putI (.deferred none) h2 hd rfl)
      have _ := cells1 (heap_putI (.deferred none) h3 hd rfl)
      refine ⟨by simp, .inl ⟨_, _, rfl, run_takeDeferred hd, ?_⟩⟩
      refine ⟨.tuple #[vSd zSd, .bool false], ?_, rfl, hg.putObj (by omega) _⟩
      simp [results, Tryd.results78, go_sem, *]
    · exact keepSetI (setSd10 zSd Y2.out) (by simp)
    · have e := Joins.block_setCell (i := 0) (keepSd10 zSd Y3.out (g := w.heap.size + 1 + 1) (by omega)) (.bool false)
      have e2 : (#[.bool false] : Array Value).setIfInBounds 0 (.bool false) = #[.bool false] := rfl
      rw [e2] at e
      exact e
    · exact keepSetI (keepSd10 zSd HD.out (by omega)) (by show w1.heap.size ≠ w.heap.size + 1 + 1 + 1; omega)
    · exact ((((((((((((G1.out.trans HG.out).setCell (by simp; omega) _).setCell (by simp; omega) _).setCell (by simp; omega) _).setCell (by simp; omega) _).setCell (by simp; omega) _).setCell (by simp; omega) _).setCell (by simp; omega) _).setCell (by simp; omega) _).setCell (by simp; omega) _).setCell (by simp; omega) _).setCell (by simp; omega) _)
  case pan =>
    rintro S' ch k W h
    cases h
end Go.Proofs.YtadpoocafhddeaaDoor
namespace Go.Proofs.YtadpoocafhddeaaDoor
open Go.RowKit Go.Sort

set_option maxRecDepth 20000 in
set_option maxHeartbeats 1000000 in
theorem iUsers1_yes (ad0 : Option Addr) (n c b : Nat) (xs : List Sdv) (i root d : Int) (L : List Int) (M j : Nat) (y : Sdv) (bx br bd : Nat) (w : World) (hL : Hid (UpR xs i L)) (hxl : xs.length = n) (hM : L[M]? = some (j : Int)) (hy : xs[j]? = some y) (hf : y.f = root) (hno : ∀ k, k < M → upAt L (k + 1) ≠ root) (X : Hid (RdSd w ad0 xs))
    (hx : w.heap[bx]? = some (.cells #[.slice ad0 n c, .map (some b)] 59)) (hr : w.heap[br]? = some (.cells #[.int .i64 root] 2)) (hd : w.heap[bd]? = some (.cells #[.int .i64 d] 2)) :
    Calls Tryd.prog 77 #[.int .i64 i, .pointer (some ⟨bx, 0, none⟩), .pointer (some ⟨br, 0, none⟩), .pointer (some ⟨bd, 0, none⟩)] w fun e w' => e = .returned (.bool (decide (d ≤ y.m))) ∧ Gr w w' := by
  have HX := hid hx; have HR := hid hr; have HD := hid hd
  have HB := hid (iBehind_yes ad0 n c b xs i root L M j y w hL hxl hM hy hf hno X)
  clear hx hr hd hxl hM hy hf hno
  by_cases h : d ≤ y.m
  · rw [decide_eq_true h]
    go_enter Tryd.func77, Tryd.ntmps77
    obtain ⟨_, _⟩ := cells2 HX.out
    have _ := fz HX.out
    have _ := ltb HX.out
    have _ := cells1 HR.out
    have _ := fz HR.out
    have _ := ltb HR.out
    have _ := cells1 HD.out
    have _ := fz HD.out
    have _ := ltb HD.out
    go_wp2_with fail
    refine (HB.out).mono ?_
    rintro e w1 ⟨rfl, hg1⟩
    have x1_1 := hg1.keep HX.out
    have x1_2 := hg1.keep HR.out
    have x1_3 := hg1.keep HD.out
    obtain ⟨_, _⟩ := cells2 x1_1
    have _ := fz x1_1
    have _ := ltb x1_1
    have _ := cells1 x1_2
    have _ := fz x1_2
    have _ := ltb x1_2
    have _ := cells1 x1_3
    have _ := fz x1_3
    have _ := ltb x1_3
    have X1_1 := hid x1_1; clear x1_1
    have X1_2 := hid x1_2; clear x1_2
    have X1_3 := hid x1_3; clear x1_3
    have G1 := hid (hg1)
    clear hg1
    go_wp2
    go_ret
    exact ⟨rfl, G1.out.al _⟩
  · rw [decide_eq_false h]
    go_enter Tryd.func77, Tryd.ntmps77
    obtain ⟨_, _⟩ := cells2 HX.out
    have _ := fz HX.out
    have _ := ltb HX.out
    have _ := cells1 HR.out
    have _ := fz HR.out
    have _ := ltb HR.out
    have _ := cells1 HD.out
    have _ := fz HD.out
    have _ := ltb HD.out
    go_wp2_with fail
    refine (HB.out).mono ?_
    rintro e w1 ⟨rfl, hg1⟩
    have x1_1 := hg1.keep HX.out
    have x1_2 := hg1.keep HR.out
    have x1_3 := hg1.keep HD.out
    obtain ⟨_, _⟩ := cells2 x1_1
    have _ := fz x1_1
    have _ := ltb x1_1
    have _ := cells1 x1_2
    have _ := fz x1_2
    have _ := ltb x1_2
    have _ := cells1 x1_3
    have _ := fz x1_3
    have _ := ltb x1_3
    have X1_1 := hid x1_1; clear x1_1
    have X1_2 := hid x1_2; clear x1_2
    have X1_3 := hid x1_3; clear x1_3
    have G1 := hid (hg1)
    clear hg1
    go_wp2
    go_ret
    refine ⟨?_, G1.out.al _⟩
    show Ending.returned (Value.bool (decide (d ≤ y.m))) = _
    rw [decide_eq_false (by omega)]
set_option maxRecDepth 20000 in
set_option maxHeartbeats 1000000 in
theorem iUsers1_no (ad0 : Option Addr) (n c b : Nat) (xs : List Sdv) (i root d : Int) (L : List Int) (bx br bd : Nat) (w : World) (hL : Hid (UpR xs i L)) (hxl : xs.length = n) (hno : ∀ k, k < L.length → upAt L (k + 1) ≠ root) (X : Hid (RdSd w ad0 xs))
    (hx : w.heap[bx]? = some (.cells #[.slice ad0 n c, .map (some b)] 59)) (hr : w.heap[br]? = some (.cells #[.int .i64 root] 2)) (hd : w.heap[bd]? = some (.cells #[.int .i64 d] 2)) :
    Calls Tryd.prog 77 #[.int .i64 i, .pointer (some ⟨bx, 0, none⟩), .pointer (some ⟨br, 0, none⟩), .pointer (some ⟨bd, 0, none⟩)] w fun e w' => e = .returned (.bool false) ∧ Gr w w' := by
  have HX := hid hx; have HR := hid hr; have HD := hid hd
  have HB := hid (iBehind_no ad0 n c b xs i root L w hL hxl hno X)
  clear hx hr hd hxl hno
  go_enter Tryd.func77, Tryd.ntmps77
  obtain ⟨_, _⟩ := cells2 HX.out
  have _ := fz HX.out
  have _ := ltb HX.out
  have _ := cells1 HR.out
  have _ := fz HR.out
  have _ := ltb HR.out
  have _ := cells1 HD.out
  have _ := fz HD.out
  have _ := ltb HD.out
  go_wp2_with fail
  refine (HB.out).mono ?_
  rintro e w1 ⟨rfl, hg1⟩
  have x1_1 := hg1.keep HX.out
  have x1_2 := hg1.keep HR.out
  have x1_3 := hg1.keep HD.out
  obtain ⟨_, _⟩ := cells2 x1_1
  have _ := fz x1_1
  have _ := ltb x1_1
  have _ := cells1 x1_2
  have _ := fz x1_2
  have _ := ltb x1_2
  have _ := cells1 x1_3
  have _ := fz x1_3
  have _ := ltb x1_3
  have X1_1 := hid x1_1; clear x1_1
  have X1_2 := hid x1_2; clear x1_2
  have X1_3 := hid x1_3; clear x1_3
  have G1 := hid (hg1)
  clear hg1
  go_wp2
  go_ret
  exact ⟨rfl, G1.out.al _⟩
theorem iUsers1 (ad0 : Option Addr) (n c b : Nat) (xs : List Sdv) (i root d : Int) (L : List Int) (bx br bd : Nat) (w : World) (hL : Hid (UpR xs i L)) (hxl : xs.length = n) (X : Hid (RdSd w ad0 xs))
    (hx : w.heap[bx]? = some (.cells #[.slice ad0 n c, .map (some b)] 59)) (hr : w.heap[br]? = some (.cells #[.int .i64 root] 2)) (hd : w.heap[bd]? = some (.cells #[.int .i64 d] 2)) :
    Calls Tryd.prog 77 #[.int .i64 i, .pointer (some ⟨bx, 0, none⟩), .pointer (some ⟨br, 0, none⟩), .pointer (some ⟨bd, 0, none⟩)] w fun e w' => e = .returned (.bool (usL xs root d L)) ∧ Gr w w' := by
  rcases usL_cases xs root d L with ⟨M, p, h1, h2, h3, h4⟩ | ⟨h1, h2⟩
  · obtain ⟨j, y, rfl, hy, hn, _, _⟩ := upR_get hL.out M p h1
    rw [show (j : Int).toNat = j by omega, hy] at h4
    rw [h4]
    exact iUsers1_yes ad0 n c b xs i root d L M j y bx br bd w hL hxl h1 hy (hn.symm.trans h2) h3 X hx hr hd
  · rw [h2]
    exact iUsers1_no ad0 n c b xs i root d L bx br bd w hL hxl h1 X hx hr hd
/-- Who is a user, by the paths of all. -/
def usP (xs : List Sdv) (Lf : Nat → List Int) (i d : Int) (k : Nat) : Bool := usL xs i d (Lf k)
/-- The paths of a chain. -/
def LfP (xs : List Sdv) (Lf : Nat → List Int) : Prop := ∀ k, k < xs.length → UpR xs (k : Int) (Lf k)
set_option maxRecDepth 20000 in
set_option maxHeartbeats 1000000 in
theorem iUsersSince (B : Option Addr) (c b : Nat) (xs : List Sdv) (Lf : Nat → List Int) (i d : Int) (w : World) (h30 : xs.length ≤ 30) (hLf : Hid (LfP xs Lf)) (hrd : Hid (RdSd w B xs)) :
    Calls Tryd.prog 56 #[idxV B xs.length c b, .int .i64 i, .int .i64 d] w fun e w' => (∃ A c, e = .returned (.slice A (whL (usP xs Lf i d) xs.length).length c) ∧ w'.ownsRow w.heap.size 2 1 (.slice A (whL (usP xs Lf i d) xs.length).length c) (whL (usP xs Lf i d) xs.length).length ((whL (usP xs Lf i d) xs.length).map (.int .i64 ·))) ∧ Gr w w' := by
  go_enter Tryd.func56, Tryd.ntmps56
  go_wp2_with fail
  refine (iWhere B xs.length c b 77 _ (usP xs Lf i d) _ h30 (fun _ _ => by kernel_rfl) ?_).mono ?_
  · intro k w' hk hg
    obtain ⟨y0, y1, y2, _, g0⟩ := alloc3 hg
    exact iUsers1 B xs.length c b xs k i d (Lf k) _ _ _ w' (hid (hLf.out k hk)) rfl (hid (hrd.out.keep g0)) y0 y1 y2
  · rintro e w1 ⟨⟨A, c1, rfl, hR⟩, hg⟩
    have G := hid (alloc3 hg).2.2.2.2; have HR := hid (own_base hR (show w.heap.size ≤ _ by simp; omega)); clear hg hR
    go_wp2_with fail
    go_ret
    exact ⟨⟨A, c1, rfl, HR.out⟩, G.out⟩
set_option maxRecDepth 20000 in
set_option maxHeartbeats 1000000 in
theorem iRecall1_no (B : Option Addr) (c' : Nat) (m : Option Nat) (s : Nat) (xs : List Sdv) (i d : Int) (bi bd : Nat) (w : World) (hx : Hid (IdxR w B xs.length m xs)) (hi : w.heap[bi]? = some (.cells #[.int .i64 i] 2)) (hd : w.heap[bd]? = some (.cells #[.int .i64 d] 2)) (h : hasB xs.length i = false) :
    Calls Tryd.prog 55 #[chnV B xs.length c' m s, .pointer (some ⟨bi, 0, none⟩), .pointer (some ⟨bd, 0, none⟩)] w fun e w' => (∃ A c, e = .returned (.tuple #[.slice A 0 c, .iface 66 (.int .i64 2)]) ∧ w'.ownsRow w.heap.size 2 1 (.slice A 0 c) 0 []) ∧ Gr w w' := by
  obtain ⟨_, hr, b, rfl, hm⟩ := hx.out
  have H := hid h; have HI := hid hi; have HD := hid hd
  clear h hi hd hr hm
  go_enter Tryd.func55, Tryd.ntmps55
  have _ := cells1 HI.out
  have _ := fz HI.out
  have _ := ltb HI.out
  have _ := cells1 HD.out
  have _ := fz HD.out
  have _ := ltb HD.out
  go_wp2_with fail
  refine (iHas_is B xs.length c' b i false _ H.out).mono ?_
  rintro e w1 ⟨rfl, hg1⟩
  obtain ⟨x1_0, hz1, g1⟩ := alloc1 hg1
  have x1_1 := g1.keep HI.out
  have x1_2 := g1.keep HD.out
  obtain ⟨_, _, _⟩ := cells3 x1_0
  have _ := fz x1_0
  have _ := ltb x1_0
  have _ := cells1 x1_1
  have _ := fz x1_1
  have _ := ltb x1_1
  have _ := cells1 x1_2
  have _ := fz x1_2
  have _ := ltb x1_2
  have X1_0 := hid x1_0; clear x1_0
  have X1_1 := hid x1_1; clear x1_1
  have X1_2 := hid x1_2; clear x1_2
  have G1 := hid (g1)
  clear hg1 g1
  go_wp2
  go_ret2
  exact ⟨⟨_, _, rfl, World.ownsRow_nil _ _ _ _⟩, G1.out⟩
set_option maxRecDepth 20000 in
set_option maxHeartbeats 1000000 in
theorem iRecall1_day (B : Option Addr) (c' : Nat) (m : Option Nat) (s : Nat) (xs : List Sdv) (i d : Int) (bi bd : Nat) (w : World) (hx : Hid (IdxR w B xs.length m xs)) (hi : w.heap[bi]? = some (.cells #[.int .i64 i] 2)) (hd : w.heap[bd]? = some (.cells #[.int .i64 d] 2)) (h : hasB xs.length i = true) (h2 : dayB d = false) :
    Calls Tryd.prog 55 #[chnV B xs.length c' m s, .pointer (some ⟨bi, 0, none⟩), .pointer (some ⟨bd, 0, none⟩)] w fun e w' => (∃ A c, e = .returned (.tuple #[.slice A 0 c, .iface 66 (.int .i64 2)]) ∧ w'.ownsRow w.heap.size 2 1 (.slice A 0 c) 0 []) ∧ Gr w w' := by
  obtain ⟨_, hr, b, rfl, hm⟩ := hx.out
  have H := hid h; have H2 := hid h2; have HI := hid hi; have HD := hid hd
  clear h h2 hi hd hr hm
  go_enter Tryd.func55, Tryd.ntmps55
  have _ := cells1 HI.out
  have _ := fz HI.out
  have _ := ltb HI.out
  have _ := cells1 HD.out
  have _ := fz HD.out
  have _ := ltb HD.out
  go_wp2_with fail
  refine (iHas_is B xs.length c' b i true _ H.out).mono ?_
  rintro e w1 ⟨rfl, hg1⟩
  obtain ⟨x1_0, hz1, g1⟩ := alloc1 hg1
  have x1_1 := g1.keep HI.out
  have x1_2 := g1.keep HD.out
  obtain ⟨_, _, _⟩ := cells3 x1_0
  have _ := fz x1_0
  have _ := ltb x1_0
  have _ := cells1 x1_1
  have _ := fz x1_1
  have _ := ltb x1_1
  have _ := cells1 x1_2
  have _ := fz x1_2
  have _ := ltb x1_2
  have X1_0 := hid x1_0; clear x1_0
  have X1_1 := hid x1_1; clear x1_1
  have X1_2 := hid x1_2; clear x1_2
  have G1 := hid (g1)
  clear hg1 g1
  go_wp2_with fail
  refine (iDay_is d false _ H2.out).mono ?_
  rintro e w2 ⟨rfl, hg2⟩
  have x2_1 := hg2.keep X1_0.out
  have x2_2 := hg2.keep X1_1.out
  have x2_3 := hg2.keep X1_2.out
  obtain ⟨_, _, _⟩ := cells3 x2_1
  have _ := fz x2_1
  have _ := ltb x2_1
  have _ := cells1 x2_2
  have _ := fz x2_2
  have _ := ltb x2_2
  have _ := cells1 x2_3
  have _ := fz x2_3
  have _ := ltb x2_3
  have X2_1 := hid x2_1; clear x2_1
  have X2_2 := hid x2_2; clear x2_2
  have X2_3 := hid x2_3; clear x2_3
  have G2 := hid (G1.out.trans hg2)
  clear hg2
  go_wp2
  go_ret2
  exact ⟨⟨_, _, rfl, World.ownsRow_nil _ _ _ _⟩, G2.out⟩
set_option maxRecDepth 20000 in
set_option maxHeartbeats 1000000 in
theorem iRecall1_yes (B : Option Addr) (c' : Nat) (m : Option Nat) (s : Nat) (xs : List Sdv) (Lf : Nat → List Int) (i d : Int) (bi bd : Nat) (w : World) (h30 : xs.length ≤ 30) (hLf : Hid (LfP xs Lf)) (hx : Hid (IdxR w B xs.length m xs)) (hi : w.heap[bi]? = some (.cells #[.int .i64 i] 2)) (hd : w.heap[bd]? = some (.cells #[.int .i64 d] 2)) (h : hasB xs.length i = true) (h2 : dayB d = true) :
    Calls Tryd.prog 55 #[chnV B xs.length c' m s, .pointer (some ⟨bi, 0, none⟩), .pointer (some ⟨bd, 0, none⟩)] w fun e w' => (∃ A c, e = .returned (.tuple #[.slice A (whL (usP xs Lf i d) xs.length).length c, .nilIface]) ∧ w'.ownsRow w.heap.size 2 1 (.slice A (whL (usP xs Lf i d) xs.length).length c) (whL (usP xs Lf i d) xs.length).length ((whL (usP xs Lf i d) xs.length).map (.int .i64 ·))) ∧ Gr w w' := by
  obtain ⟨_, hr, b, rfl, hm⟩ := hx.out
  have H := hid h; have H2 := hid h2; have HI := hid hi; have HD := hid hd; have HRD := hid hr
  clear h h2 hi hd hr hm
  go_enter Tryd.func55, Tryd.ntmps55
  have _ := cells1 HI.out
  have _ := fz HI.out
  have _ := ltb HI.out
  have _ := cells1 HD.out
  have _ := fz HD.out
  have _ := ltb HD.out
  go_wp2_with fail
  refine (iHas_is B xs.length c' b i true _ H.out).mono ?_
  rintro e w1 ⟨rfl, hg1⟩
  obtain ⟨x1_0, hz1, g1⟩ := alloc1 hg1
  have x1_1 := g1.keep HI.out
  have x1_2 := g1.keep HD.out
  obtain ⟨_, _, _⟩ := cells3 x1_0
  have _ := fz x1_0
  have _ := ltb x1_0
  have _ := cells1 x1_1
  have _ := fz x1_1
  have _ := ltb x1_1
  have _ := cells1 x1_2
  have _ := fz x1_2
  have _ := ltb x1_2
  have X1_0 := hid x1_0; clear x1_0
  have X1_1 := hid x1_1; clear x1_1
  have X1_2 := hid x1_2; clear x1_2
  have G1 := hid (g1)
  clear hg1 g1
  go_wp2_with fail
  refine (iDay_is d true _ H2.out).mono ?_
  rintro e w2 ⟨rfl, hg2⟩
  have x2_1 := hg2.keep X1_0.out
  have x2_2 := hg2.keep X1_1.out
  have x2_3 := hg2.keep X1_2.out
  obtain ⟨_, _, _⟩ := cells3 x2_1
  have _ := fz x2_1
  have _ := ltb x2_1
  have _ := cells1 x2_2
  have _ := fz x2_2
  have _ := ltb x2_2
  have _ := cells1 x2_3
  have _ := fz x2_3
  have _ := ltb x2_3
  have X2_1 := hid x2_1; clear x2_1
  have X2_2 := hid x2_2; clear x2_2
  have X2_3 := hid x2_3; clear x2_3
  have G2 := hid (G1.out.trans hg2)
  clear hg2
  go_wp2_with fail
  refine (iUsersSince B c' b xs Lf i d _ h30 hLf (hid (HRD.out.keep G2.out))).mono ?_
  rintro e w3 ⟨⟨A, c1, rfl, hR⟩, hg⟩
  have HR := hid (own_base hR G2.out.size); have G3 := hid (G2.out.trans hg)
  clear hR hg
  go_wp2_with fail
  go_ret2
  exact ⟨⟨A, c1, rfl, HR.out⟩, G3.out⟩

set_option maxRecDepth 20000 in
set_option maxHeartbeats 1000000 in
theorem iRecall_0 (A : Option Addr) (c : Nat) (xs : List Sdv) (i d : Int) (w : World) (X : Hid (RdSd w A xs)) (E : Hid (ErrT w)) (hn : xs.length ≤ 1048576) (hch : ¬ chP xs) :
    Calls Tryd.prog 30 #[.slice A xs.length c, .int .i64 i, .int .i64 d] w fun e w' => GivesI w w' e [] 1 := by
  go_enter Tryd.func30, Tryd.ntmps30
  go_wp2_with fail
  refine (rc_asknoL2 55 _ _ A c xs _ (hid (X.out.keep (((Gr.refl w).al _).al _))) (hid (E.out.keep (((Gr.refl w).al _).al _))) hn hch).mono ?_
  rintro e w1 ⟨⟨A1, c1, rfl, hR⟩, hg⟩
  have G := hid (alloc2 hg).2.2.2; have HR := hid (own_base hR (show w.heap.size ≤ _ by simp; omega)); clear hg hR
  go_wp2_with fail
  go_ret2
  exact ⟨A1, c1, rfl, HR.out, G.out⟩
set_option maxRecDepth 20000 in
set_option maxHeartbeats 1000000 in
theorem iRecall_1 (A : Option Addr) (c : Nat) (xs : List Sdv) (i d : Int) (w : World) (X : Hid (RdSd w A xs)) (E : Hid (ErrT w)) (hn : xs.length ≤ 1048576) (hch : chP xs) (h : hasB xs.length i = false) :
    Calls Tryd.prog 30 #[.slice A xs.length c, .int .i64 i, .int .i64 d] w fun e w' => GivesI w w' e [] 2 := by
  go_enter Tryd.func30, Tryd.ntmps30
  go_wp2_with fail
  refine (rc_askyesL2 55 _ _ 0 [] (.iface 66 (.int .i64 2)) 2 A c xs _ (hid (X.out.keep (((Gr.refl w).al _).al _))) (hid (E.out.keep (((Gr.refl w).al _).al _))) hn hch (.inr rfl) (fun _ _ => by kernel_rfl) (fun w' B c' m s hg hx => iRecall1_no B c' m s xs i d _ _ w' hx (alloc2 hg).1 (alloc2 hg).2.1 h)).mono ?_
  rintro e w1 ⟨⟨A1, c1, rfl, hR⟩, hg⟩
  have G := hid (alloc2 hg).2.2.2; have HR := hid (own_base hR (show w.heap.size ≤ _ by simp; omega)); clear hg hR
  go_wp2_with fail
  go_ret2
  exact ⟨A1, c1, rfl, HR.out, G.out⟩
set_option maxRecDepth 20000 in
set_option maxHeartbeats 1000000 in
theorem iRecall_2 (A : Option Addr) (c : Nat) (xs : List Sdv) (i d : Int) (w : World) (X : Hid (RdSd w A xs)) (E : Hid (ErrT w)) (hn : xs.length ≤ 1048576) (hch : chP xs) (h : hasB xs.length i = true) (h2 : dayB d = false) :
    Calls Tryd.prog 30 #[.slice A xs.length c, .int .i64 i, .int .i64 d] w fun e w' => GivesI w w' e [] 2 := by
  go_enter Tryd.func30, Tryd.ntmps30
  go_wp2_with fail
  refine (rc_askyesL2 55 _ _ 0 [] (.iface 66 (.int .i64 2)) 2 A c xs _ (hid (X.out.keep (((Gr.refl w).al _).al _))) (hid (E.out.keep (((Gr.refl w).al _).al _))) hn hch (.inr rfl) (fun _ _ => by kernel_rfl) (fun w' B c' m s hg hx => iRecall1_day B c' m s xs i d _ _ w' hx (alloc2 hg).1 (alloc2 hg).2.1 h h2)).mono ?_
  rintro e w1 ⟨⟨A1, c1, rfl, hR⟩, hg⟩
  have G := hid (alloc2 hg).2.2.2; have HR := hid (own_base hR (show w.heap.size ≤ _ by simp; omega)); clear hg hR
  go_wp2_with fail
  go_ret2
  exact ⟨A1, c1, rfl, HR.out, G.out⟩
set_option maxRecDepth 20000 in
set_option maxHeartbeats 1000000 in
theorem iRecall_3 (A : Option Addr) (c : Nat) (xs : List Sdv) (Lf : Nat → List Int) (i d : Int) (w : World) (X : Hid (RdSd w A xs)) (E : Hid (ErrT w)) (hn : xs.length ≤ 1048576) (hch : chP xs) (hLf : Hid (LfP xs Lf)) (h : hasB xs.length i = true) (h2 : dayB d = true) :
    Calls Tryd.prog 30 #[.slice A xs.length c, .int .i64 i, .int .i64 d] w fun e w' => GivesI w w' e (whL (usP xs Lf i d) xs.length) 0 := by
  go_enter Tryd.func30, Tryd.ntmps30
  go_wp2_with fail
  refine (rc_askyesL2 55 _ _ (whL (usP xs Lf i d) xs.length).length ((whL (usP xs Lf i d) xs.length).map (.int .i64 ·)) .nilIface 0 A c xs _ (hid (X.out.keep (((Gr.refl w).al _).al _))) (hid (E.out.keep (((Gr.refl w).al _).al _))) hn hch (.inl ⟨rfl, rfl⟩) (fun _ _ => by kernel_rfl) (fun w' B c' m s hg hx => iRecall1_yes B c' m s xs Lf i d _ _ w' (ch_len hch) hLf hx (alloc2 hg).1 (alloc2 hg).2.1 h h2)).mono ?_
  rintro e w1 ⟨⟨A1, c1, rfl, hR⟩, hg⟩
  have G := hid (alloc2 hg).2.2.2; have HR := hid (own_base hR (show w.heap.size ≤ _ by simp; omega)); clear hg hR
  go_wp2_with fail
  go_ret2
  exact ⟨A1, c1, rfl, HR.out, G.out⟩
/-! the reference -/
def blA (ys : List Bool) : Array Value := (ys.map (Value.bool ·)).toArray
theorem blA_cell {w : World} {g k : Nat} {T : TypeId} {ys : List Bool} {r : Bool} (h : w.heap[g]? = some (.cells (blA ys) T)) (hk : ys[k]? = some r) : w.cell? ⟨g, k, none⟩ = some (.bool r) := by
  have : (blA ys)[k]? = some (.bool r) := by unfold blA; simp [hk]
  simp [World.cell?, h, this]
theorem blA_store {w : World} {g k : Nat} {T : TypeId} {ys : List Bool} (r : Bool) (h : w.heap[g]? = some (.cells (blA ys) T)) : (w.setCell ⟨g, k, none⟩ (.bool r)).heap[g]? = some (.cells (blA (ys.set k r)) T) := by
  have e1 := Joins.block_setCell (i := k) h (.bool r)
  have e2 : (blA ys).setIfInBounds k (.bool r) = blA (ys.set k r) := by unfold blA; simp [List.map_set]
  rw [e2] at e1
  exact e1
theorem made_bools (n : Nat) : madeCells #[.bool false] n = blA (List.replicate n false) := by
  refine Array.ext_getElem? fun i => ?_
  by_cases hi : i < n
  · have g : (blA (List.replicate n false))[i]? = some (.bool false) := by unfold blA; simp [hi]
    rw [g]
    unfold madeCells
    simp [hi, Nat.mod_one]
  · rw [Array.getElem?_eq_none (by unfold madeCells; simp; omega), Array.getElem?_eq_none (by unfold blA; simp; omega)]
set_option maxRecDepth 100000 in
theorem make_bools (n : Nat) (hn : n ≤ 1048576) (w : World) :
    (Instr.makeSlice 109 (.int .i64 (n : Int)) (.int .i64 (n : Int))).run Tryd.prog w = .ok (.slice (some ⟨w.heap.size, 0, none⟩) n n) (w.alloc (.cells (blA (List.replicate n false)) 4)) := by
  obtain ⟨i, hi, hz, hs, hb⟩ : ∃ i, Tryd.prog.info? 4 = some i ∧ i.zero = some (.bool false) ∧ i.size = 1 ∧ i.bytes = 1 := ⟨_, rfl, rfl, rfl, rfl⟩
  have h := run_make (P := Tryd.prog) w 109 4 i (.bool false) Tryd.underlying109 hi hz .i64 .i64 n n (by omega) (Int.le_refl _) (by rw [hb]; omega) (by omega)
  rw [hs] at h
  simp only [Int.toNat_natCast, Nat.mul_one] at h
  rw [h, ← made_bools]
  rfl
theorem own_blk {W : World} {base n b : Nat} {E : TypeId} {sz : Nat} {v : Value} {xs : List Value} (h : W.ownsRow base E sz v n xs) (hb : b < base) : v.ownBlock ≠ some b := by
  rcases h.2 with ⟨rfl, _⟩ | ⟨g, cap, cur, rfl, hg, _⟩
  · simp [Value.ownBlock]
  · simp [Value.ownBlock]
    omega
/-- What stands in the marks of the reference behind place k. -/
def inM (p : Nat → Bool) (n k : Nat) (bs : List Bool) : Prop := bs.length = n ∧ ∀ m, m < n → bs[m]? = some (if m < k then p m else false)
theorem inM_set {p : Nat → Bool} {n k : Nat} {bs : List Bool} (h : inM p n k bs) (hk : k < n) : inM p n (k + 1) (bs.set k (p k)) := by
  refine ⟨by simp [h.1], fun m hm => ?_⟩
  rw [List.getElem?_set]
  by_cases e : k = m
  · subst e
    rw [if_pos rfl, if_pos (by rw [h.1]; exact hk), if_pos (by omega)]
  · rw [if_neg e, h.2 m hm]
    by_cases c : m < k
    · rw [if_pos c, if_pos (by omega)]
    · rw [if_neg c, if_neg (by omega)]
theorem whL_low {p : Nat → Bool} : ∀ {n : Nat}, (∀ m, m < n → p m = false) → whL p n = []
  | 0, _ => rfl
  | n + 1, h => by rw [whL_no (h n (by omega))]; exact whL_low fun m hm => h m (by omega)

set_option maxRecDepth 20000 in
set_option maxHeartbeats 4000000 in
theorem sSince (A : Option Addr) (c n : Nat) (xs : List Sdv) (Lf : Nat → List Int) (ir : Nat) (d : Int) (w : World) (X : Hid (RdSd w A xs)) (hn : xs.length = n) (h30 : n ≤ 30) (hLf : Hid (LfP xs Lf)) (hir : ir < n) :
    Calls Tryd.prog 54 #[.slice A n c, .int .i64 (ir : Int), .int .i64 d] w fun e w' => (∃ A c, e = .returned (.slice A (whL (usP xs Lf ir d) n).length c) ∧ w'.ownsRow w.heap.size 2 1 (.slice A (whL (usP xs Lf ir d) n).length c) (whL (usP xs Lf ir d) n).length ((whL (usP xs Lf ir d) n).map (.int .i64 ·))) ∧ Gr w w' := by
  obtain ⟨i0, hi, hz0, hz1, hz2⟩ : ∃ i, Tryd.prog.info? 2 = some i ∧ i.zero = some (.int .i64 0) ∧ i.size = 1 ∧ i.bytes = 8 := ⟨_, rfl, rfl, rfl, rfl⟩
  have HL := hid hn
  have hmk := make_bools n (by omega)
  obtain ⟨p, hp⟩ : ∃ p, usP xs Lf ir d = p := ⟨_, rfl⟩
  have HLOW := hid (show ∀ m, m < n → m ≤ ir → p m = false from fun m hm hle => by rw [← hp]; exact usL_low (hLf.out m (by rw [hn]; exact hm)) (by omega))
  have HSTEP := hid (show ∀ (k : Nat) (y : Sdv), k < n → xs[k]? = some y → y.f < (k : Int) ∧ (p k = if y.f = (ir : Int) then decide (d ≤ y.m) else if (ir : Int) < y.f then p y.f.toNat else false) from fun k y hk hy => by rw [← hp]; exact usL_step (n := n) (fun k hk => hLf.out k (by rw [hn]; exact hk)) hk hy (by omega))
  rw [hp]
  clear hn hp
  go_enter Tryd.func54, Tryd.ntmps54
  go_wp2_with fail
  clear hmk
  go_loopw [8, 9] (fun v u' wr => ∃ (k : Nat) (A' : Option Addr) (c' : Nat) (bs : List Bool), u' = .int .i64 (k : Int) ∧ v = .slice A' (whL p k).length c' ∧ ir + 1 ≤ k ∧ k ≤ n ∧ inM p n k bs ∧ wr.heap[w.heap.size]? = some (.cells (blA bs) 4) ∧ Gr w wr ∧ w.heap.size < wr.heap.size ∧ wr.ownsRow (w.heap.size + 1) 2 1 (.slice A' (whL p k).length c') (whL p k).length ((whL p k).map (.int .i64 ·))) (fun _ u' _ => n - (intOf u').toNat)
  case atStart =>
    have hlow : whL p (ir + 1) = [] := whL_low fun m hm => HLOW.out m (by omega) (by omega)
    refine ⟨ir + 1, _, _, List.replicate n false, by simp, by rw [hlow]; rfl, by omega, by omega, ⟨by simp, fun m hm => ?_⟩, (alloc2 (Gr.refl _)).1, ((Gr.refl w).al _).al _, by simp; omega, ?_⟩
    · rw [List.getElem?_replicate, if_pos hm]
      by_cases hc : m < ir + 1
      · rw [if_pos hc, HLOW.out m hm (by omega)]
      · rw [if_neg hc]
    · rw [hlow]
      have := own_made0 (w.alloc (.cells (blA (List.replicate n false)) 4)) 2 1 (w.heap.size + 1) (by simp)
      simpa using this
  case round =>
    obtain ⟨k, A', c', bs, rfl, rfl, hk1, hk, hin, x0, hg, hsz, hown⟩ := hrel
    have GW := hid hg; have OWN := hid hown; have IN := hid hin; have X0 := hid x0; have HSZ := hid hsz
    have BL := hid hin.1
    clear hg hown hin x0 hsz
    have hwl := whL_len p k
    by_cases hlt : k < n
    · obtain ⟨y, hy⟩ : ∃ p, xs[k]? = some p := ⟨xs[k]'(by rw [HL.out]; exact hlt), List.getElem?_eq_getElem _⟩
      obtain ⟨ad, rfl, cy⟩ := (X.out.keep GW.out) k y hy
      obtain ⟨hfk, hpk⟩ := HSTEP.out k y hlt hy
      have hbk : bs[k]? = some false := by rw [IN.out.2 k hlt, if_neg (by omega)]
      have _ := blA_cell X0.out hbk
      have f0 := fz X0.out
      have hlb := HSZ.out
      have c1 := cy.h1
      have c8 := cy.h8
      have HPK := hid hpk
      clear hpk hbk cy
      by_cases e : y.f = (ir : Int)
      · have hfe : (y.f == (ir : Int)) = true := by simpa using e
        by_cases hd : d ≤ y.m
        · have hpt := HPK.out
          rw [if_pos e, decide_eq_true hd] at hpt
          have hpv : p k = true := hpt
          have INB := hid (inM_set IN.out hlt)
          have XS := hid (blA_store (k := k) true X0.out)
          rw [hpv] at INB
          have OWN2 := hid (own_low OWN.out (a := ⟨w.heap.size, k, none⟩) (by simp) (.bool true))
          have G2 := hid (GW.out.setCell (a := ⟨w.heap.size, k, none⟩) (by simp) (.bool true))
          have _ := blA_cell (k := k) XS.out (r := true) (by rw [List.getElem?_set, if_pos rfl, if_pos (by rw [BL.out]; exact hlt)])
          have HPV := hid hpv
          have hsz2 : w.heap.size < (wr.setCell ⟨w.heap.size, k, none⟩ (.bool true)).heap.size := by simpa using hlb
          clear hpv
          have OWN3 := hid (own_gr OWN2.out ((Gr.refl _).al (.cells #[.int .i64 (k : Int)] 2)))
          have NEW := hid (one_news (alloc1 (Gr.refl ((wr.setCell ⟨w.heap.size, k, none⟩ (.bool true)).alloc (.cells #[.int .i64 (k : Int)] 2)))).1)
          have hss : (wr.setCell ⟨w.heap.size, k, none⟩ (.bool true)).heap.size = wr.heap.size := by simp
          rw [hss] at NEW
          have G3 := hid (G2.out.al (.cells #[.int .i64 (k : Int)] 2))
          have X3 := hid (((Gr.refl _).al (.cells #[.int .i64 (k : Int)] 2)).keep XS.out)
          have hne := own_blk OWN3.out (b := w.heap.size) (by omega)
          have HNE := hid hne
          clear hne
          have h63 : (whL p k).length + 1 ≤ maxLen := by unfold maxLen; omega
          have hby : ((whL p k).length + 1) * 8 ≤ 140737488355328 := by omega
          have hbs : w.heap.size + 1 ≤ ((wr.setCell ⟨w.heap.size, k, none⟩ (.bool true)).alloc (.cells #[.int .i64 (k : Int)] 2)).heap.size := by simp; omega
          go_wp2_with (refine wpList_append_gr rfl _ _ 35 rfl (w.heap.size + 1) 2 i0 (.int .i64 0) 1 8 Tryd.underlying35 hi hz0 hz1 hz2 rfl (by decide) _ _ _ rfl OWN3.out ⟨wr.heap.size, 0, none⟩ 1 1 [.int .i64 (k : Int)] rfl rfl NEW.out (by simp [Value.oneCell']) (by decide) h63 hby hbs ?_; intro v' w4 own4 hgrow _ hgr; obtain ⟨A2, c2, rfl⟩ := own_form own4; rw [whL_vals p k HPV.out] at own4; have OWN4 := hid own4; have G4 := hid (hgr w G3.out (by omega)); have X4 := hid ((hgrow.block w.heap.size (ltb X3.out) (Ne.symm HNE.out)).trans X3.out); clear own4 hgr hgrow OWN3 NEW)
          have hl : (whL p k).length + 1 = (whL p (k + 1)).length := by rw [whL_yes HPV.out]; simp
          have hlb4 := ltb X4.out
          rw [hl] at OWN4 ⊢
          exact ⟨⟨k + 1, A2, c2, _, by simp, rfl, by omega, by omega, INB.out, X4.out, G4.out, hlb4, OWN4.out⟩, by simp [intOf]; omega⟩
        · have hpt := HPK.out
          rw [if_pos e, decide_eq_false hd] at hpt
          have hgt : ¬ (ir : Int) < y.f := by omega
          have hpv : p k = false := hpt
          have INB := hid (inM_set IN.out hlt)
          have XS := hid (blA_store (k := k) false X0.out)
          rw [hpv] at INB
          have OWN2 := hid (own_low OWN.out (a := ⟨w.heap.size, k, none⟩) (by simp) (.bool false))
          have G2 := hid (GW.out.setCell (a := ⟨w.heap.size, k, none⟩) (by simp) (.bool false))
          have _ := blA_cell (k := k) XS.out (r := false) (by rw [List.getElem?_set, if_pos rfl, if_pos (by rw [BL.out]; exact hlt)])
          have HPV := hid hpv
          have hsz2 : w.heap.size < (wr.setCell ⟨w.heap.size, k, none⟩ (.bool false)).heap.size := by simpa using hlb
          clear hpv
          go_wp2_with fail
          refine ⟨⟨k + 1, A', c', _, by simp, by rw [whL_no HPV.out], by omega, by omega, INB.out, XS.out, G2.out, hsz2, by rw [whL_no HPV.out]; exact OWN2.out⟩, by simp [intOf]; omega⟩
      · have hfe : (y.f == (ir : Int)) = false := by simpa using e
        by_cases hgt : (ir : Int) < y.f
        · obtain ⟨fj, hfj⟩ : ∃ fj : Nat, y.f = (fj : Int) := ⟨y.f.toNat, by omega⟩
          have hpt := HPK.out
          rw [if_neg e, if_pos hgt, hfj, show ((fj : Nat) : Int).toNat = fj by omega] at hpt
          rw [hfj] at c1 hfe hgt e hfk
          have hbf : bs[fj]? = some (p fj) := by rw [IN.out.2 fj (by omega), if_pos (by omega)]
          cases hpf : p fj with
          | true =>
            rw [hpf] at hpt hbf
            have _ := blA_cell X0.out hbf
            clear hpf hbf hfj
            have hpv : p k = true := hpt
            have INB := hid (inM_set IN.out hlt)
            have XS := hid (blA_store (k := k) true X0.out)
            rw [hpv] at INB
            have OWN2 := hid (own_low OWN.out (a := ⟨w.heap.size, k, none⟩) (by simp) (.bool true))
            have G2 := hid (GW.out.setCell (a := ⟨w.heap.size, k, none⟩) (by simp) (.bool true))
            have _ := blA_cell (k := k) XS.out (r := true) (by rw [List.getElem?_set, if_pos rfl, if_pos (by rw [BL.out]; exact hlt)])
            have HPV := hid hpv
            have hsz2 : w.heap.size < (wr.setCell ⟨w.heap.size, k, none⟩ (.bool true)).heap.size := by simpa using hlb
            clear hpv
            have OWN3 := hid (own_gr OWN2.out ((Gr.refl _).al (.cells #[.int .i64 (k : Int)] 2)))
            have NEW := hid (one_news (alloc1 (Gr.refl ((wr.setCell ⟨w.heap.size, k, none⟩ (.bool true)).alloc (.cells #[.int .i64 (k : Int)] 2)))).1)
            have hss : (wr.setCell ⟨w.heap.size, k, none⟩ (.bool true)).heap.size = wr.heap.size := by simp
            rw [hss] at NEW
            have G3 := hid (G2.out.al (.cells #[.int .i64 (k : Int)] 2))
            have X3 := hid (((Gr.refl _).al (.cells #[.int .i64 (k : Int)] 2)).keep XS.out)
            have hne := own_blk OWN3.out (b := w.heap.size) (by omega)
            have HNE := hid hne
            clear hne
            have h63 : (whL p k).length + 1 ≤ maxLen := by unfold maxLen; omega
            have hby : ((whL p k).length + 1) * 8 ≤ 140737488355328 := by omega
            have hbs : w.heap.size + 1 ≤ ((wr.setCell ⟨w.heap.size, k, none⟩ (.bool true)).alloc (.cells #[.int .i64 (k : Int)] 2)).heap.size := by simp; omega
            go_wp2_with (refine wpList_append_gr rfl _ _ 35 rfl (w.heap.size + 1) 2 i0 (.int .i64 0) 1 8 Tryd.underlying35 hi hz0 hz1 hz2 rfl (by decide) _ _ _ rfl OWN3.out ⟨wr.heap.size, 0, none⟩ 1 1 [.int .i64 (k : Int)] rfl rfl NEW.out (by simp [Value.oneCell']) (by decide) h63 hby hbs ?_; intro v' w4 own4 hgrow _ hgr; obtain ⟨A2, c2, rfl⟩ := own_form own4; rw [whL_vals p k HPV.out] at own4; have OWN4 := hid own4; have G4 := hid (hgr w G3.out (by omega)); have X4 := hid ((hgrow.block w.heap.size (ltb X3.out) (Ne.symm HNE.out)).trans X3.out); clear own4 hgr hgrow OWN3 NEW)
            have hl : (whL p k).length + 1 = (whL p (k + 1)).length := by rw [whL_yes HPV.out]; simp
            have hlb4 := ltb X4.out
            rw [hl] at OWN4 ⊢
            exact ⟨⟨k + 1, A2, c2, _, by simp, rfl, by omega, by omega, INB.out, X4.out, G4.out, hlb4, OWN4.out⟩, by simp [intOf]; omega⟩
          | false =>
            rw [hpf] at hpt hbf
            have _ := blA_cell X0.out hbf
            clear hpf hbf hfj
            have hpv : p k = false := hpt
            have INB := hid (inM_set IN.out hlt)
            have XS := hid (blA_store (k := k) false X0.out)
            rw [hpv] at INB
            have OWN2 := hid (own_low OWN.out (a := ⟨w.heap.size, k, none⟩) (by simp) (.bool false))
            have G2 := hid (GW.out.setCell (a := ⟨w.heap.size, k, none⟩) (by simp) (.bool false))
            have _ := blA_cell (k := k) XS.out (r := false) (by rw [List.getElem?_set, if_pos rfl, if_pos (by rw [BL.out]; exact hlt)])
            have HPV := hid hpv
            have hsz2 : w.heap.size < (wr.setCell ⟨w.heap.size, k, none⟩ (.bool false)).heap.size := by simpa using hlb
            clear hpv
            go_wp2_with fail
            refine ⟨⟨k + 1, A', c', _, by simp, by rw [whL_no HPV.out], by omega, by omega, INB.out, XS.out, G2.out, hsz2, by rw [whL_no HPV.out]; exact OWN2.out⟩, by simp [intOf]; omega⟩
        · have hpt := HPK.out
          rw [if_neg e, if_neg hgt] at hpt
          have hpv : p k = false := hpt
          have INB := hid (inM_set IN.out hlt)
          have XS := hid (blA_store (k := k) false X0.out)
          rw [hpv] at INB
          have OWN2 := hid (own_low OWN.out (a := ⟨w.heap.size, k, none⟩) (by simp) (.bool false))
          have G2 := hid (GW.out.setCell (a := ⟨w.heap.size, k, none⟩) (by simp) (.bool false))
          have _ := blA_cell (k := k) XS.out (r := false) (by rw [List.getElem?_set, if_pos rfl, if_pos (by rw [BL.out]; exact hlt)])
          have HPV := hid hpv
          have hsz2 : w.heap.size < (wr.setCell ⟨w.heap.size, k, none⟩ (.bool false)).heap.size := by simpa using hlb
          clear hpv
          go_wp2_with fail
          refine ⟨⟨k + 1, A', c', _, by simp, by rw [whL_no HPV.out], by omega, by omega, INB.out, XS.out, G2.out, hsz2, by rw [whL_no HPV.out]; exact OWN2.out⟩, by simp [intOf]; omega⟩
    · have hke : k = n := by omega
      subst hke
      go_wp2_with fail
      go_ret
      exact ⟨⟨A', c', rfl, own_base OWN.out (by omega)⟩, GW.out⟩
set_option maxRecDepth 20000 in
set_option maxHeartbeats 1000000 in
theorem sRecall_no (A : Option Addr) (c : Nat) (xs : List Sdv) (i d C : Int) (w : World) (h0 : C = 1 ∨ C = 2) (hS : Calls Tryd.prog 37 #[.slice A xs.length c, .int .i64 i, .int .i64 d] w fun e w' => e = .returned (.int .i64 C) ∧ Gr w w') :
    Calls Tryd.prog 29 #[.slice A xs.length c, .int .i64 i, .int .i64 d] w fun e w' => GivesI w w' e [] C := by
  have HS := hid hS; clear hS
  go_enter Tryd.func29, Tryd.ntmps29
  go_wp2_with fail
  refine HS.out.mono ?_
  rintro e w1 ⟨rfl, hg⟩
  have G := hid hg; clear hg
  rcases h0 with rfl | rfl
  all_goals
    go_wp2_with fail
    go_ret2
    exact ⟨_, _, rfl, own_made0 _ _ _ _ G.out.size, G.out.al _⟩
set_option maxRecDepth 20000 in
set_option maxHeartbeats 1000000 in
theorem sRecall_yes (A : Option Addr) (c n : Nat) (xs : List Sdv) (Lf : Nat → List Int) (ir : Nat) (d : Int) (w : World) (hn : xs.length = n) (h30 : n ≤ 30) (hLf : Hid (LfP xs Lf)) (hir : ir < n) (X : Hid (RdSd w A xs)) (hS : Calls Tryd.prog 37 #[.slice A n c, .int .i64 (ir : Int), .int .i64 d] w fun e w' => e = .returned (.int .i64 0) ∧ Gr w w') :
    Calls Tryd.prog 29 #[.slice A n c, .int .i64 (ir : Int), .int .i64 d] w fun e w' => GivesI w w' e (whL (usP xs Lf ir d) n) 0 := by
  have HS := hid hS; clear hS
  have HL := hid hn; clear hn
  go_enter Tryd.func29, Tryd.ntmps29
  go_wp2_with fail
  refine HS.out.mono ?_
  rintro e w1 ⟨rfl, hg⟩
  have G := hid hg; clear hg
  go_wp2_with fail
  refine (sSince A c n xs Lf ir d _ (hid (X.out.keep G.out)) HL.out h30 hLf hir).mono ?_
  rintro e w2 ⟨⟨A2, c2, rfl, hR⟩, hg⟩
  have HR := hid (own_base hR G.out.size); have G2 := hid (G.out.trans hg)
  clear hR hg
  go_wp2_with fail
  go_ret2
  exact ⟨A2, c2, rfl, HR.out, G2.out⟩
set_option maxRecDepth 20000 in
set_option maxHeartbeats 1000000 in
theorem sUsers_no (A : Option Addr) (c : Nat) (xs : List Sdv) (i C : Int) (w : World) (h0 : C = 1 ∨ C = 2) (hS : Calls Tryd.prog 37 #[.slice A xs.length c, .int .i64 i, .int .i64 0] w fun e w' => e = .returned (.int .i64 C) ∧ Gr w w') :
    Calls Tryd.prog 27 #[.slice A xs.length c, .int .i64 i] w fun e w' => GivesI w w' e [] C := by
  have HS := hid hS; clear hS
  go_enter Tryd.func27, Tryd.ntmps27
  go_wp2_with fail
  refine HS.out.mono ?_
  rintro e w1 ⟨rfl, hg⟩
  have G := hid hg; clear hg
  rcases h0 with rfl | rfl
  all_goals
    go_wp2_with fail
    go_ret2
    exact ⟨_, _, rfl, own_made0 _ _ _ _ G.out.size, G.out.al _⟩
set_option maxRecDepth 20000 in
set_option maxHeartbeats 1000000 in
theorem sUsers_yes (A : Option Addr) (c n : Nat) (xs : List Sdv) (Lf : Nat → List Int) (ir : Nat) (w : World) (hn : xs.length = n) (h30 : n ≤ 30) (hLf : Hid (LfP xs Lf)) (hir : ir < n) (X : Hid (RdSd w A xs)) (hS : Calls Tryd.prog 37 #[.slice A n c, .int .i64 (ir : Int), .int .i64 0] w fun e w' => e = .returned (.int .i64 0) ∧ Gr w w') :
    Calls Tryd.prog 27 #[.slice A n c, .int .i64 (ir : Int)] w fun e w' => GivesI w w' e (whL (usP xs Lf ir 0) n) 0 := by
  have HS := hid hS; clear hS
  have HL := hid hn; clear hn
  go_enter Tryd.func27, Tryd.ntmps27
  go_wp2_with fail
  refine HS.out.mono ?_
  rintro e w1 ⟨rfl, hg⟩
  have G := hid hg; clear hg
  go_wp2_with fail
  refine (sSince A c n xs Lf ir 0 _ (hid (X.out.keep G.out)) HL.out h30 hLf hir).mono ?_
  rintro e w2 ⟨⟨A2, c2, rfl, hR⟩, hg⟩
  have HR := hid (own_base hR G.out.size); have G2 := hid (G.out.trans hg)
  clear hR hg
  go_wp2_with fail
  go_ret2
  exact ⟨A2, c2, rfl, HR.out, G2.out⟩
set_option maxRecDepth 20000 in
set_option maxHeartbeats 1000000 in
theorem iUsers_of (A : Option Addr) (c n : Nat) (i : Int) (ys : List Int) (C : Int) (w : World) (hI : Calls Tryd.prog 30 #[.slice A n c, .int .i64 i, .int .i64 0] w fun e w' => GivesI w w' e ys C) :
    Calls Tryd.prog 28 #[.slice A n c, .int .i64 i] w fun e w' => GivesI w w' e ys C := by
  have HI := hid hI; clear hI
  go_enter Tryd.func28, Tryd.ntmps28
  go_wp2_with fail
  refine HI.out.mono ?_
  rintro e w1 ⟨A1, c1, rfl, hR, hg⟩
  have HR := hid hR; have G := hid hg; clear hR hg
  go_wp2_with fail
  go_ret2
  exact ⟨A1, c1, rfl, HR.out, G.out⟩
theorem bothRecallOf (xs : List Sdv) (i d : Int) (hn : xs.length ≤ 1048576) : ∃ (ys : List Int) (C : Int), ys.length ≤ 1048576 ∧
    (∀ (A : Option Addr) (c : Nat) (w : World), xs.length ≤ c → Hid (RdSd w A xs) → Calls Tryd.prog 29 #[.slice A xs.length c, .int .i64 i, .int .i64 d] w fun e w' => GivesI w w' e ys C) ∧
    (∀ (A : Option Addr) (c : Nat) (w : World), xs.length ≤ c → Hid (RdSd w A xs) → Hid (ErrT w) → Calls Tryd.prog 30 #[.slice A xs.length c, .int .i64 i, .int .i64 d] w fun e w' => GivesI w w' e ys C) := by
  by_cases hch : chP xs
  · cases hh : hasB xs.length i with
    | false => exact ⟨[], 2, by simp, fun A c w hc X => sRecall_no A c xs i d 2 w (.inr rfl) (chainAt1 A c xs i d w X hn hc hch hh), fun A c w _ X E => iRecall_1 A c xs i d w X E hn hch hh⟩
    | true =>
      cases hd : dayB d with
      | false => exact ⟨[], 2, by simp, fun A c w hc X => sRecall_no A c xs i d 2 w (.inr rfl) (chainAt2 A c xs i d false 2 w X hn hc hch hh hd (.inr ⟨rfl, rfl⟩)), fun A c w _ X E => iRecall_2 A c xs i d w X E hn hch hh hd⟩
      | true =>
        have h8 := hh
        unfold hasB at h8
        simp only [Bool.and_eq_true, decide_eq_true_eq] at h8
        obtain ⟨k, rfl⟩ : ∃ k : Nat, i = (k : Int) := ⟨i.toNat, by omega⟩
        have hlt : k < xs.length := by omega
        have h30 := ch_len hch
        obtain ⟨Lf, hLf0⟩ := ups_ex hch
        have hLf : Hid (LfP xs Lf) := hid fun k hk => (hLf0 k hk).1
        exact ⟨_, 0, Nat.le_trans (whL_len _ _) hn, fun A c w hc X => sRecall_yes A c _ xs Lf k d w rfl h30 hLf hlt X (chainAt2 A c xs k d true 0 w X hn hc hch hh hd (.inl ⟨rfl, rfl⟩)), fun A c w _ X E => iRecall_3 A c xs Lf k d w X E hn hch hLf hh hd⟩
  · exact ⟨[], 1, by simp, fun A c w hc X => sRecall_no A c xs i d 1 w (.inl rfl) (chainAt0 A c xs i d w X hc hch), fun A c w _ X E => iRecall_0 A c xs i d w X E hn hch⟩
theorem bothUsersOf (xs : List Sdv) (i : Int) (hn : xs.length ≤ 1048576) : ∃ (ys : List Int) (C : Int), ys.length ≤ 1048576 ∧
    (∀ (A : Option Addr) (c : Nat) (w : World), xs.length ≤ c → Hid (RdSd w A xs) → Calls Tryd.prog 27 #[.slice A xs.length c, .int .i64 i] w fun e w' => GivesI w w' e ys C) ∧
    (∀ (A : Option Addr) (c : Nat) (w : World), xs.length ≤ c → Hid (RdSd w A xs) → Hid (ErrT w) → Calls Tryd.prog 28 #[.slice A xs.length c, .int .i64 i] w fun e w' => GivesI w w' e ys C) := by
  have hd : dayB 0 = true := by decide
  by_cases hch : chP xs
  · cases hh : hasB xs.length i with
    | false => exact ⟨[], 2, by simp, fun A c w hc X => sUsers_no A c xs i 2 w (.inr rfl) (chainAt1 A c xs i 0 w X hn hc hch hh), fun A c w _ X E => iUsers_of A c _ i _ _ w (iRecall_1 A c xs i 0 w X E hn hch hh)⟩
    | true =>
      have h8 := hh
      unfold hasB at h8
      simp only [Bool.and_eq_true, decide_eq_true_eq] at h8
      obtain ⟨k, rfl⟩ : ∃ k : Nat, i = (k : Int) := ⟨i.toNat, by omega⟩
      have hlt : k < xs.length := by omega
      have h30 := ch_len hch
      obtain ⟨Lf, hLf0⟩ := ups_ex hch
      have hLf : Hid (LfP xs Lf) := hid fun k hk => (hLf0 k hk).1
      exact ⟨_, 0, Nat.le_trans (whL_len _ _) hn, fun A c w hc X => sUsers_yes A c _ xs Lf k w rfl h30 hLf hlt X (chainAt2 A c xs k 0 true 0 w X hn hc hch hh hd (.inl ⟨rfl, rfl⟩)), fun A c w _ X E => iUsers_of A c _ k _ _ w (iRecall_3 A c xs Lf k 0 w X E hn hch hLf hh hd)⟩
  · exact ⟨[], 1, by simp, fun A c w hc X => sUsers_no A c xs i 1 w (.inl rfl) (chainAt0 A c xs i 0 w X hc hch), fun A c w _ X E => iUsers_of A c _ i _ _ w (iRecall_0 A c xs i 0 w X E hn hch)⟩
end Go.Proofs.YtadpoocafhddeaaDoor
