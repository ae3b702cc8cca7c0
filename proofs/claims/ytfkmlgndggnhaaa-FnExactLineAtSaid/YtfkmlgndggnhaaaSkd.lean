/- WALKS: slices.AppendSeq and slices.Collect over whatever hands fractions to its yield. -/
import Derived.Test.YtfkmlgndggnhaaaSkc
namespace Go.Proofs.Ytfkmlgndggnhaaa
open Go.RowKit Go.Sort Go.Shelf
attribute [local go_sem] Oper.semAt_some wide_fn

/-- The box of a slice that owns the first k of L. -/
def Boxed2 (w0 : World) (B : Nat) (L : List (Int × Int)) (k : Nat) (W : World) : Prop :=
  Gr w0 W ∧ ∃ v, W.heap[B]? = some (.cells #[v] 30) ∧ W.ownsRow w0.heap.size 29 2 v k (flatL (L.take k))
theorem flatL_append (xs ys : List (Int × Int)) : flatL (xs ++ ys) = flatL xs ++ flatL ys := by simp [flatL]
theorem flatL_one (p q : Int) : flatL [(p, q)] = [.int .i64 p, .int .i64 q] := by simp [flatL]
theorem own_keep {W W' : World} {v : Value} {k : Nat} {xs : List Value} {e : TypeId} {sz base : Nat} (h : W.ownsRow base e sz v k xs) (hg : Gr W W') : W'.ownsRow base e sz v k xs := by
  refine ⟨h.1, ?_⟩
  rcases h.2 with h | ⟨g, cap, cur, h1, h2, h3, h4⟩
  · exact .inl h
  · exact .inr ⟨g, cap, cur, h1, h2, hg.keep h3, h4⟩
theorem own_put {W : World} {v : Value} {k : Nat} {xs : List Value} {e : TypeId} {sz base : Nat} (h : W.ownsRow base e sz v k xs) {r : Nat} {o : Obj} (o' : Obj) (hr : W.heap[r]? = some o) (hc : o.isCells = false) : (W.putObj r o').ownsRow base e sz v k xs := by
  refine ⟨h.1, ?_⟩
  rcases h.2 with h | ⟨g, cap, cur, h1, h2, h3, h4⟩
  · exact .inl h
  · refine .inr ⟨g, cap, cur, h1, h2, (World.putObj_heap_other ?_).trans h3, h4⟩
    rintro rfl
    rw [h3] at hr
    cases hr
    cases hc
theorem heap_put {W : World} {b r : Nat} {cs : Array Value} {T : TypeId} {o : Obj} (o' : Obj) (h : W.heap[b]? = some (.cells cs T)) (hr : W.heap[r]? = some o) (hc : o.isCells = false) : (W.putObj r o').heap[b]? = some (.cells cs T) := by
  refine (World.putObj_heap_other ?_).trans h
  rintro rfl
  rw [h] at hr
  cases hr
  cases hc
/-- What is collected of a function that hands over L. -/
def seqPost (S : Option (List PanicEntry → Prop)) (L : List (Int × Int)) (w : World) (e : Ending) (w' : World) : Prop :=
  match S with
  | none => ∃ v, e = .returned v ∧ w'.ownsRow w.heap.size 29 2 v L.length (flatL L) ∧ Gr w w'
  | some S => ∃ ch, e = .panicked ch ∧ S ch ∧ Gr w w'
set_option maxRecDepth 100000 in
set_option maxHeartbeats 2000000 in
theorem appendSeq_any (gf : Nat) (lb : Array Value) (L : List (Int × Int)) (S : Option (List PanicEntry → Prop)) (w : World) (hN : L.length ≤ 64) (eg : ∀ args w, (callFunc gf args).run Try.prog w = .ok (.enter gf args) w)
    (hH : ∀ (I : Nat → World → Prop) (w1 : World), Gr w w1 → (∀ k W, I k W → Gr w W) → Hands Fence.wide 4 Try.prog gf lb (encF L) L.length I S w1) :
    Calls Try.prog 109 #[.slice none 0 0, .func (.func gf) #[] lb] w (seqPost S L w) := by
  have HH := hid hH; have EG := hid eg; clear hH eg
  obtain ⟨i0, hi, hz0, hz1, hz2⟩ : ∃ i, Try.prog.info? 29 = some i ∧ i.zero = some (fr 0 0) ∧ i.size = 2 ∧ i.bytes = 16 := ⟨_, rfl, rfl, rfl, rfl⟩
  have HI0 := hid hi
  clear hi
  refine (callsIn_wide (n := 5)).1 (callsIn_of_wp_marks Try.func109 rfl trivial ?_ rfl)
  simp only [Try.ntmps109, List.size_toArray, List.length_cons, List.length_nil, Nat.reduceAdd, Nat.reduceSub, Array.replicate_succ, Array.replicate_zero, List.push_toArray, List.append_toArray, List.nil_append, List.cons_append]
  gi_wp2
  refine wpIn_rangeFunc_gr rfl (by omega) (gf := gf) (lb := lb) rfl trivial EG.out (Boxed2 w w.heap.size L) (HH.out _ _ (Gr.alloc _ _) (fun k W h => h.1)) (fun _ => rfl) ?_ ?_ ?_ ?round ?done ?pan
  · rintro k W W' ⟨hg, v, hb, ho⟩ hg'
    exact ⟨hg.trans hg', v, hg'.keep hb, own_keep ho hg'⟩
  · rintro k W r o o' ⟨hg, v, hb, ho⟩ hr hc hge
    exact ⟨hg.putObj (by simp at hge; omega) _, v, heap_put _ hb hr hc, own_put ho _ hr hc⟩
  · exact ⟨Gr.alloc _ _, _, (alloc1 (Gr.refl _)).1, ⟨by simp [flatL], .inl ⟨rfl, rfl⟩⟩⟩
  case round =>
    rintro l k W ⟨hg, v, hb, ho⟩ hk hsz
    obtain ⟨⟨p, q⟩, hpq⟩ : ∃ pq, L[k]? = some pq := ⟨L[k], List.getElem?_eq_getElem _⟩
    have he : encF L k = #[fr p q] := by unfold encF; rw [List.getD_eq_getElem?_getD, hpq]; rfl
    rw [he]
    simp only [List.zip_toArray, List.zip_cons_cons, List.zip_nil_right, List.foldl_toArray, List.foldl_cons, List.foldl_nil]
    have HG := hid hg; have HB := hid hb; have HO := hid ho; have HPQ := hid hpq
    clear hg hb ho hpq he
    gi_wp2
    refine ⟨KeepsOthers.alloc _ _, fun o o' ho hc => ?_⟩
    simp only [World.size_alloc] at hsz ho ⊢
    obtain ⟨Wb, hWb⟩ : ∃ Wb, (W.alloc (.cells #[.int .i64 p, .int .i64 q] 29)).putObj (w.heap.size + 1 + 1) o' = Wb := ⟨_, rfl⟩
    have hgb : Gr w Wb := by rw [← hWb]; exact (HG.out.al _).putObj (by omega) _
    have hvb : Wb.heap[W.heap.size]? = some (.cells #[.int .i64 p, .int .i64 q] 29) := by rw [← hWb]; exact heap_put _ (alloc1 (Gr.refl _)).1 ho hc
    have hbb : Wb.heap[w.heap.size]? = some (.cells #[v] 30) := by rw [← hWb]; exact heap_put _ (((Gr.refl _).al _).keep HB.out) ho hc
    have hob : Wb.ownsRow w.heap.size 29 2 v k (flatL (L.take k)) := by rw [← hWb]; exact own_put (own_keep HO.out (Gr.alloc _ _)) _ ho hc
    rw [hWb]
    clear hWb ho hc
    obtain ⟨_, _⟩ := cells2 hvb
    have _ := cells1 hbb
    have _ := fz hbb
    have hbl := ltb hbb
    have hvl := ltb hvb
    have HGB := hid hgb; have HBB := hid hbb; have HOB := hid hob; have HVB := hid hvb
    clear hgb hbb hob hvb
    gi_wp2_with (gi_at_builtin; refine wpListIn_append_gr rfl _ _ 30 rfl w.heap.size 29 i0 (fr 0 0) 2 16 Try.underlying30 HI0.out hz0 hz1 hz2 rfl (by decide) _ _ _ rfl (own_keep HOB.out (Gr.alloc _ _)) ⟨Wb.heap.size, 0, none⟩ 1 1 [.int .i64 p, .int .i64 q] rfl rfl ?_ ?_ (by decide) ?_ ?_ ?_ ?_)
    · intro j u hj
      have hnew := (alloc1 (A := .cells #[.int .i64 p, .int .i64 q] 29) (w := Wb) (Gr.refl _)).1
      obtain ⟨n0, n1⟩ := cells2 hnew
      match j with
      | 0 => simp at hj; subst hj; exact n0
      | 1 => simp at hj; subst hj; exact n1
      | j + 2 => simp at hj
    · intro u hu
      simp at hu
      rcases hu with rfl | rfl <;> rfl
    · unfold maxLen; omega
    · omega
    · simp; omega
    · intro v' w' hown' hgrow _ hgr
      obtain ⟨g', cap', cur', rfl, hbase', hgb', _⟩ : ∃ g' cap' cur', v' = .slice (some ⟨g', 0, none⟩) (k + 1) cap' ∧ w.heap.size ≤ g' ∧ w'.heap[g']? = some (.cells cur' 29 (0, 0)) ∧ k + 1 ≤ cap' := by
        rcases hown'.2 with ⟨_, h0⟩ | ⟨g', cap', cur', h1, h2, h3, h4, _⟩
        · exact absurd h0 (by omega)
        · exact ⟨g', cap', cur', h1, h2, h3, h4⟩
      have hrow : ∀ (j : Nat) (o : Obj), v.ownBlock = some j → (Wb.alloc (.cells #[.int .i64 p, .int .i64 q] 29)).heap[j]? = some o → ∃ cur, o = .cells cur 29 (0, 0) := by
        intro j o hj ho
        rcases (own_keep HOB.out (Gr.alloc _ (.cells #[.int .i64 p, .int .i64 q] 29))).2 with ⟨rfl, _⟩ | ⟨g, cap, cur, rfl, _, hgb, _⟩
        · simp [Value.ownBlock] at hj
        · have : g = j := by simpa [Value.ownBlock] using hj
          subst this
          rw [hgb] at ho
          exact ⟨cur, (Option.some.inj ho).symm⟩
      have hbw : w'.heap[w.heap.size]? = some (.cells #[v] 30) := by
        have h0 : (Wb.alloc (.cells #[.int .i64 p, .int .i64 q] 29)).heap[w.heap.size]? = some (.cells #[v] 30) := (Gr.alloc _ _).keep HBB.out
        refine (hgrow.block w.heap.size (ltb h0) ?_).trans h0
        intro e
        obtain ⟨cur, hc⟩ := hrow _ _ e.symm h0
        cases hc
      have hg3 := hgr w (HGB.out.al _) (Nat.le_refl _)
      have hko : KeepsOthers Wb w' := (KeepsOthers.alloc _ _).trans (KeepsOthers.of_grownBy hgrow (fun j o hj ho => by obtain ⟨cur, rfl⟩ := hrow j o hj ho; rfl))
      have _ := cells1 hbw
      have _ := fz hbw
      have hne : g' ≠ w.heap.size := by
        rintro rfl
        rw [hgb'] at hbw
        cases hbw
      have HOWN := hid hown'; have HBW := hid hbw; have HG3 := hid hg3; have HKO := hid hko
      clear hown' hgrow hgr hrow hbw hg3 hko hgb'
      gi_wp2
      refine ⟨HKO.out.trans (KeepsOthers.setCell _ _ _), HG3.out.setCell (by simp) _, _, by simpa using Joins.block_setCell (i := 0) HBW.out (.slice (some ⟨g', 0, none⟩) (k + 1) cap'), ?_⟩
      rw [List.take_add_one, HPQ.out, Option.toList_some, flatL_append, flatL_one]
      refine ⟨HOWN.out.1, ?_⟩
      rcases HOWN.out.2 with h | ⟨g2, cap2, cur2, h1, h2, h3, h4⟩
      · exact .inl h
      · refine .inr ⟨g2, cap2, cur2, h1, h2, ?_, h4⟩
        have : g' = g2 := by injection h1 with e1; injection e1 with e2; injection e2
        subst this
        exact keepSet' h3 hne
  case done =>
    rintro W rfl ⟨hg, v, hb, ho⟩ hD
    have _ := cells1 hb
    have hne : w.heap.size < w.heap.size + 1 := by omega
    rw [List.take_length] at ho
    have HG := hid hg; have HO := hid ho; have HD := hid hD
    clear hg hb ho hD
    gi_wp2
    refine ⟨by simp, .inl ⟨_, _, rfl, run_takeDeferred HD.out, ?_⟩⟩
    exact ⟨_, results_tmp rfl _ _ _, _, rfl, own_put HO.out _ HD.out rfl, HG.out.putObj (by simp) _⟩
  case pan =>
    rintro S' ch k W rfl hch ⟨hg, v, hb, ho⟩ hD
    refine ⟨by simp, .inl ⟨_, _, rfl, run_takeDeferred hD, ?_⟩⟩
    exact ⟨ch, rfl, hch, hg.putObj (by simp) _⟩
end Go.Proofs.Ytfkmlgndggnhaaa
