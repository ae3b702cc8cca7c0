/- SORTED FRACTIONS: of the program: slices.SortFunc, and the list put together again. (The seat's Shelf is laid by tools/shelf.sh: SlLaysF0.n6 Slsf 6 slices.SortFunc[[]impl.Frac,impl.Frac] sortF.) -/
import Derived.Test.YtnbdafecgccojaaPs
import Derived.Test.YtnbdafecgccojaaPu
import Derived.Test.YtnbdafecgccojaaShelf
namespace Go.Proofs.Ytnbdafecgccojaa
open Go.RowKit Go.Sort

set_option maxRecDepth 20000 in
set_option maxHeartbeats 1000000 in
theorem iSortFunc (g cap : Nat) (D : List (Int × Int)) (rest : List Value) (w0 w : World) (hg : Gr w0 w) (hge : w0.heap.size ≤ g) (hx : w.heap[g]? = some (.cells (fracR D rest) 30)) (hD : ∀ x ∈ D, okB x.1 x.2 = true) (hl : D.length ≤ 64) :
    Calls Try.prog 234 #[.slice (some ⟨g, 0, none⟩) D.length cap, .func (.func 186) #[] #[]] w fun e w' => e = .returned (.tuple #[]) ∧ ∃ D', D'.Perm D ∧ D'.Pairwise leF ∧ Gr w0 w' ∧ w'.heap[g]? = some (.cells (fracR D' rest) 30) ∧ ∀ m o, m ≠ g → w.heap[m]? = some o → w'.heap[m]? = some o := by
  have eg : ∀ args w, (callFunc 186 args).run Try.prog w = .ok (.enter 186 args) w := enters_of Try.func186 (by kernel_rfl) rfl
  have hcon := AnyQ.slices_SortFunc Try.sortF 2 (fun w => by kernel_rfl) (fun w => by kernel_rfl) encV encV_len (fun x v hv => by simp [encV] at hv; rcases hv with rfl | rfl <;> rfl) cfV swoV 186 #[] g 0 cap (vfs D hD) w eg (fun m os dk _ x y => iordX x.1.1 x.1.2 y.1.1 y.1.2 _ x.2 y.2) (holdsV hx _ (vfs_list D hD)) (ltb hx) (by rw [vfs_size]; omega)
  rw [vfs_size] at hcon
  refine Calls.mono hcon ?_
  rintro e w' ⟨he, d', n, os, hp, hs, rfl⟩
  have hsz : d'.size = D.length := by rw [hp.1, vfs_size]
  have hperm := permV (d := vfs D hD) (d' := d') (by rw [vfs_size]; exact hp)
  rw [vfs_list] at hperm
  have hz := sorted_worldF hg hge hx (zs := d'.toList.map (·.1)) (by simp [hsz]) d' rfl n os
  exact ⟨he, _, hperm, sortedV (by rw [hsz]; exact hs), hz⟩
/-! put together again -/
def outL (c : Int × Int → Nat) (D : List (Int × Int)) : List (Int × Int) := D.flatMap fun x => List.replicate (c x) x
theorem outL_snoc (c : Int × Int → Nat) (D : List (Int × Int)) (x : Int × Int) : outL c (D ++ [x]) = outL c D ++ List.replicate (c x) x := by simp [outL]
theorem outL_count (c : Int × Int → Nat) (a : Int × Int) : ∀ D : List (Int × Int), D.Nodup → (outL c D).count a = if a ∈ D then c a else 0
  | [], _ => by simp [outL]
  | x :: r, h => by
    obtain ⟨h1, h2⟩ := List.nodup_cons.1 h
    have ih := outL_count c a r h2
    have e : outL c (x :: r) = List.replicate (c x) x ++ outL c r := by simp [outL]
    rw [e, List.count_append, ih, List.count_replicate]
    by_cases hx : x = a
    · subst hx
      simp [h1]
    · have : ¬ a = x := fun h => hx h.symm
      simp [hx, this]
theorem outL_perm {xs D : List (Int × Int)} (hn : D.Nodup) (hm : ∀ a, a ∈ D ↔ a ∈ xs) : (outL (fun x => xs.count x) D).Perm xs := by
  rw [List.perm_iff_count]
  intro a
  rw [outL_count _ _ _ hn]
  by_cases h : a ∈ D
  · rw [if_pos h]
  · rw [if_neg h, List.count_eq_zero.2 fun h' => h ((hm a).2 h')]
theorem outL_sorted {c : Int × Int → Nat} {D : List (Int × Int)} (h : D.Pairwise leF) : (outL c D).Pairwise leF := by
  unfold outL
  rw [List.pairwise_flatMap]
  refine ⟨fun a _ => ?_, h.imp fun {a b} hab x hx y hy => ?_⟩
  · rw [List.pairwise_replicate]
    exact .inr (by unfold leF; omega)
  · rw [(List.mem_replicate.1 hx).2, (List.mem_replicate.1 hy).2]
    exact hab
theorem flatL_append2 (xs ys : List (Int × Int)) : flatL (xs ++ ys) = flatL xs ++ flatL ys := by simp [flatL]
theorem flatL_one2 (p q : Int) : flatL [(p, q)] = [.int .i64 p, .int .i64 q] := by simp [flatL]
theorem own_setM {W : World} {base sz n m : Nat} {e : TypeId} {v : Value} {xs : List Value} {c : Int × Int → Int} {D : List (Int × Int)} (o' : Obj) (h : W.ownsRow base e sz v n xs) (hr : W.heap[m]? = some (mapO c D)) : ({ W with heap := W.heap.setIfInBounds m o' } : World).ownsRow base e sz v n xs := by
  refine ⟨h.1, ?_⟩
  rcases h.2 with h | ⟨g, cap, cur, h1, h2, h3, h4⟩
  · exact .inl h
  · refine .inr ⟨g, cap, cur, h1, h2, ?_, h4⟩
    have : g ≠ m := by
      rintro rfl
      rw [h3] at hr
      cases hr
    exact ((MapKept.heap_set hr).2 g this).trans h3
theorem gr_setM {w W : World} {m : Nat} {o : Obj} (o' : Obj) (h : Gr w W) (hge : w.heap.size ≤ m) (hr : W.heap[m]? = some o) : Gr w { W with heap := W.heap.setIfInBounds m o' } :=
  h.heap rfl rfl rfl rfl (by simp) fun k hk => (MapKept.heap_set hr).2 k (by omega)
set_option maxRecDepth 20000 in
set_option maxHeartbeats 2000000 in
theorem iSorted1 (A : Option Addr) (c : Nat) (xs : List (Int × Int)) (w : World) (X : Hid (RdF w A xs)) (h0 : 0 < xs.length) (hn : xs.length ≤ 64) (hall : ∀ x ∈ xs, okB x.1 x.2 = true) :
    Calls Try.prog 173 #[.slice A xs.length c] w fun e w' => ∃ S A' c', e = .returned (.slice A' xs.length c') ∧ S.Perm xs ∧ S.Pairwise leF ∧ w'.ownsRow w.heap.size 30 2 (.slice A' xs.length c') xs.length (flatL S) ∧ Gr w w' := by
  obtain ⟨i0, hi, iz0, iz1, iz2⟩ : ∃ i, Try.prog.info? 30 = some i ∧ i.zero = some (fr 0 0) ∧ i.size = 2 ∧ i.bytes = 16 := ⟨_, rfl, rfl, rfl, rfl⟩
  have hmm := @run_makeMap Try.prog
  have HALL := hid hall; clear hall
  go_enter Try.func173, Try.ntmps173
  go_wp2_with fail
  go_loopw [4, 13] (fun v u wr => ∃ (k : Nat) (A' : Option Addr) (c' : Nat), u = .int .i64 (k : Int) ∧ v = .slice A' (dif (xs.take k)).length c' ∧ k ≤ xs.length ∧ Gr w wr ∧ wr.heap[w.heap.size]? = some (mapO (cnt (xs.take k)) (dif (xs.take k))) ∧ wr.ownsRow w.heap.size 30 2 (.slice A' (dif (xs.take k)).length c') (dif (xs.take k)).length (flatL (dif (xs.take k)))) (fun _ u _ => xs.length - (intOf u).toNat)
  case atStart => exact ⟨0, none, 0, rfl, rfl, by omega, Gr.alloc _ _, (MapKept.heap_alloc w _).1, World.ownsRow_nil _ _ _ _⟩
  case round =>
    clear hmm
    obtain ⟨k, A', c', rfl, rfl, hk, hg, hm, hown⟩ := hrel
    have GW := hid hg; have OWN := hid hown; have HM := hid hm
    have hlm := (Array.getElem?_eq_some_iff.1 hm).1
    clear hg hown hm
    by_cases hlt : k < xs.length
    · obtain ⟨⟨p, q⟩, hp⟩ : ∃ x, xs[k]? = some x := ⟨xs[k], List.getElem?_eq_getElem _⟩
      obtain ⟨ad, rfl, _, _⟩ := (X.out.keep GW.out) k p q hp
      have HP := hid hp
      have hlk := fun (w' : World) (h : w'.heap[w.heap.size]? = some (mapO (cnt (xs.take k)) (dif (xs.take k)))) => lookF (cnt (xs.take k)) (p, q) (dif (xs.take k)) w.heap.size w' h cnt_none
      have b2 := (alloc1 (w := wr) (A := .cells #[.int .i64 p, .int .i64 q] 30) (Gr.refl _)).1
      have l1 := hlk (wr.alloc (.cells #[.int .i64 p, .int .i64 q] 30)) (((MapKept.heap_alloc wr _).2 _ hlm).trans HM.out)
      have hcz := cnt_zero (L := xs.take k) (x := (p, q))
      by_cases hz : cnt (xs.take k) (p, q) = 0
      · rw [hz] at l1
        have hnot := hcz.1 hz
        have OWN3 := hid (own_gr OWN.out (((Gr.refl wr).al (.cells #[.int .i64 p, .int .i64 q] 30)).al (.cells #[.int .i64 p, .int .i64 q] 30)))
        have NEW := hid (one_newsF (w := (wr.alloc (.cells #[.int .i64 p, .int .i64 q] 30)).alloc (.cells #[.int .i64 p, .int .i64 q] 30)) (b := wr.heap.size + 1) (by simpa using (alloc1 (w := wr.alloc (.cells #[.int .i64 p, .int .i64 q] 30)) (A := .cells #[.int .i64 p, .int .i64 q] 30) (Gr.refl _)).1))
        have G3 := hid ((GW.out.al (.cells #[.int .i64 p, .int .i64 q] 30)).al (.cells #[.int .i64 p, .int .i64 q] 30))
        have hsz := G3.out.size
        have hdl : (dif (xs.take k)).length ≤ 64 := by have := dif_len (xs.take k); rw [List.length_take] at this; omega
        go_wp2_with (at_builtin; refine (wpList_append_gr rfl _ _ 35 rfl w.heap.size 30 i0 (fr 0 0) 2 16 Try.underlying35 hi iz0 iz1 iz2 rfl (by decide) _ (dif (xs.take k)).length _ rfl OWN3.out ⟨wr.heap.size + 1, 0, none⟩ 1 1 [.int .i64 p, .int .i64 q] rfl rfl NEW.out (by simp [Value.oneCell']) (by decide) (by unfold maxLen; omega) (by omega) hsz ?_))
        intro v' w6 own4 hgrow _ hgr
        obtain ⟨A2, c3, rfl⟩ := own_form own4
        have OWN4 := hid own4
        have G6 := hid (hgr _ G3.out (Nat.le_refl _))
        have hrow : ∀ (b : Nat) (o : Obj), (Value.slice A' (dif (xs.take k)).length c').ownBlock = some b → ((wr.alloc (.cells #[.int .i64 p, .int .i64 q] 30)).alloc (.cells #[.int .i64 p, .int .i64 q] 30)).heap[b]? = some o → (∃ cur, o = .cells cur 30 (0, 0)) ∧ b < wr.heap.size := by
          intro b o hj ho
          have hlt := own_lt OWN.out
          rcases OWN3.out.2 with ⟨h1, _⟩ | ⟨g, cap, cur, h1, _, hgb, _⟩
          · rw [h1] at hj; simp [Value.ownBlock] at hj
          · injection h1 with e1 e2 e3
            subst e1
            have : g = b := by simpa [Value.ownBlock] using hj
            subst this
            rw [hgb] at ho
            exact ⟨⟨cur, (Option.some.inj ho).symm⟩, (hlt _ rfl).2⟩
        have hm3 : ((wr.alloc (.cells #[.int .i64 p, .int .i64 q] 30)).alloc (.cells #[.int .i64 p, .int .i64 q] 30)).heap[w.heap.size]? = some (mapO (cnt (xs.take k)) (dif (xs.take k))) := ((MapKept.heap_alloc _ _).2 _ (by simp; omega)).trans (((MapKept.heap_alloc wr _).2 _ hlm).trans HM.out)
        have hb3 : ((wr.alloc (.cells #[.int .i64 p, .int .i64 q] 30)).alloc (.cells #[.int .i64 p, .int .i64 q] 30)).heap[wr.heap.size]? = some (.cells #[.int .i64 p, .int .i64 q] 30) := ((Gr.refl _).al _).keep b2
        have hm6 : w6.heap[w.heap.size]? = some (mapO (cnt (xs.take k)) (dif (xs.take k))) := by
          refine (hgrow.block _ ((Array.getElem?_eq_some_iff.1 hm3).1) ?_).trans hm3
          intro e
          obtain ⟨⟨cur, hc⟩, _⟩ := hrow _ _ e.symm hm3
          cases hc
        have hb6 : w6.heap[wr.heap.size]? = some (.cells #[.int .i64 p, .int .i64 q] 30) := by
          refine (hgrow.block _ (ltb hb3) ?_).trans hb3
          intro e
          have := (hrow _ _ e.symm hb3).2
          omega
        have l2 := hlk w6.drew hm6
        rw [hz] at l2
        obtain ⟨j, hj, he⟩ := entryF (cnt (xs.take k)) (p, q) (dif (xs.take k)) w.heap.size w6.drew hm6 cnt_none
        have hmW : ({ w6.drew with heap := w6.drew.heap.setIfInBounds w.heap.size (mapO (cnt (xs.take k)) (addK (dif (xs.take k)) (p, q))) } : World).heap[w.heap.size]? = some (mapO (cnt (xs.take k)) (addK (dif (xs.take k)) (p, q))) := (MapKept.heap_set hm6).1
        have hbW : ({ w6.drew with heap := w6.drew.heap.setIfInBounds w.heap.size (mapO (cnt (xs.take k)) (addK (dif (xs.take k)) (p, q))) } : World).heap[wr.heap.size]? = some (.cells #[.int .i64 p, .int .i64 q] 30) := ((MapKept.heap_set hm6).2 _ (by omega)).trans hb6
        obtain ⟨W1, hW1⟩ : ∃ W1, ({ w6.drew with heap := w6.drew.heap.setIfInBounds w.heap.size (mapO (cnt (xs.take k)) (addK (dif (xs.take k)) (p, q))) } : World) = W1 := ⟨_, rfl⟩
        rw [hW1] at he hmW hbW
        rw [hz] at he
        have l3 := lookF (cnt (xs.take k)) (p, q) (addK (dif (xs.take k)) (p, q)) w.heap.size W1 hmW (fun h => cnt_none fun h' => h (mem_addK.2 (.inl h')))
        rw [hz] at l3
        have st := storeF (cnt (xs.take k)) (p, q) 1 (addK (dif (xs.take k)) (p, q)) w.heap.size j W1 hmW (addK_nodup (dif_nodup _)) hj
        have htk : xs.take (k + 1) = xs.take k ++ [(p, q)] := by rw [List.take_add_one, HP.out]; rfl
        have had : addK (dif (xs.take k)) (p, q) = dif (xs.take k) ++ [(p, q)] := by unfold addK; rw [if_neg hnot]
        have hdd : dif (xs.take (k + 1)) = dif (xs.take k) ++ [(p, q)] := by rw [htk, dif_snoc, had]
        have hcc : upd (cnt (xs.take k)) (p, q) 1 = cnt (xs.take (k + 1)) := by rw [htk, ← cnt_snoc, hz]; rfl
        have OW1 : W1.ownsRow w.heap.size 30 2 (.slice A2 ((dif (xs.take k)).length + 1) c3) ((dif (xs.take k)).length + 1) (flatL (dif (xs.take k)) ++ [.int .i64 p, .int .i64 q]) := by rw [← hW1]; exact own_setM _ (own_gr OWN4.out (Gr.drew _)) hm6
        have GW1 : Gr w W1 := by rw [← hW1]; exact gr_setM _ (G6.out.trans (Gr.drew _)) (Nat.le_refl _) hm6
        have HAD := hid had; have HDD := hid hdd
        obtain ⟨W2, hW2⟩ : ∃ W2, ({ W1 with heap := W1.heap.setIfInBounds w.heap.size (mapO (cnt (xs.take (k + 1))) (dif (xs.take (k + 1)))) } : World) = W2 := ⟨_, rfl⟩
        have OW2 := hid (hW2 ▸ own_setM (mapO (cnt (xs.take (k + 1))) (dif (xs.take (k + 1)))) OW1 hmW)
        have GW2 := hid (hW2 ▸ gr_setM (mapO (cnt (xs.take (k + 1))) (dif (xs.take (k + 1)))) GW1 (Nat.le_refl _) hmW)
        have hm2 : W2.heap[w.heap.size]? = some (mapO (cnt (xs.take (k + 1))) (dif (xs.take (k + 1)))) := by rw [← hW2]; exact (MapKept.heap_set hmW).1
        have HM2 := hid hm2; have HW2 := hid hW2
        clear hm2 hW2
        clear OW1 GW1 htk had hdd
        obtain ⟨_, _⟩ := cells2 hb6
        obtain ⟨_, _⟩ := cells2 hbW
        clear l1 hgrow hgr own4 hrow hm3 hb3 OWN3 NEW hsz hlk hm6 hmW hcz
        go_wp2_with fail
        go_region
        rw [HAD.out, ← HDD.out, HW2.out]
        clear hcc
        go_wp2_with fail
        have hlen : (dif (xs.take (k + 1))).length = (dif (xs.take k)).length + 1 := by rw [HDD.out]; simp
        refine ⟨⟨k + 1, A2, c3, by simp, by rw [hlen], by omega, GW2.out, HM2.out, ?_⟩, by simp [intOf]; omega⟩
        rw [hlen, HDD.out, flatL_append2, flatL_one2]
        exact OW2.out
      · have hin : (p, q) ∈ dif (xs.take k) := Classical.byContradiction fun h => hz (hcz.2 h)
        obtain ⟨z, hzv⟩ : ∃ z, cnt (xs.take k) (p, q) = z := ⟨_, rfl⟩
        have z1 : 0 ≤ z ∧ z ≤ 64 := by
          rw [← hzv]
          unfold cnt
          have := List.count_le_length (a := (p, q)) (l := xs.take k)
          rw [List.length_take] at this
          omega
        obtain ⟨z1, z2⟩ := z1
        rw [hzv] at hz l1
        have hzd : (z == 0) = false := by simpa using hz
        have hm6 : (wr.alloc (.cells #[.int .i64 p, .int .i64 q] 30)).heap[w.heap.size]? = some (mapO (cnt (xs.take k)) (dif (xs.take k))) := ((MapKept.heap_alloc wr _).2 _ hlm).trans HM.out
        obtain ⟨w6, hw6⟩ : ∃ w6, wr.alloc (.cells #[.int .i64 p, .int .i64 q] 30) = w6 := ⟨_, rfl⟩
        have G6 := hid (hw6 ▸ GW.out.al (.cells #[.int .i64 p, .int .i64 q] 30))
        have OWN4 := hid (hw6 ▸ own_gr OWN.out (Gr.alloc wr (.cells #[.int .i64 p, .int .i64 q] 30)))
        rw [hw6] at hm6 b2
        have l2 := hlk w6.drew hm6
        rw [hzv] at l2
        obtain ⟨j, hj, he⟩ := entryF (cnt (xs.take k)) (p, q) (dif (xs.take k)) w.heap.size w6.drew hm6 cnt_none
        have hmW : ({ w6.drew with heap := w6.drew.heap.setIfInBounds w.heap.size (mapO (cnt (xs.take k)) (addK (dif (xs.take k)) (p, q))) } : World).heap[w.heap.size]? = some (mapO (cnt (xs.take k)) (addK (dif (xs.take k)) (p, q))) := (MapKept.heap_set hm6).1
        have hbW : ({ w6.drew with heap := w6.drew.heap.setIfInBounds w.heap.size (mapO (cnt (xs.take k)) (addK (dif (xs.take k)) (p, q))) } : World).heap[wr.heap.size]? = some (.cells #[.int .i64 p, .int .i64 q] 30) := ((MapKept.heap_set hm6).2 _ (by omega)).trans b2
        obtain ⟨W1, hW1⟩ : ∃ W1, ({ w6.drew with heap := w6.drew.heap.setIfInBounds w.heap.size (mapO (cnt (xs.take k)) (addK (dif (xs.take k)) (p, q))) } : World) = W1 := ⟨_, rfl⟩
        rw [hW1] at he hmW hbW
        rw [hzv] at he
        have l3 := lookF (cnt (xs.take k)) (p, q) (addK (dif (xs.take k)) (p, q)) w.heap.size W1 hmW (fun h => cnt_none fun h' => h (mem_addK.2 (.inl h')))
        rw [hzv] at l3
        have st := storeF (cnt (xs.take k)) (p, q) (z + 1) (addK (dif (xs.take k)) (p, q)) w.heap.size j W1 hmW (addK_nodup (dif_nodup _)) hj
        have htk : xs.take (k + 1) = xs.take k ++ [(p, q)] := by rw [List.take_add_one, HP.out]; rfl
        have had : addK (dif (xs.take k)) (p, q) = dif (xs.take k) := by unfold addK; rw [if_pos hin]
        have hdd : dif (xs.take (k + 1)) = dif (xs.take k) := by rw [htk, dif_snoc, had]
        have hcc : upd (cnt (xs.take k)) (p, q) (z + 1) = cnt (xs.take (k + 1)) := by rw [htk, ← cnt_snoc, hzv]
        have OW1 : W1.ownsRow w.heap.size 30 2 (.slice A' (dif (xs.take k)).length c') (dif (xs.take k)).length (flatL (dif (xs.take k))) := by rw [← hW1]; exact own_setM _ (own_gr OWN4.out (Gr.drew _)) hm6
        have GW1 : Gr w W1 := by rw [← hW1]; exact gr_setM _ (G6.out.trans (Gr.drew _)) (Nat.le_refl _) hm6
        have HAD := hid had; have HDD := hid hdd
        obtain ⟨W2, hW2⟩ : ∃ W2, ({ W1 with heap := W1.heap.setIfInBounds w.heap.size (mapO (cnt (xs.take (k + 1))) (dif (xs.take (k + 1)))) } : World) = W2 := ⟨_, rfl⟩
        have OW2 := hid (hW2 ▸ own_setM (mapO (cnt (xs.take (k + 1))) (dif (xs.take (k + 1)))) OW1 hmW)
        have GW2 := hid (hW2 ▸ gr_setM (mapO (cnt (xs.take (k + 1))) (dif (xs.take (k + 1)))) GW1 (Nat.le_refl _) hmW)
        have hm2 : W2.heap[w.heap.size]? = some (mapO (cnt (xs.take (k + 1))) (dif (xs.take (k + 1)))) := by rw [← hW2]; exact (MapKept.heap_set hmW).1
        have HM2 := hid hm2; have HW2 := hid hW2
        obtain ⟨_, _⟩ := cells2 b2
        obtain ⟨_, _⟩ := cells2 hbW
        have HW6 := hid hw6
        clear hm2 hW2 OW1 GW1 htk had hdd hlk hm6 hmW hcz hin hzv hw6
        go_wp2_with fail
        rw [HW6.out]
        go_region
        rw [HAD.out, ← HDD.out, HW2.out]
        clear hcc
        go_wp2_with fail
        refine ⟨⟨k + 1, A', c', by simp, by rw [HDD.out], by omega, GW2.out, HM2.out, ?_⟩, by simp [intOf]; omega⟩
        rw [HDD.out]
        exact OW2.out
    · have hke : k = xs.length := by omega
      subst hke
      have o1 := OWN.out; have m1 := HM.out
      rw [List.take_length] at o1 m1
      have hD : ∀ x ∈ dif xs, okB x.1 x.2 = true := fun x hx => HALL.out x (mem_dif.1 hx)
      have hdl := dif_len xs
      have hd0 : 0 < (dif xs).length := by
        rcases List.length_pos_iff_exists_mem.1 h0 with ⟨x, hx⟩
        exact List.length_pos_iff_exists_mem.2 ⟨x, mem_dif.2 hx⟩
      have hnd := dif_nodup xs
      have hmd : ∀ a, a ∈ dif xs ↔ a ∈ xs := fun a => mem_dif
      have hcn := fun x => @cnt_none xs x
      obtain ⟨g, rest, rfl, hbg, hx, hc, hl⟩ := own_openF o1 hd0
      have hgm : w.heap.size ≠ g := by
        rintro rfl
        rw [m1] at hx
        cases hx
      have HS := hid (iSortFunc g c' (dif xs) rest w wr GW.out hbg hx hD (by omega))
      have hlk := hid fun (x : Int × Int) (w' : World) (h : w'.heap[w.heap.size]? = some (mapO (cnt xs) (dif xs))) => lookF (cnt xs) x (dif xs) w.heap.size w' h (hcn x)
      have M1 := hid m1; have HL := hid hdl; have HND := hid hnd; have HMD := hid hmd; have HD0 := hid hd0
      have etl : (dif (List.take xs.length xs)).length = (dif xs).length := by rw [List.take_length]
      rw [etl]
      obtain ⟨D, hDD⟩ : ∃ D, dif xs = D := ⟨_, rfl⟩
      simp only [hDD] at HS hlk M1 HL HND HMD HD0 hl ⊢
      clear o1 m1 hD hdl hd0 hnd hmd hcn hx OWN HM hDD etl
      go_wp2_with fail
      refine HS.out.mono ?_
      rintro e w3 ⟨rfl, D', hp, hs, hg3, hx3, hoth⟩
      have G3 := hid hg3; have X3 := hid hx3; have M3 := hid (hoth _ _ hgm M1.out); have HP := hid hp; have HSO := hid hs
      have hdl : D'.length = D.length := hp.length_eq
      have h64 : D'.length ≤ 64 := by rw [hdl]; have := HL.out; omega
      have hsz3 := hg3.size
      rw [← hdl]
      clear hg3 hx3 hoth hp hs HS M1 hdl hl
      go_wp2_with fail
      obtain ⟨f, hf⟩ : ∃ f, (fun x : Int × Int => xs.count x) = f := ⟨_, rfl⟩
      have HF := hid hf
      have hcf : ∀ x, cnt xs x = (f x : Int) := fun x => by rw [← hf]; rfl
      have hfl : ∀ x, f x ≤ 64 := fun x => by rw [← hf]; exact Nat.le_trans List.count_le_length hn
      have HFL := hid hfl
      have hol : ∀ k, (outL f (D'.take k)).length ≤ xs.length := fun k => by
        have e := (outL_perm (xs := xs) ((HP.out.nodup_iff).2 HND.out) fun a => (HP.out.mem_iff).trans (HMD.out a)).length_eq
        rw [hf] at e
        have e2 : outL f D' = outL f (D'.take k) ++ outL f (D'.drop k) := by
          unfold outL
          rw [← List.flatMap_append, List.take_append_drop]
        rw [e2, List.length_append] at e
        omega
      have HOL := hid hol
      clear hf hfl hol
      go_loopw [7, 36] (fun v u wr => ∃ (k : Nat) (A' : Option Addr) (c' : Nat), u = .int .i64 (k : Int) ∧ v = .slice A' (outL f (D'.take k)).length c' ∧ k ≤ D'.length ∧ Gr w3 wr ∧ wr.ownsRow w3.heap.size 30 2 (.slice A' (outL f (D'.take k)).length c') (outL f (D'.take k)).length (flatL (outL f (D'.take k)))) (fun _ u _ => D'.length - (intOf u).toNat)
      case atStart => exact ⟨0, none, 0, rfl, rfl, by omega, Gr.refl _, World.ownsRow_nil _ _ _ _⟩
      case round =>
        obtain ⟨k, A', c', rfl, rfl, hk, hg, hown⟩ := hrel
        have GW := hid hg; have OWN := hid hown
        have M4 := hid (hg.keep M3.out); have X4 := hid (hg.keep X3.out)
        clear hg hown
        by_cases hlt : k < D'.length
        · obtain ⟨⟨p, q⟩, hp⟩ : ∃ x, D'[k]? = some x := ⟨D'[k], List.getElem?_eq_getElem _⟩
          obtain ⟨c1, c2⟩ := fracR_cells X4.out hp
          have htk : D'.take (k + 1) = D'.take k ++ [(p, q)] := by rw [List.take_add_one, hp]; rfl
          have hos : outL f (D'.take (k + 1)) = outL f (D'.take k) ++ List.replicate (f (p, q)) (p, q) := by rw [htk, outL_snoc]
          have HOS := hid hos
          have hos2 : (outL f (D'.take k)).length + f (p, q) ≤ xs.length := by have := HOL.out (k + 1); rw [hos, List.length_append, List.length_replicate] at this; exact this
          have hzf := hcf (p, q)
          obtain ⟨z, hz⟩ : ∃ z, f (p, q) = z := ⟨_, rfl⟩
          rw [hz] at hzf hos2 HOS
          obtain ⟨O, hO⟩ : ∃ O, outL f (D'.take k) = O := ⟨_, rfl⟩
          rw [hO] at OWN HOS hos2
          rw [hO]
          have b4 := (alloc1 (w := wr) (A := .cells #[.int .i64 p, .int .i64 q] 30) (Gr.refl _)).1
          have l1 := hlk.out (p, q) (wr.alloc (.cells #[.int .i64 p, .int .i64 q] 30)) (((Gr.refl _).al _).keep M4.out)
          rw [hzf] at l1
          have HB := hid b4
          have OWN1 := hid (own_gr OWN.out ((Gr.refl wr).al (.cells #[.int .i64 p, .int .i64 q] 30)))
          have hnb : (Value.slice A' O.length c').ownBlock ≠ some wr.heap.size := by
            intro he
            rcases A' with _ | ad
            · simp [Value.ownBlock] at he
            · have := (own_lt OWN.out ad rfl).2
              have : ad.block = wr.heap.size := by simpa [Value.ownBlock] using he
              omega
          have HNB := hid hnb
          have G4 := hid (GW.out.al (.cells #[.int .i64 p, .int .i64 q] 30))
          obtain ⟨bx, hbx⟩ : ∃ bx, wr.heap.size = bx := ⟨_, rfl⟩
          have z64 : z ≤ 64 := by rw [← hz]; exact HFL.out _
          clear hp htk hos hnb hzf hz b4 hO
          go_wp2_with fail
          go_loopw [7, 43] (fun v u wi => ∃ (j : Nat) (A2 : Option Addr) (c2 : Nat), u = .int .i64 (j : Int) ∧ v = .slice A2 (O.length + j) c2 ∧ j ≤ z ∧ Gr w3 wi ∧ wi.heap[bx]? = some (.cells #[.int .i64 p, .int .i64 q] 30) ∧ (Value.slice A2 (O.length + j) c2).ownBlock ≠ some bx ∧ wi.ownsRow w3.heap.size 30 2 (.slice A2 (O.length + j) c2) (O.length + j) (flatL (O ++ List.replicate j (p, q)))) (fun _ u _ => z - (intOf u).toNat)
          case atStart =>
            have o1 := OWN1.out
            refine ⟨0, A', c', rfl, rfl, by omega, G4.out, ?_, ?_, ?_⟩
            · rw [← hbx]; exact HB.out
            · rw [← hbx]; exact HNB.out
            · simpa using o1
          case round =>
            obtain ⟨j, A2, c2', rfl, rfl, hj, hg, hb, hnb, hown⟩ := hrel
            have GI := hid hg; have OWN2 := hid hown; have HB2 := hid hb; have HNB2 := hid hnb
            clear hg hown hb hnb HB HNB OWN1 OWN c1 c2 M4 X4
            by_cases hjt : j < z
            · obtain ⟨_, _⟩ := cells2 HB2.out
              have OWN3 := hid (own_gr OWN2.out ((Gr.refl wr).al (.cells #[.int .i64 p, .int .i64 q] 30)))
              have NEW := hid (one_newsF (w := wr.alloc (.cells #[.int .i64 p, .int .i64 q] 30)) (b := wr.heap.size) (alloc1 (Gr.refl _)).1)
              have G5 := hid (GI.out.al (.cells #[.int .i64 p, .int .i64 q] 30))
              have hsz := G5.out.size
              go_wp2_with (at_builtin; refine (wpList_append_gr rfl _ _ 35 rfl w3.heap.size 30 i0 (fr 0 0) 2 16 Try.underlying35 hi iz0 iz1 iz2 rfl (by decide) _ (O.length + j) _ rfl OWN3.out ⟨wr.heap.size, 0, none⟩ 1 1 [.int .i64 p, .int .i64 q] rfl rfl NEW.out (by simp [Value.oneCell']) (by decide) (by unfold maxLen; omega) (by omega) hsz ?_))
              intro v' w6 own4 hgrow hblk hgr
              obtain ⟨A3, c3, rfl⟩ := own_form own4
              have hb5 := ((Gr.refl wr).al (.cells #[.int .i64 p, .int .i64 q] 30)).keep HB2.out
              have hb6 : w6.heap[bx]? = some (.cells #[.int .i64 p, .int .i64 q] 30) := (hgrow.block _ (ltb hb5) fun e => HNB2.out e.symm).trans hb5
              have hnb6 : (Value.slice A3 (O.length + j + 1) c3).ownBlock ≠ some bx := by
                rcases hblk with h | h
                · rw [h]; exact HNB2.out
                · rw [h]
                  intro e
                  have := ltb HB2.out
                  simp at e
                  omega
              have e2 : flatL (O ++ List.replicate j (p, q)) ++ [.int .i64 p, .int .i64 q] = flatL (O ++ List.replicate (j + 1) (p, q)) := by
                rw [← flatL_one2, ← flatL_append2, List.append_assoc, List.replicate_succ']
              rw [e2] at own4
              have OWN4 := hid own4; have HB6 := hid hb6; have HNB6 := hid hnb6
              have G6 := hid (hgr _ G5.out (Nat.le_refl _))
              clear own4 hgrow hblk hgr hb5 hb6 hnb6 e2 OWN3 NEW hsz
              go_wp2_with fail
              exact ⟨⟨j + 1, A3, c3, by simp, rfl, by omega, G6.out, HB6.out, HNB6.out, OWN4.out⟩, by simp [intOf]; omega⟩
            · have hje : j = z := by omega
              subst hje
              go_wp2_with fail
              refine ⟨⟨k + 1, A2, c2', by simp, by rw [HOS.out, List.length_append, List.length_replicate], by omega, GI.out, ?_⟩, by simp [intOf]; omega⟩
              rw [HOS.out, List.length_append, List.length_replicate]
              exact OWN2.out
        · have hke : k = D'.length := by omega
          subst hke
          have o1 := OWN.out
          rw [List.take_length] at o1
          have hper := outL_perm (xs := xs) ((HP.out.nodup_iff).2 HND.out) fun a => (HP.out.mem_iff).trans (HMD.out a)
          rw [HF.out] at hper
          rw [hper.length_eq] at o1
          have etl : (outL f (List.take D'.length D')).length = xs.length := by rw [List.take_length]; exact hper.length_eq
          rw [etl]
          have O1 := hid o1; have HPER := hid hper
          clear o1 hper OWN etl
          go_wp2_with fail
          go_ret
          exact ⟨outL f D', A', c', rfl, HPER.out, outL_sorted HSO.out, own_base O1.out hsz3, G3.out.trans GW.out⟩
end Go.Proofs.Ytnbdafecgccojaa
