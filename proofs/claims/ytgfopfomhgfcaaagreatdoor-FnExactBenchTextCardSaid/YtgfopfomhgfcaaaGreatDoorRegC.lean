/- A region that draws its order, in which one call panics; what waits for this call may write a slot that others have read ahead of it. -/
import Derived.Test.YtgfopfomhgfcaaaGreatDoorReg
namespace Go.Proofs.YtgfopfomhgfcaaaGreatDoor
open Go.RowKit Go.Sort

def badC (al D : List Nat) (c : Nat) (l : List Oper) : Bool :=
  Region.noSelect l.toArray && decide (c < l.length) && !al.contains c && !D.contains c &&
  (List.range l.length).all (fun i => match l[i]? with
    | some o => o.after.all (fun e => !Region.binds .any e || decide (e.on < i)) &&
        (al.contains i || D.contains i || (o.looksAt l.toArray).all fun s => (List.range l.length).all fun j => dstOf l j != some s || ((c :: D).contains j || (!(al ++ c :: D).contains j && decide (j < i) && Region.waitsFor .any l.toArray i j))) &&
        (D.contains i || o.after.all (fun e => !Region.binds .any e || !(c :: D).contains e.on)) &&
        ((List.range l.length).all fun j => i == j || o.dst == none || dstOf l j != o.dst || ((c :: D).contains i && (c :: D).contains j))
    | none => false) &&
  D.all (fun k => !al.contains k && (c :: D).any fun j => decide (j < k) && Region.waitsFor .any l.toArray k j) &&
  al.all (fun j => match l[j]? with | some o => o.guard.isNone | none => false) &&
  (match l[c]? with | some o => o.guard.isNone | none => false)

structure BadOkC (al D : List Nat) (c : Nat) (l : List Oper) : Prop where
  nosel : Region.noSelect l.toArray = true
  lt : c < l.length
  cal : c ∉ al
  cD : c ∉ D
  after : ∀ i o, l[i]? = some o → ∀ e ∈ o.after, Region.binds .any e = true → e.on < i
  looks : ∀ i o, l[i]? = some o → i ∉ al → i ∉ D → ∀ s ∈ o.looksAt l.toArray, ∀ j, dstOf l j = some s → j ∈ c :: D ∨ (j ∉ al ++ c :: D ∧ j < i ∧ Region.waitsFor .any l.toArray i j = true)
  deps : ∀ i o, l[i]? = some o → i ∉ D → ∀ e ∈ o.after, Region.binds .any e = true → e.on ∉ c :: D
  dsts : ∀ i j d, dstOf l i = some d → dstOf l j = some d → i = j ∨ (i ∈ c :: D ∧ j ∈ c :: D)
  waitD : ∀ k, k ∈ D → k ∉ al ∧ ∃ j, j ∈ c :: D ∧ j < k ∧ Region.waitsFor .any l.toArray k j = true
  als : ∀ j, j ∈ al → ∃ o, l[j]? = some o ∧ o.guard = none
  cg : ∀ o, l[c]? = some o → o.guard = none

theorem badOkC_of {al D : List Nat} {c : Nat} {l : List Oper} (h : badC al D c l = true) : BadOkC al D c l := by
  simp only [badC, Bool.and_eq_true, decide_eq_true_eq, Bool.not_eq_true'] at h
  obtain ⟨⟨⟨⟨⟨⟨⟨h1, h2⟩, h3⟩, h4⟩, h5⟩, h6⟩, h7⟩, h8⟩ := h
  have key : ∀ i o, l[i]? = some o → o.after.all (fun e => !Region.binds .any e || decide (e.on < i)) = true ∧
      (al.contains i || D.contains i || (o.looksAt l.toArray).all fun s => (List.range l.length).all fun j => dstOf l j != some s || ((c :: D).contains j || (!(al ++ c :: D).contains j && decide (j < i) && Region.waitsFor .any l.toArray i j))) = true ∧
      (D.contains i || o.after.all (fun e => !Region.binds .any e || !(c :: D).contains e.on)) = true ∧
      ((List.range l.length).all fun j => i == j || o.dst == none || dstOf l j != o.dst || ((c :: D).contains i && (c :: D).contains j)) = true := by
    intro i o ho
    have := List.all_eq_true.1 h5 i (List.mem_range.2 (List.getElem?_eq_some_iff.1 ho).1)
    simp only [ho, Bool.and_eq_true] at this
    exact ⟨this.1.1.1, this.1.1.2, this.1.2, this.2⟩
  refine ⟨h1, h2, by simpa using h3, by simpa using h4, ?_, ?_, ?_, ?_, ?_, ?_, ?_⟩
  · intro i o ho e he hb
    have h := Array.all_eq_true_iff_forall_mem.1 (key i o ho).1 e he
    simpa [hb] using h
  · intro i o ho hal hD s hs j hd
    have h := (key i o ho).2.1
    have e1 : al.contains i = false := by simpa using hal
    have e2 : D.contains i = false := by simpa using hD
    simp only [e1, e2, Bool.false_or] at h
    have h := List.all_eq_true.1 (List.all_eq_true.1 h s hs) j (List.mem_range.2 (lt_of_dst hd))
    simp only [hd, bne_self_eq_false, Bool.false_or, Bool.or_eq_true, Bool.and_eq_true, decide_eq_true_eq, Bool.not_eq_true'] at h
    rcases h with h | h
    · exact .inl (List.contains_iff_mem.1 h)
    exact .inr ⟨fun hm => (by
      have := h.1.1
      rw [List.contains_iff_mem.2 hm] at this; cases this), h.1.2, h.2⟩
  · intro i o ho hD e he hb hm
    have h := (key i o ho).2.2.1
    have e2 : D.contains i = false := by simpa using hD
    simp only [e2, Bool.false_or] at h
    have h := Array.all_eq_true_iff_forall_mem.1 h e he
    simp only [hb, Bool.not_true, Bool.false_or, Bool.not_eq_true'] at h
    rw [List.contains_iff_mem.2 hm] at h; cases h
  · intro i j d hdi hdj
    have hi := lt_of_dst hdi
    have hj := lt_of_dst hdj
    unfold dstOf at hdi
    cases ho : l[i]? with
    | none => simp [ho] at hdi
    | some o =>
      simp only [ho, Option.bind_some] at hdi
      have h := List.all_eq_true.1 (key i o ho).2.2.2 j (List.mem_range.2 hj)
      simp only [hdi, hdj, Bool.or_eq_true, beq_iff_eq, bne_self_eq_false, Bool.and_eq_true] at h
      rcases h with ((h | h) | h) | h
      · exact .inl h
      · cases h
      · cases h
      · exact .inr ⟨List.contains_iff_mem.1 h.1, List.contains_iff_mem.1 h.2⟩
  · intro k hk
    have h := List.all_eq_true.1 h6 k hk
    simp only [Bool.and_eq_true, Bool.not_eq_true'] at h
    obtain ⟨j, hj, hj2⟩ := List.any_eq_true.1 h.2
    simp only [Bool.and_eq_true, decide_eq_true_eq] at hj2
    exact ⟨by simpa using h.1, j, hj, hj2.1, hj2.2⟩
  · intro j hj
    have h := List.all_eq_true.1 h7 j hj
    cases ho : l[j]? with
    | none => simp [ho] at h
    | some o => exact ⟨o, rfl, by simpa [ho, Option.isNone_iff_eq_none] using h⟩
  · intro o ho
    simpa [ho, Option.isNone_iff_eq_none] using h8

section
variable {P : Program} {l : List Oper} {al D : List Nat} {c : Nat} {a0 aF : Act} {w0 : World} {blk : Nat → Obj}

theorem head_badC (HK : BadOkC al D c l) {Q : Exit → Act → World → Prop}
    (hrun : ∀ j ∈ al, ∀ o, l[j]? = some o → ∀ (a : Act) (w : World), (execOp a.eval o).run P w = .ok (.value (.pointer (some ⟨w.heap.size, 0, none⟩))) (w.alloc (blk j)))
    (hq : ∀ wb, Gr w0 wb → wpQuiet P l.toArray (fun w' => ∃ p : GrownBy, w' = grow (wb.drewN p.n) p.os) (fun x => x = aF) (headOps (al ++ c :: D) l.length 0 l) a0)
    (hc : ∀ o, l[c]? = some o → ∀ (a : Act) (w : World) (K : Act → World → Prop), a.defers = a0.defers → execOp a.eval o = execOp aF.eval o → Gr w0 w → o.wp P a w K Q) :
    ∀ (f : Nat) (listed : Array Bool) (a : Act) (w : World), undone listed l.length = f → SimB l al D c a0 aF w0 listed a w → wpAny P .any l.toArray Q f listed a w := by
  have hd1 : ∀ i j d, dstOf (headOps (al ++ c :: D) l.length 0 l) i = some d → dstOf (headOps (al ++ c :: D) l.length 0 l) j = some d → i = j := by
    intro i j d hi hj
    rw [dst_head] at hi hj
    split at hi
    · split at hi
      · cases hi
      · rename_i hni
        split at hj
        · split at hj
          · cases hj
          · rcases HK.dsts i j d hi hj with h | h
            · exact h
            · exact absurd (List.contains_iff_mem.2 (List.mem_append_right _ h.1)) (by simpa using hni)
        · cases hj
    · cases hi
  have hs1 : aF.tmps.size = a0.tmps.size := (lex_walk (headOps (al ++ c :: D) l.length 0 l) a0 hd1 (hq w0 (Gr.refl w0))).1.2.1
  intro f
  induction f with
  | zero =>
    intro listed a w hu S
    have := undone_zero hu c HK.lt
    rw [S.none c (by simp)] at this; cases this
  | succ f ih =>
    intro listed a w hu S
    -- the first that has not come up and does not wait for the call
    have hfirst : ∃ i, i < l.length ∧ i ∉ D ∧ listed.getD i false = false ∧ ∀ j, j < i → j ∉ D → listed.getD j false = true := by
      have h0 : ∃ i, i < l.length ∧ i ∉ D ∧ listed.getD i false = false := ⟨c, HK.lt, HK.cD, S.none c (by simp)⟩
      obtain ⟨i, hi, hD, hf⟩ := h0
      induction i using Nat.strongRecOn with
      | _ i ih' =>
        by_cases hall : ∀ j, j < i → j ∉ D → listed.getD j false = true
        · exact ⟨i, hi, hD, hf, hall⟩
        · by_cases hcc : ∃ j, j < i ∧ j ∉ D ∧ listed.getD j false = false
          · obtain ⟨j, hj, hjD, hjf⟩ := hcc
            exact ih' j hj (by omega) hjD hjf
          · exact absurd (fun j hj hjD => by
              cases hb : listed.getD j false with
              | true => rfl
              | false => exact absurd ⟨j, hj, hjD, hb⟩ hcc) hall
    obtain ⟨i0, hi0, hD0, hf0, hbef⟩ := hfirst
    refine ⟨fun h => ?_, fun k hk => ?_⟩
    · exfalso
      have : i0 ∈ Region.ready .any l.toArray listed := by
        rw [mem_ready]
        refine ⟨by rw [getD_tf (by rw [S.lsize]; exact hi0)]; exact hf0, l[i0], by simp, fun e he hb => ?_⟩
        have hlt := HK.after i0 _ (by simp) e he hb
        have hnd := HK.deps i0 _ (by simp) hD0 e he hb
        exact hbef _ hlt (fun h => hnd (List.mem_cons_of_mem _ h))
      rw [h] at this; cases this
    · obtain ⟨hkun, o, ho, hdeps⟩ := mem_ready.1 hk
      have ho' : l[k]? = some o := by simpa using ho
      have hkl : k < l.length := (List.getElem?_eq_some_iff.1 ho').1
      have hkf : listed.getD k false = false := by rw [← getD_tf (by rw [S.lsize]; exact hkl)]; exact hkun
      have hu' : undone (listed.setIfInBounds k true) l.length = f := by have := undone_set hkl (by rw [S.lsize]; exact hkl) hkf; omega
      have dk : dstOf l k = o.dst := by simp [dstOf, ho']
      have waits : ∀ j, Region.waitsFor .any l.toArray k j = true → listed.getD j false = true := by
        intro j q3
        obtain ⟨ok, hok, e, he, hb, hon⟩ := Region.waitsFor_spec q3
        have : ok = o := Option.some.inj (hok.symm.trans ho)
        subst this
        rw [← hon]; exact hdeps e he hb
      by_cases hkD : k ∈ D
      · exfalso
        obtain ⟨_, j, hj, _, hw⟩ := HK.waitD k hkD
        have := waits j hw
        rw [S.none j hj] at this; cases this
      · unfold wpOp
        simp only [ho]
        by_cases hal : k ∈ al
        · obtain ⟨o', h1, h2⟩ := HK.als k hal
          have : o' = o := Option.some.inj (h1.symm.trans ho')
          subst this
          rw [if_pos (by simp [Region.wanted, h2])]
          refine .inl ?_
          unfold Oper.wp
          rw [hrun k hal o' ho' a w]
          simp only [Oper.upon]
          refine ih _ _ _ hu' ?_
          have hkc : k ∉ c :: D := fun h => by
            rcases List.mem_cons.1 h with h | h
            · exact HK.cal (h ▸ hal)
            · exact hkD h
          constructor
          · exact S.grown.trans (Gr.alloc _ _)
          · rw [put_defers]; exact S.defers
          · rw [put_size]; exact S.size
          · simp [S.lsize]
          · intro i hi
            rw [getD_set_ne false (fun h => hkc (by rw [h]; exact hi))]
            exact S.none i hi
          · intro i e hl hni hde
            rcases set_of hl with rfl | hl
            · exact absurd hal hni
            · rw [put_ne _ _ _ _ (fun he => by
                rcases HK.dsts i k e hde (by rw [dk, he]) with h | h
                · exact hni (h ▸ hal)
                · exact hkc h.2)]
              exact S.wr i e hl hni hde
          · intro s hs
            rw [put_ne _ _ _ _ (fun he => hs k (getD_set_self (by rw [S.lsize]; exact hkl)) (by rw [dk, he]))]
            exact S.old s fun i hl => hs i (getD_set_true hl)
        · have both : ∀ j s i, dstOf l j = some s → j ∈ c :: D → dstOf l i = some s → i ∈ c :: D := fun j s i h1 h2 h3 => by
            rcases HK.dsts i j s h3 h1 with h | h
            · exact h ▸ h2
            · exact h.1
          have hnoL : ∀ j s, dstOf l j = some s → j ∈ c :: D → ∀ i, listed.getD i false = true → dstOf l i ≠ some s := fun j s h1 h2 i hl hd => by
            rw [S.none i (both j s i h1 h2 hd)] at hl; cases hl
          have hnoH : ∀ j s, dstOf l j = some s → j ∈ c :: D → ∀ i, dstOf (headOps (al ++ c :: D) l.length 0 l) i ≠ some s := fun j s h1 h2 i => by
            rw [dst_head]
            split
            · split
              · exact fun h => by cases h
              · rename_i hni
                exact fun hd => hni (List.contains_iff_mem.2 (List.mem_append_right _ (both j s i h1 h2 hd)))
            · exact fun h => by cases h
          have hf4 := lex_walk (headOps (al ++ c :: D) l.length 0 l) a0 hd1 (hq w S.grown)
          by_cases hkc : k = c
          · subst hkc
            rw [if_pos (by simp [Region.wanted, HK.cg o ho'])]
            refine .inl (hc o ho' a w _ S.defers (exec_same (ops := l.toArray) o (fun cs b => Region.noSelect_spec HK.nosel k o cs b ho) fun s hs => ?_) S.grown)
            by_cases hex : ∃ j, dstOf l j = some s
            · obtain ⟨j, hdj⟩ := hex
              rcases HK.looks k o ho' hal hkD s hs j hdj with hcD | ⟨q1, q2, q3⟩
              · rw [S.old s (hnoL j s hdj hcD), hf4.1.2.2 s (hnoH j s hdj hcD)]
              exact S.wr j s (waits j q3) (fun h => q1 (List.mem_append_left _ h)) hdj
            · have hno : ∀ i, dstOf l i ≠ some s := fun i hd => hex ⟨i, hd⟩
              rw [S.old s fun i _ => hno i, hf4.1.2.2 s fun i => by
                rw [dst_head]
                split
                · split
                  · exact fun h => by cases h
                  · exact hno i
                · exact fun h => by cases h]
          · have hni : k ∉ al ++ c :: D := fun h => by
              rcases List.mem_append.1 h with h | h
              · exact hal h
              · rcases List.mem_cons.1 h with h | h
                · exact hkc h
                · exact hkD h
            have hnc : (al ++ c :: D).contains k = false := by
              cases hb : (al ++ c :: D).contains k with
              | false => rfl
              | true => exact absurd (List.contains_iff_mem.1 hb) hni
            have hhead : (headOps (al ++ c :: D) l.length 0 l)[k]? = some o := by
              rw [headOps_get, if_pos hkl, ho', Nat.zero_add, hnc]; rfl
            obtain ⟨ak, v, hy, hv, hg3, hg4⟩ := hf4.2 k o hhead
            have agree : ∀ s ∈ o.looksAt l.toArray, a.tmps[s]? = ak.tmps[s]? := by
              intro s hs
              by_cases hex : ∃ j, dstOf l j = some s
              · obtain ⟨j, hdj⟩ := hex
                rcases HK.looks k o ho' hal hkD s hs j hdj with hcD | ⟨q1, q2, q3⟩
                · rw [S.old s (hnoL j s hdj hcD), hg4 s fun i _ => hnoH j s hdj hcD i]
                have qc : (al ++ c :: D).contains j = false := by
                  cases hb : (al ++ c :: D).contains j with
                  | false => rfl
                  | true => exact absurd (List.contains_iff_mem.1 hb) q1
                rw [S.wr j s (waits j q3) (fun h => q1 (List.mem_append_left _ h)) hdj, hg3 s ⟨j, q2, by rw [dst_head, if_pos (lt_of_dst hdj), qc]; exact hdj⟩]
              · have hno : ∀ i, dstOf l i ≠ some s := fun i hd => hex ⟨i, hd⟩
                rw [S.old s fun i _ => hno i, hg4 s fun i _ => by
                  rw [dst_head]
                  split
                  · split
                    · exact fun h => by cases h
                    · exact hno i
                  · exact fun h => by cases h]
            have hex := exec_same (ops := l.toArray) o (fun cs b => Region.noSelect_spec HK.nosel k o cs b ho) agree
            have hwa := wanted_same (ops := l.toArray) o agree
            have fin : ∀ w', Gr w w' → wpAny P .any l.toArray Q f (listed.setIfInBounds k true) (a.put o.dst v) w' := by
              intro w' hgr
              refine ih _ _ _ hu' ?_
              constructor
              · exact S.grown.trans hgr
              · rw [put_defers]; exact S.defers
              · rw [put_size]; exact S.size
              · simp [S.lsize]
              · intro i hi
                rw [getD_set_ne false (fun h => hni (List.mem_append_right _ (by rw [h]; exact hi)))]
                exact S.none i hi
              · intro i e hl hnal hde
                by_cases hik : i = k
                · subst hik
                  rw [dk] at hde
                  rcases Nat.lt_or_ge e a.tmps.size with hlt' | hge
                  · rw [hde, put_at _ _ _ hlt']
                    exact (hv e hde (by rw [← S.size]; exact hlt')).symm
                  · rw [Array.getElem?_eq_none (by rw [put_size]; exact hge), Array.getElem?_eq_none (by rw [hs1, ← S.size]; exact hge)]
                · have hl := (set_of hl).resolve_left hik
                  rw [put_ne _ _ _ _ (fun he => by
                    rcases HK.dsts i k e hde (by rw [dk, he]) with h | h
                    · exact hik h
                    · exact hni (List.mem_append_right _ h.2))]
                  exact S.wr i e hl hnal hde
              · intro s hs
                rw [put_ne _ _ _ _ (fun he => hs k (getD_set_self (by rw [S.lsize]; exact hkl)) (by rw [dk, he]))]
                exact S.old s fun i hl => hs i (getD_set_true hl)
            rcases hy with ⟨hw, hv1⟩ | ⟨hw, rfl⟩
            · rw [if_pos (by rw [hwa]; exact hw)]
              refine .inl ?_
              have h3 := hv1 w (Gr.refl w)
              unfold Oper.quietAt at h3
              unfold Oper.wp
              rw [hex]
              generalize (execOp ak.eval o).run P w = r at h3
              cases r with
              | ok nx w' =>
                cases nx <;> simp only [Oper.quietUpon] at h3 <;> simp only [Oper.upon]
                case value u =>
                  obtain ⟨e1, e2⟩ := h3
                  rw [e1, e2]
                  exact fin w (Gr.refl w)
                case skip =>
                  obtain ⟨e1, e2⟩ := h3
                  rw [e1, ← e2]
                  exact fin w (Gr.refl w)
                case enter g args =>
                  obtain ⟨e1, hcc⟩ := h3
                  rw [e1]
                  exact hcc.mono fun e w'' ⟨he, hw''⟩ => by subst he; exact fin w'' hw''
              | halt x w' => simp only [Oper.quietUpon] at h3
            · rw [if_neg (by rw [hwa, hw]; exact Bool.false_ne_true)]
              exact fin w (Gr.refl w)

end
/-- The call numbered c panics, and so does the region; what waits for it may write what others have read. -/
theorem wp_regC {P : Program} {l : List Oper} {id : Nat} {Q : Exit → Act → World → Prop} {a : Act} {w : World} {o : Oper} (c : Nat) (D : List Nat) (hm : P.follows .mixedOrders = true) (hB : badC [] D c l = true) (ho : l[c]? = some o)
    (h : ∃ aF f args, (∀ wb, Gr w wb → wpQuiet P l.toArray (fun w' => ∃ p : GrownBy, w' = grow (wb.drewN p.n) p.os) (fun x => x = aF) (headOps (c :: D) l.length 0 l) a) ∧
      (∀ w', (execOp aF.eval o).run P w' = .ok (.enter f args) w') ∧
      ∀ w', Gr w w' → Calls P f args w' fun e w'' => ∃ ch, e = .panicked ch ∧ ∀ a', a'.defers = a.defers → Q (.panic ch) a' w'') : (Code.region id l.toArray true).wp P Q a w := by
  obtain ⟨aF, f, args, hq, he, hc⟩ := h
  have HK := badOkC_of hB
  refine wp_region_any hm ?_
  have := head_badC (P := P) (Q := Q) (blk := fun _ => default) (w0 := { w with drawn := w.drawn + 1 }) HK (fun j h => by cases h) (fun wb h => hq wb (gr_drawn h))
    (fun o' ho' a' w' K hd hex hg => by
      have : o' = o := Option.some.inj (ho'.symm.trans ho)
      subst this
      unfold Oper.wp
      rw [hex, he w']
      simp only [Oper.upon]
      exact (hc w' (gr_drawn hg)).mono fun e w'' ⟨ch, h1, h2⟩ => by subst h1; exact h2 a' hd)
    l.length (Array.replicate l.length false) a { w with drawn := w.drawn + 1 }
    (by
      unfold undone
      rw [List.filter_eq_self.2 (fun i _ => by rw [getD_replicate_false]; rfl)]; simp)
    ⟨Gr.refl _, rfl, rfl, by simp, fun i _ => getD_replicate_false _ _, fun i d hl => (by rw [getD_replicate_false] at hl; cases hl), fun _ _ => rfl⟩
  simpa using this
/-- A drawing region that makes a block, and in which one call panics. -/
theorem wp_regPa {P : Program} {l : List Oper} {id : Nat} {Q : Exit → Act → World → Prop} {a : Act} {w : World} {o oi : Oper} (b0 : Obj) (c i : Nat) (D : List Nat) (hm : P.follows .mixedOrders = true) (hB : badB [i] D c l = true) (hoi : l[i]? = some oi) (hri : ∀ (a : Act) (w : World), (execOp a.eval oi).run P w = .ok (.value (.pointer (some ⟨w.heap.size, 0, none⟩))) (w.alloc b0)) (ho : l[c]? = some o)
    (h : ∃ aF f args, (∀ wb, Gr w wb → wpQuiet P l.toArray (fun w' => ∃ p : GrownBy, w' = grow (wb.drewN p.n) p.os) (fun x => x = aF) (headOps (i :: c :: D) l.length 0 l) a) ∧
      (∀ w', (execOp aF.eval o).run P w' = .ok (.enter f args) w') ∧
      ∀ w', Gr w w' → Calls P f args w' fun e w'' => ∃ ch, e = .panicked ch ∧ ∀ a', a'.defers = a.defers → Q (.panic ch) a' w'') : (Code.region id l.toArray true).wp P Q a w := by
  obtain ⟨aF, f, args, hq, he, hc⟩ := h
  have HK := badOk_of hB
  refine wp_region_any hm ?_
  have := head_bad (P := P) (Q := Q) (blk := fun _ => b0) (w0 := { w with drawn := w.drawn + 1 }) HK (fun j hj o' ho' a' w' => by
      obtain rfl : j = i := by simpa using hj
      obtain rfl : o' = oi := Option.some.inj (ho'.symm.trans hoi)
      exact hri a' w') (fun wb h => hq wb (gr_drawn h))
    (fun o' ho' a' w' K hd hex hg => by
      have : o' = o := Option.some.inj (ho'.symm.trans ho)
      subst this
      unfold Oper.wp
      rw [hex, he w']
      simp only [Oper.upon]
      exact (hc w' (gr_drawn hg)).mono fun e w'' ⟨ch, h1, h2⟩ => by subst h1; exact h2 a' hd)
    l.length (Array.replicate l.length false) a { w with drawn := w.drawn + 1 }
    (by
      unfold undone
      rw [List.filter_eq_self.2 (fun i _ => by rw [getD_replicate_false]; rfl)]; simp)
    ⟨Gr.refl _, rfl, rfl, by simp, fun i _ => getD_replicate_false _ _, fun i d hl => (by rw [getD_replicate_false] at hl; cases hl), fun _ _ => rfl⟩
  simpa using this
end Go.Proofs.YtgfopfomhgfcaaaGreatDoor
