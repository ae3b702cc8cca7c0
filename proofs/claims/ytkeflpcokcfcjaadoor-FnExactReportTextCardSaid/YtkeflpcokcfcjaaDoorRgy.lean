/- A region that draws its order, in whose head a block is made by an operation that may be guarded (its guard is decided by what the head yields). The text is Reg's for unguarded operations, turned in this one place. -/
import Derived.Test.YtkeflpcokcfcjaaDoorReg
namespace Go.Proofs.YtkeflpcokcfcjaaDoor
open Go.RowKit Go.Sort

/-- What is asked of the region's form; the kernel reckons it. al: the makings of variables; sts: the stores into them; own: whose store it is. -/
def headBY (al sts : List Nat) (own : Nat → Nat) (n : Nat) (l : List Oper) : Bool :=
  Region.noSelect l.toArray && decide (n < l.length) && Region.sinkB .any l.toArray n && Region.chainB .any l.toArray n &&
  Region.seqB .any l.toArray (l.length - n) n (Array.replicate n true ++ Array.replicate (l.length - n) false) &&
  (List.range n).all (fun i => match l[i]? with
    | some o => o.after.all (fun e => !Region.binds .any e || decide (e.on < i)) &&
        ((o.looksAt l.toArray).all fun s => (List.range n).all fun j => dstOf l j != some s || (((sts.contains i && j == own i) || !(al ++ sts).contains j) && decide (j < i) && Region.waitsFor .any l.toArray i j)) &&
        (match o.guard with | some (g, _) => decide (g < n) && !(al ++ sts).contains g | none => true) &&
        (List.range n).all fun j => i == j || o.dst == none || dstOf l j != o.dst
    | none => false) &&
  al.all (fun j => match l[j]? with | some o => decide (j < n) && o.dst.isSome && !sts.contains j | none => false) &&
  sts.all (fun k => match l[k]? with | some o => o.guard.isNone && decide (k < n) && o.dst == none && al.contains (own k) && Region.waitsFor .any l.toArray k (own k) && sts.all (fun s => s == k || own s != own k) | none => false)

structure HeadOkY (al sts : List Nat) (own : Nat → Nat) (n : Nat) (l : List Oper) : Prop where
  nosel : Region.noSelect l.toArray = true
  lt : n < l.length
  sink : Region.sinkB .any l.toArray n = true
  chain : Region.chainB .any l.toArray n = true
  seq : Region.seqB .any l.toArray (l.length - n) n (Array.replicate n true ++ Array.replicate (l.length - n) false) = true
  after : ∀ i o, i < n → l[i]? = some o → ∀ e ∈ o.after, Region.binds .any e = true → e.on < i
  looks : ∀ i o, i < n → l[i]? = some o → ∀ s ∈ o.looksAt l.toArray, ∀ j, j < n → dstOf l j = some s → ((i ∈ sts ∧ j = own i) ∨ j ∉ al ++ sts) ∧ j < i ∧ Region.waitsFor .any l.toArray i j = true
  guards : ∀ i o g b, i < n → l[i]? = some o → o.guard = some (g, b) → g < n ∧ g ∉ al ++ sts
  dsts : ∀ i j d, i < n → j < n → dstOf l i = some d → dstOf l j = some d → i = j
  als : ∀ j, j ∈ al → ∃ o d, l[j]? = some o ∧ True ∧ j < n ∧ o.dst = some d ∧ j ∉ sts
  stos : ∀ k, k ∈ sts → ∃ o, l[k]? = some o ∧ o.guard = none ∧ k < n ∧ o.dst = none ∧ own k ∈ al ∧ Region.waitsFor .any l.toArray k (own k) = true ∧ ∀ s, s ∈ sts → own s = own k → s = k

theorem headOk_ofY {al sts : List Nat} {own : Nat → Nat} {n : Nat} {l : List Oper} (h : headBY al sts own n l = true) : HeadOkY al sts own n l := by
  simp only [headBY, Bool.and_eq_true, decide_eq_true_eq] at h
  obtain ⟨⟨⟨⟨⟨⟨⟨h1, h2⟩, h3⟩, h4⟩, h5⟩, h6⟩, h7⟩, h8⟩ := h
  have key : ∀ i o, i < n → l[i]? = some o → o.after.all (fun e => !Region.binds .any e || decide (e.on < i)) = true ∧
      ((o.looksAt l.toArray).all fun s => (List.range n).all fun j => dstOf l j != some s || (((sts.contains i && j == own i) || !(al ++ sts).contains j) && decide (j < i) && Region.waitsFor .any l.toArray i j)) = true ∧
        (match o.guard with | some (g, _) => decide (g < n) && !(al ++ sts).contains g | none => true) = true ∧
        ((List.range n).all fun j => i == j || o.dst == none || dstOf l j != o.dst) = true := by
    intro i o hi ho
    have := List.all_eq_true.1 h6 i (List.mem_range.2 hi)
    simp only [ho, Bool.and_eq_true] at this
    exact ⟨this.1.1.1, this.1.1.2, this.1.2, this.2⟩
  refine ⟨h1, h2, h3, h4, h5, ?_, ?_, ?_, ?_, ?_, ?_⟩
  · intro i o hi ho e he hb
    have h := Array.all_eq_true_iff_forall_mem.1 (key i o hi ho).1 e he
    simpa [hb] using h
  · intro i o hi ho s hs j hj hd
    have h := (key i o hi ho).2.1
    have h := List.all_eq_true.1 (List.all_eq_true.1 h s hs) j (List.mem_range.2 hj)
    simp only [hd, bne_self_eq_false, Bool.false_or, Bool.and_eq_true, decide_eq_true_eq, Bool.or_eq_true, Bool.not_eq_true', beq_iff_eq] at h
    refine ⟨h.1.1.imp (fun h => ⟨by simpa using h.1, h.2⟩) (fun h => by simpa using h), h.1.2, h.2⟩
  · intro i o g b hi ho hg
    have h := (key i o hi ho).2.2.1
    simp only [hg, Bool.and_eq_true, decide_eq_true_eq, Bool.not_eq_true'] at h
    exact ⟨h.1, by simpa using h.2⟩
  · intro i j d hi hj hdi hdj
    unfold dstOf at hdi
    cases ho : l[i]? with
    | none => simp [ho] at hdi
    | some o =>
      simp only [ho, Option.bind_some] at hdi
      have h := List.all_eq_true.1 (key i o hi ho).2.2.2 j (List.mem_range.2 hj)
      simp only [hdi, hdj, Bool.or_eq_true, beq_iff_eq, bne_self_eq_false] at h
      rcases h with (h | h) | h
      · exact h
      · cases h
      · cases h
  · intro j hj
    have h := List.all_eq_true.1 h7 j hj
    cases ho : l[j]? with
    | none => simp [ho] at h
    | some o =>
      simp only [ho, Bool.and_eq_true, decide_eq_true_eq, Option.isSome_iff_exists, Bool.not_eq_true'] at h
      obtain ⟨⟨hn, d, hd⟩, hs⟩ := h
      exact ⟨o, d, rfl, trivial, hn, hd, by simpa using hs⟩
  · intro k hk
    have h := List.all_eq_true.1 h8 k hk
    cases ho : l[k]? with
    | none => simp [ho] at h
    | some o =>
      simp only [ho, Bool.and_eq_true, decide_eq_true_eq, Option.isNone_iff_eq_none, beq_iff_eq] at h
      obtain ⟨⟨⟨⟨⟨hg, hn⟩, hd⟩, ha⟩, hw⟩, hu⟩ := h
      refine ⟨o, rfl, hg, hn, hd, by simpa using ha, hw, fun s hs he => ?_⟩
      have := List.all_eq_true.1 hu s hs
      simp only [Bool.or_eq_true, beq_iff_eq, he, bne_self_eq_false] at this
      exact this.resolve_right Bool.false_ne_true

section
variable {P : Program} {l : List Oper} {al sts : List Nat} {own : Nat → Nat} {n : Nat} {a0 aF : Act} {w0 : World} {blk0 blk1 : Nat → Obj} {mk : Nat → Nat → Value}

theorem head_allY (HK : HeadOkY al sts own n l) {Q : Exit → Act → World → Prop}
    (hwt : ∀ j ∈ al, ∀ o, l[j]? = some o → Region.wanted o (yielded l.toArray aF.tmps) = true)
    (hrun : ∀ j ∈ al, ∀ o, l[j]? = some o → ∀ (w : World), (execOp aF.eval o).run P w = .ok (.value (mk j w.heap.size)) (w.alloc (blk0 j)))
    (hsto : ∀ k ∈ sts, StoreOkA P l aF own blk0 blk1 mk k)
    (hq : ∀ wb, Gr w0 wb → wpQuiet P l.toArray (fun w' => ∃ p : GrownBy, w' = grow (wb.drewN p.n) p.os) (fun x => x = aF) (headOps (al ++ sts) n 0 l) a0)
    (hT : ∀ listed a w bs, (∀ i, i < n → listed.getD i false = true) → SimA l al sts own n a0 aF w0 blk0 blk1 mk listed a w bs → wpList P l.toArray Q (l.drop n) a w) :
    ∀ (f : Nat) (listed : Array Bool) (a : Act) (w : World) (bs : Nat → Nat), undone listed n = f → HeadInv .any l.toArray n listed → SimA l al sts own n a0 aF w0 blk0 blk1 mk listed a w bs →
      wpAny P .any l.toArray Q (f + (l.length - n)) listed a w := by
  have hlt := HK.lt
  have hd1 : ∀ i j d, dstOf (headOps (al ++ sts) n 0 l) i = some d → dstOf (headOps (al ++ sts) n 0 l) j = some d → i = j := by
    intro i j d hi hj
    rw [dst_head] at hi hj
    split at hi
    · split at hi
      · cases hi
      · split at hj
        · split at hj
          · cases hj
          · exact HK.dsts i j d ‹_› ‹_› hi hj
        · cases hj
    · cases hi
  have hs1 : aF.tmps.size = a0.tmps.size := (lex_walk (headOps (al ++ sts) n 0 l) a0 hd1 (hq w0 (Gr.refl w0))).1.2.1
  intro f
  induction f with
  | zero =>
    intro listed a w bs hu inv S
    rw [Nat.zero_add]
    have hall := undone_zero hu
    have e : listed = Array.replicate n true ++ Array.replicate (l.length - n) false := by
      have hsz : listed.size = l.length := by have := inv.size; simpa using this
      refine Array.ext (by simp [hsz]; omega) fun i h1 h2 => ?_
      by_cases hi : i < n
      · have := hall i hi
        rw [Array.getElem_append_left (by simpa using hi)]
        simpa [h1] using this
      · have := inv.tail i (by omega) (by simpa [hsz] using h1)
        rw [Array.getElem_append_right (by simpa using hi)]
        simpa [h1] using this
    have hseq := HK.seq
    rw [← e] at hseq
    have := wpAny_of_seq (P := P) (ops := l.toArray) (md := .any) (Q' := Q) (l.drop n) n listed a w (fun j => by simp [List.getElem?_drop]) (by simpa using hseq) (hT listed a w bs hall S)
    simpa using this
  | succ f ih =>
    intro listed a w bs hu inv S
    have hsz : listed.size = l.length := by have := inv.size; simpa using this
    obtain ⟨i0, hi0, hf0, hbef⟩ := undone_pos hu
    have hf0' : listed.getD i0 true = false := by rw [getD_tf (by omega)]; exact hf0
    rw [show f + 1 + (l.length - n) = (f + (l.length - n)) + 1 by omega]
    refine ⟨fun h => ?_, fun k hk => ?_⟩
    · exfalso
      have : i0 ∈ Region.ready .any l.toArray listed := by
        rw [mem_ready]
        have hi0l : i0 < l.length := by omega
        exact ⟨hf0', l[i0], by simp, fun e he hb => hbef _ (HK.after i0 _ hi0 (by simp) e he hb)⟩
      rw [h] at this; cases this
    · have hkn : k < n := by
        rcases Nat.lt_or_ge k n with h | h
        · exact h
        · exact absurd hk (tail_waits HK.sink HK.chain (by simpa using HK.lt) inv _ i0 rfl hi0 hf0' k h)
      obtain ⟨hkun, o, ho, hdeps⟩ := mem_ready.1 hk
      have ho' : l[k]? = some o := by simpa using ho
      have hkf : listed.getD k false = false := by rw [← getD_tf (by omega)]; exact hkun
      have hu' : undone (listed.setIfInBounds k true) n = f := by have := undone_set hkn (by omega) hkf; omega
      have inv' := inv.set hk hkn
      have dk : dstOf l k = o.dst := by simp [dstOf, ho']
      have waits : ∀ j, Region.waitsFor .any l.toArray k j = true → listed.getD j false = true := by
        intro j q3
        obtain ⟨ok, hok, e, he, hb, hon⟩ := Region.waitsFor_spec q3
        have : ok = o := Option.some.inj (hok.symm.trans ho)
        subst this
        rw [← hon]; exact hdeps e he hb
      have stNot : ∀ i, k ∉ sts → (stored sts own (listed.setIfInBounds k true) i ↔ stored sts own listed i) := by
        intro i hns
        constructor
        · rintro ⟨s, hs, he, hl⟩
          exact ⟨s, hs, he, (set_of hl).resolve_left (fun h => hns (h ▸ hs))⟩
        · rintro ⟨s, hs, he, hl⟩
          exact ⟨s, hs, he, getD_set_true hl⟩
      have hnew : ∀ i d', i ∈ al → listed.getD i false = true → dstOf l i = some d' → bs i < w.heap.size := by
        intro i d' hi hl hdd
        obtain ⟨x, hx⟩ := (S.als i d' hi hl hdd).2.2.some
        exact (Array.getElem?_eq_some_iff.1 hx).1
      unfold wpOp
      simp only [ho]
      by_cases hal : k ∈ al
      · obtain ⟨o', d, h1, h2, h3, h4, h5⟩ := HK.als k hal
        have : o' = o := Option.some.inj (h1.symm.trans ho')
        subst this
        have agree : ∀ s ∈ o'.looksAt l.toArray, a.tmps[s]? = aF.tmps[s]? := by
          intro s hs
          by_cases hex : ∃ j, j < n ∧ dstOf l j = some s
          · obtain ⟨j, hj, hdj⟩ := hex
            obtain ⟨q1, q2, q3⟩ := HK.looks k o' hkn ho' s hs j hj hdj
            exact S.wr j s hj (waits j q3) (q1.resolve_left (fun h => h5 h.1)) hdj
          · have hno : ∀ i, i < n → dstOf l i ≠ some s := fun i hi hd => hex ⟨i, hi, hd⟩
            rw [S.old s fun i hi _ => hno i hi]
            have := (lex_walk (headOps (al ++ sts) n 0 l) a0 hd1 (hq w S.grown)).1.2.2 s fun i => by
              rw [dst_head]
              split
              · split
                · exact fun h => by cases h
                · exact hno i ‹_›
              · exact fun h => by cases h
            exact this.symm
        rw [if_pos (by rw [wanted_same (ops := l.toArray) o' agree]; exact hwt k hal o' ho')]
        refine .inl ?_
        unfold Oper.wp
        rw [exec_same (ops := l.toArray) o' (fun cs b => Region.noSelect_spec HK.nosel k o' cs b ho) agree, hrun k hal o' ho' w]
        simp only [Oper.upon]
        refine ih _ _ _ (fun i => if i = k then w.heap.size else bs i) hu' inv' ?_
        have hgr : Gr w (w.alloc (blk0 k)) := Gr.alloc _ _
        constructor
        · exact S.grown.trans hgr
        · rw [put_defers]; exact S.defers
        · rw [put_size]; exact S.size
        · intro i e hi hl hni hde
          rcases set_of hl with rfl | hl
          · exact absurd (List.mem_append_left _ hal) hni
          · rw [put_ne _ _ _ _ (fun he => by
              have : i = k := HK.dsts i k e hi hkn hde (by rw [dk, he])
              subst this; exact absurd (List.mem_append_left _ hal) hni)]
            exact S.wr i e hi hl hni hde
        · intro i e hi hl hde
          by_cases hik : i = k
          · subst hik
            rw [if_pos rfl]
            have : d = e := Option.some.inj ((h4.symm.trans dk.symm).trans hde)
            subst this
            have hns : ¬ stored sts own (listed.setIfInBounds i true) i := by
              rw [stNot i h5]
              rintro ⟨s, hs, he, hl'⟩
              obtain ⟨os, hos, _, _, _, _, hws, _⟩ := HK.stos s hs
              obtain ⟨os', hos', e, he', hb, hon⟩ := Region.waitsFor_spec hws
              have := inv.closed s os' hos' hl' e he' hb
              rw [hon, he, hkf] at this
              cases this
            refine ⟨fun hlt => by rw [h4]; exact put_at _ _ _ (by rw [S.size]; exact hlt), S.grown.size, fun h => absurd h hns, fun _ => ?_⟩
            show (w.heap.push _)[w.heap.size]? = _
            simp
          · rw [if_neg hik]
            rcases set_of hl with h | hl
            · exact absurd h hik
            · obtain ⟨g1, g2, g3⟩ := S.als i e hi hl hde
              refine ⟨fun hlt => by
                rw [put_ne _ _ _ _ (fun he => hik (HK.dsts i k e (by obtain ⟨_, _, _, _, hh, _⟩ := HK.als i hi; exact hh) hkn hde (by rw [dk, he])))]
                exact g1 hlt, g2, by
                  rw [hgr.block (hnew i e hi hl hde)]
                  exact ⟨fun h => g3.1 ((stNot i h5).1 h), fun h => g3.2 (fun h' => h ((stNot i h5).2 h'))⟩⟩
        · intro i j hi hj hli hlj hij
          obtain ⟨oi, di, hoi, _, _, hdi, _⟩ := HK.als i hi
          obtain ⟨oj, dj, hoj, _, _, hdj, _⟩ := HK.als j hj
          by_cases hik : i = k
          · by_cases hjk : j = k
            · exact absurd (hik.trans hjk.symm) hij
            · rw [if_pos hik, if_neg hjk]
              have hlj := (set_of hlj).resolve_left hjk
              have := hnew j dj hj hlj (by simp [dstOf, hoj, hdj])
              omega
          · rw [if_neg hik]
            have hli := (set_of hli).resolve_left hik
            by_cases hjk : j = k
            · rw [if_pos hjk]
              have := hnew i di hi hli (by simp [dstOf, hoi, hdi])
              omega
            · rw [if_neg hjk]
              exact S.apart i j hi hj hli ((set_of hlj).resolve_left hjk) hij
        · intro s hs
          rw [put_ne _ _ _ _ (fun he => hs k hkn (getD_set_self (by omega)) (by rw [dk, he]))]
          exact S.old s fun i hi hl => hs i hi (getD_set_true hl)
      · by_cases hst : k ∈ sts
        · -- a store into one of the head's own variables
          obtain ⟨o', h1, h2, h3, h4, h5, h6, h7⟩ := HK.stos k hst
          have : o' = o := Option.some.inj (h1.symm.trans ho')
          subst this
          obtain ⟨oi, di, hoi, _, hin, hdi, _⟩ := HK.als (own k) h5
          have hdd : dstOf l (own k) = some di := by simp [dstOf, hoi, hdi]
          have hlo : listed.getD (own k) false = true := waits _ h6
          obtain ⟨g1, g2, g3⟩ := S.als (own k) di h5 hlo hdd
          have hnst : ¬ stored sts own listed (own k) := by
            rintro ⟨s, hs, he, hl'⟩
            have := h7 s hs he
            subst this
            rw [hkf] at hl'; cases hl'
          have agree : ∀ s ∈ o'.looksAt l.toArray, s ≠ di → a.tmps[s]? = aF.tmps[s]? := by
            intro s hs hsd
            by_cases hex : ∃ j, j < n ∧ dstOf l j = some s
            · obtain ⟨j, hj, hdj⟩ := hex
              obtain ⟨_, q2, q3⟩ := HK.looks k o' hkn ho' s hs j hj hdj
              have hlj := waits j q3
              have q1 := (HK.looks k o' hkn ho' s hs j hj hdj).1
              by_cases hjal : j ∈ al
              · rcases q1 with q1 | q1
                · have : j = own k := q1.2
                  subst this
                  exact absurd (Option.some.inj (hdj.symm.trans hdd)) hsd
                · exact absurd (List.mem_append_left _ hjal) q1
              · have hjst : j ∉ sts := fun h => by
                  obtain ⟨oj, hoj, _, _, hdn, _⟩ := HK.stos j h
                  simp [dstOf, hoj, hdn] at hdj
                exact S.wr j s hj hlj (fun h => (List.mem_append.1 h).elim hjal hjst) hdj
            · have hno : ∀ i, i < n → dstOf l i ≠ some s := fun i hi hd => hex ⟨i, hi, hd⟩
              rw [S.old s fun i hi _ => hno i hi]
              have := (lex_walk (headOps (al ++ sts) n 0 l) a0 hd1 (hq w S.grown)).1.2.2 s fun i => by
                rw [dst_head]
                split
                · split
                  · exact fun h => by cases h
                  · exact hno i ‹_›
                · exact fun h => by cases h
              exact this.symm
          obtain ⟨w1, r1, r2, r3, r4, r5, r6, r7, r8⟩ := hsto k hst o' di ho' hdd a w (bs (own k)) (fun hlt => g1 (by rw [← S.size]; exact hlt)) (by rw [S.size, hs1]) agree (g3.2 hnst)
          rw [if_pos (by simp [Region.wanted, h2])]
          refine .inl ?_
          unfold Oper.wp
          rw [r1]
          simp only [Oper.upon, h4]
          refine ih _ _ _ bs hu' inv' ?_
          have hstO : stored sts own (listed.setIfInBounds k true) (own k) := ⟨k, hst, rfl, getD_set_self (by omega)⟩
          have hstE : ∀ i, i ≠ own k → (stored sts own (listed.setIfInBounds k true) i ↔ stored sts own listed i) := by
            intro i hi
            constructor
            · rintro ⟨s, hs, he, hl⟩
              exact ⟨s, hs, he, (set_of hl).resolve_left (fun h => hi (by rw [← he, h]))⟩
            · rintro ⟨s, hs, he, hl⟩
              exact ⟨s, hs, he, getD_set_true hl⟩
          constructor
          · exact S.grown.heap r2 r3 r4 r5 (by omega) fun j hj => r7 j (by omega)
          · exact S.defers
          · exact S.size
          · intro i e hi hl hni hde
            rcases set_of hl with rfl | hl
            · exact absurd (List.mem_append_right _ hst) hni
            · exact S.wr i e hi hl hni hde
          · intro i e hi hl hde
            have hik : i ≠ k := fun he => by subst he; exact hal hi
            have hl := (set_of hl).resolve_left hik
            obtain ⟨q1, q2, q3⟩ := S.als i e hi hl hde
            refine ⟨q1, q2, ?_⟩
            by_cases hio : i = own k
            · subst hio
              exact ⟨fun _ => r8, fun h => absurd hstO h⟩
            · rw [r7 (bs i) (S.apart i (own k) hi h5 hl hlo hio)]
              exact ⟨fun h => q3.1 ((hstE i hio).1 h), fun h => q3.2 (fun h' => h ((hstE i hio).2 h'))⟩
          · intro i j hi hj hli hlj hij
            have hik : i ≠ k := fun he => by subst he; exact hal hi
            have hjk : j ≠ k := fun he => by subst he; exact hal hj
            exact S.apart i j hi hj ((set_of hli).resolve_left hik) ((set_of hlj).resolve_left hjk) hij
          · intro s hs
            exact S.old s fun i hi hl => hs i hi (getD_set_true hl)
        · have hni : k ∉ al ++ sts := fun h => (List.mem_append.1 h).elim hal hst
          have hnc : (al ++ sts).contains k = false := by
            cases hc : (al ++ sts).contains k with
            | false => rfl
            | true => exact absurd (by simpa using hc) hni
          have hhead : (headOps (al ++ sts) n 0 l)[k]? = some o := by
            rw [headOps_get, if_pos hkn, ho', Nat.zero_add, hnc]; rfl
          obtain ⟨⟨_, _, _⟩, hf4⟩ := lex_walk (headOps (al ++ sts) n 0 l) a0 hd1 (hq w S.grown)
          obtain ⟨ak, v, hy, hv, hg3, hg4⟩ := hf4 k o hhead
          have agree : ∀ s ∈ o.looksAt l.toArray, a.tmps[s]? = ak.tmps[s]? := by
            intro s hs
            by_cases hex : ∃ j, j < n ∧ dstOf l j = some s
            · obtain ⟨j, hj, hdj⟩ := hex
              obtain ⟨q1, q2, q3⟩ := HK.looks k o hkn ho' s hs j hj hdj
              have q1 := q1.resolve_left (fun h => hst h.1)
              have qc : (al ++ sts).contains j = false := by
                cases hc : (al ++ sts).contains j with
                | false => rfl
                | true => exact absurd (by simpa using hc) q1
              rw [S.wr j s hj (waits j q3) q1 hdj, hg3 s ⟨j, q2, by rw [dst_head, if_pos hj, qc]; exact hdj⟩]
            · have hno : ∀ i, i < n → dstOf l i ≠ some s := fun i hi hd => hex ⟨i, hi, hd⟩
              rw [S.old s fun i hi _ => hno i hi, hg4 s fun i _ => by
                rw [dst_head]
                split
                · split
                  · exact fun h => by cases h
                  · exact hno i ‹_›
                · exact fun h => by cases h]
          have hex := exec_same (ops := l.toArray) o (fun cs b => Region.noSelect_spec HK.nosel k o cs b ho) agree
          have hwa := wanted_same (ops := l.toArray) o agree
          -- what is left to show behind the operation
          have fin : ∀ w', Gr w w' → wpAny P .any l.toArray Q (f + (l.length - n)) (listed.setIfInBounds k true) (a.put o.dst v) w' := by
            intro w' hgr
            refine ih _ _ _ bs hu' inv' ?_
            constructor
            · exact S.grown.trans hgr
            · rw [put_defers]; exact S.defers
            · rw [put_size]; exact S.size
            · intro i e hi hl hni hde
              by_cases hik : i = k
              · subst hik
                rw [dk] at hde
                rcases Nat.lt_or_ge e a.tmps.size with hlt' | hge
                · rw [hde, put_at _ _ _ hlt']
                  exact (hv e hde (by rw [← S.size]; exact hlt')).symm
                · rw [Array.getElem?_eq_none (by rw [put_size]; exact hge), Array.getElem?_eq_none (by rw [hs1, ← S.size]; exact hge)]
              · have hl := (set_of hl).resolve_left hik
                rw [put_ne _ _ _ _ (fun he => hik (HK.dsts i k e hi hkn hde (by rw [dk, he])))]
                exact S.wr i e hi hl hni hde
            · intro i e hi hl hde
              have hik : i ≠ k := fun he => by subst he; exact hal hi
              have hl := (set_of hl).resolve_left hik
              obtain ⟨g1, g2, g3⟩ := S.als i e hi hl hde
              refine ⟨fun hlt => by
                rw [put_ne _ _ _ _ (fun he => hik (HK.dsts i k e (by obtain ⟨_, _, _, _, hh, _⟩ := HK.als i hi; exact hh) hkn hde (by rw [dk, he])))]
                exact g1 hlt, g2, by
                  rw [hgr.block (hnew i e hi hl hde)]
                  exact ⟨fun h => g3.1 ((stNot i hst).1 h), fun h => g3.2 (fun h' => h ((stNot i hst).2 h'))⟩⟩
            · intro i j hi hj hli hlj hij
              have hik : i ≠ k := fun he => by subst he; exact hal hi
              have hjk : j ≠ k := fun he => by subst he; exact hal hj
              exact S.apart i j hi hj ((set_of hli).resolve_left hik) ((set_of hlj).resolve_left hjk) hij
            · intro s hs
              rw [put_ne _ _ _ _ (fun he => hs k hkn (getD_set_self (by omega)) (by rw [dk, he]))]
              exact S.old s fun i hi hl => hs i hi (getD_set_true hl)
          rcases hy with ⟨hw, hv1⟩ | ⟨hw, rfl⟩
          · rw [if_pos (by rw [hwa]; exact hw)]
            refine .inl ?_
            have h3 := hv1 w (Gr.refl w)
            unfold Oper.quietAt at h3
            unfold Oper.wp
            rw [hex]
            generalize (execOp ak.eval o).run P w = r at h3
            cases r with
            | ok nx w' =>
              cases nx <;> simp only [Oper.quietUpon] at h3 <;> simp only [Oper.upon]
              case value u =>
                obtain ⟨e1, e2⟩ := h3
                rw [e1, e2]
                exact fin w (Gr.refl w)
              case skip =>
                obtain ⟨e1, e2⟩ := h3
                rw [e1, ← e2]
                exact fin w (Gr.refl w)
              case enter g args =>
                obtain ⟨e1, hc⟩ := h3
                rw [e1]
                exact hc.mono fun e w'' ⟨he, hw''⟩ => by subst he; exact fin w'' hw''
            | halt x w' => simp only [Oper.quietUpon] at h3
          · rw [if_neg (by rw [hwa, hw]; exact Bool.false_ne_true)]
            exact fin w (Gr.refl w)
end

section
variable {P : Program} {l : List Oper} {id : Nat} {Q : Exit → Act → World → Prop} {a aF : Act} {w : World}

theorem wp_headY {al sts : List Nat} {own : Nat → Nat} {blk0 blk1 : Nat → Obj} {mk : Nat → Nat → Value} (n : Nat) (hm : P.follows .mixedOrders = true) (hB : headBY al sts own n l = true)
    (hwt : ∀ j ∈ al, ∀ o, l[j]? = some o → Region.wanted o (yielded l.toArray aF.tmps) = true)
    (hrun : ∀ j ∈ al, ∀ o, l[j]? = some o → ∀ (w : World), (execOp aF.eval o).run P w = .ok (.value (mk j w.heap.size)) (w.alloc (blk0 j)))
    (hsto : ∀ k ∈ sts, StoreOkA P l aF own blk0 blk1 mk k)
    (hq : ∀ wb, Gr w wb → wpQuiet P l.toArray (fun w' => ∃ p : GrownBy, w' = grow (wb.drewN p.n) p.os) (fun x => x = aF) (headOps (al ++ sts) n 0 l) a)
    (hT : ∀ listed a' w' bs, (∀ i, i < n → listed.getD i false = true) → SimA l al sts own n a aF { w with drawn := w.drawn + 1 } blk0 blk1 mk listed a' w' bs → wpList P l.toArray Q (l.drop n) a' w') : (Code.region id l.toArray true).wp P Q a w := by
  have HK := headOk_ofY hB
  refine wp_region_any hm ?_
  have hlt := HK.lt
  have := head_allY (P := P) (Q := Q) (blk0 := blk0) (blk1 := blk1) (mk := mk) (w0 := { w with drawn := w.drawn + 1 }) HK hwt hrun hsto (fun wb h => hq wb (gr_drawn h)) hT n (Array.replicate l.length false) a { w with drawn := w.drawn + 1 } (fun _ => 0)
    (by
      unfold undone
      rw [List.filter_eq_self.2 (fun i _ => by rw [getD_replicate_false]; rfl)]; simp)
    ⟨by simp, fun j oj _ hl => (by rw [getD_replicate_false] at hl; cases hl), fun t _ ht => getD_in (by simpa using ht) (getD_replicate_false _ _)⟩
    ⟨Gr.refl _, rfl, rfl, fun i d _ hl => (by rw [getD_replicate_false] at hl; cases hl), fun i d _ hl => (by rw [getD_replicate_false] at hl; cases hl), fun i j _ _ hl => (by rw [getD_replicate_false] at hl; cases hl), fun _ _ => rfl⟩
  rw [show n + (l.length - n) = l.toArray.size by simp; omega] at this
  simpa using this

theorem sim_finalY {al sts : List Nat} {own : Nat → Nat} {n : Nat} {blk0 blk1 : Nat → Obj} {mk : Nat → Nat → Value} {w0 : World} {listed : Array Bool} {a' : Act} {w' : World} {bs : Nat → Nat} (HK : HeadOkY al sts own n l)
    (hq : wpQuiet P l.toArray (fun w' => ∃ p : GrownBy, w' = grow (w.drewN p.n) p.os) (fun x => x = aF) (headOps (al ++ sts) n 0 l) a)
    (hl : ∀ i, i < n → listed.getD i false = true) (S : SimA l al sts own n a aF w0 blk0 blk1 mk listed a' w' bs) :
    a'.defers = aF.defers ∧ a'.tmps.size = aF.tmps.size ∧ ∀ s : Nat, (∀ i, i ∈ al → dstOf l i ≠ some s) → a'.tmps[s]? = aF.tmps[s]? := by
  have hd1 : ∀ i j d, dstOf (headOps (al ++ sts) n 0 l) i = some d → dstOf (headOps (al ++ sts) n 0 l) j = some d → i = j := by
    intro i j d hi hj
    rw [dst_head] at hi hj
    split at hi
    · split at hi
      · cases hi
      · split at hj
        · split at hj
          · cases hj
          · exact HK.dsts i j d ‹_› ‹_› hi hj
        · cases hj
    · cases hi
  obtain ⟨⟨f1, f2, f3⟩, _⟩ := lex_walk (headOps (al ++ sts) n 0 l) a hd1 hq
  refine ⟨by rw [S.defers, f1], by rw [S.size, f2], fun s hs => ?_⟩
  by_cases hex : ∃ i, i < n ∧ dstOf l i = some s
  · obtain ⟨i, hi, hd⟩ := hex
    have hni : i ∉ al ++ sts := fun h => by
      rcases List.mem_append.1 h with h | h
      · exact hs i h hd
      · obtain ⟨o, ho, _, _, hdn, _⟩ := HK.stos i h
        simp [dstOf, ho, hdn] at hd
    exact S.wr i s hi (hl i hi) hni hd
  · rw [S.old s fun i hi _ hd => hex ⟨i, hi, hd⟩, f3 s fun i => by
      rw [dst_head]
      split
      · split
        · exact fun h => by cases h
        · exact fun hd => hex ⟨i, ‹_›, hd⟩
      · exact fun h => by cases h]

/-- A block is made in the head, by operation i, out of what slots hold that the head has filled; what stands for it goes to slot d. -/
theorem wp_regY {o : Oper} {b0 : Obj} (mk : Nat → Value) (n i d : Nat) (hm : P.follows .mixedOrders = true) (hB : headBY [i] [] (fun _ => i) n l = true) (ho : l[i]? = some o) (hod : o.dst = some d) (hda : d < a.tmps.size)
    (h : ∃ aF, (∀ wb, Gr w wb → wpQuiet P l.toArray (fun w' => ∃ p : GrownBy, w' = grow (wb.drewN p.n) p.os) (fun x => x = aF) (headOps [i] n 0 l) a) ∧
      (∀ (w : World), (execOp aF.eval o).run P w = .ok (.value (mk w.heap.size)) (w.alloc b0)) ∧ Region.wanted o (yielded l.toArray aF.tmps) = true ∧
      ∀ w' b, Gr w w' → w.heap.size ≤ b → w'.heap[b]? = some b0 → wpList P l.toArray Q (l.drop n) (aF.put (some d) (mk b)) w') : (Code.region id l.toArray true).wp P Q a w := by
  obtain ⟨aF, hq, hrun, hwt, hT⟩ := h
  refine wp_headY (blk0 := fun _ => b0) (blk1 := fun _ => b0) (mk := fun _ => mk) n hm hB (fun j h o' ho' => ?_) (fun j h o' ho' => ?_) (fun j h => by cases h) hq fun listed a' w' bs hl S => ?_
  · have : j = i := by simpa using h
    subst this
    have : o' = o := Option.some.inj (ho'.symm.trans ho)
    subst this
    exact hwt
  · have : j = i := by simpa using h
    subst this
    have : o' = o := Option.some.inj (ho'.symm.trans ho)
    subst this
    exact hrun
  · have HK := headOk_ofY hB
    obtain ⟨e1, e2, e3⟩ := sim_finalY HK (hq w (Gr.refl w)) hl S
    have hdi : dstOf l i = some d := by simp [dstOf, ho, hod]
    obtain ⟨_, _, _, _, hin, _⟩ := HK.als i (by simp)
    obtain ⟨s1, s2, s3⟩ := S.als i d (by simp) (hl i hin) hdi
    have e : a' = aF.put (some d) (mk (bs i)) := act_ext (by rw [put_defers]; exact e1) fun s => by
      by_cases hs : s = d
      · subst hs
        rw [s1 hda, put_at _ _ _ (by rw [← e2, S.size]; exact hda)]
      · rw [put_ne _ _ _ _ (fun he => hs (Option.some.inj he).symm)]
        exact e3 s fun j hj hd => by
          have : j = i := by simpa using hj
          subst this
          exact hs (Option.some.inj (hd.symm.trans hdi))
    rw [e]
    exact hT w' (bs i) (gr_drawn S.grown) s2 (s3.2 (fun ⟨s, hs, _⟩ => by cases hs))
end
end Go.Proofs.YtkeflpcokcfcjaaDoor
