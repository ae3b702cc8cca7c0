/- A region that draws its order, in which some calls hand back memory that they have made: where it lies depends on the order. One walk of what does not look at it, one of what does, serve every order. -/
import Derived.Test.YtfkmlgndggnhaaaReg
namespace Go.Proofs.Ytfkmlgndggnhaaa
open Go.RowKit Go.Sort

/-- ds: the calls that make memory (the operation, its slot); g1: what comes behind all of them. -/
def mkrB (al sts : List Nat) (ds : List (Nat × Tmp)) (g1 : List Nat) (n : Nat) (l : List Oper) : Bool :=
  ds.all (fun x => match l[x.1]? with
    | some o => o.guard.isNone && decide (x.1 < n) && (o.dst == some x.2) && !(al ++ sts ++ g1).contains x.1 && ds.all (fun y => y.1 == x.1 || y.2 != x.2)
    | none => false) &&
  g1.all (fun k => decide (k < n) && !(al ++ sts).contains k) &&
  (List.range n).all (fun k => match l[k]? with
    | some o => (if (g1 ++ sts).contains k then ds.all (fun x => Region.waitsFor .any l.toArray k x.1) || g1.any (fun j => Region.waitsFor .any l.toArray k j)
        else al.contains k || (o.looksAt l.toArray).all fun s => (List.range n).all fun j => dstOf l j != some s || !(ds.map (·.1) ++ g1).contains j)
    | none => false)
structure MkOk (al sts : List Nat) (ds : List (Nat × Tmp)) (g1 : List Nat) (n : Nat) (l : List Oper) : Prop where
  maker : ∀ m d, (m, d) ∈ ds → ∃ o, l[m]? = some o ∧ o.guard = none ∧ m < n ∧ o.dst = some d ∧ m ∉ al ∧ m ∉ sts ∧ m ∉ g1
  uniq : ∀ m d m' d', (m, d) ∈ ds → (m', d') ∈ ds → m' = m ∨ d' ≠ d
  g : ∀ k, k ∈ g1 → k < n ∧ k ∉ al ∧ k ∉ sts
  late : ∀ k o, k < n → l[k]? = some o → k ∈ g1 ∨ k ∈ sts → (∀ m d, (m, d) ∈ ds → Region.waitsFor .any l.toArray k m = true) ∨ ∃ j ∈ g1, Region.waitsFor .any l.toArray k j = true
  early : ∀ k o, k < n → l[k]? = some o → k ∉ g1 → k ∉ sts → k ∉ al → ∀ s ∈ o.looksAt l.toArray, ∀ j, j < n → dstOf l j = some s → j ∉ ds.map (·.1) ∧ j ∉ g1
theorem mkOk_of {al sts : List Nat} {ds : List (Nat × Tmp)} {g1 : List Nat} {n : Nat} {l : List Oper} (h : mkrB al sts ds g1 n l = true) : MkOk al sts ds g1 n l := by
  simp only [mkrB, Bool.and_eq_true] at h
  obtain ⟨⟨h1, h2⟩, h3⟩ := h
  refine ⟨?_, ?_, ?_, ?_, ?_⟩
  · intro m d hm
    have := List.all_eq_true.1 h1 (m, d) hm
    cases ho : l[m]? with
    | none => simp [ho] at this
    | some o =>
      simp only [ho, Bool.and_eq_true, decide_eq_true_eq, Option.isNone_iff_eq_none, beq_iff_eq, Bool.not_eq_true'] at this
      obtain ⟨⟨⟨⟨a1, a2⟩, a3⟩, a4⟩, _⟩ := this
      have a5 : m ∉ al ++ sts ++ g1 := by simpa using a4
      simp only [List.mem_append, not_or] at a5
      exact ⟨o, rfl, a1, a2, a3, a5.1.1, a5.1.2, a5.2⟩
  · intro m d m' d' hm hm'
    have := List.all_eq_true.1 h1 (m, d) hm
    cases ho : l[m]? with
    | none => simp [ho] at this
    | some o =>
      simp only [ho, Bool.and_eq_true] at this
      have := List.all_eq_true.1 this.2 (m', d') hm'
      simp only [Bool.or_eq_true, beq_iff_eq, bne_iff_ne] at this
      exact this
  · intro k hk
    have := List.all_eq_true.1 h2 k hk
    simp only [Bool.and_eq_true, decide_eq_true_eq, Bool.not_eq_true'] at this
    have a5 : k ∉ al ++ sts := by simpa using this.2
    simp only [List.mem_append, not_or] at a5
    exact ⟨this.1, a5.1, a5.2⟩
  · intro k o hk ho hg
    have := List.all_eq_true.1 h3 k (List.mem_range.2 hk)
    have hc : (g1 ++ sts).contains k = true := by simpa using hg
    simp only [ho, hc, if_true, Bool.or_eq_true] at this
    rcases this with h | h
    · exact .inl fun m d hm => List.all_eq_true.1 h (m, d) hm
    · obtain ⟨j, hj, hw⟩ := List.any_eq_true.1 h
      exact .inr ⟨j, hj, hw⟩
  · intro k o hk ho hg hs hal s hs' j hj hd
    have := List.all_eq_true.1 h3 k (List.mem_range.2 hk)
    have hc : (g1 ++ sts).contains k = false := by
      cases hc : (g1 ++ sts).contains k with
      | false => rfl
      | true => exact absurd (by simpa using hc) (fun h : k ∈ g1 ∨ k ∈ sts => h.elim hg hs)
    have hca : al.contains k = false := by simpa using hal
    simp only [ho, hc, hca, Bool.false_eq_true, if_false, Bool.false_or] at this
    have := List.all_eq_true.1 (List.all_eq_true.1 this s hs') j (List.mem_range.2 hj)
    simp only [hd, bne_self_eq_false, Bool.false_or, Bool.not_eq_true'] at this
    have a5 : j ∉ ds.map (·.1) ++ g1 := by simpa using this
    simp only [List.mem_append, not_or] at a5
    exact a5

section
variable {P : Program} {l : List Oper} {al sts : List Nat} {own : Nat → Nat} {n : Nat} {a0 aF0 : Act} {aF : (Nat → Nat) → Act} {w0 : World} {blk0 blk1 : Nat → Obj}
variable {ds : List (Nat × Tmp)} {g1 : List Nat} {val : Nat → Nat → Value} {Ob : Nat → Obj}

/-- The slots of what has been made. -/
def putAll (val : Nat → Nat → Value) (γ : Nat → Nat) : List (Nat × Tmp) → Act → Act
  | [], a => a
  | x :: r, a => putAll val γ r (a.put (some x.2) (val x.1 (γ x.1)))
theorem putAll_size (γ : Nat → Nat) : ∀ (ds : List (Nat × Tmp)) (a : Act), (putAll val γ ds a).tmps.size = a.tmps.size
  | [], _ => rfl
  | x :: r, a => by rw [putAll, putAll_size γ r, put_size]
theorem putAll_defers (γ : Nat → Nat) : ∀ (ds : List (Nat × Tmp)) (a : Act), (putAll val γ ds a).defers = a.defers
  | [], _ => rfl
  | x :: r, a => by rw [putAll, putAll_defers γ r, put_defers]
theorem putAll_ne (γ : Nat → Nat) (s : Nat) : ∀ (ds : List (Nat × Tmp)) (a : Act), (∀ m d, (m, d) ∈ ds → d ≠ s) → (putAll val γ ds a).tmps[s]? = a.tmps[s]?
  | [], _, _ => rfl
  | x :: r, a, h => by
    rw [putAll, putAll_ne γ s r _ (fun m d hm => h m d (List.mem_cons_of_mem _ hm)), put_ne _ _ _ _ (fun e => h x.1 x.2 List.mem_cons_self (Option.some.inj e))]
theorem putAll_at (γ : Nat → Nat) (m : Nat) (d : Tmp) : ∀ (ds : List (Nat × Tmp)) (a : Act), (∀ m' d' m'' d'', (m', d') ∈ ds → (m'', d'') ∈ ds → m'' = m' ∨ d'' ≠ d') → (m, d) ∈ ds → d < a.tmps.size → (putAll val γ ds a).tmps[d]? = some (val m (γ m))
  | [], _, _, h, _ => by cases h
  | x :: r, a, hu, h, hd => by
    rw [putAll]
    by_cases hr : ∃ m', (m', d) ∈ r
    · obtain ⟨m', hm'⟩ := hr
      have e : m' = m := ((hu m d m' d h (List.mem_cons_of_mem _ hm')).resolve_right (fun h => h rfl))
      subst e
      exact putAll_at γ m' d r _ (fun a b c d h1 h2 => hu a b c d (List.mem_cons_of_mem _ h1) (List.mem_cons_of_mem _ h2)) hm' (by rw [put_size]; exact hd)
    · rcases List.mem_cons.1 h with e | h
      · subst e
        rw [putAll_ne γ d r _ (fun m' d' hm' he => hr ⟨m', he ▸ hm'⟩), put_at _ _ _ hd]
      · exact absurd ⟨m, h⟩ hr

structure SimG (l : List Oper) (al sts : List Nat) (own : Nat → Nat) (n : Nat) (ds : List (Nat × Tmp)) (g1 : List Nat) (val : Nat → Nat → Value) (Ob : Nat → Obj) (a0 aF0 : Act) (aF : (Nat → Nat) → Act) (w0 : World) (blk0 blk1 : Nat → Obj) (listed : Array Bool) (a : Act) (w : World) (bs γ : Nat → Nat) : Prop where
  grown : Gr w0 w
  defers : a.defers = a0.defers
  size : a.tmps.size = a0.tmps.size
  wr0 : ∀ i d, i < n → listed.getD i false = true → i ∉ al ++ sts → i ∉ ds.map (·.1) → i ∉ g1 → dstOf l i = some d → a.tmps[d]? = aF0.tmps[d]?
  wr1 : ∀ i d, i ∈ g1 → listed.getD i false = true → dstOf l i = some d → a.tmps[d]? = (aF γ).tmps[d]?
  wrm : ∀ m d, (m, d) ∈ ds → listed.getD m false = true → d < a0.tmps.size → a.tmps[d]? = some (val m (γ m))
  phi : ∀ m d, (m, d) ∈ ds → listed.getD m false = true → w.heap[γ m]? = some (Ob m) ∧ w0.heap.size ≤ γ m ∧ ∀ i, i ∈ al → listed.getD i false = true → bs i ≠ γ m
  aft : ∀ k, k ∈ g1 → listed.getD k false = true → ∀ m d, (m, d) ∈ ds → listed.getD m false = true
  als : ∀ i d, i ∈ al → listed.getD i false = true → dstOf l i = some d → (d < a0.tmps.size → a.tmps[d]? = some (.pointer (some ⟨bs i, 0, none⟩))) ∧ w0.heap.size ≤ bs i ∧ Holds' sts own blk0 blk1 listed i (w.heap[bs i]?)
  apart : ∀ i j, i ∈ al → j ∈ al → listed.getD i false = true → listed.getD j false = true → i ≠ j → bs i ≠ bs j
  old : ∀ s, (∀ i, i < n → listed.getD i false = true → dstOf l i ≠ some s) → a.tmps[s]? = a0.tmps[s]?

/-- A call that makes memory: from the slots that it looks at, wherever it comes. -/
def MakerOk (P : Program) (w0 : World) (aF0 : Act) (val : Nat → Nat → Value) (Ob : Nat → Obj) (l : List Oper) (m : Nat) : Prop :=
  ∀ o, l[m]? = some o → ∀ wb, Gr w0 wb → ∃ f args, (execOp aF0.eval o).run P wb = .ok (.enter f args) wb ∧
    Calls P f args wb fun e w' => ∃ g, e = .returned (val m g) ∧ w'.heap[g]? = some (Ob m) ∧ wb.heap.size ≤ g ∧ Gr wb w'

theorem hd_uniq {al' : List Nat} (HK : HeadOk al sts own n l) (i j d : Nat) (hi : dstOf (headOps al' n 0 l) i = some d) (hj : dstOf (headOps al' n 0 l) j = some d) : i = j := by
  rw [dst_head] at hi hj
  split at hi
  · split at hi
    · cases hi
    · split at hj
      · split at hj
        · cases hj
        · exact HK.dsts i j d ‹_› ‹_› hi hj
      · cases hj
  · cases hi

theorem head_allG (HK : HeadOk al sts own n l) (MK : MkOk al sts ds g1 n l) {Q : Exit → Act → World → Prop} (z0 z1 : List Nat)
    (hz0 : ∀ k, k < n → z0.contains k = (al ++ sts ++ ds.map (·.1) ++ g1).contains k) (hz1 : ∀ k, k < n → z1.contains k = !g1.contains k)
    (hrun : ∀ j ∈ al, ∀ o, l[j]? = some o → ∀ (a : Act) (w : World), (execOp a.eval o).run P w = .ok (.value (.pointer (some ⟨w.heap.size, 0, none⟩))) (w.alloc (blk0 j)))
    (hsto : ∀ γ, ∀ k ∈ sts, StoreOk P l (aF γ) own blk0 blk1 k)
    (hmk : ∀ m d, (m, d) ∈ ds → MakerOk P w0 aF0 val Ob l m)
    (hq0 : ∀ wb, Gr w0 wb → wpQuiet P l.toArray (fun w' => ∃ p : GrownBy, w' = grow (wb.drewN p.n) p.os) (fun x => x = aF0) (headOps z0 n 0 l) a0)
    (hq1 : ∀ γ wb, Gr w0 wb → (∀ m d, (m, d) ∈ ds → wb.heap[γ m]? = some (Ob m)) → wpQuiet P l.toArray (fun w' => ∃ p : GrownBy, w' = grow (wb.drewN p.n) p.os) (fun x => x = aF γ) (headOps z1 n 0 l) (putAll val γ ds aF0))
    (hT : ∀ listed a w bs γ, (∀ i, i < n → listed.getD i false = true) → SimG l al sts own n ds g1 val Ob a0 aF0 aF w0 blk0 blk1 listed a w bs γ → wpList P l.toArray Q (l.drop n) a w) :
    ∀ (f : Nat) (listed : Array Bool) (a : Act) (w : World) (bs γ : Nat → Nat), undone listed n = f → HeadInv .any l.toArray n listed → SimG l al sts own n ds g1 val Ob a0 aF0 aF w0 blk0 blk1 listed a w bs γ →
      wpAny P .any l.toArray Q (f + (l.length - n)) listed a w := by
  have hlt := HK.lt
  obtain ⟨⟨hdf0, hs0, hold0⟩, _⟩ := lex_walk (headOps z0 n 0 l) a0 (hd_uniq HK) (hq0 w0 (Gr.refl w0))
  have z0not : ∀ k, k < n → k ∉ al ++ sts → k ∉ ds.map (·.1) → k ∉ g1 → z0.contains k = false := by
    intro k hk h1 h2 h3
    rw [hz0 k hk]
    cases hc : (al ++ sts ++ ds.map (·.1) ++ g1).contains k with
    | false => rfl
    | true =>
      have : k ∈ al ++ sts ++ ds.map (·.1) ++ g1 := by simpa using hc
      rcases List.mem_append.1 this with h | h
      · rcases List.mem_append.1 h with h | h
        · exact absurd h h1
        · exact absurd h h2
      · exact absurd h h3
  have z0yes : ∀ k, k < n → (k ∈ al ++ sts ∨ k ∈ ds.map (·.1) ∨ k ∈ g1) → z0.contains k = true := by
    intro k hk h
    rw [hz0 k hk]
    have : k ∈ al ++ sts ++ ds.map (·.1) ++ g1 := by
      rcases h with h | h | h
      · exact List.mem_append_left _ (List.mem_append_left _ h)
      · exact List.mem_append_left _ (List.mem_append_right _ h)
      · exact List.mem_append_right _ h
    simpa using this
  have mkn : ∀ m d, (m, d) ∈ ds → m < n ∧ dstOf l m = some d ∧ m ∉ al ∧ m ∉ sts ∧ m ∉ g1 := by
    intro m d h
    obtain ⟨o, h1, _, h3, h4, h5, h6, h7⟩ := MK.maker m d h
    exact ⟨h3, by simp [dstOf, h1, h4], h5, h6, h7⟩
  have mem_ds : ∀ m d, (m, d) ∈ ds → m ∈ ds.map (·.1) := fun m d h => List.mem_map.2 ⟨(m, d), h, rfl⟩
  have ds_mem : ∀ m, m ∈ ds.map (·.1) → ∃ d, (m, d) ∈ ds := fun m h => by
    obtain ⟨⟨m', d⟩, h1, rfl⟩ := List.mem_map.1 h
    exact ⟨d, h1⟩
  -- a slot that nothing of the head sets
  have noSet0 : ∀ s, (∀ i, i < n → dstOf l i ≠ some s) → aF0.tmps[s]? = a0.tmps[s]? := fun s hno => hold0 s fun i => by
    rw [dst_head]
    split
    · split
      · exact fun h => by cases h
      · exact hno i ‹_›
    · exact fun h => by cases h
  -- slots of the second group and of the makers lie as they lay in aF0 = a0
  intro f
  induction f with
  | zero =>
    intro listed a w bs γ hu inv S
    rw [Nat.zero_add]
    have hall := undone_zero hu
    have e : listed = Array.replicate n true ++ Array.replicate (l.length - n) false := by
      have hsz : listed.size = l.length := by have := inv.size; simpa using this
      refine Array.ext (by simp [hsz]; omega) fun i h1 h2 => ?_
      by_cases hi : i < n
      · have := hall i hi
        rw [Array.getElem_append_left (by simpa using hi)]
        simpa [h1] using this
      · have := inv.tail i (by omega) (by simpa [hsz] using h1)
        rw [Array.getElem_append_right (by simpa using hi)]
        simpa [h1] using this
    have hseq := HK.seq
    rw [← e] at hseq
    have := wpAny_of_seq (P := P) (ops := l.toArray) (md := .any) (Q' := Q) (l.drop n) n listed a w (fun j => by simp [List.getElem?_drop]) (by simpa using hseq) (hT listed a w bs γ hall S)
    simpa using this
  | succ f ih =>
    intro listed a w bs γ hu inv S
    have hsz : listed.size = l.length := by have := inv.size; simpa using this
    obtain ⟨i0, hi0, hf0, hbef⟩ := undone_pos hu
    have hf0' : listed.getD i0 true = false := by rw [getD_tf (by omega)]; exact hf0
    rw [show f + 1 + (l.length - n) = (f + (l.length - n)) + 1 by omega]
    refine ⟨fun h => ?_, fun k hk => ?_⟩
    · exfalso
      have : i0 ∈ Region.ready .any l.toArray listed := by
        rw [mem_ready]
        have hi0l : i0 < l.length := by omega
        exact ⟨hf0', l[i0], by simp, fun e he hb => hbef _ (HK.after i0 _ hi0 (by simp) e he hb)⟩
      rw [h] at this; cases this
    · have hkn : k < n := by
        rcases Nat.lt_or_ge k n with h | h
        · exact h
        · exact absurd hk (tail_waits HK.sink HK.chain (by simpa using HK.lt) inv _ i0 rfl hi0 hf0' k h)
      obtain ⟨hkun, o, ho, hdeps⟩ := mem_ready.1 hk
      have ho' : l[k]? = some o := by simpa using ho
      have hkf : listed.getD k false = false := by rw [← getD_tf (by omega)]; exact hkun
      have hu' : undone (listed.setIfInBounds k true) n = f := by have := undone_set hkn (by omega) hkf; omega
      have inv' := inv.set hk hkn
      have dk : dstOf l k = o.dst := by simp [dstOf, ho']
      have waits : ∀ j, Region.waitsFor .any l.toArray k j = true → listed.getD j false = true := by
        intro j q3
        obtain ⟨ok, hok, e, he, hb, hon⟩ := Region.waitsFor_spec q3
        have : ok = o := Option.some.inj (hok.symm.trans ho)
        subst this
        rw [← hon]; exact hdeps e he hb
      have stNot : ∀ i, k ∉ sts → (stored sts own (listed.setIfInBounds k true) i ↔ stored sts own listed i) := by
        intro i hns
        constructor
        · rintro ⟨s, hs, he, hl⟩
          exact ⟨s, hs, he, (set_of hl).resolve_left (fun h => hns (h ▸ hs))⟩
        · rintro ⟨s, hs, he, hl⟩
          exact ⟨s, hs, he, getD_set_true hl⟩
      have hnew : ∀ i d', i ∈ al → listed.getD i false = true → dstOf l i = some d' → bs i < w.heap.size := by
        intro i d' hi hl hdd
        obtain ⟨x, hx⟩ := (S.als i d' hi hl hdd).2.2.some
        exact (Array.getElem?_eq_some_iff.1 hx).1
      -- all that has been made is there, for what comes behind it
      have allMade : k ∈ g1 ∨ k ∈ sts → ∀ m d, (m, d) ∈ ds → listed.getD m false = true := by
        intro hg m d hm
        rcases MK.late k o hkn ho' hg with h | ⟨j, hj, hw⟩
        · exact waits m (h m d hm)
        · exact S.aft j hj (waits j hw) m d hm
      -- slots of another operation
      have putNe : ∀ i e v, i < n → i ≠ k → dstOf l i = some e → (a.put o.dst v).tmps[e]? = a.tmps[e]? := fun i e v hi hik hde =>
        put_ne _ _ _ _ (fun he => hik (HK.dsts i k e hi hkn hde (by rw [dk, he])))
      have alLt : ∀ i, i ∈ al → i < n := fun i hi => by obtain ⟨_, _, _, _, hh, _⟩ := HK.als i hi; exact hh
      -- what the looks of an operation agree with
      have walk1 : (∀ m d, (m, d) ∈ ds → listed.getD m false = true) → wpQuiet P l.toArray (fun w' => ∃ p : GrownBy, w' = grow (w.drewN p.n) p.os) (fun x => x = aF γ) (headOps z1 n 0 l) (putAll val γ ds aF0) := fun h =>
        hq1 γ w S.grown fun m d hm => (S.phi m d hm (h m d hm)).1
      have putOld : ∀ s, (∀ m d, (m, d) ∈ ds → d ≠ s) → (putAll val γ ds aF0).tmps[s]? = aF0.tmps[s]? := fun s h => putAll_ne γ s ds aF0 h
      have z1g : ∀ i, i < n → (i ∈ g1 ↔ z1.contains i = false) := fun i hi => by rw [hz1 i hi]; simp
      have hnoSet1 : ∀ s, (∀ i, i < n → dstOf l i ≠ some s) → ∀ i, dstOf (headOps z1 n 0 l) i ≠ some s := fun s hno i => by
        rw [dst_head]
        split
        · split
          · exact fun h => by cases h
          · exact hno i ‹_›
        · exact fun h => by cases h
      unfold wpOp
      simp only [ho]
      by_cases hal : k ∈ al
      · obtain ⟨o', d, h1, h2, h3, h4, h5⟩ := HK.als k hal
        have : o' = o := Option.some.inj (h1.symm.trans ho')
        subst this
        rw [if_pos (by simp [Region.wanted, h2])]
        refine .inl ?_
        unfold Oper.wp
        rw [hrun k hal o' ho' a w]
        simp only [Oper.upon]
        refine ih _ _ _ (fun i => if i = k then w.heap.size else bs i) γ hu' inv' ?_
        have hgr : Gr w (w.alloc (blk0 k)) := Gr.alloc _ _
        constructor
        · exact S.grown.trans hgr
        · rw [put_defers]; exact S.defers
        · rw [put_size]; exact S.size
        · intro i e hi hl hni hnm hng hde
          have hik : i ≠ k := fun he => hni (he ▸ List.mem_append_left _ hal)
          rw [putNe i e _ hi hik hde]
          exact S.wr0 i e hi ((set_of hl).resolve_left hik) hni hnm hng hde
        · intro i e hi hl hde
          have hik : i ≠ k := fun he => (MK.g i hi).2.1 (he ▸ hal)
          rw [putNe i e _ (MK.g i hi).1 hik hde]
          exact S.wr1 i e hi ((set_of hl).resolve_left hik) hde
        · intro m d' hm hl hd'
          obtain ⟨q1, q2, q3, _⟩ := mkn m d' hm
          have hik : m ≠ k := fun he => q3 (he ▸ hal)
          rw [putNe m d' _ q1 hik q2]
          exact S.wrm m d' hm ((set_of hl).resolve_left hik) hd'
        · intro m d' hm hl
          obtain ⟨q1, q2, q3, _⟩ := mkn m d' hm
          have hik : m ≠ k := fun he => q3 (he ▸ hal)
          obtain ⟨p1, p2, p3⟩ := S.phi m d' hm ((set_of hl).resolve_left hik)
          have hb := (Array.getElem?_eq_some_iff.1 p1).1
          refine ⟨(hgr.block hb).trans p1, p2, fun i hi hli => ?_⟩
          by_cases hik' : i = k
          · rw [if_pos hik']; omega
          · rw [if_neg hik']; exact p3 i hi ((set_of hli).resolve_left hik')
        · intro i hi hl m d' hm
          have hik : i ≠ k := fun he => (MK.g i hi).2.1 (he ▸ hal)
          exact getD_set_true (S.aft i hi ((set_of hl).resolve_left hik) m d' hm)
        · intro i e hi hl hde
          by_cases hik : i = k
          · subst hik
            rw [if_pos rfl]
            have : d = e := Option.some.inj ((h4.symm.trans dk.symm).trans hde)
            subst this
            have hns : ¬ stored sts own (listed.setIfInBounds i true) i := by
              rw [stNot i h5]
              rintro ⟨s, hs, he, hl'⟩
              obtain ⟨os, hos, _, _, _, _, hws, _⟩ := HK.stos s hs
              obtain ⟨os', hos', e, he', hb, hon⟩ := Region.waitsFor_spec hws
              have := inv.closed s os' hos' hl' e he' hb
              rw [hon, he, hkf] at this
              cases this
            refine ⟨fun hlt => by rw [h4]; exact put_at _ _ _ (by rw [S.size]; exact hlt), S.grown.size, fun h => absurd h hns, fun _ => ?_⟩
            show (w.heap.push _)[w.heap.size]? = _
            simp
          · rw [if_neg hik]
            have hl := (set_of hl).resolve_left hik
            obtain ⟨q1, q2, q3⟩ := S.als i e hi hl hde
            refine ⟨fun hlt => by rw [putNe i e _ (alLt i hi) hik hde]; exact q1 hlt, q2, by
                  rw [hgr.block (hnew i e hi hl hde)]
                  exact ⟨fun h => q3.1 ((stNot i h5).1 h), fun h => q3.2 (fun h' => h ((stNot i h5).2 h'))⟩⟩
        · intro i j hi hj hli hlj hij
          obtain ⟨oi, di, hoi, _, _, hdi, _⟩ := HK.als i hi
          obtain ⟨oj, dj, hoj, _, _, hdj, _⟩ := HK.als j hj
          by_cases hik : i = k
          · by_cases hjk : j = k
            · exact absurd (hik.trans hjk.symm) hij
            · rw [if_pos hik, if_neg hjk]
              have hlj := (set_of hlj).resolve_left hjk
              have := hnew j dj hj hlj (by simp [dstOf, hoj, hdj])
              omega
          · rw [if_neg hik]
            have hli := (set_of hli).resolve_left hik
            by_cases hjk : j = k
            · rw [if_pos hjk]
              have := hnew i di hi hli (by simp [dstOf, hoi, hdi])
              omega
            · rw [if_neg hjk]
              exact S.apart i j hi hj hli ((set_of hlj).resolve_left hjk) hij
        · intro s hs
          rw [put_ne _ _ _ _ (fun he => hs k hkn (getD_set_self (by omega)) (by rw [dk, he]))]
          exact S.old s fun i hi hl => hs i hi (getD_set_true hl)
      · by_cases hst : k ∈ sts
        · obtain ⟨o', h1, h2, h3, h4, h5, h6, h7⟩ := HK.stos k hst
          have : o' = o := Option.some.inj (h1.symm.trans ho')
          subst this
          have made := allMade (.inr hst)
          obtain ⟨⟨hdf1, hs1, hold1⟩, _⟩ := lex_walk (headOps z1 n 0 l) _ (hd_uniq HK) (walk1 made)
          rw [putAll_size] at hs1
          obtain ⟨oi, di, hoi, _, hin, hdi, _⟩ := HK.als (own k) h5
          have hdd : dstOf l (own k) = some di := by simp [dstOf, hoi, hdi]
          have hlo : listed.getD (own k) false = true := waits _ h6
          obtain ⟨q1, q2, q3⟩ := S.als (own k) di h5 hlo hdd
          have hnst : ¬ stored sts own listed (own k) := by
            rintro ⟨s, hs, he, hl'⟩
            have := h7 s hs he
            subst this
            rw [hkf] at hl'; cases hl'
          have agree : ∀ s ∈ o'.looksAt l.toArray, s ≠ di → a.tmps[s]? = (aF γ).tmps[s]? := by
            intro s hs hsd
            by_cases hex : ∃ j, j < n ∧ dstOf l j = some s
            · obtain ⟨j, hj, hdj⟩ := hex
              obtain ⟨r1, r2, r3⟩ := HK.looks k o' hkn ho' hal s hs j hj hdj
              have hlj := waits j r3
              by_cases hjal : j ∈ al
              · rcases r1 with r1 | r1
                · have : j = own k := r1.2
                  subst this
                  exact absurd (Option.some.inj (hdj.symm.trans hdd)) hsd
                · exact absurd (List.mem_append_left _ hjal) r1
              · have hjst : j ∉ sts := fun h => by
                  obtain ⟨oj, hoj, _, _, hdn, _⟩ := HK.stos j h
                  simp [dstOf, hoj, hdn] at hdj
                have hjn : j ∉ al ++ sts := fun h => (List.mem_append.1 h).elim hjal hjst
                by_cases hjg : j ∈ g1
                · exact S.wr1 j s hjg hlj hdj
                · have hset1 : (aF γ).tmps[s]? = (putAll val γ ds aF0).tmps[s]? := hold1 s fun i => by
                    rw [dst_head]
                    split
                    · split
                      · exact fun h => by cases h
                      · rename_i hi hc
                        exact fun h => hjg ((HK.dsts i j s hi hj h hdj) ▸ (z1g i hi).2 (by simpa using hc))
                    · exact fun h => by cases h
                  by_cases hjm : j ∈ ds.map (·.1)
                  · obtain ⟨d', hm⟩ := ds_mem j hjm
                    have : d' = s := Option.some.inj ((mkn j d' hm).2.1.symm.trans hdj)
                    subst this
                    rcases Nat.lt_or_ge d' a0.tmps.size with hlt' | hge
                    · rw [S.wrm j d' hm hlj hlt', hset1, putAll_at γ j d' ds aF0 (fun m d m' d' h h' => MK.uniq m d m' d' h h') hm (by rw [hs0]; exact hlt')]
                    · rw [Array.getElem?_eq_none (by rw [S.size]; exact hge), Array.getElem?_eq_none (by rw [hs1, hs0]; exact hge)]
                  · rw [S.wr0 j s hj hlj hjn hjm hjg hdj, hset1, putOld s (fun m d hm he => hjm (by
                      subst he
                      have := HK.dsts m j d (mkn m d hm).1 hj (mkn m d hm).2.1 hdj
                      exact this ▸ mem_ds m d hm))]
            · have hno : ∀ i, i < n → dstOf l i ≠ some s := fun i hi hd => hex ⟨i, hi, hd⟩
              rw [S.old s fun i hi _ => hno i hi, hold1 s (hnoSet1 s hno), putOld s (fun m d hm he => hno m (mkn m d hm).1 (by rw [← he]; exact (mkn m d hm).2.1)), noSet0 s hno]
          obtain ⟨w1, r1, r2, r3, r4, r5, r6, r7, r8⟩ := hsto γ k hst o' di ho' hdd a w (bs (own k)) (fun hlt => q1 (by rw [← S.size]; exact hlt)) (by rw [S.size, hs1, hs0]) agree (q3.2 hnst)
          rw [if_pos (by simp [Region.wanted, h2])]
          refine .inl ?_
          unfold Oper.wp
          rw [r1]
          simp only [Oper.upon, h4]
          refine ih _ _ _ bs γ hu' inv' ?_
          have hstO : stored sts own (listed.setIfInBounds k true) (own k) := ⟨k, hst, rfl, getD_set_self (by omega)⟩
          have hstE : ∀ i, i ≠ own k → (stored sts own (listed.setIfInBounds k true) i ↔ stored sts own listed i) := by
            intro i hi
            constructor
            · rintro ⟨s, hs, he, hl⟩
              exact ⟨s, hs, he, (set_of hl).resolve_left (fun h => hi (by rw [← he, h]))⟩
            · rintro ⟨s, hs, he, hl⟩
              exact ⟨s, hs, he, getD_set_true hl⟩
          constructor
          · exact S.grown.heap r2 r3 r4 r5 (by omega) fun j hj => r7 j (by omega)
          · exact S.defers
          · exact S.size
          · intro i e hi hl hni hnm hng hde
            have hik : i ≠ k := fun he => hni (he ▸ List.mem_append_right _ hst)
            exact S.wr0 i e hi ((set_of hl).resolve_left hik) hni hnm hng hde
          · intro i e hi hl hde
            have hik : i ≠ k := fun he => (MK.g i hi).2.2 (he ▸ hst)
            exact S.wr1 i e hi ((set_of hl).resolve_left hik) hde
          · intro m d' hm hl hd'
            have hik : m ≠ k := fun he => (mkn m d' hm).2.2.2.1 (he ▸ hst)
            exact S.wrm m d' hm ((set_of hl).resolve_left hik) hd'
          · intro m d' hm hl
            have hik : m ≠ k := fun he => (mkn m d' hm).2.2.2.1 (he ▸ hst)
            obtain ⟨p1, p2, p3⟩ := S.phi m d' hm ((set_of hl).resolve_left hik)
            refine ⟨by rw [r7 (γ m) (Ne.symm (p3 (own k) h5 hlo))]; exact p1, p2, fun i hi hli => p3 i hi ((set_of hli).resolve_left (fun he => hal (he ▸ hi)))⟩
          · intro i hi hl m d' hm
            have hik : i ≠ k := fun he => (MK.g i hi).2.2 (he ▸ hst)
            exact getD_set_true (S.aft i hi ((set_of hl).resolve_left hik) m d' hm)
          · intro i e hi hl hde
            have hik : i ≠ k := fun he => by subst he; exact hal hi
            have hl := (set_of hl).resolve_left hik
            obtain ⟨t1, t2, t3⟩ := S.als i e hi hl hde
            refine ⟨t1, t2, ?_⟩
            by_cases hio : i = own k
            · subst hio
              exact ⟨fun _ => r8, fun h => absurd hstO h⟩
            · rw [r7 (bs i) (S.apart i (own k) hi h5 hl hlo hio)]
              exact ⟨fun h => t3.1 ((hstE i hio).1 h), fun h => t3.2 (fun h' => h ((hstE i hio).2 h'))⟩
          · intro i j hi hj hli hlj hij
            have hik : i ≠ k := fun he => by subst he; exact hal hi
            have hjk : j ≠ k := fun he => by subst he; exact hal hj
            exact S.apart i j hi hj ((set_of hli).resolve_left hik) ((set_of hlj).resolve_left hjk) hij
          · intro s hs
            exact S.old s fun i hi hl => hs i hi (getD_set_true hl)
        · have hni : k ∉ al ++ sts := fun h => (List.mem_append.1 h).elim hal hst
          -- what is left to show behind the operation, whatever value it gave
          have fin : ∀ (v : Value) (w' : World) (γ' : Nat → Nat), Gr w w' → (∀ m d, (m, d) ∈ ds → m ≠ k → γ' m = γ m) → (k ∉ ds.map (·.1) → γ' = γ) →
              (k ∉ ds.map (·.1) → k ∉ g1 → ∀ e, o.dst = some e → e < a0.tmps.size → aF0.tmps[e]? = some v) →
              (k ∈ g1 → ∀ e, o.dst = some e → e < a0.tmps.size → (aF γ).tmps[e]? = some v) → (k ∈ g1 → (aF γ).tmps.size = a0.tmps.size) →
              (∀ d, (k, d) ∈ ds → v = val k (γ' k) ∧ w'.heap[γ' k]? = some (Ob k) ∧ w.heap.size ≤ γ' k) →
              (k ∈ g1 → ∀ m d, (m, d) ∈ ds → listed.getD m false = true) →
              wpAny P .any l.toArray Q (f + (l.length - n)) (listed.setIfInBounds k true) (a.put o.dst v) w' := by
            intro v w' γ' hgr hγ hγ1 hv0 hv1 hvs hvm hmade
            refine ih _ _ _ bs γ' hu' inv' ?_
            have listedM : ∀ m d, (m, d) ∈ ds → m = k → k ∈ ds.map (·.1) := fun m d hm he => he ▸ mem_ds m d hm
            constructor
            · exact S.grown.trans hgr
            · rw [put_defers]; exact S.defers
            · rw [put_size]; exact S.size
            · intro i e hi hl hni' hnm hng hde
              by_cases hik : i = k
              · subst hik
                rw [dk] at hde
                rcases Nat.lt_or_ge e a.tmps.size with hlt' | hge
                · rw [hde, put_at _ _ _ hlt']
                  exact (hv0 hnm hng e hde (by rw [← S.size]; exact hlt')).symm
                · rw [Array.getElem?_eq_none (by rw [put_size]; exact hge), Array.getElem?_eq_none (by rw [hs0, ← S.size]; exact hge)]
              · rw [putNe i e _ hi hik hde]
                exact S.wr0 i e hi ((set_of hl).resolve_left hik) hni' hnm hng hde
            · intro i e hi hl hde
              by_cases hik : i = k
              · subst hik
                rw [hγ1 (fun hkm => by obtain ⟨d', hm⟩ := ds_mem i hkm; exact (mkn i d' hm).2.2.2.2 hi)]
                rw [dk] at hde
                rcases Nat.lt_or_ge e a.tmps.size with hlt' | hge
                · rw [hde, put_at _ _ _ hlt']
                  exact (hv1 hi e hde (by rw [← S.size]; exact hlt')).symm
                · rw [Array.getElem?_eq_none (by rw [put_size]; exact hge), Array.getElem?_eq_none (by rw [hvs hi, ← S.size]; exact hge)]
              · rw [putNe i e _ (MK.g i hi).1 hik hde]
                have hli := (set_of hl).resolve_left hik
                by_cases hkm : k ∈ ds.map (·.1)
                · obtain ⟨d', hm⟩ := ds_mem k hkm
                  exact absurd (S.aft i hi hli k d' hm) (by rw [hkf]; exact Bool.false_ne_true)
                · rw [hγ1 hkm]
                  exact S.wr1 i e hi hli hde
            · intro m d' hm hl hd'
              obtain ⟨q1, q2, _⟩ := mkn m d' hm
              by_cases hik : m = k
              · subst hik
                obtain ⟨e1, _, _⟩ := hvm d' hm
                have : o.dst = some d' := by rw [← dk]; exact q2
                rw [this, put_at _ _ _ (by rw [S.size]; exact hd'), e1]
              · rw [putNe m d' _ q1 hik q2, hγ m d' hm hik]
                exact S.wrm m d' hm ((set_of hl).resolve_left hik) hd'
            · intro m d' hm hl
              by_cases hik : m = k
              · subst hik
                obtain ⟨_, e2, e3⟩ := hvm d' hm
                refine ⟨e2, Nat.le_trans S.grown.size e3, fun i hi hli => ?_⟩
                obtain ⟨oi, di, hoi, _, _, hdi, _⟩ := HK.als i hi
                have := hnew i di hi ((set_of hli).resolve_left (fun he => hal (he ▸ hi))) (by simp [dstOf, hoi, hdi])
                omega
              · obtain ⟨p1, p2, p3⟩ := S.phi m d' hm ((set_of hl).resolve_left hik)
                rw [hγ m d' hm hik]
                exact ⟨(hgr.block (Array.getElem?_eq_some_iff.1 p1).1).trans p1, p2, fun i hi hli => p3 i hi ((set_of hli).resolve_left (fun he => hal (he ▸ hi)))⟩
            · intro i hi hl m d' hm
              by_cases hik : i = k
              · exact getD_set_true (hmade (hik ▸ hi) m d' hm)
              · exact getD_set_true (S.aft i hi ((set_of hl).resolve_left hik) m d' hm)
            · intro i e hi hl hde
              have hik : i ≠ k := fun he => by subst he; exact hal hi
              have hl := (set_of hl).resolve_left hik
              obtain ⟨q1, q2, q3⟩ := S.als i e hi hl hde
              refine ⟨fun hlt => by rw [putNe i e _ (alLt i hi) hik hde]; exact q1 hlt, q2, by
                  rw [hgr.block (hnew i e hi hl hde)]
                  exact ⟨fun h => q3.1 ((stNot i hst).1 h), fun h => q3.2 (fun h' => h ((stNot i hst).2 h'))⟩⟩
            · intro i j hi hj hli hlj hij
              have hik : i ≠ k := fun he => by subst he; exact hal hi
              have hjk : j ≠ k := fun he => by subst he; exact hal hj
              exact S.apart i j hi hj ((set_of hli).resolve_left hik) ((set_of hlj).resolve_left hjk) hij
            · intro s hs
              rw [put_ne _ _ _ _ (fun he => hs k hkn (getD_set_self (by omega)) (by rw [dk, he]))]
              exact S.old s fun i hi hl => hs i hi (getD_set_true hl)
          by_cases hkm : k ∈ ds.map (·.1)
          · -- a call that makes memory
            obtain ⟨d, hm⟩ := ds_mem k hkm
            obtain ⟨_, hdd, _, _, hng⟩ := mkn k d hm
            obtain ⟨o', h1, h2, _⟩ := MK.maker k d hm
            have : o' = o := Option.some.inj (h1.symm.trans ho')
            subst this
            have agree : ∀ s ∈ o'.looksAt l.toArray, a.tmps[s]? = aF0.tmps[s]? := by
              intro s hs
              by_cases hex : ∃ j, j < n ∧ dstOf l j = some s
              · obtain ⟨j, hj, hdj⟩ := hex
                obtain ⟨r1, r2, r3⟩ := HK.looks k o' hkn ho' hal s hs j hj hdj
                obtain ⟨e1, e2⟩ := MK.early k o' hkn ho' hng hst hal s hs j hj hdj
                exact S.wr0 j s hj (waits j r3) (r1.resolve_left (fun h => hst h.1)) e1 e2 hdj
              · have hno : ∀ i, i < n → dstOf l i ≠ some s := fun i hi hd => hex ⟨i, hi, hd⟩
                rw [S.old s fun i hi _ => hno i hi, noSet0 s hno]
            have hex := exec_same (ops := l.toArray) o' (fun cs b => Region.noSelect_spec HK.nosel k o' cs b ho) agree
            obtain ⟨ff, args, hr, hc⟩ := hmk k d hm o' ho' w S.grown
            rw [if_pos (by simp [Region.wanted, h2])]
            refine .inl ?_
            unfold Oper.wp
            rw [hex, hr]
            simp only [Oper.upon]
            refine hc.mono fun e w'' ⟨g, he, hb, hge, hgr⟩ => ?_
            subst he
            refine fin (val k g) w'' (fun j => if j = k then g else γ j) hgr (fun m d' _ hne => by rw [if_neg hne]) (fun h => absurd hkm h) (fun h => absurd hkm h) (fun h => absurd h hng) (fun h => absurd h hng) (fun d' _ => ?_) (fun h => absurd h hng)
            simp only [if_true]
            exact ⟨trivial, hb, hge⟩
          · by_cases hg : k ∈ g1
            · -- behind all that has been made
              have made := allMade (.inl hg)
              obtain ⟨⟨hdf1, hs1, hold1⟩, hf4⟩ := lex_walk (headOps z1 n 0 l) _ (hd_uniq HK) (walk1 made)
              rw [putAll_size] at hs1 hf4
              have hhead : (headOps z1 n 0 l)[k]? = some o := by
                rw [headOps_get, if_pos hkn, ho', Nat.zero_add, (z1g k hkn).1 hg]; rfl
              obtain ⟨ak, v, hy, hv, hg3, hg4⟩ := hf4 k o hhead
              have agree : ∀ s ∈ o.looksAt l.toArray, a.tmps[s]? = ak.tmps[s]? := by
                intro s hs
                by_cases hex : ∃ j, j < n ∧ dstOf l j = some s
                · obtain ⟨j, hj, hdj⟩ := hex
                  obtain ⟨r1, r2, r3⟩ := HK.looks k o hkn ho' hal s hs j hj hdj
                  have r1 := r1.resolve_left (fun h => hst h.1)
                  have hlj := waits j r3
                  by_cases hjg : j ∈ g1
                  · rw [S.wr1 j s hjg hlj hdj, hg3 s ⟨j, r2, by rw [dst_head, if_pos hj, (z1g j hj).1 hjg]; exact hdj⟩]
                  · have hak : ak.tmps[s]? = (putAll val γ ds aF0).tmps[s]? := hg4 s fun i _ => by
                      rw [dst_head]
                      split
                      · split
                        · exact fun h => by cases h
                        · rename_i hi hc
                          exact fun h => hjg ((HK.dsts i j s hi hj h hdj) ▸ (z1g i hi).2 (by simpa using hc))
                      · exact fun h => by cases h
                    by_cases hjm : j ∈ ds.map (·.1)
                    · obtain ⟨d', hm⟩ := ds_mem j hjm
                      have : d' = s := Option.some.inj ((mkn j d' hm).2.1.symm.trans hdj)
                      subst this
                      rcases Nat.lt_or_ge d' a0.tmps.size with hlt' | hge
                      · rw [S.wrm j d' hm hlj hlt', hak, putAll_at γ j d' ds aF0 (fun m d m' d' h h' => MK.uniq m d m' d' h h') hm (by rw [hs0]; exact hlt')]
                      · rw [hak, Array.getElem?_eq_none (by rw [S.size]; exact hge), Array.getElem?_eq_none (by rw [putAll_size, hs0]; exact hge)]
                    · rw [S.wr0 j s hj hlj r1 hjm hjg hdj, hak, putOld s (fun m d hm he => hjm (by
                        subst he
                        have := HK.dsts m j d (mkn m d hm).1 hj (mkn m d hm).2.1 hdj
                        exact this ▸ mem_ds m d hm))]
                · have hno : ∀ i, i < n → dstOf l i ≠ some s := fun i hi hd => hex ⟨i, hi, hd⟩
                  rw [S.old s fun i hi _ => hno i hi, hg4 s (fun i _ => hnoSet1 s hno i), putOld s (fun m d hm he => hno m (mkn m d hm).1 (by rw [← he]; exact (mkn m d hm).2.1)), noSet0 s hno]
              have hex := exec_same (ops := l.toArray) o (fun cs b => Region.noSelect_spec HK.nosel k o cs b ho) agree
              have hwa := wanted_same (ops := l.toArray) o agree
              have fin' : ∀ w', Gr w w' → wpAny P .any l.toArray Q (f + (l.length - n)) (listed.setIfInBounds k true) (a.put o.dst v) w' := fun w' hgr =>
                fin v w' γ hgr (fun _ _ _ _ => rfl) (fun _ => rfl) (fun _ h => absurd hg h) (fun _ e he hlt => hv e he (by rw [hs0]; exact hlt)) (fun _ => by rw [hs1, hs0]) (fun d hm => absurd (mem_ds k d hm) hkm) (fun _ => made)
              rcases hy with ⟨hw, hv1⟩ | ⟨hw, rfl⟩
              · rw [if_pos (by rw [hwa]; exact hw)]
                refine .inl ?_
                have h3 := hv1 w ⟨⟨0, #[]⟩, by rw [grow_empty]; rfl⟩
                unfold Oper.quietAt at h3
                unfold Oper.wp
                rw [hex]
                generalize (execOp ak.eval o).run P w = r at h3
                cases r with
                | ok nx w' =>
                  cases nx <;> simp only [Oper.quietUpon] at h3 <;> simp only [Oper.upon]
                  case value u =>
                    obtain ⟨e1, e2⟩ := h3
                    rw [e1, e2]
                    exact fin' w (Gr.refl w)
                  case skip =>
                    obtain ⟨e1, e2⟩ := h3
                    rw [e1, ← e2]
                    exact fin' w (Gr.refl w)
                  case enter g args =>
                    obtain ⟨e1, hc⟩ := h3
                    rw [e1]
                    exact hc.mono fun e w'' ⟨he, hw''⟩ => by subst he; exact fin' w'' hw''
                | halt x w' => simp only [Oper.quietUpon] at h3
              · rw [if_neg (by rw [hwa, hw]; exact Bool.false_ne_true)]
                exact fin' w (Gr.refl w)
            · -- what does not look at it
              obtain ⟨⟨_, _, _⟩, hf4⟩ := lex_walk (headOps z0 n 0 l) a0 (hd_uniq HK) (hq0 w S.grown)
              have hhead : (headOps z0 n 0 l)[k]? = some o := by
                rw [headOps_get, if_pos hkn, ho', Nat.zero_add, z0not k hkn hni hkm hg]; rfl
              obtain ⟨ak, v, hy, hv, hg3, hg4⟩ := hf4 k o hhead
              have agree : ∀ s ∈ o.looksAt l.toArray, a.tmps[s]? = ak.tmps[s]? := by
                intro s hs
                by_cases hex : ∃ j, j < n ∧ dstOf l j = some s
                · obtain ⟨j, hj, hdj⟩ := hex
                  obtain ⟨r1, r2, r3⟩ := HK.looks k o hkn ho' hal s hs j hj hdj
                  have r1 := r1.resolve_left (fun h => hst h.1)
                  obtain ⟨e1, e2⟩ := MK.early k o hkn ho' hg hst hal s hs j hj hdj
                  rw [S.wr0 j s hj (waits j r3) r1 e1 e2 hdj, hg3 s ⟨j, r2, by rw [dst_head, if_pos hj, z0not j hj r1 e1 e2]; exact hdj⟩]
                · have hno : ∀ i, i < n → dstOf l i ≠ some s := fun i hi hd => hex ⟨i, hi, hd⟩
                  rw [S.old s fun i hi _ => hno i hi, hg4 s fun i _ => by
                    rw [dst_head]
                    split
                    · split
                      · exact fun h => by cases h
                      · exact hno i ‹_›
                    · exact fun h => by cases h]
              have hex := exec_same (ops := l.toArray) o (fun cs b => Region.noSelect_spec HK.nosel k o cs b ho) agree
              have hwa := wanted_same (ops := l.toArray) o agree
              have fin' : ∀ w', Gr w w' → wpAny P .any l.toArray Q (f + (l.length - n)) (listed.setIfInBounds k true) (a.put o.dst v) w' := fun w' hgr =>
                fin v w' γ hgr (fun _ _ _ _ => rfl) (fun _ => rfl) (fun _ _ e he hlt => hv e he hlt) (fun h => absurd h hg) (fun h => absurd h hg) (fun d hm => absurd (mem_ds k d hm) hkm) (fun h => absurd h hg)
              rcases hy with ⟨hw, hv1⟩ | ⟨hw, rfl⟩
              · rw [if_pos (by rw [hwa]; exact hw)]
                refine .inl ?_
                have h3 := hv1 w ⟨⟨0, #[]⟩, by rw [grow_empty]; rfl⟩
                unfold Oper.quietAt at h3
                unfold Oper.wp
                rw [hex]
                generalize (execOp ak.eval o).run P w = r at h3
                cases r with
                | ok nx w' =>
                  cases nx <;> simp only [Oper.quietUpon] at h3 <;> simp only [Oper.upon]
                  case value u =>
                    obtain ⟨e1, e2⟩ := h3
                    rw [e1, e2]
                    exact fin' w (Gr.refl w)
                  case skip =>
                    obtain ⟨e1, e2⟩ := h3
                    rw [e1, ← e2]
                    exact fin' w (Gr.refl w)
                  case enter g args =>
                    obtain ⟨e1, hc⟩ := h3
                    rw [e1]
                    exact hc.mono fun e w'' ⟨he, hw''⟩ => by subst he; exact fin' w'' hw''
                | halt x w' => simp only [Oper.quietUpon] at h3
              · rw [if_neg (by rw [hwa, hw]; exact Bool.false_ne_true)]
                exact fin' w (Gr.refl w)
end

section
variable {P : Program} {l : List Oper} {id : Nat} {Q : Exit → Act → World → Prop} {a : Act} {w : World}

theorem wp_headG {al sts : List Nat} {own : Nat → Nat} {ds : List (Nat × Tmp)} {g1 : List Nat} {val : Nat → Nat → Value} {Ob : Nat → Obj} {aF0 : Act} {aF : (Nat → Nat) → Act} {blk0 blk1 : Nat → Obj} (n : Nat) (z0 z1 : List Nat) (hm : P.follows .mixedOrders = true) (hB : headB al sts own n l = true) (hM : mkrB al sts ds g1 n l = true)
    (hz0 : (List.range n).all (fun k => z0.contains k == (al ++ sts ++ ds.map (·.1) ++ g1).contains k) = true) (hz1 : (List.range n).all (fun k => z1.contains k == !g1.contains k) = true)
    (hrun : ∀ j ∈ al, ∀ o, l[j]? = some o → ∀ (a : Act) (w : World), (execOp a.eval o).run P w = .ok (.value (.pointer (some ⟨w.heap.size, 0, none⟩))) (w.alloc (blk0 j)))
    (hsto : ∀ γ, ∀ k ∈ sts, StoreOk P l (aF γ) own blk0 blk1 k)
    (hmk : ∀ m d, (m, d) ∈ ds → MakerOk P w aF0 val Ob l m)
    (hq0 : ∀ wb, Gr w wb → wpQuiet P l.toArray (fun w' => ∃ p : GrownBy, w' = grow (wb.drewN p.n) p.os) (fun x => x = aF0) (headOps z0 n 0 l) a)
    (hq1 : ∀ γ wb, Gr w wb → (∀ m d, (m, d) ∈ ds → wb.heap[γ m]? = some (Ob m)) → wpQuiet P l.toArray (fun w' => ∃ p : GrownBy, w' = grow (wb.drewN p.n) p.os) (fun x => x = aF γ) (headOps z1 n 0 l) (putAll val γ ds aF0))
    (hT : ∀ (a' : Act) (w' : World) (bs γ : Nat → Nat), Gr w w' → (∀ m d, (m, d) ∈ ds → w'.heap[γ m]? = some (Ob m) ∧ w.heap.size ≤ γ m) →
      (∀ i d, i ∈ al → dstOf l i = some d → (d < a.tmps.size → a'.tmps[d]? = some (.pointer (some ⟨bs i, 0, none⟩))) ∧ w.heap.size ≤ bs i ∧ ((∃ s ∈ sts, own s = i) → w'.heap[bs i]? = some (blk1 i)) ∧ ((¬ ∃ s ∈ sts, own s = i) → w'.heap[bs i]? = some (blk0 i))) →
      a'.defers = (aF γ).defers → a'.tmps.size = a.tmps.size → (aF γ).tmps.size = a.tmps.size → (∀ s : Nat, (∀ i, i ∈ al → dstOf l i ≠ some s) → a'.tmps[s]? = (aF γ).tmps[s]?) → wpList P l.toArray Q (l.drop n) a' w') : (Code.region id l.toArray true).wp P Q a w := by
  have HK := headOk_of hB
  have MK := mkOk_of hM
  have h0 : ∀ k, k < n → z0.contains k = (al ++ sts ++ ds.map (·.1) ++ g1).contains k := fun k hk => by simpa using List.all_eq_true.1 hz0 k (List.mem_range.2 hk)
  have h1 : ∀ k, k < n → z1.contains k = !g1.contains k := fun k hk => by simpa using List.all_eq_true.1 hz1 k (List.mem_range.2 hk)
  refine wp_region_any hm ?_
  have hlt := HK.lt
  have := head_allG (P := P) (Q := Q) (blk0 := blk0) (blk1 := blk1) (val := val) (Ob := Ob) (aF := aF) (aF0 := aF0) (w0 := { w with drawn := w.drawn + 1 }) HK MK z0 z1 h0 h1 hrun hsto (fun m d h o ho wb hb => hmk m d h o ho wb (gr_drawn hb)) (fun wb h => hq0 wb (gr_drawn h)) (fun γ wb h => hq1 γ wb (gr_drawn h))
    (fun listed a' w' bs γ hl S => by
      obtain ⟨⟨hdf0, hs0, hold0⟩, _⟩ := lex_walk (headOps z0 n 0 l) a (hd_uniq HK) (hq0 w (Gr.refl w))
      have mkn : ∀ m d, (m, d) ∈ ds → m < n ∧ dstOf l m = some d ∧ m ∉ al ∧ m ∉ sts ∧ m ∉ g1 := by
        intro m d h
        obtain ⟨o, h1, _, h3, h4, h5, h6, h7⟩ := MK.maker m d h
        exact ⟨h3, by simp [dstOf, h1, h4], h5, h6, h7⟩
      have hph : ∀ m d, (m, d) ∈ ds → w'.heap[γ m]? = some (Ob m) ∧ w.heap.size ≤ γ m := fun m d hm => by
        obtain ⟨p1, p2, _⟩ := S.phi m d hm (hl m (mkn m d hm).1)
        exact ⟨p1, p2⟩
      obtain ⟨⟨hdf1, hs1, hold1⟩, _⟩ := lex_walk (headOps z1 n 0 l) _ (hd_uniq HK) (hq1 γ w' (gr_drawn S.grown) fun m d hm => (hph m d hm).1)
      rw [putAll_size] at hs1
      rw [putAll_defers] at hdf1
      refine hT a' w' bs γ (gr_drawn S.grown) hph (fun i d hi hd => ?_) (by rw [S.defers, hdf1, hdf0]) S.size (by rw [hs1, hs0]) (fun s hs => ?_)
      · obtain ⟨_, _, _, _, hin, _⟩ := HK.als i hi
        obtain ⟨q1, q2, q3⟩ := S.als i d hi (hl i hin) hd
        refine ⟨q1, q2, fun ⟨s, hs, he⟩ => ?_, fun hno => q3.2 fun ⟨s, hs, he, _⟩ => hno ⟨s, hs, he⟩⟩
        obtain ⟨_, _, _, hsn, _⟩ := HK.stos s hs
        exact q3.1 ⟨s, hs, he, hl s hsn⟩
      · by_cases hex : ∃ i, i < n ∧ dstOf l i = some s
        · obtain ⟨i, hi, hd⟩ := hex
          have hni : i ∉ al ++ sts := fun h => by
            rcases List.mem_append.1 h with h | h
            · exact hs i h hd
            · obtain ⟨o, ho, _, _, hdn, _⟩ := HK.stos i h
              simp [dstOf, ho, hdn] at hd
          by_cases hg : i ∈ g1
          · exact S.wr1 i s hg (hl i hi) hd
          · have hset1 : (aF γ).tmps[s]? = (putAll val γ ds aF0).tmps[s]? := hold1 s fun j => by
              rw [dst_head]
              split
              · split
                · exact fun h => by cases h
                · rename_i hj hc
                  have hjg : j ∈ g1 := by
                    have := h1 j hj
                    have hc' : z1.contains j = false := by simpa using hc
                    rw [hc'] at this
                    simpa using this.symm
                  exact fun h => hg ((HK.dsts j i s hj hi h hd) ▸ hjg)
              · exact fun h => by cases h
            by_cases hm : i ∈ ds.map (·.1)
            · obtain ⟨⟨m, d⟩, hmem, rfl⟩ := List.mem_map.1 hm
              have : d = s := Option.some.inj ((mkn m d hmem).2.1.symm.trans hd)
              subst this
              rcases Nat.lt_or_ge d a.tmps.size with hlt' | hge
              · rw [S.wrm m d hmem (hl m hi) hlt', hset1, putAll_at γ m d ds aF0 (fun m d m' d' h h' => MK.uniq m d m' d' h h') hmem (by rw [hs0]; exact hlt')]
              · rw [Array.getElem?_eq_none (by rw [S.size]; exact hge), Array.getElem?_eq_none (by rw [hs1, hs0]; exact hge)]
            · rw [S.wr0 i s hi (hl i hi) hni hm hg hd, hset1, putAll_ne γ s ds aF0 (fun m d hmem he => hm (by
                subst he
                have := HK.dsts m i d (mkn m d hmem).1 hi (mkn m d hmem).2.1 hd
                exact this ▸ List.mem_map.2 ⟨(m, d), hmem, rfl⟩))]
        · have hno : ∀ i, i < n → dstOf l i ≠ some s := fun i hi hd => hex ⟨i, hi, hd⟩
          have nh : ∀ z, ∀ i, dstOf (headOps z n 0 l) i ≠ some s := fun z i => by
            rw [dst_head]
            split
            · split
              · exact fun h => by cases h
              · exact hno i ‹_›
            · exact fun h => by cases h
          rw [S.old s fun i hi _ hd => hex ⟨i, hi, hd⟩, hold1 s (nh z1), putAll_ne γ s ds aF0 (fun m d hmem he => hno m (mkn m d hmem).1 (by rw [← he]; exact (mkn m d hmem).2.1)), hold0 s (nh z0)])
    n (Array.replicate l.length false) a { w with drawn := w.drawn + 1 } (fun _ => 0) (fun _ => 0)
    (by
      unfold undone
      rw [List.filter_eq_self.2 (fun i _ => by rw [getD_replicate_false]; rfl)]; simp)
    ⟨by simp, fun j oj _ hl => (by rw [getD_replicate_false] at hl; cases hl), fun t _ ht => getD_in (by simpa using ht) (getD_replicate_false _ _)⟩
    ⟨Gr.refl _, rfl, rfl, fun i d _ hl => (by rw [getD_replicate_false] at hl; cases hl), fun i d _ hl => (by rw [getD_replicate_false] at hl; cases hl), fun i d _ hl => (by rw [getD_replicate_false] at hl; cases hl), fun i d _ hl => (by rw [getD_replicate_false] at hl; cases hl), fun i _ hl => (by rw [getD_replicate_false] at hl; cases hl), fun i d _ hl => (by rw [getD_replicate_false] at hl; cases hl), fun i j _ _ hl => (by rw [getD_replicate_false] at hl; cases hl), fun _ _ => rfl⟩
  rw [show n + (l.length - n) = l.toArray.size by simp; omega] at this
  simpa using this

/-- One call makes memory (operation m, slot d); no variable is made. -/
theorem wp_regG1 (n m d : Nat) (g1 z0 z1 : List Nat) (V : Nat → Value) (O : Obj) (hm : P.follows .mixedOrders = true) (hB : headB [] [] (fun i => i) n l = true) (hM : mkrB [] [] [(m, d)] g1 n l = true)
    (hz0 : (List.range n).all (fun k => z0.contains k == ([m] ++ g1).contains k) = true) (hz1 : (List.range n).all (fun k => z1.contains k == !g1.contains k) = true)
    (h : ∃ aF0, ∃ aF : Nat → Act, (∀ wb, Gr w wb → wpQuiet P l.toArray (fun w' => ∃ p : GrownBy, w' = grow (wb.drewN p.n) p.os) (fun x => x = aF0) (headOps z0 n 0 l) a) ∧
      MakerOk P w aF0 (fun _ => V) (fun _ => O) l m ∧
      (∀ g wb, Gr w wb → wb.heap[g]? = some O → wpQuiet P l.toArray (fun w' => ∃ p : GrownBy, w' = grow (wb.drewN p.n) p.os) (fun x => x = aF g) (headOps z1 n 0 l) (aF0.put (some d) (V g))) ∧
      ∀ g w', Gr w w' → w'.heap[g]? = some O → w.heap.size ≤ g → wpList P l.toArray Q (l.drop n) (aF g) w') : (Code.region id l.toArray true).wp P Q a w := by
  obtain ⟨aF0, aF, hq0, hmk, hq1, hT⟩ := h
  refine wp_headG (al := []) (sts := []) (own := fun i => i) (ds := [(m, d)]) (g1 := g1) (val := fun _ => V) (Ob := fun _ => O) (aF0 := aF0) (aF := fun γ => aF (γ m)) (blk0 := fun _ => default) (blk1 := fun _ => default) n z0 z1 hm hB hM (by simpa using hz0) hz1 (fun j h => by cases h) (fun γ k h => by cases h) (fun m' d' h => ?_) hq0 (fun γ wb hg hp => hq1 (γ m) wb hg (hp m d (by simp))) fun a' w' bs γ hg hp _ hd hs _ he => ?_
  · have : m' = m := by simpa using (List.mem_singleton.1 h ▸ rfl : m' = (m, d).1)
    subst this
    exact hmk
  · rw [act_ext hd fun s => he s (fun i h => by cases h)]
    obtain ⟨p1, p2⟩ := hp m d (by simp)
    exact hT (γ m) w' hg p1 p2
/-- .. and a variable of T is made by operation i (its address goes to slot dv), and by operation k what slot x holds is stored into it. -/
theorem wp_regG1s {o os : Oper} {T : TypeId} (zs : Array Value) (n m d i dv k x : Nat) (g1 z0 z1 : List Nat) (V : Nat → Value) (O : Obj) (hm : P.follows .mixedOrders = true) (hB : headB [i] [k] (fun _ => i) n l = true) (hM : mkrB [i] [k] [(m, d)] g1 n l = true)
    (hz0 : (List.range n).all (fun j => z0.contains j == ([i] ++ [k] ++ [m] ++ g1).contains j) = true) (hz1 : (List.range n).all (fun k => z1.contains k == !g1.contains k) = true)
    (ho : l[i]? = some o) (hod : o.dst = some dv) (hda : dv < a.tmps.size) (hos : l[k]? = some os) (hop : os.op = .store T (.tmp dv) (.tmp x)) (hdx : dv ≠ x)
    (hrun : ∀ (a : Act) (w : World), (execOp a.eval o).run P w = .ok (.value (.pointer (some ⟨w.heap.size, 0, none⟩))) (w.alloc (.cells zs T))) (hi : (P.info? T).map (·.size) = some zs.size)
    (h : ∃ aF0, ∃ aF : Nat → Act, ∃ cs, (∀ wb, Gr w wb → wpQuiet P l.toArray (fun w' => ∃ p : GrownBy, w' = grow (wb.drewN p.n) p.os) (fun x => x = aF0) (headOps z0 n 0 l) a) ∧
      MakerOk P w aF0 (fun _ => V) (fun _ => O) l m ∧
      (∀ g wb, Gr w wb → wb.heap[g]? = some O → wpQuiet P l.toArray (fun w' => ∃ p : GrownBy, w' = grow (wb.drewN p.n) p.os) (fun x => x = aF g) (headOps z1 n 0 l) (aF0.put (some d) (V g))) ∧
      (∀ g, (aF g).tmps[x]? = some (.agg cs) ∧ (aF g).tmps.size = a.tmps.size) ∧ (zs.size = cs.size ∧ cs.all (·.oneCell') = true) ∧
      ∀ g w' b, Gr w w' → w'.heap[g]? = some O → w.heap.size ≤ g → w.heap.size ≤ b → w'.heap[b]? = some (.cells cs T) → wpList P l.toArray Q (l.drop n) ((aF g).put (some dv) (.pointer (some ⟨b, 0, none⟩))) w') : (Code.region id l.toArray true).wp P Q a w := by
  obtain ⟨aF0, aF, cs, hq0, hmk, hq1, hx, ⟨hz, h1⟩, hT⟩ := h
  rw [hz] at hi
  have HK := headOk_of hB
  have hdi : dstOf l i = some dv := by simp [dstOf, ho, hod]
  refine wp_headG (al := [i]) (sts := [k]) (own := fun _ => i) (ds := [(m, d)]) (g1 := g1) (val := fun _ => V) (Ob := fun _ => O) (aF0 := aF0) (aF := fun γ => aF (γ m)) (blk0 := fun _ => .cells zs T) (blk1 := fun _ => .cells cs T) n z0 z1 hm hB hM (by simpa using hz0) hz1 (fun j h o' ho' => ?_) (fun γ j h => ?_) (fun m' d' h => ?_) hq0 (fun γ wb hg hp => hq1 (γ m) wb hg (hp m d (by simp))) fun a' w' bs γ hg hp hal hd hs hs2 he => ?_
  · have : j = i := by simpa using h
    subst this
    have : o' = o := Option.some.inj (ho'.symm.trans ho)
    subst this
    exact hrun
  · have : j = k := by simpa using h
    subst this
    intro o' d' ho' hd' a' w' b g1 g2 g3 g4
    have : o' = os := Option.some.inj (ho'.symm.trans hos)
    subst this
    have : d' = dv := Option.some.inj (hd'.symm.trans hdi)
    subst this
    have gd : a'.eval (.tmp d') = .pointer (some ⟨b, 0, none⟩) := by
      simp [Act.eval, Array.getD_eq_getD_getElem?, g1 (by rw [g2, (hx (γ m)).2]; exact hda)]
    have gx : a'.eval (.tmp x) = .agg cs := by
      have := g3 x (List.mem_append_left _ (List.mem_filterMap.2 ⟨.tmp x, by rw [hop]; simp [Op.operands], rfl⟩)) (Ne.symm hdx)
      simp [Act.eval, Array.getD_eq_getD_getElem?, this, (hx (γ m)).1]
    refine ⟨w'.setRow b cs, ?_, rfl, rfl, rfl, rfl, by simp [World.setRow], fun k hk => heap_setRow w' b cs k hk, heap_setRow_at w' b cs zs T g4⟩
    obtain ⟨ds, op, ty, pos, aft, gu⟩ := o'
    simp only at hop
    subst hop
    have := run_storeVar_row (P := P) w' b T T zs cs g4 hi hz h1
    have e : Instr.storeAt T (.pointer (some ⟨b, 0, none⟩)) (.agg cs) = storeVar T ⟨b, 0, none⟩ (.agg cs) := rfl
    simp only [execOp, gd, gx, e]
    generalize storeVar T ⟨b, 0, none⟩ (.agg cs) = sv at this ⊢
    simp [go_sem, this]
  · have : m' = m := by simpa using (List.mem_singleton.1 h ▸ rfl : m' = (m, d).1)
    subst this
    exact hmk
  · obtain ⟨s1, s2, s3, _⟩ := hal i dv (by simp) hdi
    have e : a' = (aF (γ m)).put (some dv) (.pointer (some ⟨bs i, 0, none⟩)) := act_ext (by rw [put_defers]; exact hd) fun s => by
      by_cases hs' : s = dv
      · subst hs'
        rw [s1 hda, put_at _ _ _ (by rw [hs2]; exact hda)]
      · rw [put_ne _ _ _ _ (fun he => hs' (Option.some.inj he).symm)]
        exact he s fun j hj hd' => by
          have : j = i := by simpa using hj
          subst this
          exact hs' (Option.some.inj (hd'.symm.trans hdi))
    rw [e]
    obtain ⟨p1, p2⟩ := hp m d (by simp)
    exact hT (γ m) w' (bs i) hg p1 p2 s2 (s3 ⟨k, by simp, rfl⟩)
end
end Go.Proofs.Ytfkmlgndggnhaaa
