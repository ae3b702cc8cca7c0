/- A region that draws its order, in which calls make memory, some of them from what others have made: the operations in levels. -/
import Derived.Test.YtgfopfomhgfcaaaGreatDoorReg
namespace Go.Proofs.YtgfopfomhgfcaaaGreatDoor
open Go.RowKit Go.Sort

/-- The operations of a head, by levels: a maker of level j looks at what is there at level j; what needs its answer has a higher level. -/
def lvB (al sts : List Nat) (ds : List (Nat × Tmp)) (lv : List Nat) (L : Nat) (n : Nat) (l : List Oper) : Bool :=
  ds.all (fun x => match l[x.1]? with
    | some o => o.guard.isNone && decide (x.1 < n) && (o.dst == some x.2) && !(al ++ sts).contains x.1 && ds.all (fun y => y.1 == x.1 || y.2 != x.2)
    | none => false) &&
  sts.all (fun k => lv.getD k 0 == L) && (List.range n).all (fun k => decide (lv.getD k 0 ≤ L)) &&
  (List.range n).all (fun k => al.contains k || ds.all (fun x => !decide (lv.getD x.1 0 < lv.getD k 0) || Region.waitsFor .any l.toArray k x.1 || (List.range n).any (fun j => !al.contains j && decide (lv.getD x.1 0 < lv.getD j 0) && Region.waitsFor .any l.toArray k j))) &&
  (List.range n).all (fun k => match l[k]? with
    | some o => al.contains k || (o.looksAt l.toArray).all fun s => (List.range n).all fun j => dstOf l j != some s || (if (ds.map (·.1)).contains j then decide (lv.getD j 0 < lv.getD k 0) else al.contains j || decide (lv.getD j 0 ≤ lv.getD k 0))
    | none => false)
structure LvOk (al sts : List Nat) (ds : List (Nat × Tmp)) (lv : Nat → Nat) (L : Nat) (n : Nat) (l : List Oper) : Prop where
  maker : ∀ m d, (m, d) ∈ ds → ∃ o, l[m]? = some o ∧ o.guard = none ∧ m < n ∧ o.dst = some d ∧ m ∉ al ∧ m ∉ sts
  uniq : ∀ m d m' d', (m, d) ∈ ds → (m', d') ∈ ds → m' = m ∨ d' ≠ d
  sto : ∀ k, k ∈ sts → lv k = L
  top : ∀ k, k < n → lv k ≤ L
  late : ∀ k, k < n → k ∉ al → ∀ m d, (m, d) ∈ ds → lv m < lv k → Region.waitsFor .any l.toArray k m = true ∨ ∃ j, j < n ∧ j ∉ al ∧ lv m < lv j ∧ Region.waitsFor .any l.toArray k j = true
  early : ∀ k o, k < n → l[k]? = some o → k ∉ al → ∀ s ∈ o.looksAt l.toArray, ∀ j, j < n → dstOf l j = some s → (j ∈ ds.map (·.1) → lv j < lv k) ∧ (j ∉ ds.map (·.1) → j ∉ al → lv j ≤ lv k)
theorem lvOk_of {al sts : List Nat} {ds : List (Nat × Tmp)} {lv : List Nat} {L n : Nat} {l : List Oper} (h : lvB al sts ds lv L n l = true) : LvOk al sts ds (fun k => lv.getD k 0) L n l := by
  simp only [lvB, Bool.and_eq_true] at h
  obtain ⟨⟨⟨⟨h1, h2⟩, h2'⟩, h3⟩, h4⟩ := h
  refine ⟨?_, ?_, ?_, ?_, ?_, ?_⟩
  · intro m d hm
    have := List.all_eq_true.1 h1 (m, d) hm
    cases ho : l[m]? with
    | none => simp [ho] at this
    | some o =>
      simp only [ho, Bool.and_eq_true, decide_eq_true_eq, Option.isNone_iff_eq_none, beq_iff_eq, Bool.not_eq_true'] at this
      obtain ⟨⟨⟨⟨a1, a2⟩, a3⟩, a4⟩, _⟩ := this
      have a5 : m ∉ al ++ sts := by simpa using a4
      simp only [List.mem_append, not_or] at a5
      exact ⟨o, rfl, a1, a2, a3, a5.1, a5.2⟩
  · intro m d m' d' hm hm'
    have := List.all_eq_true.1 h1 (m, d) hm
    cases ho : l[m]? with
    | none => simp [ho] at this
    | some o =>
      simp only [ho, Bool.and_eq_true] at this
      have := List.all_eq_true.1 this.2 (m', d') hm'
      simp only [Bool.or_eq_true, beq_iff_eq, bne_iff_ne] at this
      exact this
  · intro k hk
    simpa using List.all_eq_true.1 h2 k hk
  · intro k hk
    simpa using List.all_eq_true.1 h2' k (List.mem_range.2 hk)
  · intro k hk hal m d hm hlt
    have := List.all_eq_true.1 h3 k (List.mem_range.2 hk)
    have hca : al.contains k = false := by simpa using hal
    simp only [hca, Bool.false_or] at this
    have := List.all_eq_true.1 this (m, d) hm
    simp only [Bool.or_eq_true, Bool.not_eq_true', decide_eq_false_iff_not] at this
    rcases this with (h | h) | h
    · exact absurd hlt h
    · exact .inl h
    · obtain ⟨j, hj, hw⟩ := List.any_eq_true.1 h
      simp only [Bool.and_eq_true, Bool.not_eq_true', decide_eq_true_eq] at hw
      exact .inr ⟨j, List.mem_range.1 hj, by simpa using hw.1.1, hw.1.2, hw.2⟩
  · intro k o hk ho hal s hs j hj hd
    have := List.all_eq_true.1 h4 k (List.mem_range.2 hk)
    have hca : al.contains k = false := by simpa using hal
    simp only [ho, hca, Bool.false_or] at this
    have := List.all_eq_true.1 (List.all_eq_true.1 this s hs) j (List.mem_range.2 hj)
    simp only [hd, bne_self_eq_false, Bool.false_or] at this
    constructor
    · intro hm
      have hc : (ds.map (·.1)).contains j = true := List.contains_iff_mem.2 hm
      rw [hc] at this
      simpa using this
    · intro hm hjal
      have hc : (ds.map (·.1)).contains j = false := by
        cases hc : (ds.map (·.1)).contains j with
        | false => rfl
        | true => exact absurd (List.contains_iff_mem.1 hc) hm
      have hcj : al.contains j = false := by simpa using hjal
      rw [hc, hcj] at this
      simpa using this

section
variable {P : Program} {l : List Oper} {al sts : List Nat} {own : Nat → Nat} {n L : Nat} {a0 : Act} {A : Nat → (Nat → Value) → Act} {w0 : World} {blk0 : Nat → Obj} {blk1 : (Nat → Value) → Nat → Obj}
variable {ds : List (Nat × Tmp)} {lv : Nat → Nat} {R : Nat → Value → World → Prop} {Z : Nat → List Nat}

/-- The slots of what the makers of level j have made. -/
def putLv (lv : Nat → Nat) (j : Nat) (γ : Nat → Value) : List (Nat × Tmp) → Act → Act
  | [], a => a
  | x :: r, a => putLv lv j γ r (if lv x.1 = j then a.put (some x.2) (γ x.1) else a)
theorem putLv_size (j : Nat) (γ : Nat → Value) : ∀ (ds : List (Nat × Tmp)) (a : Act), (putLv lv j γ ds a).tmps.size = a.tmps.size
  | [], _ => rfl
  | x :: r, a => by rw [putLv, putLv_size j γ r]; split <;> simp [put_size]
theorem putLv_defers (j : Nat) (γ : Nat → Value) : ∀ (ds : List (Nat × Tmp)) (a : Act), (putLv lv j γ ds a).defers = a.defers
  | [], _ => rfl
  | x :: r, a => by rw [putLv, putLv_defers j γ r]; split <;> simp [put_defers]
theorem putLv_ne (j : Nat) (γ : Nat → Value) (s : Nat) : ∀ (ds : List (Nat × Tmp)) (a : Act), (∀ m d, (m, d) ∈ ds → lv m = j → d ≠ s) → (putLv lv j γ ds a).tmps[s]? = a.tmps[s]?
  | [], _, _ => rfl
  | x :: r, a, h => by
    rw [putLv, putLv_ne j γ s r _ (fun m d hm => h m d (List.mem_cons_of_mem _ hm))]
    split
    · rename_i hj
      exact put_ne _ _ _ _ (fun e => h x.1 x.2 List.mem_cons_self hj (Option.some.inj e))
    · rfl
theorem putLv_at (j : Nat) (γ : Nat → Value) (m : Nat) (d : Tmp) (hj : lv m = j) : ∀ (ds : List (Nat × Tmp)) (a : Act), (∀ m' d' m'' d'', (m', d') ∈ ds → (m'', d'') ∈ ds → m'' = m' ∨ d'' ≠ d') → (m, d) ∈ ds → d < a.tmps.size → (putLv lv j γ ds a).tmps[d]? = some (γ m)
  | [], _, _, h, _ => by cases h
  | x :: r, a, hu, h, hd => by
    rw [putLv]
    by_cases hr : ∃ m', (m', d) ∈ r
    · obtain ⟨m', hm'⟩ := hr
      have e : m' = m := ((hu m d m' d h (List.mem_cons_of_mem _ hm')).resolve_right (fun h => h rfl))
      subst e
      exact putLv_at j γ m' d hj r _ (fun a b c d h1 h2 => hu a b c d (List.mem_cons_of_mem _ h1) (List.mem_cons_of_mem _ h2)) hm' (by split <;> simpa [put_size] using hd)
    · rcases List.mem_cons.1 h with e | h
      · subst e
        rw [putLv_ne j γ d r _ (fun m' d' hm' _ he => hr ⟨m', he ▸ hm'⟩), if_pos hj, put_at _ _ _ hd]
      · exact absurd ⟨m, h⟩ hr
/-- Where the walk of a level begins. -/
def startLv (lv : Nat → Nat) (ds : List (Nat × Tmp)) (a0 : Act) (A : Nat → (Nat → Value) → Act) (γ : Nat → Value) : Nat → Act
  | 0 => a0
  | j + 1 => putLv lv j γ ds (A j γ)

structure SimL (l : List Oper) (al sts : List Nat) (own : Nat → Nat) (n : Nat) (ds : List (Nat × Tmp)) (lv : Nat → Nat) (R : Nat → Value → World → Prop) (a0 : Act) (A : Nat → (Nat → Value) → Act) (w0 : World) (blk0 : Nat → Obj) (blk1 : (Nat → Value) → Nat → Obj) (listed : Array Bool) (a : Act) (w : World) (bs : Nat → Nat) (γ : Nat → Value) : Prop where
  grown : Gr w0 w
  defers : a.defers = a0.defers
  size : a.tmps.size = a0.tmps.size
  wr : ∀ i d, i < n → listed.getD i false = true → i ∉ al ++ sts → i ∉ ds.map (·.1) → dstOf l i = some d → a.tmps[d]? = (A (lv i) γ).tmps[d]?
  wrm : ∀ m d, (m, d) ∈ ds → listed.getD m false = true → d < a0.tmps.size → a.tmps[d]? = some (γ m)
  phi : ∀ m d, (m, d) ∈ ds → listed.getD m false = true → R m (γ m) w
  aft : ∀ k, k < n → k ∉ al → listed.getD k false = true → ∀ m d, (m, d) ∈ ds → lv m < lv k → listed.getD m false = true
  als : ∀ i d, i ∈ al → listed.getD i false = true → dstOf l i = some d → (d < a0.tmps.size → a.tmps[d]? = some (.pointer (some ⟨bs i, 0, none⟩))) ∧ w0.heap.size ≤ bs i ∧ Holds' sts own blk0 (blk1 γ) listed i (w.heap[bs i]?)
  apart : ∀ i j, i ∈ al → j ∈ al → listed.getD i false = true → listed.getD j false = true → i ≠ j → bs i ≠ bs j
  old : ∀ s, (∀ i, i < n → listed.getD i false = true → dstOf l i ≠ some s) → a.tmps[s]? = a0.tmps[s]?

/-- A call that makes memory, from the slots that it looks at, wherever it comes. -/
def MakerL (P : Program) (w0 : World) (ds : List (Nat × Tmp)) (lv : Nat → Nat) (R : Nat → Value → World → Prop) (A : Nat → (Nat → Value) → Act) (l : List Oper) (m : Nat) : Prop :=
  ∀ o, l[m]? = some o → ∀ γ wb, Gr w0 wb → (∀ m' d', (m', d') ∈ ds → lv m' < lv m → R m' (γ m') wb) → ∃ f args, (execOp (A (lv m) γ).eval o).run P wb = .ok (.enter f args) wb ∧
    Calls P f args wb fun e w' => ∃ v, e = .returned v ∧ R m v w' ∧ Gr wb w'

theorem head_allL (HK : HeadOk al sts own n l) (MK : LvOk al sts ds lv L n l) {Q : Exit → Act → World → Prop}
    (hZ : ∀ j k, j ≤ L → k < n → ((Z j).contains k = false ↔ (k ∉ al ++ sts ∧ k ∉ ds.map (·.1) ∧ lv k = j)))
    (hdl : ∀ m d, (m, d) ∈ ds → lv m < L)
    (hA : ∀ j γ γ', (∀ m, lv m < j → γ m = γ' m) → A j γ = A j γ')
    (hR : ∀ m v (w w' : World), R m v w → Gr w w' → R m v w')
    (hRs : ∀ m d v (w w' : World) (i b : Nat), (m, d) ∈ ds → i ∈ al → R m v w → w.heap[b]? = some (blk0 i) → (∀ j, j ≠ b → w'.heap[j]? = w.heap[j]?) → R m v w')
    (hrun : ∀ j ∈ al, ∀ o, l[j]? = some o → ∀ (a : Act) (w : World), (execOp a.eval o).run P w = .ok (.value (.pointer (some ⟨w.heap.size, 0, none⟩))) (w.alloc (blk0 j)))
    (hsto : ∀ γ, ∀ k ∈ sts, StoreOk P l (A L γ) own blk0 (blk1 γ) k)
    (hmk : ∀ m d, (m, d) ∈ ds → MakerL P w0 ds lv R A l m)
    (hq : ∀ j γ wb, j ≤ L → Gr w0 wb → (∀ m d, (m, d) ∈ ds → lv m < j → R m (γ m) wb) → wpQuiet P l.toArray (fun w' => ∃ p : GrownBy, w' = grow (wb.drewN p.n) p.os) (fun x => x = A j γ) (headOps (Z j) n 0 l) (startLv lv ds a0 A γ j))
    (hT : ∀ listed a w bs γ, (∀ i, i < n → listed.getD i false = true) → SimL l al sts own n ds lv R a0 A w0 blk0 blk1 listed a w bs γ → wpList P l.toArray Q (l.drop n) a w) :
    ∀ (f : Nat) (listed : Array Bool) (a : Act) (w : World) (bs : Nat → Nat) (γ : Nat → Value), undone listed n = f → HeadInv .any l.toArray n listed → SimL l al sts own n ds lv R a0 A w0 blk0 blk1 listed a w bs γ →
      wpAny P .any l.toArray Q (f + (l.length - n)) listed a w := by
  have hlt := HK.lt
  have mkn : ∀ m d, (m, d) ∈ ds → m < n ∧ dstOf l m = some d ∧ m ∉ al ∧ m ∉ sts := by
    intro m d h
    obtain ⟨o, h1, _, h3, h4, h5, h6⟩ := MK.maker m d h
    exact ⟨h3, by simp [dstOf, h1, h4], h5, h6⟩
  have mem_ds : ∀ m d, (m, d) ∈ ds → m ∈ ds.map (·.1) := fun m d h => List.mem_map.2 ⟨(m, d), h, rfl⟩
  have ds_mem : ∀ m, m ∈ ds.map (·.1) → ∃ d, (m, d) ∈ ds := fun m h => by
    obtain ⟨⟨m', d⟩, h1, rfl⟩ := List.mem_map.1 h
    exact ⟨d, h1⟩
  -- a slot that no plain operation of level j sets
  have notIn : ∀ j s, j ≤ L → (∀ i, i < n → dstOf l i = some s → ¬ (i ∉ al ++ sts ∧ i ∉ ds.map (·.1) ∧ lv i = j)) → ∀ i, dstOf (headOps (Z j) n 0 l) i ≠ some s := fun j s hj h i => by
    rw [dst_head]
    split
    · rename_i hi
      split
      · exact fun h => by cases h
      · rename_i hc
        exact fun hd => h i hi hd ((hZ j i hj hi).1 (by simpa using hc))
    · exact fun h => by cases h
  intro f
  induction f with
  | zero =>
    intro listed a w bs γ hu inv S
    rw [Nat.zero_add]
    have hall := undone_zero hu
    have e : listed = Array.replicate n true ++ Array.replicate (l.length - n) false := by
      have hsz : listed.size = l.length := by have := inv.size; simpa using this
      refine Array.ext (by simp [hsz]; omega) fun i h1 h2 => ?_
      by_cases hi : i < n
      · have := hall i hi
        rw [Array.getElem_append_left (by simpa using hi)]
        simpa [h1] using this
      · have := inv.tail i (by omega) (by simpa [hsz] using h1)
        rw [Array.getElem_append_right (by simpa using hi)]
        simpa [h1] using this
    have hseq := HK.seq
    rw [← e] at hseq
    have := wpAny_of_seq (P := P) (ops := l.toArray) (md := .any) (Q' := Q) (l.drop n) n listed a w (fun j => by simp [List.getElem?_drop]) (by simpa using hseq) (hT listed a w bs γ hall S)
    simpa using this
  | succ f ih =>
    intro listed a w bs γ hu inv S
    have hsz : listed.size = l.length := by have := inv.size; simpa using this
    obtain ⟨i0, hi0, hf0, hbef⟩ := undone_pos hu
    have hf0' : listed.getD i0 true = false := by rw [getD_tf (by omega)]; exact hf0
    rw [show f + 1 + (l.length - n) = (f + (l.length - n)) + 1 by omega]
    refine ⟨fun h => ?_, fun k hk => ?_⟩
    · exfalso
      have : i0 ∈ Region.ready .any l.toArray listed := by
        rw [mem_ready]
        have hi0l : i0 < l.length := by omega
        exact ⟨hf0', l[i0], by simp, fun e he hb => hbef _ (HK.after i0 _ hi0 (by simp) e he hb)⟩
      rw [h] at this; cases this
    · have hkn : k < n := by
        rcases Nat.lt_or_ge k n with h | h
        · exact h
        · exact absurd hk (tail_waits HK.sink HK.chain (by simpa using HK.lt) inv _ i0 rfl hi0 hf0' k h)
      obtain ⟨hkun, o, ho, hdeps⟩ := mem_ready.1 hk
      have ho' : l[k]? = some o := by simpa using ho
      have hkf : listed.getD k false = false := by rw [← getD_tf (by omega)]; exact hkun
      have hu' : undone (listed.setIfInBounds k true) n = f := by have := undone_set hkn (by omega) hkf; omega
      have inv' := inv.set hk hkn
      have dk : dstOf l k = o.dst := by simp [dstOf, ho']
      have waits : ∀ j, Region.waitsFor .any l.toArray k j = true → listed.getD j false = true := by
        intro j q3
        obtain ⟨ok, hok, e, he, hb, hon⟩ := Region.waitsFor_spec q3
        have : ok = o := Option.some.inj (hok.symm.trans ho)
        subst this
        rw [← hon]; exact hdeps e he hb
      have stNot : ∀ i, k ∉ sts → (stored sts own (listed.setIfInBounds k true) i ↔ stored sts own listed i) := by
        intro i hns
        constructor
        · rintro ⟨s, hs, he, hl⟩
          exact ⟨s, hs, he, (set_of hl).resolve_left (fun h => hns (h ▸ hs))⟩
        · rintro ⟨s, hs, he, hl⟩
          exact ⟨s, hs, he, getD_set_true hl⟩
      have hnew : ∀ i d', i ∈ al → listed.getD i false = true → dstOf l i = some d' → bs i < w.heap.size := by
        intro i d' hi hl hdd
        obtain ⟨x, hx⟩ := (S.als i d' hi hl hdd).2.2.some
        exact (Array.getElem?_eq_some_iff.1 hx).1
      -- the makers of lower levels have come
      have reach : k ∉ al → ∀ m d, (m, d) ∈ ds → lv m < lv k → listed.getD m false = true := by
        intro hal m d hm hlt
        rcases MK.late k hkn hal m d hm hlt with h | ⟨j, hj, hja, hjl, hw⟩
        · exact waits m h
        · exact S.aft j hj hja (waits j hw) m d hm hjl
      have putNe : ∀ i e v, i < n → i ≠ k → dstOf l i = some e → (a.put o.dst v).tmps[e]? = a.tmps[e]? := fun i e v hi hik hde =>
        put_ne _ _ _ _ (fun he => hik (HK.dsts i k e hi hkn hde (by rw [dk, he])))
      have alLt : ∀ i, i ∈ al → i < n := fun i hi => by obtain ⟨_, _, _, _, hh, _⟩ := HK.als i hi; exact hh
      unfold wpOp
      simp only [ho]
      by_cases hal : k ∈ al
      · obtain ⟨o', d, h1, h2, h3, h4, h5⟩ := HK.als k hal
        have : o' = o := Option.some.inj (h1.symm.trans ho')
        subst this
        rw [if_pos (by simp [Region.wanted, h2])]
        refine .inl ?_
        unfold Oper.wp
        rw [hrun k hal o' ho' a w]
        simp only [Oper.upon]
        refine ih _ _ _ (fun i => if i = k then w.heap.size else bs i) γ hu' inv' ?_
        have hgr : Gr w (w.alloc (blk0 k)) := Gr.alloc _ _
        constructor
        · exact S.grown.trans hgr
        · rw [put_defers]; exact S.defers
        · rw [put_size]; exact S.size
        · intro i e hi hl hni hnm hde
          have hik : i ≠ k := fun he => hni (he ▸ List.mem_append_left _ hal)
          rw [putNe i e _ hi hik hde]
          exact S.wr i e hi ((set_of hl).resolve_left hik) hni hnm hde
        · intro m d' hm hl hd'
          obtain ⟨q1, q2, q3, _⟩ := mkn m d' hm
          have hik : m ≠ k := fun he => q3 (he ▸ hal)
          rw [putNe m d' _ q1 hik q2]
          exact S.wrm m d' hm ((set_of hl).resolve_left hik) hd'
        · intro m d' hm hl
          obtain ⟨q1, q2, q3, _⟩ := mkn m d' hm
          have hik : m ≠ k := fun he => q3 (he ▸ hal)
          exact hR _ _ _ _ (S.phi m d' hm ((set_of hl).resolve_left hik)) hgr
        · intro i hi hia hl m d' hm hlm
          have hik : i ≠ k := fun he => hia (he ▸ hal)
          exact getD_set_true (S.aft i hi hia ((set_of hl).resolve_left hik) m d' hm hlm)
        · intro i e hi hl hde
          by_cases hik : i = k
          · subst hik
            rw [if_pos rfl]
            have : d = e := Option.some.inj ((h4.symm.trans dk.symm).trans hde)
            subst this
            have hns : ¬ stored sts own (listed.setIfInBounds i true) i := by
              rw [stNot i h5]
              rintro ⟨s, hs, he, hl'⟩
              obtain ⟨os, hos, _, _, _, _, hws, _⟩ := HK.stos s hs
              obtain ⟨os', hos', e, he', hb, hon⟩ := Region.waitsFor_spec hws
              have := inv.closed s os' hos' hl' e he' hb
              rw [hon, he, hkf] at this
              cases this
            refine ⟨fun hlt => by rw [h4]; exact put_at _ _ _ (by rw [S.size]; exact hlt), S.grown.size, fun h => absurd h hns, fun _ => ?_⟩
            show (w.heap.push _)[w.heap.size]? = _
            simp
          · rw [if_neg hik]
            have hl := (set_of hl).resolve_left hik
            obtain ⟨q1, q2, q3⟩ := S.als i e hi hl hde
            refine ⟨fun hlt => by rw [putNe i e _ (alLt i hi) hik hde]; exact q1 hlt, q2, by
                  rw [hgr.block (hnew i e hi hl hde)]
                  exact ⟨fun h => q3.1 ((stNot i h5).1 h), fun h => q3.2 (fun h' => h ((stNot i h5).2 h'))⟩⟩
        · intro i j hi hj hli hlj hij
          obtain ⟨oi, di, hoi, _, _, hdi, _⟩ := HK.als i hi
          obtain ⟨oj, dj, hoj, _, _, hdj, _⟩ := HK.als j hj
          by_cases hik : i = k
          · by_cases hjk : j = k
            · exact absurd (hik.trans hjk.symm) hij
            · rw [if_pos hik, if_neg hjk]
              have hlj := (set_of hlj).resolve_left hjk
              have := hnew j dj hj hlj (by simp [dstOf, hoj, hdj])
              omega
          · rw [if_neg hik]
            have hli := (set_of hli).resolve_left hik
            by_cases hjk : j = k
            · rw [if_pos hjk]
              have := hnew i di hi hli (by simp [dstOf, hoi, hdi])
              omega
            · rw [if_neg hjk]
              exact S.apart i j hi hj hli ((set_of hlj).resolve_left hjk) hij
        · intro s hs
          rw [put_ne _ _ _ _ (fun he => hs k hkn (getD_set_self (by omega)) (by rw [dk, he]))]
          exact S.old s fun i hi hl => hs i hi (getD_set_true hl)
      · have hkl : lv k ≤ L := MK.top k hkn
        have hre := reach hal
        -- the walks up to the level of k, from here
        have walk : ∀ j, j ≤ lv k → wpQuiet P l.toArray (fun w' => ∃ p : GrownBy, w' = grow (w.drewN p.n) p.os) (fun x => x = A j γ) (headOps (Z j) n 0 l) (startLv lv ds a0 A γ j) := fun j hj =>
          hq j γ w (by omega) S.grown fun m d hm hlm => S.phi m d hm (hre m d hm (by omega))
        have lex := fun j hj => lex_walk (headOps (Z j) n 0 l) _ (hd_uniq HK) (walk j hj)
        have sizes : ∀ j, j ≤ lv k → (startLv lv ds a0 A γ j).tmps.size = a0.tmps.size ∧ (A j γ).tmps.size = a0.tmps.size := by
          intro j
          induction j with
          | zero => intro hj; exact ⟨rfl, (lex 0 hj).1.2.1⟩
          | succ j ihj =>
            intro hj
            have e : (startLv lv ds a0 A γ (j + 1)).tmps.size = a0.tmps.size := by
              show (putLv lv j γ ds (A j γ)).tmps.size = _
              rw [putLv_size]
              exact (ihj (by omega)).2
            exact ⟨e, by rw [(lex (j + 1) hj).1.2.1, e]⟩
        -- a slot of a plain operation of level p, from there on
        have keepN : ∀ i s p, i < n → dstOf l i = some s → i ∉ al ++ sts → i ∉ ds.map (·.1) → lv i = p → ∀ j, p ≤ j → j ≤ lv k → (A j γ).tmps[s]? = (A p γ).tmps[s]? := by
          intro i s p hi hd hni hnm hp j hpj
          induction j with
          | zero => intro _; have : p = 0 := by omega
                    subst this; rfl
          | succ j ihj =>
            intro hjk
            by_cases hpe : p = j + 1
            · rw [hpe]
            · rw [(lex (j + 1) hjk).1.2.2 s (notIn (j + 1) s (by omega) fun i' hi' hd' hc => hpe (by
                have := HK.dsts i i' s hi hi' hd hd'
                subst this
                exact hp.symm.trans hc.2.2))]
              show (putLv lv j γ ds (A j γ)).tmps[s]? = _
              rw [putLv_ne j γ s ds _ (fun m d hm _ he => hnm (by
                subst he
                have := HK.dsts m i d (mkn m d hm).1 hi (mkn m d hm).2.1 hd
                exact this ▸ mem_ds m d hm))]
              exact ihj (by omega) (by omega)
        have startN : ∀ i s p, i < n → dstOf l i = some s → i ∉ al ++ sts → i ∉ ds.map (·.1) → lv i = p → ∀ j, p < j → j ≤ lv k → (startLv lv ds a0 A γ j).tmps[s]? = (A p γ).tmps[s]? := by
          intro i s p hi hd hni hnm hp j hpj hjk
          cases j with
          | zero => omega
          | succ j =>
            show (putLv lv j γ ds (A j γ)).tmps[s]? = _
            rw [putLv_ne j γ s ds _ (fun m d hm _ he => hnm (by
              subst he
              have := HK.dsts m i d (mkn m d hm).1 hi (mkn m d hm).2.1 hd
              exact this ▸ mem_ds m d hm))]
            exact keepN i s p hi hd hni hnm hp j (by omega) (by omega)
        -- a slot of a maker
        have mk2 : ∀ m d, (m, d) ∈ ds → d < a0.tmps.size → ∀ j, lv m < j → j ≤ lv k → (startLv lv ds a0 A γ j).tmps[d]? = some (γ m) ∧ (A j γ).tmps[d]? = some (γ m) := by
          intro m d hm hd j
          have key : ∀ j, j ≤ lv k → (startLv lv ds a0 A γ j).tmps[d]? = some (γ m) → (A j γ).tmps[d]? = some (γ m) := fun j hj h => by
            rw [(lex j hj).1.2.2 d (notIn j d (by omega) fun i' hi' hd' hc => hc.2.1 (by
              have := HK.dsts m i' d (mkn m d hm).1 hi' (mkn m d hm).2.1 hd'
              exact this ▸ mem_ds m d hm))]
            exact h
          induction j with
          | zero => intro h; omega
          | succ j ihj =>
            intro hlm hjk
            have e : (startLv lv ds a0 A γ (j + 1)).tmps[d]? = some (γ m) := by
              show (putLv lv j γ ds (A j γ)).tmps[d]? = _
              by_cases hje : lv m = j
              · exact putLv_at j γ m d hje ds _ (fun m d m' d' h h' => MK.uniq m d m' d' h h') hm (by rw [(sizes j (by omega)).2]; exact hd)
              · rw [putLv_ne j γ d ds _ (fun m' d' hm' hl' he => hje (by
                  rcases MK.uniq m d m' d' hm hm' with h | h
                  · exact h ▸ hl'
                  · exact absurd he h))]
                exact (ihj (by omega) (by omega)).2
            exact ⟨e, key (j + 1) hjk e⟩
        -- a slot that nothing of the head sets
        have none2 : ∀ s, (∀ i, i < n → dstOf l i ≠ some s) → ∀ j, j ≤ lv k → (startLv lv ds a0 A γ j).tmps[s]? = a0.tmps[s]? ∧ (A j γ).tmps[s]? = a0.tmps[s]? := by
          intro s hno j
          have key : ∀ j, j ≤ lv k → (startLv lv ds a0 A γ j).tmps[s]? = a0.tmps[s]? → (A j γ).tmps[s]? = a0.tmps[s]? := fun j hj h => by
            rw [(lex j hj).1.2.2 s (notIn j s (by omega) fun i' hi' hd' _ => hno i' hi' hd')]
            exact h
          induction j with
          | zero => intro h; exact ⟨rfl, key 0 h rfl⟩
          | succ j ihj =>
            intro hjk
            have e : (startLv lv ds a0 A γ (j + 1)).tmps[s]? = a0.tmps[s]? := by
              show (putLv lv j γ ds (A j γ)).tmps[s]? = _
              rw [putLv_ne j γ s ds _ (fun m d hm _ he => hno m (mkn m d hm).1 (by rw [← he]; exact (mkn m d hm).2.1))]
              exact (ihj (by omega)).2
            exact ⟨e, key (j + 1) hjk e⟩
        -- what k looks at, but for the address of its own variable
        have agreeA : ∀ s ∈ o.looksAt l.toArray, (∀ j, j < n → dstOf l j = some s → j ∉ al) → a.tmps[s]? = (A (lv k) γ).tmps[s]? := by
          intro s hs hna
          by_cases hex : ∃ j, j < n ∧ dstOf l j = some s
          · obtain ⟨j, hj, hdj⟩ := hex
            obtain ⟨r1, r2, r3⟩ := HK.looks k o hkn ho' hal s hs j hj hdj
            obtain ⟨e1, e2⟩ := MK.early k o hkn ho' hal s hs j hj hdj
            have hlj := waits j r3
            have hjal := hna j hj hdj
            have hjst : j ∉ sts := fun h => by
              obtain ⟨oj, hoj, _, _, hdn, _⟩ := HK.stos j h
              simp [dstOf, hoj, hdn] at hdj
            have hjn : j ∉ al ++ sts := fun h => (List.mem_append.1 h).elim hjal hjst
            by_cases hjm : j ∈ ds.map (·.1)
            · obtain ⟨d', hm⟩ := ds_mem j hjm
              have : d' = s := Option.some.inj ((mkn j d' hm).2.1.symm.trans hdj)
              subst this
              rcases Nat.lt_or_ge d' a0.tmps.size with hlt' | hge
              · rw [S.wrm j d' hm hlj hlt', (mk2 j d' hm hlt' (lv k) (e1 hjm) (Nat.le_refl _)).2]
              · rw [Array.getElem?_eq_none (by rw [S.size]; exact hge), Array.getElem?_eq_none (by rw [(sizes (lv k) (Nat.le_refl _)).2]; exact hge)]
            · rw [S.wr j s hj hlj hjn hjm hdj, keepN j s (lv j) hj hdj hjn hjm rfl (lv k) (e2 hjm hjal) (Nat.le_refl _)]
          · have hno : ∀ i, i < n → dstOf l i ≠ some s := fun i hi hd => hex ⟨i, hi, hd⟩
            rw [S.old s fun i hi _ => hno i hi, (none2 s hno (lv k) (Nat.le_refl _)).2]
        by_cases hst : k ∈ sts
        · obtain ⟨o', h1, h2, h3, h4, h5, h6, h7⟩ := HK.stos k hst
          have : o' = o := Option.some.inj (h1.symm.trans ho')
          subst this
          have hkL : lv k = L := MK.sto k hst
          obtain ⟨oi, di, hoi, _, hin, hdi, _⟩ := HK.als (own k) h5
          have hdd : dstOf l (own k) = some di := by simp [dstOf, hoi, hdi]
          have hlo : listed.getD (own k) false = true := waits _ h6
          obtain ⟨q1, q2, q3⟩ := S.als (own k) di h5 hlo hdd
          have hnst : ¬ stored sts own listed (own k) := by
            rintro ⟨s, hs, he, hl'⟩
            have := h7 s hs he
            subst this
            rw [hkf] at hl'; cases hl'
          have agree : ∀ s ∈ o'.looksAt l.toArray, s ≠ di → a.tmps[s]? = (A L γ).tmps[s]? := by
            intro s hs hsd
            rw [← hkL]
            refine agreeA s hs fun j hj hdj hjal => ?_
            obtain ⟨r1, _, _⟩ := HK.looks k o' hkn ho' hal s hs j hj hdj
            rcases r1 with r1 | r1
            · have : j = own k := r1.2
              subst this
              exact hsd (Option.some.inj (hdj.symm.trans hdd))
            · exact r1 (List.mem_append_left _ hjal)
          obtain ⟨w1, r1, r2, r3, r4, r5, r6, r7, r8⟩ := hsto γ k hst o' di ho' hdd a w (bs (own k)) (fun hlt => q1 (by rw [← S.size]; exact hlt)) (by rw [S.size, ← hkL, (sizes (lv k) (Nat.le_refl _)).2]) agree (q3.2 hnst)
          rw [if_pos (by simp [Region.wanted, h2])]
          refine .inl ?_
          unfold Oper.wp
          rw [r1]
          simp only [Oper.upon, h4]
          refine ih _ _ _ bs γ hu' inv' ?_
          have hstO : stored sts own (listed.setIfInBounds k true) (own k) := ⟨k, hst, rfl, getD_set_self (by omega)⟩
          have hstE : ∀ i, i ≠ own k → (stored sts own (listed.setIfInBounds k true) i ↔ stored sts own listed i) := by
            intro i hi
            constructor
            · rintro ⟨s, hs, he, hl⟩
              exact ⟨s, hs, he, (set_of hl).resolve_left (fun h => hi (by rw [← he, h]))⟩
            · rintro ⟨s, hs, he, hl⟩
              exact ⟨s, hs, he, getD_set_true hl⟩
          constructor
          · exact S.grown.heap r2 r3 r4 r5 (by omega) fun j hj => r7 j (by omega)
          · exact S.defers
          · exact S.size
          · intro i e hi hl hni hnm hde
            have hik : i ≠ k := fun he => hni (he ▸ List.mem_append_right _ hst)
            exact S.wr i e hi ((set_of hl).resolve_left hik) hni hnm hde
          · intro m d' hm hl hd'
            have hik : m ≠ k := fun he => (mkn m d' hm).2.2.2 (he ▸ hst)
            exact S.wrm m d' hm ((set_of hl).resolve_left hik) hd'
          · intro m d' hm hl
            have hik : m ≠ k := fun he => (mkn m d' hm).2.2.2 (he ▸ hst)
            exact hRs m d' _ w w1 (own k) (bs (own k)) hm h5 (S.phi m d' hm ((set_of hl).resolve_left hik)) (q3.2 hnst) r7
          · intro i hi hia hl m d' hm hlm
            by_cases hik : i = k
            · exact getD_set_true (hre m d' hm (hik ▸ hlm))
            · exact getD_set_true (S.aft i hi hia ((set_of hl).resolve_left hik) m d' hm hlm)
          · intro i e hi hl hde
            have hik : i ≠ k := fun he => by subst he; exact hal hi
            have hl := (set_of hl).resolve_left hik
            obtain ⟨t1, t2, t3⟩ := S.als i e hi hl hde
            refine ⟨t1, t2, ?_⟩
            by_cases hio : i = own k
            · subst hio
              exact ⟨fun _ => r8, fun h => absurd hstO h⟩
            · rw [r7 (bs i) (S.apart i (own k) hi h5 hl hlo hio)]
              exact ⟨fun h => t3.1 ((hstE i hio).1 h), fun h => t3.2 (fun h' => h ((hstE i hio).2 h'))⟩
          · intro i j hi hj hli hlj hij
            have hik : i ≠ k := fun he => by subst he; exact hal hi
            have hjk : j ≠ k := fun he => by subst he; exact hal hj
            exact S.apart i j hi hj ((set_of hli).resolve_left hik) ((set_of hlj).resolve_left hjk) hij
          · intro s hs
            exact S.old s fun i hi hl => hs i hi (getD_set_true hl)
        · have hni : k ∉ al ++ sts := fun h => (List.mem_append.1 h).elim hal hst
          have noAl : ∀ s ∈ o.looksAt l.toArray, ∀ j, j < n → dstOf l j = some s → j ∉ al := fun s hs j hj hdj hjal => by
            obtain ⟨r1, _, _⟩ := HK.looks k o hkn ho' hal s hs j hj hdj
            rcases r1 with r1 | r1
            · exact hst r1.1
            · exact r1 (List.mem_append_left _ hjal)
          -- what is left to show behind the operation, whatever value it gave
          have fin : ∀ (v : Value) (w' : World) (γ' : Nat → Value), Gr w w' → (∀ m, m ≠ k → γ' m = γ m) →
              (k ∉ ds.map (·.1) → γ' = γ ∧ ∀ e, o.dst = some e → e < a0.tmps.size → (A (lv k) γ).tmps[e]? = some v) →
              (∀ d, (k, d) ∈ ds → v = γ' k ∧ R k (γ' k) w') →
              wpAny P .any l.toArray Q (f + (l.length - n)) (listed.setIfInBounds k true) (a.put o.dst v) w' := by
            intro v w' γ' hgr hγ hv hvm
            refine ih _ _ _ bs γ' hu' inv' ?_
            have same : ∀ j, j ≤ lv k → A j γ' = A j γ := fun j hj => hA j γ' γ fun m hm => hγ m (fun he => by subst he; omega)
            have sameI : ∀ i, i < n → i ∉ al → listed.getD i false = true → A (lv i) γ' = A (lv i) γ := fun i hi hia hl => by
              by_cases hkm : k ∈ ds.map (·.1)
              · obtain ⟨d', hm⟩ := ds_mem k hkm
                refine same _ (Nat.le_of_not_lt fun hlt => ?_)
                have := S.aft i hi hia hl k d' hm hlt
                rw [hkf] at this; cases this
              · rw [(hv hkm).1]
            constructor
            · exact S.grown.trans hgr
            · rw [put_defers]; exact S.defers
            · rw [put_size]; exact S.size
            · intro i e hi hl hni' hnm hde
              by_cases hik : i = k
              · subst hik
                obtain ⟨h1, h2⟩ := hv hnm
                rw [h1]
                rw [dk] at hde
                rcases Nat.lt_or_ge e a.tmps.size with hlt' | hge
                · rw [hde, put_at _ _ _ hlt']
                  exact (h2 e hde (by rw [← S.size]; exact hlt')).symm
                · rw [Array.getElem?_eq_none (by rw [put_size]; exact hge), Array.getElem?_eq_none (by rw [(sizes _ (Nat.le_refl _)).2, ← S.size]; exact hge)]
              · rw [putNe i e _ hi hik hde]
                have hl' := (set_of hl).resolve_left hik
                rw [sameI i hi (fun h => hni' (List.mem_append_left _ h)) hl']
                exact S.wr i e hi hl' hni' hnm hde
            · intro m d' hm hl hd'
              obtain ⟨q1, q2, _⟩ := mkn m d' hm
              by_cases hik : m = k
              · subst hik
                obtain ⟨e1, _⟩ := hvm d' hm
                have : o.dst = some d' := by rw [← dk]; exact q2
                rw [this, put_at _ _ _ (by rw [S.size]; exact hd'), e1]
              · rw [putNe m d' _ q1 hik q2, hγ m hik]
                exact S.wrm m d' hm ((set_of hl).resolve_left hik) hd'
            · intro m d' hm hl
              by_cases hik : m = k
              · subst hik
                exact (hvm d' hm).2
              · rw [hγ m hik]
                exact hR _ _ _ _ (S.phi m d' hm ((set_of hl).resolve_left hik)) hgr
            · intro i hi hia hl m d' hm hlm
              by_cases hik : i = k
              · exact getD_set_true (hre m d' hm (hik ▸ hlm))
              · exact getD_set_true (S.aft i hi hia ((set_of hl).resolve_left hik) m d' hm hlm)
            · intro i e hi hl hde
              have hik : i ≠ k := fun he => by subst he; exact hal hi
              have hl := (set_of hl).resolve_left hik
              obtain ⟨q1, q2, q3⟩ := S.als i e hi hl hde
              refine ⟨fun hlt => by rw [putNe i e _ (alLt i hi) hik hde]; exact q1 hlt, q2, ?_⟩
              rw [hgr.block (hnew i e hi hl hde)]
              refine ⟨fun h => ?_, fun h => q3.2 (fun h' => h ((stNot i hst).2 h'))⟩
              have h' := (stNot i hst).1 h
              by_cases hkm : k ∈ ds.map (·.1)
              · exfalso
                obtain ⟨s, hs, _, hls⟩ := h'
                obtain ⟨d', hm⟩ := ds_mem k hkm
                obtain ⟨_, _, _, hsn, _⟩ := HK.stos s hs
                have := S.aft s hsn (fun hsa => by obtain ⟨_, _, _, _, _, _, hh⟩ := HK.als s hsa; exact hh hs) hls k d' hm (by rw [MK.sto s hs]; exact hdl k d' hm)
                rw [hkf] at this; cases this
              · rw [(hv hkm).1]
                exact q3.1 h'
            · intro i j hi hj hli hlj hij
              have hik : i ≠ k := fun he => by subst he; exact hal hi
              have hjk : j ≠ k := fun he => by subst he; exact hal hj
              exact S.apart i j hi hj ((set_of hli).resolve_left hik) ((set_of hlj).resolve_left hjk) hij
            · intro s hs
              rw [put_ne _ _ _ _ (fun he => hs k hkn (getD_set_self (by omega)) (by rw [dk, he]))]
              exact S.old s fun i hi hl => hs i hi (getD_set_true hl)
          by_cases hkm : k ∈ ds.map (·.1)
          · -- a call that makes memory
            obtain ⟨d, hm⟩ := ds_mem k hkm
            obtain ⟨o', h1, h2, _⟩ := MK.maker k d hm
            have : o' = o := Option.some.inj (h1.symm.trans ho')
            subst this
            have hex := exec_same (ops := l.toArray) o' (fun cs b => Region.noSelect_spec HK.nosel k o' cs b ho) fun s hs => agreeA s hs (noAl s hs)
            obtain ⟨ff, args, hr, hc⟩ := hmk k d hm o' ho' γ w S.grown fun m d' hm' hlm => S.phi m d' hm' (hre m d' hm' hlm)
            rw [if_pos (by simp [Region.wanted, h2])]
            refine .inl ?_
            unfold Oper.wp
            rw [hex, hr]
            simp only [Oper.upon]
            refine hc.mono fun e w'' ⟨v, he, hb, hgr⟩ => ?_
            subst he
            refine fin v w'' (fun j => if j = k then v else γ j) hgr (fun m hne => if_neg hne) (fun h => absurd hkm h) (fun d' _ => ?_)
            simp only [if_true]
            exact ⟨trivial, hb⟩
          · obtain ⟨_, hf4⟩ := lex (lv k) (Nat.le_refl _)
            have hzk : (Z (lv k)).contains k = false := (hZ (lv k) k hkl hkn).2 ⟨hni, hkm, rfl⟩
            have hhead : (headOps (Z (lv k)) n 0 l)[k]? = some o := by
              rw [headOps_get, if_pos hkn, ho', Nat.zero_add, hzk]; rfl
            obtain ⟨ak, v, hy, hv, hg3, hg4⟩ := hf4 k o hhead
            have agree : ∀ s ∈ o.looksAt l.toArray, a.tmps[s]? = ak.tmps[s]? := by
              intro s hs
              by_cases hex : ∃ j, j < n ∧ dstOf l j = some s
              · obtain ⟨j, hj, hdj⟩ := hex
                obtain ⟨r1, r2, r3⟩ := HK.looks k o hkn ho' hal s hs j hj hdj
                obtain ⟨e1, e2⟩ := MK.early k o hkn ho' hal s hs j hj hdj
                have hlj := waits j r3
                have hjal := noAl s hs j hj hdj
                have hjst : j ∉ sts := fun h => by
                  obtain ⟨oj, hoj, _, _, hdn, _⟩ := HK.stos j h
                  simp [dstOf, hoj, hdn] at hdj
                have hjn : j ∉ al ++ sts := fun h => (List.mem_append.1 h).elim hjal hjst
                by_cases hjm : j ∈ ds.map (·.1)
                · obtain ⟨d', hm⟩ := ds_mem j hjm
                  have : d' = s := Option.some.inj ((mkn j d' hm).2.1.symm.trans hdj)
                  subst this
                  have hak : ak.tmps[d']? = (startLv lv ds a0 A γ (lv k)).tmps[d']? := hg4 d' fun i hi => notIn (lv k) d' hkl (fun i' hi' hd' hc => hc.2.1 (by
                    have := HK.dsts j i' d' hj hi' hdj hd'
                    exact this ▸ hjm)) i
                  rcases Nat.lt_or_ge d' a0.tmps.size with hlt' | hge
                  · rw [S.wrm j d' hm hlj hlt', hak, (mk2 j d' hm hlt' (lv k) (e1 hjm) (Nat.le_refl _)).1]
                  · rw [hak, Array.getElem?_eq_none (by rw [S.size]; exact hge), Array.getElem?_eq_none (by rw [(sizes (lv k) (Nat.le_refl _)).1]; exact hge)]
                · by_cases hjl : lv j = lv k
                  · rw [S.wr j s hj hlj hjn hjm hdj, hjl, hg3 s ⟨j, r2, by rw [dst_head, if_pos hj, (hZ (lv k) j hkl hj).2 ⟨hjn, hjm, hjl⟩]; exact hdj⟩]
                  · have hak : ak.tmps[s]? = (startLv lv ds a0 A γ (lv k)).tmps[s]? := hg4 s fun i hi => notIn (lv k) s hkl (fun i' hi' hd' hc => hjl (by
                      have := HK.dsts j i' s hj hi' hdj hd'
                      subst this
                      exact hc.2.2)) i
                    rw [S.wr j s hj hlj hjn hjm hdj, hak, startN j s (lv j) hj hdj hjn hjm rfl (lv k) (by have := e2 hjm hjal; omega) (Nat.le_refl _)]
              · have hno : ∀ i, i < n → dstOf l i ≠ some s := fun i hi hd => hex ⟨i, hi, hd⟩
                rw [S.old s fun i hi _ => hno i hi, hg4 s (fun i _ => notIn (lv k) s hkl (fun i' hi' hd' _ => hno i' hi' hd') i), (none2 s hno (lv k) (Nat.le_refl _)).1]
            have hex := exec_same (ops := l.toArray) o (fun cs b => Region.noSelect_spec HK.nosel k o cs b ho) agree
            have hwa := wanted_same (ops := l.toArray) o agree
            have fin' : ∀ w', Gr w w' → wpAny P .any l.toArray Q (f + (l.length - n)) (listed.setIfInBounds k true) (a.put o.dst v) w' := fun w' hgr =>
              fin v w' γ hgr (fun _ _ => rfl) (fun _ => ⟨rfl, fun e he hlt => hv e he (by rw [(sizes (lv k) (Nat.le_refl _)).1]; exact hlt)⟩) (fun d hm => absurd (mem_ds k d hm) hkm)
            rcases hy with ⟨hw, hv1⟩ | ⟨hw, rfl⟩
            · rw [if_pos (by rw [hwa]; exact hw)]
              refine .inl ?_
              have h3 := hv1 w ⟨⟨0, #[]⟩, by rw [grow_empty]; rfl⟩
              unfold Oper.quietAt at h3
              unfold Oper.wp
              rw [hex]
              generalize (execOp ak.eval o).run P w = r at h3
              cases r with
              | ok nx w' =>
                cases nx <;> simp only [Oper.quietUpon] at h3 <;> simp only [Oper.upon]
                case value u =>
                  obtain ⟨e1, e2⟩ := h3
                  rw [e1, e2]
                  exact fin' w (Gr.refl w)
                case skip =>
                  obtain ⟨e1, e2⟩ := h3
                  rw [e1, ← e2]
                  exact fin' w (Gr.refl w)
                case enter g args =>
                  obtain ⟨e1, hcc⟩ := h3
                  rw [e1]
                  exact hcc.mono fun e w'' ⟨he, hw''⟩ => by subst he; exact fin' w'' hw''
              | halt x w' => simp only [Oper.quietUpon] at h3
            · rw [if_neg (by rw [hwa, hw]; exact Bool.false_ne_true)]
              exact fin' w (Gr.refl w)

/-- What the walks of all levels tell of the slots. -/
theorem lev_facts (HK : HeadOk al sts own n l) (MK : LvOk al sts ds lv L n l) (w : World) (γ : Nat → Value)
    (hZ : ∀ j k, j ≤ L → k < n → ((Z j).contains k = false ↔ (k ∉ al ++ sts ∧ k ∉ ds.map (·.1) ∧ lv k = j)))
    (walk : ∀ j, j ≤ L → wpQuiet P l.toArray (fun w' => ∃ p : GrownBy, w' = grow (w.drewN p.n) p.os) (fun x => x = A j γ) (headOps (Z j) n 0 l) (startLv lv ds a0 A γ j)) :
    (∀ j, j ≤ L → (A j γ).tmps.size = a0.tmps.size ∧ (A j γ).defers = a0.defers) ∧
    (∀ i s, i < n → dstOf l i = some s → i ∉ al ++ sts → i ∉ ds.map (·.1) → (A L γ).tmps[s]? = (A (lv i) γ).tmps[s]?) ∧
    (∀ m d, (m, d) ∈ ds → lv m < L → d < a0.tmps.size → (A L γ).tmps[d]? = some (γ m)) ∧
    (∀ s, (∀ i, i < n → dstOf l i ≠ some s) → (A L γ).tmps[s]? = a0.tmps[s]?) := by
  have mkn : ∀ m d, (m, d) ∈ ds → m < n ∧ dstOf l m = some d := by
    intro m d h
    obtain ⟨o, h1, _, h3, h4, _⟩ := MK.maker m d h
    exact ⟨h3, by simp [dstOf, h1, h4]⟩
  have mem_ds : ∀ m d, (m, d) ∈ ds → m ∈ ds.map (·.1) := fun m d h => List.mem_map.2 ⟨(m, d), h, rfl⟩
  have notIn : ∀ j s, j ≤ L → (∀ i, i < n → dstOf l i = some s → ¬ (i ∉ al ++ sts ∧ i ∉ ds.map (·.1) ∧ lv i = j)) → ∀ i, dstOf (headOps (Z j) n 0 l) i ≠ some s := fun j s hj h i => by
    rw [dst_head]
    split
    · rename_i hi
      split
      · exact fun h => by cases h
      · rename_i hc
        exact fun hd => h i hi hd ((hZ j i hj hi).1 (by simpa using hc))
    · exact fun h => by cases h
  have lex := fun j hj => lex_walk (headOps (Z j) n 0 l) _ (hd_uniq HK) (walk j hj)
  have sizes : ∀ j, j ≤ L → ((startLv lv ds a0 A γ j).tmps.size = a0.tmps.size ∧ (startLv lv ds a0 A γ j).defers = a0.defers) ∧ (A j γ).tmps.size = a0.tmps.size ∧ (A j γ).defers = a0.defers := by
    intro j
    induction j with
    | zero => intro hj; exact ⟨⟨rfl, rfl⟩, (lex 0 hj).1.2.1, (lex 0 hj).1.1⟩
    | succ j ihj =>
      intro hj
      have e : (startLv lv ds a0 A γ (j + 1)).tmps.size = a0.tmps.size ∧ (startLv lv ds a0 A γ (j + 1)).defers = a0.defers := by
        show (putLv lv j γ ds (A j γ)).tmps.size = _ ∧ (putLv lv j γ ds (A j γ)).defers = _
        rw [putLv_size, putLv_defers]
        exact (ihj (by omega)).2
      exact ⟨e, by rw [(lex (j + 1) hj).1.2.1, e.1], by rw [(lex (j + 1) hj).1.1, e.2]⟩
  have keepN : ∀ i s, i < n → dstOf l i = some s → i ∉ al ++ sts → i ∉ ds.map (·.1) → ∀ j, lv i ≤ j → j ≤ L → (A j γ).tmps[s]? = (A (lv i) γ).tmps[s]? := by
    intro i s hi hd hni hnm j hpj
    induction j with
    | zero => intro _; rw [show lv i = 0 by omega]
    | succ j ihj =>
      intro hjk
      by_cases hpe : lv i = j + 1
      · rw [hpe]
      · rw [(lex (j + 1) hjk).1.2.2 s (notIn (j + 1) s (by omega) fun i' hi' hd' hc => hpe (by
            have := HK.dsts i i' s hi hi' hd hd'
            subst this
            exact hc.2.2))]
        show (putLv lv j γ ds (A j γ)).tmps[s]? = _
        rw [putLv_ne j γ s ds _ (fun m d hm _ he => hnm (by
          subst he
          have := HK.dsts m i d (mkn m d hm).1 hi (mkn m d hm).2 hd
          exact this ▸ mem_ds m d hm))]
        exact ihj (by omega) (by omega)
  refine ⟨fun j hj => (sizes j hj).2, fun i s hi hd hni hnm => keepN i s hi hd hni hnm L (MK.top i hi) (Nat.le_refl _), ?_, ?_⟩
  · intro m d hm hlm hd
    have : ∀ j, lv m < j → j ≤ L → (A j γ).tmps[d]? = some (γ m) := by
      intro j
      induction j with
      | zero => intro h; omega
      | succ j ihj =>
        intro hlm hjk
        rw [(lex (j + 1) hjk).1.2.2 d (notIn (j + 1) d (by omega) fun i' hi' hd' hc => hc.2.1 (by
          have := HK.dsts m i' d (mkn m d hm).1 hi' (mkn m d hm).2 hd'
          exact this ▸ mem_ds m d hm))]
        show (putLv lv j γ ds (A j γ)).tmps[d]? = _
        by_cases hje : lv m = j
        · exact putLv_at j γ m d hje ds _ (fun m d m' d' h h' => MK.uniq m d m' d' h h') hm (by rw [(sizes j (by omega)).2.1]; exact hd)
        · rw [putLv_ne j γ d ds _ (fun m' d' hm' hl' he => hje (by
            rcases MK.uniq m d m' d' hm hm' with h | h
            · exact h ▸ hl'
            · exact absurd he h))]
          exact ihj (by omega) (by omega)
    exact this L hlm (Nat.le_refl _)
  · intro s hno
    have : ∀ j, j ≤ L → (A j γ).tmps[s]? = a0.tmps[s]? := by
      intro j
      induction j with
      | zero => intro h; rw [(lex 0 h).1.2.2 s (notIn 0 s (by omega) fun i' hi' hd' _ => hno i' hi' hd')]; rfl
      | succ j ihj =>
        intro hjk
        rw [(lex (j + 1) hjk).1.2.2 s (notIn (j + 1) s (by omega) fun i' hi' hd' _ => hno i' hi' hd')]
        show (putLv lv j γ ds (A j γ)).tmps[s]? = _
        rw [putLv_ne j γ s ds _ (fun m d hm _ he => hno m (mkn m d hm).1 (by rw [← he]; exact (mkn m d hm).2))]
        exact ihj (by omega)
    exact this L (Nat.le_refl _)
end

section
variable {P : Program} {l : List Oper} {id : Nat} {Q : Exit → Act → World → Prop} {a : Act} {w : World}

theorem wp_headL {al sts : List Nat} {own : Nat → Nat} {ds : List (Nat × Tmp)} {A : Nat → (Nat → Value) → Act} {blk0 : Nat → Obj} {blk1 : (Nat → Value) → Nat → Obj} {R : Nat → Value → World → Prop} (n L : Nat) (lv : List Nat) (Z : Nat → List Nat) (hm : P.follows .mixedOrders = true) (hB : headB al sts own n l = true) (hM : lvB al sts ds lv L n l = true)
    (hZ : (List.range (L + 1)).all (fun j => (List.range n).all (fun k => (Z j).contains k == !(!(al ++ sts ++ ds.map (·.1)).contains k && lv.getD k 0 == j))) = true)
    (hds : ds.all (fun x => decide (lv.getD x.1 0 < L)) = true)
    (hA : ∀ j γ γ', (∀ m, lv.getD m 0 < j → γ m = γ' m) → A j γ = A j γ')
    (hR : ∀ m v (w w' : World), R m v w → Gr w w' → R m v w')
    (hRs : ∀ m d v (w w' : World) (i b : Nat), (m, d) ∈ ds → i ∈ al → R m v w → w.heap[b]? = some (blk0 i) → (∀ j, j ≠ b → w'.heap[j]? = w.heap[j]?) → R m v w')
    (hrun : ∀ j ∈ al, ∀ o, l[j]? = some o → ∀ (a : Act) (w : World), (execOp a.eval o).run P w = .ok (.value (.pointer (some ⟨w.heap.size, 0, none⟩))) (w.alloc (blk0 j)))
    (hsto : ∀ γ, ∀ k ∈ sts, StoreOk P l (A L γ) own blk0 (blk1 γ) k)
    (hmk : ∀ m d, (m, d) ∈ ds → MakerL P w ds (fun k => lv.getD k 0) R A l m)
    (hq : ∀ j γ wb, j ≤ L → Gr w wb → (∀ m d, (m, d) ∈ ds → lv.getD m 0 < j → R m (γ m) wb) → wpQuiet P l.toArray (fun w' => ∃ p : GrownBy, w' = grow (wb.drewN p.n) p.os) (fun x => x = A j γ) (headOps (Z j) n 0 l) (startLv (fun k => lv.getD k 0) ds a A γ j))
    (hT : ∀ (a' : Act) (w' : World) (bs : Nat → Nat) (γ : Nat → Value), Gr w w' → (∀ m d, (m, d) ∈ ds → R m (γ m) w') →
      (∀ i d, i ∈ al → dstOf l i = some d → (d < a.tmps.size → a'.tmps[d]? = some (.pointer (some ⟨bs i, 0, none⟩))) ∧ w.heap.size ≤ bs i ∧ ((∃ s ∈ sts, own s = i) → w'.heap[bs i]? = some (blk1 γ i)) ∧ ((¬ ∃ s ∈ sts, own s = i) → w'.heap[bs i]? = some (blk0 i))) →
      a'.defers = (A L γ).defers → a'.tmps.size = a.tmps.size → (A L γ).tmps.size = a.tmps.size → (∀ s : Nat, (∀ i, i ∈ al → dstOf l i ≠ some s) → a'.tmps[s]? = (A L γ).tmps[s]?) → wpList P l.toArray Q (l.drop n) a' w') : (Code.region id l.toArray true).wp P Q a w := by
  have HK := headOk_of hB
  have MK := lvOk_of hM
  have hz : ∀ j k, j ≤ L → k < n → ((Z j).contains k = false ↔ (k ∉ al ++ sts ∧ k ∉ ds.map (·.1) ∧ lv.getD k 0 = j)) := by
    intro j k hj hk
    have := List.all_eq_true.1 (List.all_eq_true.1 hZ j (List.mem_range.2 (by omega))) k (List.mem_range.2 hk)
    simp only [beq_iff_eq] at this
    rw [this]
    simp only [Bool.not_eq_false', Bool.and_eq_true, Bool.not_eq_true', beq_iff_eq]
    constructor
    · rintro ⟨h1, h2⟩
      have h3 : k ∉ al ++ sts ++ ds.map (·.1) := fun h => by rw [List.contains_iff_mem.2 h] at h1; cases h1
      exact ⟨fun h => h3 (List.mem_append_left _ h), fun h => h3 (List.mem_append_right _ h), h2⟩
    · rintro ⟨h1, h2, h3⟩
      refine ⟨?_, h3⟩
      cases hc : (al ++ sts ++ ds.map (·.1)).contains k with
      | false => rfl
      | true => exact absurd (List.contains_iff_mem.1 hc) fun h => (List.mem_append.1 h).elim h1 h2
  have hdl : ∀ m d, (m, d) ∈ ds → lv.getD m 0 < L := fun m d h => by simpa using List.all_eq_true.1 hds (m, d) h
  refine wp_region_any hm ?_
  have hlt := HK.lt
  have := head_allL (P := P) (Q := Q) (blk0 := blk0) (blk1 := blk1) (A := A) (R := R) (Z := Z) (w0 := { w with drawn := w.drawn + 1 }) HK MK hz hdl hA hR hRs hrun hsto (fun m d h o ho γ wb hb => hmk m d h o ho γ wb (gr_drawn hb)) (fun j γ wb hj h => hq j γ wb hj (gr_drawn h))
    (fun listed a' w' bs γ hl S => by
      have mkn : ∀ m d, (m, d) ∈ ds → m < n ∧ dstOf l m = some d := by
        intro m d h
        obtain ⟨o, h1, _, h3, h4, _⟩ := MK.maker m d h
        exact ⟨h3, by simp [dstOf, h1, h4]⟩
      have hph : ∀ m d, (m, d) ∈ ds → R m (γ m) w' := fun m d hm => S.phi m d hm (hl m (mkn m d hm).1)
      obtain ⟨f1, f2, f3, f4⟩ := lev_facts HK MK w' γ hz (fun j hj => hq j γ w' hj (gr_drawn S.grown) fun m d hm _ => hph m d hm)
      refine hT a' w' bs γ (gr_drawn S.grown) hph (fun i d hi hd => ?_) (by rw [S.defers, (f1 L (Nat.le_refl _)).2]) S.size (f1 L (Nat.le_refl _)).1 (fun s hs => ?_)
      · obtain ⟨_, _, _, _, hin, _⟩ := HK.als i hi
        obtain ⟨q1, q2, q3⟩ := S.als i d hi (hl i hin) hd
        refine ⟨q1, q2, fun ⟨s, hs, he⟩ => ?_, fun hno => q3.2 fun ⟨s, hs, he, _⟩ => hno ⟨s, hs, he⟩⟩
        obtain ⟨_, _, _, hsn, _⟩ := HK.stos s hs
        exact q3.1 ⟨s, hs, he, hl s hsn⟩
      · by_cases hex : ∃ i, i < n ∧ dstOf l i = some s
        · obtain ⟨i, hi, hd⟩ := hex
          have hni : i ∉ al ++ sts := fun h => by
            rcases List.mem_append.1 h with h | h
            · exact hs i h hd
            · obtain ⟨o, ho, _, _, hdn, _⟩ := HK.stos i h
              simp [dstOf, ho, hdn] at hd
          by_cases hm : i ∈ ds.map (·.1)
          · obtain ⟨⟨m, d⟩, hmem, rfl⟩ := List.mem_map.1 hm
            have : d = s := Option.some.inj ((mkn m d hmem).2.symm.trans hd)
            subst this
            rcases Nat.lt_or_ge d a.tmps.size with hlt' | hge
            · rw [S.wrm m d hmem (hl m hi) hlt', f3 m d hmem (hdl m d hmem) hlt']
            · rw [Array.getElem?_eq_none (by rw [S.size]; exact hge), Array.getElem?_eq_none (by rw [(f1 L (Nat.le_refl _)).1]; exact hge)]
          · rw [S.wr i s hi (hl i hi) hni hm hd, f2 i s hi hd hni hm]
        · have hno : ∀ i, i < n → dstOf l i ≠ some s := fun i hi hd => hex ⟨i, hi, hd⟩
          rw [S.old s fun i hi _ => hno i hi, f4 s hno])
    n (Array.replicate l.length false) a { w with drawn := w.drawn + 1 } (fun _ => 0) (fun _ => .nilIface)
    (by
      unfold undone
      rw [List.filter_eq_self.2 (fun i _ => by rw [getD_replicate_false]; rfl)]; simp)
    ⟨by simp, fun j oj _ hl => (by rw [getD_replicate_false] at hl; cases hl), fun t _ ht => getD_in (by simpa using ht) (getD_replicate_false _ _)⟩
    ⟨Gr.refl _, rfl, rfl, fun i d _ hl => (by rw [getD_replicate_false] at hl; cases hl), fun i d _ hl => (by rw [getD_replicate_false] at hl; cases hl), fun i d _ hl => (by rw [getD_replicate_false] at hl; cases hl), fun k _ _ hl => (by rw [getD_replicate_false] at hl; cases hl), fun i d _ hl => (by rw [getD_replicate_false] at hl; cases hl), fun i j _ _ hl => (by rw [getD_replicate_false] at hl; cases hl), fun _ _ => rfl⟩
  rw [show n + (l.length - n) = l.toArray.size by simp; omega] at this
  simpa using this

/-- One call (operation c, slot dc) makes memory, of what nothing else has made; a variable of T is made by operation i (its address goes to slot dv), and by operation k what slot x holds is stored into it. -/
theorem wp_regL1s {D : Type} [Nonempty D] {o os : Oper} {T : TypeId} (V : D → Value) (R : D → World → Prop) (zs : Array Value) (n c dc i dv k x : Nat) (lv z0 z1 : List Nat) (hm : P.follows .mixedOrders = true) (hB : headB [i] [k] (fun _ => i) n l = true) (hM : lvB [i] [k] [(c, dc)] lv 1 n l = true)
    (hlc : lv.getD c 0 = 0) (hZ : (List.range 2).all (fun j => (List.range n).all (fun q => (if j = 0 then z0 else z1).contains q == !(!([i] ++ [k] ++ [c]).contains q && lv.getD q 0 == j))) = true)
    (ho : l[i]? = some o) (hod : o.dst = some dv) (hda : dv < a.tmps.size) (hos : l[k]? = some os) (hop : os.op = .store T (.tmp dv) (.tmp x)) (hdx : dv ≠ x)
    (hrun : ∀ (a : Act) (w : World), (execOp a.eval o).run P w = .ok (.value (.pointer (some ⟨w.heap.size, 0, none⟩))) (w.alloc (.cells zs T))) (hi : (P.info? T).map (·.size) = some zs.size)
    (hV : ∀ δ δ', V δ = V δ' → δ = δ') (hR : ∀ δ (w w' : World), R δ w → Gr w w' → R δ w') (hRs : ∀ δ (w w' : World) (b : Nat), R δ w → w.heap[b]? = some (.cells zs T) → (∀ j, j ≠ b → w'.heap[j]? = w.heap[j]?) → R δ w')
    (h : ∃ A0, ∃ A1 : D → Act, ∃ cs : D → Array Value, (∀ wb, Gr w wb → wpQuiet P l.toArray (fun w' => ∃ p : GrownBy, w' = grow (wb.drewN p.n) p.os) (fun x => x = A0) (headOps z0 n 0 l) a) ∧
      (∀ o, l[c]? = some o → ∀ wb, Gr w wb → ∃ f args, (execOp A0.eval o).run P wb = .ok (.enter f args) wb ∧ Calls P f args wb fun e w' => ∃ δ, e = .returned (V δ) ∧ R δ w' ∧ Gr wb w') ∧
      (∀ δ wb, Gr w wb → R δ wb → wpQuiet P l.toArray (fun w' => ∃ p : GrownBy, w' = grow (wb.drewN p.n) p.os) (fun x => x = A1 δ) (headOps z1 n 0 l) (A0.put (some dc) (V δ))) ∧
      (∀ δ, (A1 δ).tmps[x]? = some (.agg (cs δ)) ∧ (A1 δ).tmps.size = a.tmps.size) ∧ (∀ δ, zs.size = (cs δ).size ∧ (cs δ).all (·.oneCell') = true) ∧
      ∀ δ w' b, Gr w w' → R δ w' → w.heap.size ≤ b → w'.heap[b]? = some (.cells (cs δ) T) → wpList P l.toArray Q (l.drop n) ((A1 δ).put (some dv) (.pointer (some ⟨b, 0, none⟩))) w') : (Code.region id l.toArray true).wp P Q a w := by
  obtain ⟨A0, A1, cs, hq0, hmk, hq1, hx, h1, hT⟩ := h
  obtain ⟨dec, hdec⟩ : ∃ dec : Value → D, ∀ δ, dec (V δ) = δ := ⟨fun v => Classical.epsilon (fun δ => V δ = v), fun δ => hV _ _ (Classical.epsilon_spec (p := fun δ' => V δ' = V δ) ⟨δ, rfl⟩)⟩
  have HK := headOk_of hB
  have hdi : dstOf l i = some dv := by simp [dstOf, ho, hod]
  refine wp_headL (al := [i]) (sts := [k]) (own := fun _ => i) (ds := [(c, dc)]) (A := fun j γ => if j = 0 then A0 else A1 (dec (γ c))) (blk0 := fun _ => .cells zs T) (blk1 := fun γ _ => .cells (cs (dec (γ c))) T) (R := fun _ v w => ∃ δ, v = V δ ∧ R δ w) n 1 lv (fun j => if j = 0 then z0 else z1) hm hB hM (by simpa using hZ) (by simp only [List.all_cons, List.all_nil, hlc]; decide) (fun j γ γ' hg => ?_) (fun m v w w' ⟨δ, h1, h2⟩ hg => ⟨δ, h1, hR δ w w' h2 hg⟩) (fun m d v w w' i' b _ _ ⟨δ, h1, h2⟩ hb hs => ⟨δ, h1, hRs δ w w' b h2 hb hs⟩) (fun j h o' ho' => ?_) (fun γ j h => ?_) (fun m d hmd => ?_) (fun j γ wb hj hg hr => ?_) (fun a' w' bs γ hg hp hal hd hs1 hs2 he => ?_)
  · by_cases hj : j = 0
    · simp [hj]
    · simp only [if_neg hj]
      rw [hg c (by rw [hlc]; omega)]
  · have : j = i := by simpa using h
    subst this
    have : o' = o := Option.some.inj (ho'.symm.trans ho)
    subst this
    exact hrun
  · have : j = k := by simpa using h
    subst this
    intro o' d' ho' hd' a' w' b g1 g2 g3 g4
    have : o' = os := Option.some.inj (ho'.symm.trans hos)
    subst this
    have : d' = dv := Option.some.inj (hd'.symm.trans hdi)
    subst this
    simp only [Nat.one_ne_zero, if_false] at g2 g3
    have gd : a'.eval (.tmp d') = .pointer (some ⟨b, 0, none⟩) := by
      simp [Act.eval, Array.getD_eq_getD_getElem?, g1 (by rw [g2, (hx _).2]; exact hda)]
    have gx : a'.eval (.tmp x) = .agg (cs (dec (γ c))) := by
      have := g3 x (List.mem_append_left _ (List.mem_filterMap.2 ⟨.tmp x, by rw [hop]; simp [Op.operands], rfl⟩)) (Ne.symm hdx)
      simp [Act.eval, Array.getD_eq_getD_getElem?, this, (hx _).1]
    obtain ⟨z1, z2⟩ := h1 (dec (γ c))
    refine ⟨w'.setRow b (cs (dec (γ c))), ?_, rfl, rfl, rfl, rfl, by simp [World.setRow], fun k hk => heap_setRow w' b _ k hk, heap_setRow_at w' b _ zs T g4⟩
    obtain ⟨ds, op, ty, pos, aft, gu⟩ := o'
    simp only at hop
    subst hop
    have := run_storeVar_row (P := P) w' b T T zs (cs (dec (γ c))) g4 (by rw [hi, z1]) z1 z2
    have e : Instr.storeAt T (.pointer (some ⟨b, 0, none⟩)) (.agg (cs (dec (γ c)))) = storeVar T ⟨b, 0, none⟩ (.agg (cs (dec (γ c)))) := rfl
    simp only [execOp, gd, gx, e]
    generalize storeVar T ⟨b, 0, none⟩ (.agg (cs (dec (γ c)))) = sv at this ⊢
    simp [go_sem, this]
  · have : m = c := congrArg Prod.fst (List.mem_singleton.1 hmd)
    subst this
    intro o' ho' γ wb hg _
    obtain ⟨f, args, e1, e2⟩ := hmk o' ho' wb hg
    refine ⟨f, args, by simp only [hlc, if_true]; exact e1, e2.mono fun e w' ⟨δ, h1, h2, h3⟩ => ⟨V δ, h1, ⟨δ, rfl, h2⟩, h3⟩⟩
  · by_cases hj0 : j = 0
    · subst hj0
      exact hq0 wb hg
    · have hj1 : j = 1 := by omega
      subst hj1
      obtain ⟨δ, hv, hr⟩ := hr c dc (by simp) (by rw [hlc]; omega)
      have e : startLv (fun k => lv.getD k 0) [(c, dc)] a (fun j γ => if j = 0 then A0 else A1 (dec (γ c))) γ 1 = A0.put (some dc) (V δ) := by
        simp only [startLv, putLv, if_true]
        rw [if_pos hlc, hv]
      rw [e]
      simp only [Nat.one_ne_zero, if_false]
      rw [hv, hdec]
      exact hq1 δ wb hg hr
  · obtain ⟨δ, hv, hr⟩ := hp c dc (by simp)
    simp only [Nat.one_ne_zero, if_false] at hd hs2 he
    obtain ⟨s1, s2, s3, _⟩ := hal i dv (by simp) hdi
    have s3 := s3 ⟨k, by simp, rfl⟩
    simp only [hv, hdec] at hd hs2 he s3
    have e : a' = (A1 δ).put (some dv) (.pointer (some ⟨bs i, 0, none⟩)) := act_ext (by rw [put_defers]; exact hd) fun s => by
      by_cases hs' : s = dv
      · subst hs'
        rw [s1 hda, put_at _ _ _ (by rw [hs2]; exact hda)]
      · rw [put_ne _ _ _ _ (fun he => hs' (Option.some.inj he).symm)]
        exact he s fun j hj hd' => by
          have : j = i := by simpa using hj
          subst this
          exact hs' (Option.some.inj (hd'.symm.trans hdi))
    rw [e]
    exact hT δ w' (bs i) hg hr s2 s3
/-- One call makes memory (operation c, slot dc); of its answer a property is known. -/
theorem wp_regL1 {D : Type} [Nonempty D] (V : D → Value) (R : D → World → Prop) (n c dc : Nat) (lv z0 z1 : List Nat) (hm : P.follows .mixedOrders = true) (hB : headB [] [] (fun i => i) n l = true) (hM : lvB [] [] [(c, dc)] lv 1 n l = true)
    (hlc : lv.getD c 0 = 0) (hZ : (List.range 2).all (fun j => (List.range n).all (fun q => (if j = 0 then z0 else z1).contains q == !(!([] ++ [] ++ [c]).contains q && lv.getD q 0 == j))) = true)
    (hV : ∀ δ δ', V δ = V δ' → δ = δ') (hR : ∀ δ (w w' : World), R δ w → Gr w w' → R δ w')
    (h : ∃ A0, ∃ A1 : D → Act, (∀ wb, Gr w wb → wpQuiet P l.toArray (fun w' => ∃ p : GrownBy, w' = grow (wb.drewN p.n) p.os) (fun x => x = A0) (headOps z0 n 0 l) a) ∧
      (∀ o, l[c]? = some o → ∀ wb, Gr w wb → ∃ f args, (execOp A0.eval o).run P wb = .ok (.enter f args) wb ∧ Calls P f args wb fun e w' => ∃ δ, e = .returned (V δ) ∧ R δ w' ∧ Gr wb w') ∧
      (∀ δ wb, Gr w wb → R δ wb → wpQuiet P l.toArray (fun w' => ∃ p : GrownBy, w' = grow (wb.drewN p.n) p.os) (fun x => x = A1 δ) (headOps z1 n 0 l) (A0.put (some dc) (V δ))) ∧
      ∀ δ w', Gr w w' → R δ w' → wpList P l.toArray Q (l.drop n) (A1 δ) w') : (Code.region id l.toArray true).wp P Q a w := by
  obtain ⟨A0, A1, hq0, hmk, hq1, hT⟩ := h
  obtain ⟨dec, hdec⟩ : ∃ dec : Value → D, ∀ δ, dec (V δ) = δ := ⟨fun v => Classical.epsilon (fun δ => V δ = v), fun δ => hV _ _ (Classical.epsilon_spec (p := fun δ' => V δ' = V δ) ⟨δ, rfl⟩)⟩
  have HK := headOk_of hB
  refine wp_headL (al := []) (sts := []) (own := (fun i => i)) (ds := [(c, dc)]) (A := fun j γ => if j = 0 then A0 else A1 (dec (γ c))) (blk0 := fun _ => default) (blk1 := fun γ _ => default) (R := fun _ v w => ∃ δ, v = V δ ∧ R δ w) n 1 lv (fun j => if j = 0 then z0 else z1) hm hB hM (by simpa using hZ) (by simp only [List.all_cons, List.all_nil, hlc]; decide) (fun j γ γ' hg => ?_) (fun m v w w' ⟨δ, h1, h2⟩ hg => ⟨δ, h1, hR δ w w' h2 hg⟩) (fun m d v w w' i' b hmd hia hr hb hs => ?_) (fun j h o' ho' => ?_) (fun γ j h => ?_) (fun m d hmd => ?_) (fun j γ wb hj hg hr => ?_) (fun a' w' bs γ hg hp hal hd hs1 hs2 he => ?_)
  · by_cases hj : j = 0
    · simp [hj]
    · simp only [if_neg hj]
      rw [hg c (by rw [hlc]; omega)]
  · cases hia
  · cases h
  · cases h
  · have : m = c := congrArg Prod.fst (List.mem_singleton.1 hmd)
    subst this
    intro o' ho' γ wb hg _
    obtain ⟨f, args, e1, e2⟩ := hmk o' ho' wb hg
    refine ⟨f, args, by simp only [hlc, if_true]; exact e1, e2.mono fun e w' ⟨δ, h1, h2, h3⟩ => ⟨V δ, h1, ⟨δ, rfl, h2⟩, h3⟩⟩
  · by_cases hj0 : j = 0
    · subst hj0
      exact hq0 wb hg
    · have hj1 : j = 1 := by omega
      subst hj1
      obtain ⟨δ, hv, hr⟩ := hr c dc (by simp) (by rw [hlc]; omega)
      have e : startLv (fun k => lv.getD k 0) [(c, dc)] a (fun j γ => if j = 0 then A0 else A1 (dec (γ c))) γ 1 = A0.put (some dc) (V δ) := by
        simp only [startLv, putLv, if_true]
        rw [if_pos hlc, hv]
      rw [e]
      simp only [Nat.one_ne_zero, if_false]
      rw [hv, hdec]
      exact hq1 δ wb hg hr
  · obtain ⟨δ, hv, hr⟩ := hp c dc (by simp)
    simp only [Nat.one_ne_zero, if_false] at hd hs2 he
    simp only [hv, hdec] at hd hs2 he
    rw [act_ext hd fun s => he s (fun i h => by cases h)]
    exact hT δ w' hg hr
/-- Two calls make memory: the first one (operation m, slot d) of what nothing has made, the other one (c, dc) of what the first has. -/
theorem wp_regL2 {D E : Type} [Nonempty D] [Nonempty E] (V : D → Value) (R : D → World → Prop) (U : E → Value) (S : E → World → Prop) (n m d c dc : Nat) (lv z0 z1 z2 : List Nat) (hm : P.follows .mixedOrders = true) (hB : headB [] [] (fun i => i) n l = true) (hM : lvB [] [] [(m, d), (c, dc)] lv 2 n l = true)
    (hlm : lv.getD m 0 = 0) (hlc : lv.getD c 0 = 1) (hZ : (List.range 3).all (fun j => (List.range n).all (fun q => (if j = 0 then z0 else if j = 1 then z1 else z2).contains q == !(!([] ++ [] ++ [m, c]).contains q && lv.getD q 0 == j))) = true)
    (hV : ∀ δ δ', V δ = V δ' → δ = δ') (hR : ∀ δ (w w' : World), R δ w → Gr w w' → R δ w')
    (hU : ∀ δ δ', U δ = U δ' → δ = δ') (hS : ∀ δ (w w' : World), S δ w → Gr w w' → S δ w')
    (h : ∃ A0, ∃ A1 : D → Act, ∃ A2 : D → E → Act, (∀ wb, Gr w wb → wpQuiet P l.toArray (fun w' => ∃ p : GrownBy, w' = grow (wb.drewN p.n) p.os) (fun x => x = A0) (headOps z0 n 0 l) a) ∧
      (∀ o, l[m]? = some o → ∀ wb, Gr w wb → ∃ f args, (execOp A0.eval o).run P wb = .ok (.enter f args) wb ∧ Calls P f args wb fun e w' => ∃ δ, e = .returned (V δ) ∧ R δ w' ∧ Gr wb w') ∧
      (∀ δ wb, Gr w wb → R δ wb → wpQuiet P l.toArray (fun w' => ∃ p : GrownBy, w' = grow (wb.drewN p.n) p.os) (fun x => x = A1 δ) (headOps z1 n 0 l) (A0.put (some d) (V δ))) ∧
      (∀ o, l[c]? = some o → ∀ δ wb, Gr w wb → R δ wb → ∃ f args, (execOp (A1 δ).eval o).run P wb = .ok (.enter f args) wb ∧ Calls P f args wb fun e w' => ∃ ε, e = .returned (U ε) ∧ S ε w' ∧ Gr wb w') ∧
      (∀ δ ε wb, Gr w wb → R δ wb → S ε wb → wpQuiet P l.toArray (fun w' => ∃ p : GrownBy, w' = grow (wb.drewN p.n) p.os) (fun x => x = A2 δ ε) (headOps z2 n 0 l) ((A1 δ).put (some dc) (U ε))) ∧
      ∀ δ ε w', Gr w w' → R δ w' → S ε w' → wpList P l.toArray Q (l.drop n) (A2 δ ε) w') : (Code.region id l.toArray true).wp P Q a w := by
  obtain ⟨A0, A1, A2, hq0, hmk, hq1, hck, hq2, hT⟩ := h
  obtain ⟨dec, hdec⟩ : ∃ dec : Value → D, ∀ δ, dec (V δ) = δ := ⟨fun v => Classical.epsilon (fun δ => V δ = v), fun δ => hV _ _ (Classical.epsilon_spec (p := fun δ' => V δ' = V δ) ⟨δ, rfl⟩)⟩
  obtain ⟨dec', hdec'⟩ : ∃ dec : Value → E, ∀ δ, dec (U δ) = δ := ⟨fun v => Classical.epsilon (fun δ => U δ = v), fun δ => hU _ _ (Classical.epsilon_spec (p := fun δ' => U δ' = U δ) ⟨δ, rfl⟩)⟩
  have HK := headOk_of hB
  have hmc : m ≠ c := fun he => by rw [he, hlc] at hlm; cases hlm
  refine wp_headL (al := []) (sts := []) (own := (fun i => i)) (ds := [(m, d), (c, dc)]) (A := fun j γ => if j = 0 then A0 else if j = 1 then A1 (dec (γ m)) else A2 (dec (γ m)) (dec' (γ c))) (blk0 := fun _ => default) (blk1 := fun γ _ => default) (R := fun q v w => (q = m → ∃ δ, v = V δ ∧ R δ w) ∧ (q = c → ∃ ε, v = U ε ∧ S ε w)) n 2 lv (fun j => if j = 0 then z0 else if j = 1 then z1 else z2) hm hB hM (by simpa using hZ) (by simp only [List.all_cons, List.all_nil, hlm, hlc]; decide) (fun j γ γ' hg => ?_) (fun q v w w' hr hg => ⟨fun h => ?_, fun h => ?_⟩) (fun q d' v w w' i' b _ hia hr hb hs => ?_) (fun j h o' ho' => ?_) (fun γ j h => ?_) (fun q d' hmd => ?_) (fun j γ wb hj hg hr => ?_) (fun a' w' bs γ hg hp hal hd hs1 hs2 he => ?_)
  · by_cases hj : j = 0
    · simp [hj]
    · simp only [if_neg hj]
      rw [hg m (by rw [hlm]; omega)]
      by_cases hj1 : j = 1
      · simp [hj1]
      · simp only [if_neg hj1]
        rw [hg c (by rw [hlc]; omega)]
  · obtain ⟨δ, h1, h2⟩ := hr.1 h
    exact ⟨δ, h1, hR δ w w' h2 hg⟩
  · obtain ⟨δ, h1, h2⟩ := hr.2 h
    exact ⟨δ, h1, hS δ w w' h2 hg⟩
  · cases hia
  · cases h
  · cases h
  · intro o' ho' γ wb hg hr
    rcases List.mem_cons.1 hmd with e | e
    · have : q = m := congrArg Prod.fst e
      subst this
      obtain ⟨f, args, e1, e2⟩ := hmk o' ho' wb hg
      exact ⟨f, args, by simp only [hlm, if_true]; exact e1, e2.mono fun e w' ⟨δ, h1, h2, h3⟩ => ⟨V δ, h1, ⟨fun _ => ⟨δ, rfl, h2⟩, fun h => absurd h hmc⟩, h3⟩⟩
    · have : q = c := congrArg Prod.fst (List.mem_singleton.1 e)
      subst this
      obtain ⟨δ, hv, hrd⟩ := (hr m d (by simp) (by simp only [hlm, hlc]; omega)).1 rfl
      obtain ⟨f, args, e1, e2⟩ := hck o' ho' δ wb hg hrd
      exact ⟨f, args, by simp only [hlc, Nat.one_ne_zero, if_false, if_true]; rw [hv, hdec]; exact e1, e2.mono fun e w' ⟨ε, h1, h2, h3⟩ => ⟨U ε, h1, ⟨fun h => absurd h.symm hmc, fun _ => ⟨ε, rfl, h2⟩⟩, h3⟩⟩
  · by_cases hj0 : j = 0
    · subst hj0
      exact hq0 wb hg
    · obtain ⟨δ, hv, hrd⟩ := (hr m d (by simp) (by rw [hlm]; omega)).1 rfl
      by_cases hj1 : j = 1
      · subst hj1
        have e : startLv (fun k => lv.getD k 0) [(m, d), (c, dc)] a (fun j γ => if j = 0 then A0 else if j = 1 then A1 (dec (γ m)) else A2 (dec (γ m)) (dec' (γ c))) γ 1 = A0.put (some d) (V δ) := by
          simp only [startLv, putLv, if_true]
          rw [if_pos hlm, if_neg (by rw [hlc]; omega), hv]
        rw [e]
        simp only [Nat.one_ne_zero, if_false, if_true]
        rw [hv, hdec]
        exact hq1 δ wb hg hrd
      · have hj2 : j = 2 := by omega
        subst hj2
        obtain ⟨ε, hu, hsd⟩ := (hr c dc (by simp) (by rw [hlc]; omega)).2 rfl
        have e : startLv (fun k => lv.getD k 0) [(m, d), (c, dc)] a (fun j γ => if j = 0 then A0 else if j = 1 then A1 (dec (γ m)) else A2 (dec (γ m)) (dec' (γ c))) γ 2 = (A1 δ).put (some dc) (U ε) := by
          simp only [startLv, putLv, Nat.one_ne_zero, if_false, if_true]
          rw [if_pos hlc, if_neg (by rw [hlm]; omega), hv, hdec, hu]
        rw [e]
        simp only [show ¬ (2 = 0) by omega, show ¬ (2 = 1) by omega, if_false]
        rw [hv, hdec, hu, hdec']
        exact hq2 δ ε wb hg hrd hsd
  · obtain ⟨δ, hv, hrd⟩ := (hp m d (by simp)).1 rfl
    obtain ⟨ε, hu, hsd⟩ := (hp c dc (by simp)).2 rfl
    simp only [show ¬ (2 = 0) by omega, show ¬ (2 = 1) by omega, if_false] at hd hs2 he
    simp only [hv, hdec, hu, hdec'] at hd hs2 he
    rw [act_ext hd fun s => he s (fun i h => by cases h)]
    exact hT δ ε w' hg hrd hsd
/-- Two calls make memory: the first one (operation m, slot d) of what nothing has made, the other one (c, dc) of what the first has; a variable of T is made by operation i (its address goes to slot dv), and by operation k what slot x holds is stored into it. -/
theorem wp_regL2s {D E : Type} [Nonempty D] [Nonempty E] {o os : Oper} {T : TypeId} (V : D → Value) (R : D → World → Prop) (U : E → Value) (S : E → World → Prop) (zs : Array Value) (n m d c dc i dv k x : Nat) (lv z0 z1 z2 : List Nat) (hm : P.follows .mixedOrders = true) (hB : headB [i] [k] (fun _ => i) n l = true) (hM : lvB [i] [k] [(m, d), (c, dc)] lv 2 n l = true)
    (hlm : lv.getD m 0 = 0) (hlc : lv.getD c 0 = 1) (hZ : (List.range 3).all (fun j => (List.range n).all (fun q => (if j = 0 then z0 else if j = 1 then z1 else z2).contains q == !(!([i] ++ [k] ++ [m, c]).contains q && lv.getD q 0 == j))) = true)
    (ho : l[i]? = some o) (hod : o.dst = some dv) (hda : dv < a.tmps.size) (hos : l[k]? = some os) (hop : os.op = .store T (.tmp dv) (.tmp x)) (hdx : dv ≠ x)
    (hrun : ∀ (a : Act) (w : World), (execOp a.eval o).run P w = .ok (.value (.pointer (some ⟨w.heap.size, 0, none⟩))) (w.alloc (.cells zs T))) (hi : (P.info? T).map (·.size) = some zs.size)
    (hV : ∀ δ δ', V δ = V δ' → δ = δ') (hR : ∀ δ (w w' : World), R δ w → Gr w w' → R δ w') (hRs : ∀ δ (w w' : World) (b : Nat), R δ w → w.heap[b]? = some (.cells zs T) → (∀ j, j ≠ b → w'.heap[j]? = w.heap[j]?) → R δ w')
    (hU : ∀ δ δ', U δ = U δ' → δ = δ') (hS : ∀ δ (w w' : World), S δ w → Gr w w' → S δ w') (hSs : ∀ δ (w w' : World) (b : Nat), S δ w → w.heap[b]? = some (.cells zs T) → (∀ j, j ≠ b → w'.heap[j]? = w.heap[j]?) → S δ w')
    (h : ∃ A0, ∃ A1 : D → Act, ∃ A2 : D → E → Act, ∃ cs : E → Array Value, (∀ wb, Gr w wb → wpQuiet P l.toArray (fun w' => ∃ p : GrownBy, w' = grow (wb.drewN p.n) p.os) (fun x => x = A0) (headOps z0 n 0 l) a) ∧
      (∀ o, l[m]? = some o → ∀ wb, Gr w wb → ∃ f args, (execOp A0.eval o).run P wb = .ok (.enter f args) wb ∧ Calls P f args wb fun e w' => ∃ δ, e = .returned (V δ) ∧ R δ w' ∧ Gr wb w') ∧
      (∀ δ wb, Gr w wb → R δ wb → wpQuiet P l.toArray (fun w' => ∃ p : GrownBy, w' = grow (wb.drewN p.n) p.os) (fun x => x = A1 δ) (headOps z1 n 0 l) (A0.put (some d) (V δ))) ∧
      (∀ o, l[c]? = some o → ∀ δ wb, Gr w wb → R δ wb → ∃ f args, (execOp (A1 δ).eval o).run P wb = .ok (.enter f args) wb ∧ Calls P f args wb fun e w' => ∃ ε, e = .returned (U ε) ∧ S ε w' ∧ Gr wb w') ∧
      (∀ δ ε wb, Gr w wb → R δ wb → S ε wb → wpQuiet P l.toArray (fun w' => ∃ p : GrownBy, w' = grow (wb.drewN p.n) p.os) (fun x => x = A2 δ ε) (headOps z2 n 0 l) ((A1 δ).put (some dc) (U ε))) ∧
      (∀ δ ε, (A2 δ ε).tmps[x]? = some (.agg (cs ε)) ∧ (A2 δ ε).tmps.size = a.tmps.size) ∧ (∀ ε, zs.size = (cs ε).size ∧ (cs ε).all (·.oneCell') = true) ∧
      ∀ δ ε w' b, Gr w w' → R δ w' → S ε w' → w.heap.size ≤ b → w'.heap[b]? = some (.cells (cs ε) T) → wpList P l.toArray Q (l.drop n) ((A2 δ ε).put (some dv) (.pointer (some ⟨b, 0, none⟩))) w') : (Code.region id l.toArray true).wp P Q a w := by
  obtain ⟨A0, A1, A2, cs, hq0, hmk, hq1, hck, hq2, hx, h1, hT⟩ := h
  obtain ⟨dec, hdec⟩ : ∃ dec : Value → D, ∀ δ, dec (V δ) = δ := ⟨fun v => Classical.epsilon (fun δ => V δ = v), fun δ => hV _ _ (Classical.epsilon_spec (p := fun δ' => V δ' = V δ) ⟨δ, rfl⟩)⟩
  obtain ⟨dec', hdec'⟩ : ∃ dec : Value → E, ∀ δ, dec (U δ) = δ := ⟨fun v => Classical.epsilon (fun δ => U δ = v), fun δ => hU _ _ (Classical.epsilon_spec (p := fun δ' => U δ' = U δ) ⟨δ, rfl⟩)⟩
  have HK := headOk_of hB
  have hmc : m ≠ c := fun he => by rw [he, hlc] at hlm; cases hlm
  have hdi : dstOf l i = some dv := by simp [dstOf, ho, hod]
  refine wp_headL (al := [i]) (sts := [k]) (own := (fun _ => i)) (ds := [(m, d), (c, dc)]) (A := fun j γ => if j = 0 then A0 else if j = 1 then A1 (dec (γ m)) else A2 (dec (γ m)) (dec' (γ c))) (blk0 := fun _ => .cells zs T) (blk1 := fun γ _ => .cells (cs (dec' (γ c))) T) (R := fun q v w => (q = m → ∃ δ, v = V δ ∧ R δ w) ∧ (q = c → ∃ ε, v = U ε ∧ S ε w)) n 2 lv (fun j => if j = 0 then z0 else if j = 1 then z1 else z2) hm hB hM (by simpa using hZ) (by simp only [List.all_cons, List.all_nil, hlm, hlc]; decide) (fun j γ γ' hg => ?_) (fun q v w w' hr hg => ⟨fun h => ?_, fun h => ?_⟩) (fun q d' v w w' i' b _ hia hr hb hs => ?_) (fun j h o' ho' => ?_) (fun γ j h => ?_) (fun q d' hmd => ?_) (fun j γ wb hj hg hr => ?_) (fun a' w' bs γ hg hp hal hd hs1 hs2 he => ?_)
  · by_cases hj : j = 0
    · simp [hj]
    · simp only [if_neg hj]
      rw [hg m (by rw [hlm]; omega)]
      by_cases hj1 : j = 1
      · simp [hj1]
      · simp only [if_neg hj1]
        rw [hg c (by rw [hlc]; omega)]
  · obtain ⟨δ, h1, h2⟩ := hr.1 h
    exact ⟨δ, h1, hR δ w w' h2 hg⟩
  · obtain ⟨δ, h1, h2⟩ := hr.2 h
    exact ⟨δ, h1, hS δ w w' h2 hg⟩
  · refine ⟨fun h => ?_, fun h => ?_⟩
    · obtain ⟨δ, h1, h2⟩ := hr.1 h
      exact ⟨δ, h1, hRs δ w w' b h2 hb hs⟩
    · obtain ⟨δ, h1, h2⟩ := hr.2 h
      exact ⟨δ, h1, hSs δ w w' b h2 hb hs⟩
  · have : j = i := by simpa using h
    subst this
    have : o' = o := Option.some.inj (ho'.symm.trans ho)
    subst this
    exact hrun
  · have : j = k := by simpa using h
    subst this
    intro o' d' ho' hd' a' w' b g1 g2 g3 g4
    have : o' = os := Option.some.inj (ho'.symm.trans hos)
    subst this
    have : d' = dv := Option.some.inj (hd'.symm.trans hdi)
    subst this
    simp only [show ¬ (2 = 0) by omega, show ¬ (2 = 1) by omega, if_false] at g2 g3
    have gd : a'.eval (.tmp d') = .pointer (some ⟨b, 0, none⟩) := by
      simp [Act.eval, Array.getD_eq_getD_getElem?, g1 (by rw [g2, (hx _ _).2]; exact hda)]
    have gx : a'.eval (.tmp x) = .agg (cs (dec' (γ c))) := by
      have := g3 x (List.mem_append_left _ (List.mem_filterMap.2 ⟨.tmp x, by rw [hop]; simp [Op.operands], rfl⟩)) (Ne.symm hdx)
      simp [Act.eval, Array.getD_eq_getD_getElem?, this, (hx _ _).1]
    obtain ⟨z1, z2⟩ := h1 (dec' (γ c))
    refine ⟨w'.setRow b (cs (dec' (γ c))), ?_, rfl, rfl, rfl, rfl, by simp [World.setRow], fun k hk => heap_setRow w' b _ k hk, heap_setRow_at w' b _ zs T g4⟩
    obtain ⟨ds, op, ty, pos, aft, gu⟩ := o'
    simp only at hop
    subst hop
    have := run_storeVar_row (P := P) w' b T T zs (cs (dec' (γ c))) g4 (by rw [hi, z1]) z1 z2
    have e : Instr.storeAt T (.pointer (some ⟨b, 0, none⟩)) (.agg (cs (dec' (γ c)))) = storeVar T ⟨b, 0, none⟩ (.agg (cs (dec' (γ c)))) := rfl
    simp only [execOp, gd, gx, e]
    generalize storeVar T ⟨b, 0, none⟩ (.agg (cs (dec' (γ c)))) = sv at this ⊢
    simp [go_sem, this]
  · intro o' ho' γ wb hg hr
    rcases List.mem_cons.1 hmd with e | e
    · have : q = m := congrArg Prod.fst e
      subst this
      obtain ⟨f, args, e1, e2⟩ := hmk o' ho' wb hg
      exact ⟨f, args, by simp only [hlm, if_true]; exact e1, e2.mono fun e w' ⟨δ, h1, h2, h3⟩ => ⟨V δ, h1, ⟨fun _ => ⟨δ, rfl, h2⟩, fun h => absurd h hmc⟩, h3⟩⟩
    · have : q = c := congrArg Prod.fst (List.mem_singleton.1 e)
      subst this
      obtain ⟨δ, hv, hrd⟩ := (hr m d (by simp) (by simp only [hlm, hlc]; omega)).1 rfl
      obtain ⟨f, args, e1, e2⟩ := hck o' ho' δ wb hg hrd
      exact ⟨f, args, by simp only [hlc, Nat.one_ne_zero, if_false, if_true]; rw [hv, hdec]; exact e1, e2.mono fun e w' ⟨ε, h1, h2, h3⟩ => ⟨U ε, h1, ⟨fun h => absurd h.symm hmc, fun _ => ⟨ε, rfl, h2⟩⟩, h3⟩⟩
  · by_cases hj0 : j = 0
    · subst hj0
      exact hq0 wb hg
    · obtain ⟨δ, hv, hrd⟩ := (hr m d (by simp) (by rw [hlm]; omega)).1 rfl
      by_cases hj1 : j = 1
      · subst hj1
        have e : startLv (fun k => lv.getD k 0) [(m, d), (c, dc)] a (fun j γ => if j = 0 then A0 else if j = 1 then A1 (dec (γ m)) else A2 (dec (γ m)) (dec' (γ c))) γ 1 = A0.put (some d) (V δ) := by
          simp only [startLv, putLv, if_true]
          rw [if_pos hlm, if_neg (by rw [hlc]; omega), hv]
        rw [e]
        simp only [Nat.one_ne_zero, if_false, if_true]
        rw [hv, hdec]
        exact hq1 δ wb hg hrd
      · have hj2 : j = 2 := by omega
        subst hj2
        obtain ⟨ε, hu, hsd⟩ := (hr c dc (by simp) (by rw [hlc]; omega)).2 rfl
        have e : startLv (fun k => lv.getD k 0) [(m, d), (c, dc)] a (fun j γ => if j = 0 then A0 else if j = 1 then A1 (dec (γ m)) else A2 (dec (γ m)) (dec' (γ c))) γ 2 = (A1 δ).put (some dc) (U ε) := by
          simp only [startLv, putLv, Nat.one_ne_zero, if_false, if_true]
          rw [if_pos hlc, if_neg (by rw [hlm]; omega), hv, hdec, hu]
        rw [e]
        simp only [show ¬ (2 = 0) by omega, show ¬ (2 = 1) by omega, if_false]
        rw [hv, hdec, hu, hdec']
        exact hq2 δ ε wb hg hrd hsd
  · obtain ⟨δ, hv, hrd⟩ := (hp m d (by simp)).1 rfl
    obtain ⟨ε, hu, hsd⟩ := (hp c dc (by simp)).2 rfl
    simp only [show ¬ (2 = 0) by omega, show ¬ (2 = 1) by omega, if_false] at hd hs2 he
    obtain ⟨s1, s2, s3, _⟩ := hal i dv (by simp) hdi
    have s3 := s3 ⟨k, by simp, rfl⟩
    simp only [hv, hdec, hu, hdec'] at hd hs2 he s3
    have e : a' = (A2 δ ε).put (some dv) (.pointer (some ⟨bs i, 0, none⟩)) := act_ext (by rw [put_defers]; exact hd) fun s => by
      by_cases hs' : s = dv
      · subst hs'
        rw [s1 hda, put_at _ _ _ (by rw [hs2]; exact hda)]
      · rw [put_ne _ _ _ _ (fun he => hs' (Option.some.inj he).symm)]
        exact he s fun j hj hd' => by
          have : j = i := by simpa using hj
          subst this
          exact hs' (Option.some.inj (hd'.symm.trans hdi))
    rw [e]
    exact hT δ ε w' (bs i) hg hrd hsd s2 s3
end
end Go.Proofs.YtgfopfomhgfcaaaGreatDoor
