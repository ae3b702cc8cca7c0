/- A region that draws its order: its head's operations read, or call what only lays blocks, or make new variables; its tail is carried out in one order. One walk of the head in the order of the text serves every order. -/
import Derived.Shelf.SlSortCmp.QuietGrown
import Derived.StillTail
import Derived.WalkKit
namespace Go.Proofs.YtgfopfomhgfcaaaGreatDoor
open Go.RowKit Go.Sort

/-- In the place of the making of a variable: nothing. -/
def dumOp (o : Oper) : Oper := { o with op := .move (.const undef), dst := none }
/-- The head as the walk takes it: the first n operations, the makings of variables (numbered in al) left out. -/
def headOps (al : List Nat) : Nat → Nat → List Oper → List Oper
  | 0, _, _ => []
  | _ + 1, _, [] => []
  | n + 1, k, o :: r => (if al.contains k then dumOp o else o) :: headOps al n (k + 1) r

theorem headOps_get (al : List Nat) : ∀ (n k : Nat) (l : List Oper) (j : Nat), (headOps al n k l)[j]? = if j < n then (l[j]?).map (fun o => if al.contains (k + j) then dumOp o else o) else none
  | 0, k, l, j => by simp [headOps]
  | n + 1, k, [], j => by simp [headOps]
  | n + 1, k, o :: r, 0 => by simp [headOps]
  | n + 1, k, o :: r, j + 1 => by
    have := headOps_get al n (k + 1) r j
    simp only [headOps, List.getElem?_cons_succ, this]
    rw [show k + 1 + j = k + (j + 1) by omega]
    by_cases h : j < n
    · rw [if_pos h, if_pos (by omega)]
    · rw [if_neg h, if_neg (by omega)]

def dstOf (l : List Oper) (i : Nat) : Option Tmp := (l[i]?).bind (·.dst)

/-- What is asked of the region's form; the kernel reckons it. al: the makings of variables; sts: the stores into them; own: whose store it is. -/
def headB (al sts : List Nat) (own : Nat → Nat) (n : Nat) (l : List Oper) : Bool :=
  Region.noSelect l.toArray && decide (n < l.length) && Region.sinkB .any l.toArray n && Region.chainB .any l.toArray n &&
  Region.seqB .any l.toArray (l.length - n) n (Array.replicate n true ++ Array.replicate (l.length - n) false) &&
  (List.range n).all (fun i => match l[i]? with
    | some o => o.after.all (fun e => !Region.binds .any e || decide (e.on < i)) &&
        (al.contains i || (o.looksAt l.toArray).all fun s => (List.range n).all fun j => dstOf l j != some s || (((sts.contains i && j == own i) || !(al ++ sts).contains j) && decide (j < i) && Region.waitsFor .any l.toArray i j)) &&
        (match o.guard with | some (g, _) => decide (g < n) && !(al ++ sts).contains g | none => true) &&
        (List.range n).all fun j => i == j || o.dst == none || dstOf l j != o.dst
    | none => false) &&
  al.all (fun j => match l[j]? with | some o => o.guard.isNone && decide (j < n) && o.dst.isSome && !sts.contains j | none => false) &&
  sts.all (fun k => match l[k]? with | some o => o.guard.isNone && decide (k < n) && o.dst == none && al.contains (own k) && Region.waitsFor .any l.toArray k (own k) && sts.all (fun s => s == k || own s != own k) | none => false)

structure HeadOk (al sts : List Nat) (own : Nat → Nat) (n : Nat) (l : List Oper) : Prop where
  nosel : Region.noSelect l.toArray = true
  lt : n < l.length
  sink : Region.sinkB .any l.toArray n = true
  chain : Region.chainB .any l.toArray n = true
  seq : Region.seqB .any l.toArray (l.length - n) n (Array.replicate n true ++ Array.replicate (l.length - n) false) = true
  after : ∀ i o, i < n → l[i]? = some o → ∀ e ∈ o.after, Region.binds .any e = true → e.on < i
  looks : ∀ i o, i < n → l[i]? = some o → i ∉ al → ∀ s ∈ o.looksAt l.toArray, ∀ j, j < n → dstOf l j = some s → ((i ∈ sts ∧ j = own i) ∨ j ∉ al ++ sts) ∧ j < i ∧ Region.waitsFor .any l.toArray i j = true
  guards : ∀ i o g b, i < n → l[i]? = some o → o.guard = some (g, b) → g < n ∧ g ∉ al ++ sts
  dsts : ∀ i j d, i < n → j < n → dstOf l i = some d → dstOf l j = some d → i = j
  als : ∀ j, j ∈ al → ∃ o d, l[j]? = some o ∧ o.guard = none ∧ j < n ∧ o.dst = some d ∧ j ∉ sts
  stos : ∀ k, k ∈ sts → ∃ o, l[k]? = some o ∧ o.guard = none ∧ k < n ∧ o.dst = none ∧ own k ∈ al ∧ Region.waitsFor .any l.toArray k (own k) = true ∧ ∀ s, s ∈ sts → own s = own k → s = k

theorem headOk_of {al sts : List Nat} {own : Nat → Nat} {n : Nat} {l : List Oper} (h : headB al sts own n l = true) : HeadOk al sts own n l := by
  simp only [headB, Bool.and_eq_true, decide_eq_true_eq] at h
  obtain ⟨⟨⟨⟨⟨⟨⟨h1, h2⟩, h3⟩, h4⟩, h5⟩, h6⟩, h7⟩, h8⟩ := h
  have key : ∀ i o, i < n → l[i]? = some o → o.after.all (fun e => !Region.binds .any e || decide (e.on < i)) = true ∧
      (al.contains i || (o.looksAt l.toArray).all fun s => (List.range n).all fun j => dstOf l j != some s || (((sts.contains i && j == own i) || !(al ++ sts).contains j) && decide (j < i) && Region.waitsFor .any l.toArray i j)) = true ∧
        (match o.guard with | some (g, _) => decide (g < n) && !(al ++ sts).contains g | none => true) = true ∧
        ((List.range n).all fun j => i == j || o.dst == none || dstOf l j != o.dst) = true := by
    intro i o hi ho
    have := List.all_eq_true.1 h6 i (List.mem_range.2 hi)
    simp only [ho, Bool.and_eq_true] at this
    exact ⟨this.1.1.1, this.1.1.2, this.1.2, this.2⟩
  refine ⟨h1, h2, h3, h4, h5, ?_, ?_, ?_, ?_, ?_, ?_⟩
  · intro i o hi ho e he hb
    have h := Array.all_eq_true_iff_forall_mem.1 (key i o hi ho).1 e he
    simpa [hb] using h
  · intro i o hi ho hal s hs j hj hd
    have h := (key i o hi ho).2.1
    have hal' : al.contains i = false := by simpa using hal
    simp only [hal', Bool.false_or] at h
    have h := List.all_eq_true.1 (List.all_eq_true.1 h s hs) j (List.mem_range.2 hj)
    simp only [hd, bne_self_eq_false, Bool.false_or, Bool.and_eq_true, decide_eq_true_eq, Bool.or_eq_true, Bool.not_eq_true', beq_iff_eq] at h
    refine ⟨h.1.1.imp (fun h => ⟨by simpa using h.1, h.2⟩) (fun h => by simpa using h), h.1.2, h.2⟩
  · intro i o g b hi ho hg
    have h := (key i o hi ho).2.2.1
    simp only [hg, Bool.and_eq_true, decide_eq_true_eq, Bool.not_eq_true'] at h
    exact ⟨h.1, by simpa using h.2⟩
  · intro i j d hi hj hdi hdj
    unfold dstOf at hdi
    cases ho : l[i]? with
    | none => simp [ho] at hdi
    | some o =>
      simp only [ho, Option.bind_some] at hdi
      have h := List.all_eq_true.1 (key i o hi ho).2.2.2 j (List.mem_range.2 hj)
      simp only [hdi, hdj, Bool.or_eq_true, beq_iff_eq, bne_self_eq_false] at h
      rcases h with (h | h) | h
      · exact h
      · cases h
      · cases h
  · intro j hj
    have h := List.all_eq_true.1 h7 j hj
    cases ho : l[j]? with
    | none => simp [ho] at h
    | some o =>
      simp only [ho, Bool.and_eq_true, decide_eq_true_eq, Option.isNone_iff_eq_none, Option.isSome_iff_exists, Bool.not_eq_true'] at h
      obtain ⟨⟨⟨hg, hn⟩, d, hd⟩, hs⟩ := h
      exact ⟨o, d, rfl, hg, hn, hd, by simpa using hs⟩
  · intro k hk
    have h := List.all_eq_true.1 h8 k hk
    cases ho : l[k]? with
    | none => simp [ho] at h
    | some o =>
      simp only [ho, Bool.and_eq_true, decide_eq_true_eq, Option.isNone_iff_eq_none, beq_iff_eq] at h
      obtain ⟨⟨⟨⟨⟨hg, hn⟩, hd⟩, ha⟩, hw⟩, hu⟩ := h
      refine ⟨o, rfl, hg, hn, hd, by simpa using ha, hw, fun s hs he => ?_⟩
      have := List.all_eq_true.1 hu s hs
      simp only [Bool.or_eq_true, beq_iff_eq, he, bne_self_eq_false] at this
      exact this.resolve_right Bool.false_ne_true

theorem put_size (a : Act) (d : Option Tmp) (v : Value) : (a.put d v).tmps.size = a.tmps.size := by
  cases d <;> simp [Act.put]
theorem put_defers (a : Act) (d : Option Tmp) (v : Value) : (a.put d v).defers = a.defers := by
  cases d <;> simp [Act.put]
theorem put_ne (a : Act) (d : Option Tmp) (v : Value) (s : Nat) (h : d ≠ some s) : (a.put d v).tmps[s]? = a.tmps[s]? := by
  cases d with
  | none => rfl
  | some d =>
    have : d ≠ s := fun e => h (by rw [e])
    simp [Act.put, this]
theorem put_at (a : Act) (d : Tmp) (v : Value) (h : d < a.tmps.size) : (a.put (some d) v).tmps[d]? = some v := by
  simp [Act.put, h]

theorem lex_walk {P : Program} {ops : Array Oper} {C : World → Prop} {aF : Act} : ∀ (l1 : List Oper) (a : Act),
    (∀ i j d, dstOf l1 i = some d → dstOf l1 j = some d → i = j) → wpQuiet P ops C (fun x => x = aF) l1 a →
    (aF.defers = a.defers ∧ aF.tmps.size = a.tmps.size ∧ ∀ s, (∀ i, dstOf l1 i ≠ some s) → aF.tmps[s]? = a.tmps[s]?) ∧
    ∀ k o, l1[k]? = some o → ∃ ak v, YieldsIn P ops C o v ak ∧ (∀ d, o.dst = some d → d < a.tmps.size → aF.tmps[d]? = some v) ∧
      (∀ s, (∃ i, i < k ∧ dstOf l1 i = some s) → ak.tmps[s]? = aF.tmps[s]?) ∧ (∀ s, (∀ i, i < k → dstOf l1 i ≠ some s) → ak.tmps[s]? = a.tmps[s]?)
  | [], a, _, h => by
    have h : a = aF := h
    subst h
    exact ⟨⟨rfl, rfl, fun _ _ => rfl⟩, fun k o hk => by simp at hk⟩
  | o :: rest, a, hd, h => by
    obtain ⟨v, hy, hr⟩ : ∃ v, YieldsIn P ops C o v a ∧ wpQuiet P ops C (fun x => x = aF) rest (a.put o.dst v) := by
      unfold wpQuiet at h
      by_cases hw : Region.wanted o (yielded ops a.tmps) = true
      · rw [if_pos hw] at h
        obtain ⟨v, h1, h2⟩ := h
        exact ⟨v, .inl ⟨hw, h1⟩, h2⟩
      · rw [if_neg hw] at h
        exact ⟨undef, .inr ⟨by simpa using hw, rfl⟩, h⟩
    have e0 : dstOf (o :: rest) 0 = o.dst := rfl
    have eS : ∀ i, dstOf (o :: rest) (i + 1) = dstOf rest i := fun i => by simp [dstOf]
    obtain ⟨⟨f1, f2, f3⟩, f4⟩ := lex_walk rest (a.put o.dst v) (fun i j d hi hj => by
      have := hd (i + 1) (j + 1) d (by rw [eS]; exact hi) (by rw [eS]; exact hj)
      omega) hr
    rw [put_size] at f2 f4
    refine ⟨⟨by rw [f1, put_defers], f2, fun s hs => ?_⟩, ?_⟩
    · rw [f3 s (fun i => by rw [← eS]; exact hs (i + 1)), put_ne _ _ _ _ (by rw [← e0]; exact hs 0)]
    · intro k x hk
      cases k with
      | zero =>
        have : o = x := by simpa using hk
        subst this
        refine ⟨a, v, hy, fun d hdst hlt => ?_, fun s ⟨i, hi, _⟩ => absurd hi (by omega), fun s _ => rfl⟩
        rw [f3 d (fun i hi => by have := hd 0 (i + 1) d (by rw [e0]; exact hdst) (by rw [eS]; exact hi); omega), hdst, put_at _ _ _ hlt]
      | succ k =>
        obtain ⟨ak, u, g1, g2, g3, g4⟩ := f4 k x (by simpa using hk)
        refine ⟨ak, u, g1, g2, fun s ⟨i, hi, hs⟩ => ?_, fun s hs => ?_⟩
        · cases i with
          | zero =>
            rw [e0] at hs
            by_cases hex : ∃ i, i < k ∧ dstOf rest i = some s
            · exact g3 s hex
            · rw [g4 s (fun i hi hs' => hex ⟨i, hi, hs'⟩), f3 s (fun i hi => by have := hd 0 (i + 1) s (by rw [e0]; exact hs) (by rw [eS]; exact hi); omega)]
          | succ i => exact g3 s ⟨i, by omega, by rw [← eS]; exact hs⟩
        · rw [g4 s (fun i hi => by rw [← eS]; exact hs (i + 1) (by omega)), put_ne _ _ _ _ (by rw [← e0]; exact hs 0 (by omega))]


/-- w' is w after some draws, with some blocks laid behind it. -/
def Gr (w w' : World) : Prop := ∃ p : GrownBy, w' = grow (w.drewN p.n) p.os
theorem drewN_zero (w : World) : w.drewN 0 = w := rfl
theorem Gr.refl (w : World) : Gr w w := ⟨⟨0, #[]⟩, by rw [grow_empty]; rfl⟩
theorem Gr.trans {a b c : World} (h : Gr a b) (k : Gr b c) : Gr a c := by
  obtain ⟨p, rfl⟩ := h
  obtain ⟨q, rfl⟩ := k
  exact ⟨⟨p.n + q.n, p.os ++ q.os⟩, by show grow (grow ((a.drewN p.n).drewN q.n) p.os) q.os = _; rw [grow_grow, World.drewN_drewN]⟩
theorem Gr.alloc (w : World) (o : Obj) : Gr w (w.alloc o) := ⟨⟨0, #[o]⟩, alloc_eq_grow w o⟩
theorem Gr.drew (w : World) : Gr w w.drew := ⟨⟨1, #[]⟩, by rw [grow_empty]; rfl⟩
theorem Gr.drewN (w : World) (n : Nat) : Gr w (w.drewN n) := ⟨⟨n, #[]⟩, by rw [grow_empty]⟩
theorem Gr.block {w w' : World} (h : Gr w w') {k : Nat} (hk : k < w.heap.size) : w'.heap[k]? = w.heap[k]? := by
  obtain ⟨p, rfl⟩ := h
  exact heap_grow_old (w.drewN p.n) p.os hk
theorem Gr.size {w w' : World} (h : Gr w w') : w.heap.size ≤ w'.heap.size := by
  obtain ⟨p, rfl⟩ := h
  rw [size_grow]; exact Nat.le_add_right _ _
theorem Gr.below {w w' : World} (h : Gr w w') : Below w.heap.size w w' := by
  obtain ⟨p, rfl⟩ := h
  exact ⟨rfl, rfl, rfl, by rw [size_grow]; exact Nat.le_add_right _ _, fun k hk => heap_grow_old (w.drewN p.n) p.os hk⟩
theorem Gr.cell {w w' : World} (h : Gr w w') {b o : Nat} (hb : b < w.heap.size) : w'.cell? ⟨b, o, none⟩ = w.cell? ⟨b, o, none⟩ := h.below.cell (p := ⟨b, o, none⟩) hb
theorem Gr.frozen {w w' : World} (h : Gr w w') {b o : Nat} (hb : b < w.heap.size) : w'.frozen? ⟨b, o, none⟩ = w.frozen? ⟨b, o, none⟩ := h.below.frozen (p := ⟨b, o, none⟩) hb

theorem modify_right (a b : Array Obj) (i : Nat) (f : Obj → Obj) (h : a.size ≤ i) : (a ++ b).modify i f = a ++ b.modify (i - a.size) f := modify_append_right a b i f h
/-- The heap alone has turned, from block w.heap.size on. -/
theorem Gr.heap {w w' w1 : World} (h : Gr w w') (e1 : w1.os = w'.os) (e2 : w1.tape = w'.tape) (e3 : w1.output = w'.output) (e4 : w1.drawn = w'.drawn) (hs : w'.heap.size ≤ w1.heap.size)
    (hb : ∀ k, k < w.heap.size → w1.heap[k]? = w'.heap[k]?) : Gr w w1 := by
  obtain ⟨p, rfl⟩ := h
  refine ⟨⟨p.n, w1.heap.extract w.heap.size w1.heap.size⟩, ?_⟩
  have hh : w1.heap = w.heap ++ w1.heap.extract w.heap.size w1.heap.size := by
    have hsz : w.heap.size ≤ w1.heap.size := by rw [size_grow] at hs; exact Nat.le_trans (Nat.le_add_right _ _) hs
    refine Array.ext_getElem? fun k => ?_
    rw [Array.getElem?_append]
    split
    · rename_i hk
      rw [hb k hk]
      exact heap_grow_old (w.drewN p.n) p.os hk
    · rename_i hk
      rw [Array.getElem?_extract]
      split
      · congr 1; omega
      · exact Array.getElem?_eq_none (by omega)
  obtain ⟨h1, t1, d1, o1, u1⟩ := w1
  simp only at e1 e2 e3 e4 hh
  show _ = ({ w.drewN p.n with heap := w.heap ++ _ } : World)
  rw [← hh, e1, e2, e3, e4]
  rfl
theorem Gr.setCell {w w' : World} (h : Gr w w') {a : Addr} (ha : w.heap.size ≤ a.block) (v : Value) : Gr w (w'.setCell a v) :=
  h.heap rfl rfl rfl rfl (by simp [World.setCell]) fun k hk => Below.heap_setCell w' a v k (by omega)
theorem heap_setRow (w : World) (g : Nat) (cs : Array Value) (k : Nat) (h : k ≠ g) : (w.setRow g cs).heap[k]? = w.heap[k]? := by
  simp only [World.setRow, Array.getElem?_modify]
  rw [if_neg (by omega)]
theorem heap_setRow_at (w : World) (g : Nat) (cs old : Array Value) (T : TypeId) (h : w.heap[g]? = some (.cells old T (0, 0))) : (w.setRow g cs).heap[g]? = some (.cells cs T (0, 0)) := by
  simp [World.setRow, Array.getElem?_modify, h]
theorem Gr.setRow {w w' : World} (h : Gr w w') {g : Nat} (ha : w.heap.size ≤ g) (cs : Array Value) : Gr w (w'.setRow g cs) :=
  h.heap rfl rfl rfl rfl (by simp [World.setRow]) fun k hk => heap_setRow w' g cs k (by omega)

/-- An old cell, in every world that the region passes through. -/
theorem Gr.at {w wb : World} (h : Gr w wb) : ∀ (m : Nat) (os : Array Obj) (b o : Nat), b < w.heap.size → (grow (wb.drewN m) os).cell? ⟨b, o, none⟩ = w.cell? ⟨b, o, none⟩ := by
  intro m os b o hb
  exact (h.trans ⟨⟨m, os⟩, rfl⟩).cell hb
/-- A contract 'Gr', met in a region. -/
theorem Calls.of_gr {P : Program} {f : FuncId} {args : Array Value} {w : World} {n : Nat} {os : Array Obj} {v : Value}
    (h : Calls P f args (grow (w.drewN n) os) fun e w' => e = .returned v ∧ Gr (grow (w.drewN n) os) w') : Calls P f args (grow (w.drewN n) os) fun e w'' => e = .returned v ∧ ∃ p : GrownBy, w'' = grow (w.drewN p.n) p.os :=
  h.mono fun _ _ ⟨he, hg⟩ => ⟨he, Gr.trans ⟨⟨n, os⟩, rfl⟩ hg⟩
theorem Calls.of_same {P : Program} {f : FuncId} {args : Array Value} {w : World} {n : Nat} {os : Array Obj} {v : Value}
    (h : Calls P f args (grow (w.drewN n) os) fun e w' => e = .returned v ∧ grow (w.drewN n) os = w') : Calls P f args (grow (w.drewN n) os) fun e w'' => e = .returned v ∧ ∃ p : GrownBy, w'' = grow (w.drewN p.n) p.os :=
  h.mono fun _ _ ⟨he, hg⟩ => ⟨he, ⟨n, os⟩, hg.symm⟩

section
variable {P : Program} {l : List Oper} {al sts : List Nat} {own : Nat → Nat} {n : Nat} {a0 aF : Act} {w0 : World} {blk0 blk1 : Nat → Obj}

/-- Has the store into variable i come up? -/
def stored (sts : List Nat) (own : Nat → Nat) (listed : Array Bool) (i : Nat) : Prop := ∃ s ∈ sts, own s = i ∧ listed.getD s false = true
/-- What variable i holds. -/
def Holds' (sts : List Nat) (own : Nat → Nat) (blk0 blk1 : Nat → Obj) (listed : Array Bool) (i : Nat) (o : Option Obj) : Prop :=
  (stored sts own listed i → o = some (blk1 i)) ∧ (¬ stored sts own listed i → o = some (blk0 i))
theorem Holds'.some {listed : Array Bool} {i : Nat} {o : Option Obj} (h : Holds' sts own blk0 blk1 listed i o) : ∃ x, o = some x := by
  by_cases hs : stored sts own listed i
  · exact ⟨_, h.1 hs⟩
  · exact ⟨_, h.2 hs⟩

structure Sim (l : List Oper) (al sts : List Nat) (own : Nat → Nat) (n : Nat) (a0 aF : Act) (w0 : World) (blk0 blk1 : Nat → Obj) (listed : Array Bool) (a : Act) (w : World) (bs : Nat → Nat) : Prop where
  grown : Gr w0 w
  defers : a.defers = a0.defers
  size : a.tmps.size = a0.tmps.size
  wr : ∀ i d, i < n → listed.getD i false = true → i ∉ al ++ sts → dstOf l i = some d → a.tmps[d]? = aF.tmps[d]?
  als : ∀ i d, i ∈ al → listed.getD i false = true → dstOf l i = some d → (d < a0.tmps.size → a.tmps[d]? = some (.pointer (some ⟨bs i, 0, none⟩))) ∧ w0.heap.size ≤ bs i ∧ Holds' sts own blk0 blk1 listed i (w.heap[bs i]?)
  apart : ∀ i j, i ∈ al → j ∈ al → listed.getD i false = true → listed.getD j false = true → i ≠ j → bs i ≠ bs j
  old : ∀ s, (∀ i, i < n → listed.getD i false = true → dstOf l i ≠ some s) → a.tmps[s]? = a0.tmps[s]?

theorem dst_head (i : Nat) : dstOf (headOps al n 0 l) i = if i < n then (if al.contains i then none else dstOf l i) else none := by
  unfold dstOf
  rw [headOps_get]
  by_cases h : i < n
  · rw [if_pos h, if_pos h]
    cases ho : l[i]? with
    | none => simp
    | some o =>
      by_cases hc : al.contains i = true
      · simp [dumOp] at hc ⊢; simp [hc]
      · simp at hc ⊢; simp [hc]
  · rw [if_neg h, if_neg h]; rfl

theorem eval_same {a b : Act} {s : Nat} (h : a.tmps[s]? = b.tmps[s]?) : a.eval (.tmp s) = b.eval (.tmp s) := by
  simp [Act.eval, Array.getD_eq_getD_getElem?, h]

theorem exec_same {ops : Array Oper} {a b : Act} (o : Oper) (hs : ∀ cs c, o.op ≠ .select cs c) (h : ∀ s ∈ o.looksAt ops, a.tmps[s]? = b.tmps[s]?) : execOp a.eval o = execOp b.eval o :=
  execOp_congr o hs fun x hx => by
    cases x with
    | tmp t => exact eval_same (h t (List.mem_append_left _ (List.mem_filterMap.2 ⟨.tmp t, by simpa using hx, rfl⟩)))
    | const v => rfl
    | global g => rfl
    | func f => rfl
theorem wanted_same {ops : Array Oper} {a b : Act} (o : Oper) (h : ∀ s ∈ o.looksAt ops, a.tmps[s]? = b.tmps[s]?) : Region.wanted o (yielded ops a.tmps) = Region.wanted o (yielded ops b.tmps) := by
  unfold Region.wanted
  cases hg : o.guard with
  | none => rfl
  | some gw =>
    obtain ⟨g, want⟩ := gw
    have : yielded ops a.tmps g = yielded ops b.tmps g := by
      unfold yielded
      cases hd : (ops[g]?).bind (·.dst) with
      | none => rfl
      | some d =>
        have := h d (List.mem_append_right _ (by simp [hg, hd]))
        simp only [Option.bind_some, this]
    simp only [this]

theorem getD_set_self {listed : Array Bool} {i : Nat} (h : i < listed.size) : (listed.setIfInBounds i true).getD i false = true := by
  simp [h]
theorem getD_tf {listed : Array Bool} {i : Nat} (h : i < listed.size) : listed.getD i true = listed.getD i false := by
  simp [h]
theorem set_of {listed : Array Bool} {i j : Nat} (h : (listed.setIfInBounds j true).getD i false = true) : i = j ∨ listed.getD i false = true := by
  by_cases hij : j = i
  · exact .inl hij.symm
  · rw [getD_set_ne false hij] at h; exact .inr h

/-- How many of the head have not come up yet. -/
def undone (listed : Array Bool) (n : Nat) : Nat := ((List.range n).filter fun i => !listed.getD i false).length
theorem undone_set {listed : Array Bool} {n k : Nat} (hk : k < n) (hs : k < listed.size) (h : listed.getD k false = false) : undone (listed.setIfInBounds k true) n + 1 = undone listed n := by
  unfold undone
  have h1 : ∀ l : List Nat, l.Nodup → k ∈ l → (l.filter fun i => !(listed.setIfInBounds k true).getD i false).length + 1 = (l.filter fun i => !listed.getD i false).length := by
    intro l
    induction l with
    | nil => intro _ h; cases h
    | cons x r ih =>
      intro hn hm
      rw [List.nodup_cons] at hn
      by_cases hx : x = k
      · subst hx
        have e : ∀ y ∈ r, (!(listed.setIfInBounds x true).getD y false) = (!listed.getD y false) := fun y hy => by
          rw [getD_set_ne false (fun he => hn.1 (by rw [he]; exact hy))]
        rw [List.filter_cons, List.filter_cons, getD_set_self hs, h, List.filter_congr e]
        simp
      · have hm' : k ∈ r := by
          rcases List.mem_cons.1 hm with h | h
          · exact absurd h.symm hx
          · exact h
        have := ih hn.2 hm'
        rw [List.filter_cons, List.filter_cons, getD_set_ne false (fun he => hx he.symm)]
        split
        · simp only [List.length_cons]; omega
        · exact this
  exact h1 _ List.nodup_range (List.mem_range.2 hk)
theorem undone_zero {listed : Array Bool} {n : Nat} (h : undone listed n = 0) : ∀ i, i < n → listed.getD i false = true := by
  intro i hi
  unfold undone at h
  have h := List.length_eq_zero_iff.1 h
  cases hc : listed.getD i false with
  | true => rfl
  | false =>
    have : i ∈ (List.range n).filter fun i => !listed.getD i false := List.mem_filter.2 ⟨List.mem_range.2 hi, by rw [hc]; rfl⟩
    rw [h] at this; cases this
theorem undone_pos {listed : Array Bool} {n f : Nat} (h : undone listed n = f + 1) : ∃ i, i < n ∧ listed.getD i false = false ∧ ∀ j, j < i → listed.getD j false = true := by
  have : ∃ i, i < n ∧ listed.getD i false = false := by
    unfold undone at h
    cases hl : (List.range n).filter fun i => !listed.getD i false with
    | nil => rw [hl] at h; cases h
    | cons x r =>
      have hm : x ∈ (List.range n).filter fun i => !listed.getD i false := by rw [hl]; exact List.mem_cons_self
      have := List.mem_filter.1 hm
      exact ⟨x, List.mem_range.1 this.1, by simpa using this.2⟩
  obtain ⟨i, hi, h0⟩ := this
  induction i using Nat.strongRecOn with
  | _ i ih =>
    by_cases hall : ∀ j, j < i → listed.getD j false = true
    · exact ⟨i, hi, h0, hall⟩
    · obtain ⟨j, hj, hjf⟩ : ∃ j, j < i ∧ listed.getD j false ≠ true := by
        by_cases hc : ∃ j, j < i ∧ listed.getD j false ≠ true
        · exact hc
        · exact absurd (fun j hj => by
            cases hb : listed.getD j false with
            | true => rfl
            | false => exact absurd ⟨j, hj, by rw [hb]; exact Bool.false_ne_true⟩ hc) hall
      exact ih j hj (by omega) (by simpa using hjf)

/-- What a store of the head does, whatever has come up: to its variable alone. -/
def StoreOk (P : Program) (l : List Oper) (aF : Act) (own : Nat → Nat) (blk0 blk1 : Nat → Obj) (k : Nat) : Prop :=
  ∀ o d, l[k]? = some o → dstOf l (own k) = some d → ∀ (a : Act) (w : World) (b : Nat), (d < a.tmps.size → a.tmps[d]? = some (.pointer (some ⟨b, 0, none⟩))) → a.tmps.size = aF.tmps.size →
    (∀ s ∈ o.looksAt l.toArray, s ≠ d → a.tmps[s]? = aF.tmps[s]?) → w.heap[b]? = some (blk0 (own k)) →
    ∃ w1, (execOp a.eval o).run P w = .ok .skip w1 ∧ w1.os = w.os ∧ w1.tape = w.tape ∧ w1.output = w.output ∧ w1.drawn = w.drawn ∧ w1.heap.size = w.heap.size ∧ (∀ k, k ≠ b → w1.heap[k]? = w.heap[k]?) ∧ w1.heap[b]? = some (blk1 (own k))

theorem head_all (HK : HeadOk al sts own n l) {Q : Exit → Act → World → Prop}
    (hrun : ∀ j ∈ al, ∀ o, l[j]? = some o → ∀ (a : Act) (w : World), (execOp a.eval o).run P w = .ok (.value (.pointer (some ⟨w.heap.size, 0, none⟩))) (w.alloc (blk0 j)))
    (hsto : ∀ k ∈ sts, StoreOk P l aF own blk0 blk1 k)
    (hq : ∀ wb, Gr w0 wb → wpQuiet P l.toArray (fun w' => ∃ p : GrownBy, w' = grow (wb.drewN p.n) p.os) (fun x => x = aF) (headOps (al ++ sts) n 0 l) a0)
    (hT : ∀ listed a w bs, (∀ i, i < n → listed.getD i false = true) → Sim l al sts own n a0 aF w0 blk0 blk1 listed a w bs → wpList P l.toArray Q (l.drop n) a w) :
    ∀ (f : Nat) (listed : Array Bool) (a : Act) (w : World) (bs : Nat → Nat), undone listed n = f → HeadInv .any l.toArray n listed → Sim l al sts own n a0 aF w0 blk0 blk1 listed a w bs →
      wpAny P .any l.toArray Q (f + (l.length - n)) listed a w := by
  have hlt := HK.lt
  have hd1 : ∀ i j d, dstOf (headOps (al ++ sts) n 0 l) i = some d → dstOf (headOps (al ++ sts) n 0 l) j = some d → i = j := by
    intro i j d hi hj
    rw [dst_head] at hi hj
    split at hi
    · split at hi
      · cases hi
      · split at hj
        · split at hj
          · cases hj
          · exact HK.dsts i j d ‹_› ‹_› hi hj
        · cases hj
    · cases hi
  have hs1 : aF.tmps.size = a0.tmps.size := (lex_walk (headOps (al ++ sts) n 0 l) a0 hd1 (hq w0 (Gr.refl w0))).1.2.1
  intro f
  induction f with
  | zero =>
    intro listed a w bs hu inv S
    rw [Nat.zero_add]
    have hall := undone_zero hu
    have e : listed = Array.replicate n true ++ Array.replicate (l.length - n) false := by
      have hsz : listed.size = l.length := by have := inv.size; simpa using this
      refine Array.ext (by simp [hsz]; omega) fun i h1 h2 => ?_
      by_cases hi : i < n
      · have := hall i hi
        rw [Array.getElem_append_left (by simpa using hi)]
        simpa [h1] using this
      · have := inv.tail i (by omega) (by simpa [hsz] using h1)
        rw [Array.getElem_append_right (by simpa using hi)]
        simpa [h1] using this
    have hseq := HK.seq
    rw [← e] at hseq
    have := wpAny_of_seq (P := P) (ops := l.toArray) (md := .any) (Q' := Q) (l.drop n) n listed a w (fun j => by simp [List.getElem?_drop]) (by simpa using hseq) (hT listed a w bs hall S)
    simpa using this
  | succ f ih =>
    intro listed a w bs hu inv S
    have hsz : listed.size = l.length := by have := inv.size; simpa using this
    obtain ⟨i0, hi0, hf0, hbef⟩ := undone_pos hu
    have hf0' : listed.getD i0 true = false := by rw [getD_tf (by omega)]; exact hf0
    rw [show f + 1 + (l.length - n) = (f + (l.length - n)) + 1 by omega]
    refine ⟨fun h => ?_, fun k hk => ?_⟩
    · exfalso
      have : i0 ∈ Region.ready .any l.toArray listed := by
        rw [mem_ready]
        have hi0l : i0 < l.length := by omega
        exact ⟨hf0', l[i0], by simp, fun e he hb => hbef _ (HK.after i0 _ hi0 (by simp) e he hb)⟩
      rw [h] at this; cases this
    · have hkn : k < n := by
        rcases Nat.lt_or_ge k n with h | h
        · exact h
        · exact absurd hk (tail_waits HK.sink HK.chain (by simpa using HK.lt) inv _ i0 rfl hi0 hf0' k h)
      obtain ⟨hkun, o, ho, hdeps⟩ := mem_ready.1 hk
      have ho' : l[k]? = some o := by simpa using ho
      have hkf : listed.getD k false = false := by rw [← getD_tf (by omega)]; exact hkun
      have hu' : undone (listed.setIfInBounds k true) n = f := by have := undone_set hkn (by omega) hkf; omega
      have inv' := inv.set hk hkn
      have dk : dstOf l k = o.dst := by simp [dstOf, ho']
      have waits : ∀ j, Region.waitsFor .any l.toArray k j = true → listed.getD j false = true := by
        intro j q3
        obtain ⟨ok, hok, e, he, hb, hon⟩ := Region.waitsFor_spec q3
        have : ok = o := Option.some.inj (hok.symm.trans ho)
        subst this
        rw [← hon]; exact hdeps e he hb
      have stNot : ∀ i, k ∉ sts → (stored sts own (listed.setIfInBounds k true) i ↔ stored sts own listed i) := by
        intro i hns
        constructor
        · rintro ⟨s, hs, he, hl⟩
          exact ⟨s, hs, he, (set_of hl).resolve_left (fun h => hns (h ▸ hs))⟩
        · rintro ⟨s, hs, he, hl⟩
          exact ⟨s, hs, he, getD_set_true hl⟩
      have hnew : ∀ i d', i ∈ al → listed.getD i false = true → dstOf l i = some d' → bs i < w.heap.size := by
        intro i d' hi hl hdd
        obtain ⟨x, hx⟩ := (S.als i d' hi hl hdd).2.2.some
        exact (Array.getElem?_eq_some_iff.1 hx).1
      unfold wpOp
      simp only [ho]
      by_cases hal : k ∈ al
      · obtain ⟨o', d, h1, h2, h3, h4, h5⟩ := HK.als k hal
        have : o' = o := Option.some.inj (h1.symm.trans ho')
        subst this
        rw [if_pos (by simp [Region.wanted, h2])]
        refine .inl ?_
        unfold Oper.wp
        rw [hrun k hal o' ho' a w]
        simp only [Oper.upon]
        refine ih _ _ _ (fun i => if i = k then w.heap.size else bs i) hu' inv' ?_
        have hgr : Gr w (w.alloc (blk0 k)) := Gr.alloc _ _
        constructor
        · exact S.grown.trans hgr
        · rw [put_defers]; exact S.defers
        · rw [put_size]; exact S.size
        · intro i e hi hl hni hde
          rcases set_of hl with rfl | hl
          · exact absurd (List.mem_append_left _ hal) hni
          · rw [put_ne _ _ _ _ (fun he => by
              have : i = k := HK.dsts i k e hi hkn hde (by rw [dk, he])
              subst this; exact absurd (List.mem_append_left _ hal) hni)]
            exact S.wr i e hi hl hni hde
        · intro i e hi hl hde
          by_cases hik : i = k
          · subst hik
            rw [if_pos rfl]
            have : d = e := Option.some.inj ((h4.symm.trans dk.symm).trans hde)
            subst this
            have hns : ¬ stored sts own (listed.setIfInBounds i true) i := by
              rw [stNot i h5]
              rintro ⟨s, hs, he, hl'⟩
              obtain ⟨os, hos, _, _, _, _, hws, _⟩ := HK.stos s hs
              obtain ⟨os', hos', e, he', hb, hon⟩ := Region.waitsFor_spec hws
              have := inv.closed s os' hos' hl' e he' hb
              rw [hon, he, hkf] at this
              cases this
            refine ⟨fun hlt => by rw [h4]; exact put_at _ _ _ (by rw [S.size]; exact hlt), S.grown.size, fun h => absurd h hns, fun _ => ?_⟩
            show (w.heap.push _)[w.heap.size]? = _
            simp
          · rw [if_neg hik]
            rcases set_of hl with h | hl
            · exact absurd h hik
            · obtain ⟨g1, g2, g3⟩ := S.als i e hi hl hde
              refine ⟨fun hlt => by
                rw [put_ne _ _ _ _ (fun he => hik (HK.dsts i k e (by obtain ⟨_, _, _, _, hh, _⟩ := HK.als i hi; exact hh) hkn hde (by rw [dk, he])))]
                exact g1 hlt, g2, by
                  rw [hgr.block (hnew i e hi hl hde)]
                  exact ⟨fun h => g3.1 ((stNot i h5).1 h), fun h => g3.2 (fun h' => h ((stNot i h5).2 h'))⟩⟩
        · intro i j hi hj hli hlj hij
          obtain ⟨oi, di, hoi, _, _, hdi, _⟩ := HK.als i hi
          obtain ⟨oj, dj, hoj, _, _, hdj, _⟩ := HK.als j hj
          by_cases hik : i = k
          · by_cases hjk : j = k
            · exact absurd (hik.trans hjk.symm) hij
            · rw [if_pos hik, if_neg hjk]
              have hlj := (set_of hlj).resolve_left hjk
              have := hnew j dj hj hlj (by simp [dstOf, hoj, hdj])
              omega
          · rw [if_neg hik]
            have hli := (set_of hli).resolve_left hik
            by_cases hjk : j = k
            · rw [if_pos hjk]
              have := hnew i di hi hli (by simp [dstOf, hoi, hdi])
              omega
            · rw [if_neg hjk]
              exact S.apart i j hi hj hli ((set_of hlj).resolve_left hjk) hij
        · intro s hs
          rw [put_ne _ _ _ _ (fun he => hs k hkn (getD_set_self (by omega)) (by rw [dk, he]))]
          exact S.old s fun i hi hl => hs i hi (getD_set_true hl)
      · by_cases hst : k ∈ sts
        · -- a store into one of the head's own variables
          obtain ⟨o', h1, h2, h3, h4, h5, h6, h7⟩ := HK.stos k hst
          have : o' = o := Option.some.inj (h1.symm.trans ho')
          subst this
          obtain ⟨oi, di, hoi, _, hin, hdi, _⟩ := HK.als (own k) h5
          have hdd : dstOf l (own k) = some di := by simp [dstOf, hoi, hdi]
          have hlo : listed.getD (own k) false = true := waits _ h6
          obtain ⟨g1, g2, g3⟩ := S.als (own k) di h5 hlo hdd
          have hnst : ¬ stored sts own listed (own k) := by
            rintro ⟨s, hs, he, hl'⟩
            have := h7 s hs he
            subst this
            rw [hkf] at hl'; cases hl'
          have agree : ∀ s ∈ o'.looksAt l.toArray, s ≠ di → a.tmps[s]? = aF.tmps[s]? := by
            intro s hs hsd
            by_cases hex : ∃ j, j < n ∧ dstOf l j = some s
            · obtain ⟨j, hj, hdj⟩ := hex
              obtain ⟨_, q2, q3⟩ := HK.looks k o' hkn ho' hal s hs j hj hdj
              have hlj := waits j q3
              have q1 := (HK.looks k o' hkn ho' hal s hs j hj hdj).1
              by_cases hjal : j ∈ al
              · rcases q1 with q1 | q1
                · have : j = own k := q1.2
                  subst this
                  exact absurd (Option.some.inj (hdj.symm.trans hdd)) hsd
                · exact absurd (List.mem_append_left _ hjal) q1
              · have hjst : j ∉ sts := fun h => by
                  obtain ⟨oj, hoj, _, _, hdn, _⟩ := HK.stos j h
                  simp [dstOf, hoj, hdn] at hdj
                exact S.wr j s hj hlj (fun h => (List.mem_append.1 h).elim hjal hjst) hdj
            · have hno : ∀ i, i < n → dstOf l i ≠ some s := fun i hi hd => hex ⟨i, hi, hd⟩
              rw [S.old s fun i hi _ => hno i hi]
              have := (lex_walk (headOps (al ++ sts) n 0 l) a0 hd1 (hq w S.grown)).1.2.2 s fun i => by
                rw [dst_head]
                split
                · split
                  · exact fun h => by cases h
                  · exact hno i ‹_›
                · exact fun h => by cases h
              exact this.symm
          obtain ⟨w1, r1, r2, r3, r4, r5, r6, r7, r8⟩ := hsto k hst o' di ho' hdd a w (bs (own k)) (fun hlt => g1 (by rw [← S.size]; exact hlt)) (by rw [S.size, hs1]) agree (g3.2 hnst)
          rw [if_pos (by simp [Region.wanted, h2])]
          refine .inl ?_
          unfold Oper.wp
          rw [r1]
          simp only [Oper.upon, h4]
          refine ih _ _ _ bs hu' inv' ?_
          have hstO : stored sts own (listed.setIfInBounds k true) (own k) := ⟨k, hst, rfl, getD_set_self (by omega)⟩
          have hstE : ∀ i, i ≠ own k → (stored sts own (listed.setIfInBounds k true) i ↔ stored sts own listed i) := by
            intro i hi
            constructor
            · rintro ⟨s, hs, he, hl⟩
              exact ⟨s, hs, he, (set_of hl).resolve_left (fun h => hi (by rw [← he, h]))⟩
            · rintro ⟨s, hs, he, hl⟩
              exact ⟨s, hs, he, getD_set_true hl⟩
          constructor
          · exact S.grown.heap r2 r3 r4 r5 (by omega) fun j hj => r7 j (by omega)
          · exact S.defers
          · exact S.size
          · intro i e hi hl hni hde
            rcases set_of hl with rfl | hl
            · exact absurd (List.mem_append_right _ hst) hni
            · exact S.wr i e hi hl hni hde
          · intro i e hi hl hde
            have hik : i ≠ k := fun he => by subst he; exact hal hi
            have hl := (set_of hl).resolve_left hik
            obtain ⟨q1, q2, q3⟩ := S.als i e hi hl hde
            refine ⟨q1, q2, ?_⟩
            by_cases hio : i = own k
            · subst hio
              exact ⟨fun _ => r8, fun h => absurd hstO h⟩
            · rw [r7 (bs i) (S.apart i (own k) hi h5 hl hlo hio)]
              exact ⟨fun h => q3.1 ((hstE i hio).1 h), fun h => q3.2 (fun h' => h ((hstE i hio).2 h'))⟩
          · intro i j hi hj hli hlj hij
            have hik : i ≠ k := fun he => by subst he; exact hal hi
            have hjk : j ≠ k := fun he => by subst he; exact hal hj
            exact S.apart i j hi hj ((set_of hli).resolve_left hik) ((set_of hlj).resolve_left hjk) hij
          · intro s hs
            exact S.old s fun i hi hl => hs i hi (getD_set_true hl)
        · have hni : k ∉ al ++ sts := fun h => (List.mem_append.1 h).elim hal hst
          have hnc : (al ++ sts).contains k = false := by
            cases hc : (al ++ sts).contains k with
            | false => rfl
            | true => exact absurd (by simpa using hc) hni
          have hhead : (headOps (al ++ sts) n 0 l)[k]? = some o := by
            rw [headOps_get, if_pos hkn, ho', Nat.zero_add, hnc]; rfl
          obtain ⟨⟨_, _, _⟩, hf4⟩ := lex_walk (headOps (al ++ sts) n 0 l) a0 hd1 (hq w S.grown)
          obtain ⟨ak, v, hy, hv, hg3, hg4⟩ := hf4 k o hhead
          have agree : ∀ s ∈ o.looksAt l.toArray, a.tmps[s]? = ak.tmps[s]? := by
            intro s hs
            by_cases hex : ∃ j, j < n ∧ dstOf l j = some s
            · obtain ⟨j, hj, hdj⟩ := hex
              obtain ⟨q1, q2, q3⟩ := HK.looks k o hkn ho' hal s hs j hj hdj
              have q1 := q1.resolve_left (fun h => hst h.1)
              have qc : (al ++ sts).contains j = false := by
                cases hc : (al ++ sts).contains j with
                | false => rfl
                | true => exact absurd (by simpa using hc) q1
              rw [S.wr j s hj (waits j q3) q1 hdj, hg3 s ⟨j, q2, by rw [dst_head, if_pos hj, qc]; exact hdj⟩]
            · have hno : ∀ i, i < n → dstOf l i ≠ some s := fun i hi hd => hex ⟨i, hi, hd⟩
              rw [S.old s fun i hi _ => hno i hi, hg4 s fun i _ => by
                rw [dst_head]
                split
                · split
                  · exact fun h => by cases h
                  · exact hno i ‹_›
                · exact fun h => by cases h]
          have hex := exec_same (ops := l.toArray) o (fun cs b => Region.noSelect_spec HK.nosel k o cs b ho) agree
          have hwa := wanted_same (ops := l.toArray) o agree
          -- what is left to show behind the operation
          have fin : ∀ w', Gr w w' → wpAny P .any l.toArray Q (f + (l.length - n)) (listed.setIfInBounds k true) (a.put o.dst v) w' := by
            intro w' hgr
            refine ih _ _ _ bs hu' inv' ?_
            constructor
            · exact S.grown.trans hgr
            · rw [put_defers]; exact S.defers
            · rw [put_size]; exact S.size
            · intro i e hi hl hni hde
              by_cases hik : i = k
              · subst hik
                rw [dk] at hde
                rcases Nat.lt_or_ge e a.tmps.size with hlt' | hge
                · rw [hde, put_at _ _ _ hlt']
                  exact (hv e hde (by rw [← S.size]; exact hlt')).symm
                · rw [Array.getElem?_eq_none (by rw [put_size]; exact hge), Array.getElem?_eq_none (by rw [hs1, ← S.size]; exact hge)]
              · have hl := (set_of hl).resolve_left hik
                rw [put_ne _ _ _ _ (fun he => hik (HK.dsts i k e hi hkn hde (by rw [dk, he])))]
                exact S.wr i e hi hl hni hde
            · intro i e hi hl hde
              have hik : i ≠ k := fun he => by subst he; exact hal hi
              have hl := (set_of hl).resolve_left hik
              obtain ⟨g1, g2, g3⟩ := S.als i e hi hl hde
              refine ⟨fun hlt => by
                rw [put_ne _ _ _ _ (fun he => hik (HK.dsts i k e (by obtain ⟨_, _, _, _, hh, _⟩ := HK.als i hi; exact hh) hkn hde (by rw [dk, he])))]
                exact g1 hlt, g2, by
                  rw [hgr.block (hnew i e hi hl hde)]
                  exact ⟨fun h => g3.1 ((stNot i hst).1 h), fun h => g3.2 (fun h' => h ((stNot i hst).2 h'))⟩⟩
            · intro i j hi hj hli hlj hij
              have hik : i ≠ k := fun he => by subst he; exact hal hi
              have hjk : j ≠ k := fun he => by subst he; exact hal hj
              exact S.apart i j hi hj ((set_of hli).resolve_left hik) ((set_of hlj).resolve_left hjk) hij
            · intro s hs
              rw [put_ne _ _ _ _ (fun he => hs k hkn (getD_set_self (by omega)) (by rw [dk, he]))]
              exact S.old s fun i hi hl => hs i hi (getD_set_true hl)
          rcases hy with ⟨hw, hv1⟩ | ⟨hw, rfl⟩
          · rw [if_pos (by rw [hwa]; exact hw)]
            refine .inl ?_
            have h3 := hv1 w (Gr.refl w)
            unfold Oper.quietAt at h3
            unfold Oper.wp
            rw [hex]
            generalize (execOp ak.eval o).run P w = r at h3
            cases r with
            | ok nx w' =>
              cases nx <;> simp only [Oper.quietUpon] at h3 <;> simp only [Oper.upon]
              case value u =>
                obtain ⟨e1, e2⟩ := h3
                rw [e1, e2]
                exact fin w (Gr.refl w)
              case skip =>
                obtain ⟨e1, e2⟩ := h3
                rw [e1, ← e2]
                exact fin w (Gr.refl w)
              case enter g args =>
                obtain ⟨e1, hc⟩ := h3
                rw [e1]
                exact hc.mono fun e w'' ⟨he, hw''⟩ => by subst he; exact fin w'' hw''
            | halt x w' => simp only [Oper.quietUpon] at h3
          · rw [if_neg (by rw [hwa, hw]; exact Bool.false_ne_true)]
            exact fin w (Gr.refl w)
end


section
variable {P : Program} {l : List Oper} {id : Nat} {Q : Exit → Act → World → Prop} {a aF : Act} {w : World}

theorem gr_drawn {w wb : World} (h : Gr { w with drawn := w.drawn + 1 } wb) : Gr w wb := (Gr.drew w).trans h
theorem wp_head {al sts : List Nat} {own : Nat → Nat} {blk0 blk1 : Nat → Obj} (n : Nat) (hm : P.follows .mixedOrders = true) (hB : headB al sts own n l = true)
    (hrun : ∀ j ∈ al, ∀ o, l[j]? = some o → ∀ (a : Act) (w : World), (execOp a.eval o).run P w = .ok (.value (.pointer (some ⟨w.heap.size, 0, none⟩))) (w.alloc (blk0 j)))
    (hsto : ∀ k ∈ sts, StoreOk P l aF own blk0 blk1 k)
    (hq : ∀ wb, Gr w wb → wpQuiet P l.toArray (fun w' => ∃ p : GrownBy, w' = grow (wb.drewN p.n) p.os) (fun x => x = aF) (headOps (al ++ sts) n 0 l) a)
    (hT : ∀ listed a' w' bs, (∀ i, i < n → listed.getD i false = true) → Sim l al sts own n a aF { w with drawn := w.drawn + 1 } blk0 blk1 listed a' w' bs → wpList P l.toArray Q (l.drop n) a' w') : (Code.region id l.toArray true).wp P Q a w := by
  have HK := headOk_of hB
  refine wp_region_any hm ?_
  have hlt := HK.lt
  have := head_all (P := P) (Q := Q) (blk0 := blk0) (blk1 := blk1) (w0 := { w with drawn := w.drawn + 1 }) HK hrun hsto (fun wb h => hq wb (gr_drawn h)) hT n (Array.replicate l.length false) a { w with drawn := w.drawn + 1 } (fun _ => 0)
    (by
      unfold undone
      rw [List.filter_eq_self.2 (fun i _ => by rw [getD_replicate_false]; rfl)]; simp)
    ⟨by simp, fun j oj _ hl => (by rw [getD_replicate_false] at hl; cases hl), fun t _ ht => getD_in (by simpa using ht) (getD_replicate_false _ _)⟩
    ⟨Gr.refl _, rfl, rfl, fun i d _ hl => (by rw [getD_replicate_false] at hl; cases hl), fun i d _ hl => (by rw [getD_replicate_false] at hl; cases hl), fun i j _ _ hl => (by rw [getD_replicate_false] at hl; cases hl), fun _ _ => rfl⟩
  rw [show n + (l.length - n) = l.toArray.size by simp; omega] at this
  simpa using this

theorem sim_final {al sts : List Nat} {own : Nat → Nat} {n : Nat} {blk0 blk1 : Nat → Obj} {w0 : World} {listed : Array Bool} {a' : Act} {w' : World} {bs : Nat → Nat} (HK : HeadOk al sts own n l)
    (hq : wpQuiet P l.toArray (fun w' => ∃ p : GrownBy, w' = grow (w.drewN p.n) p.os) (fun x => x = aF) (headOps (al ++ sts) n 0 l) a)
    (hl : ∀ i, i < n → listed.getD i false = true) (S : Sim l al sts own n a aF w0 blk0 blk1 listed a' w' bs) :
    a'.defers = aF.defers ∧ a'.tmps.size = aF.tmps.size ∧ ∀ s : Nat, (∀ i, i ∈ al → dstOf l i ≠ some s) → a'.tmps[s]? = aF.tmps[s]? := by
  have hd1 : ∀ i j d, dstOf (headOps (al ++ sts) n 0 l) i = some d → dstOf (headOps (al ++ sts) n 0 l) j = some d → i = j := by
    intro i j d hi hj
    rw [dst_head] at hi hj
    split at hi
    · split at hi
      · cases hi
      · split at hj
        · split at hj
          · cases hj
          · exact HK.dsts i j d ‹_› ‹_› hi hj
        · cases hj
    · cases hi
  obtain ⟨⟨f1, f2, f3⟩, _⟩ := lex_walk (headOps (al ++ sts) n 0 l) a hd1 hq
  refine ⟨by rw [S.defers, f1], by rw [S.size, f2], fun s hs => ?_⟩
  by_cases hex : ∃ i, i < n ∧ dstOf l i = some s
  · obtain ⟨i, hi, hd⟩ := hex
    have hni : i ∉ al ++ sts := fun h => by
      rcases List.mem_append.1 h with h | h
      · exact hs i h hd
      · obtain ⟨o, ho, _, _, hdn, _⟩ := HK.stos i h
        simp [dstOf, ho, hdn] at hd
    exact S.wr i s hi (hl i hi) hni hd
  · rw [S.old s fun i hi _ hd => hex ⟨i, hi, hd⟩, f3 s fun i => by
      rw [dst_head]
      split
      · split
        · exact fun h => by cases h
        · exact fun hd => hex ⟨i, ‹_›, hd⟩
      · exact fun h => by cases h]

theorem act_ext {a b : Act} (h1 : a.defers = b.defers) (h2 : ∀ s : Nat, a.tmps[s]? = b.tmps[s]?) : a = b := by
  obtain ⟨t, d⟩ := a
  obtain ⟨u, e⟩ := b
  simp only at h1 h2
  subst h1
  rw [Array.ext_getElem? h2]

/-- No variable is made in the head. -/
theorem wp_reg0 (n : Nat) (hm : P.follows .mixedOrders = true) (hB : headB [] [] (fun i => i) n l = true)
    (h : ∃ aF, (∀ wb, Gr w wb → wpQuiet P l.toArray (fun w' => ∃ p : GrownBy, w' = grow (wb.drewN p.n) p.os) (fun x => x = aF) (headOps [] n 0 l) a) ∧
      ∀ w', Gr w w' → wpList P l.toArray Q (l.drop n) aF w') : (Code.region id l.toArray true).wp P Q a w := by
  obtain ⟨aF, hq, hT⟩ := h
  refine wp_head (blk0 := fun _ => default) (blk1 := fun _ => default) n hm hB (fun j h => by cases h) (fun j h => by cases h) hq fun listed a' w' bs hl S => ?_
  obtain ⟨e1, e2, e3⟩ := sim_final (headOk_of hB) (hq w (Gr.refl w)) hl S
  rw [act_ext e1 fun s => e3 s (fun i h => by cases h)]
  exact hT w' (gr_drawn S.grown)

/-- One variable is made in the head, by operation i, and its address goes to slot d. -/
theorem wp_reg1 {o : Oper} {b0 : Obj} (n i d : Nat) (hm : P.follows .mixedOrders = true) (hB : headB [i] [] (fun _ => i) n l = true) (ho : l[i]? = some o) (hod : o.dst = some d) (hda : d < a.tmps.size)
    (hrun : ∀ (a : Act) (w : World), (execOp a.eval o).run P w = .ok (.value (.pointer (some ⟨w.heap.size, 0, none⟩))) (w.alloc b0))
    (h : ∃ aF, (∀ wb, Gr w wb → wpQuiet P l.toArray (fun w' => ∃ p : GrownBy, w' = grow (wb.drewN p.n) p.os) (fun x => x = aF) (headOps [i] n 0 l) a) ∧
      ∀ w' b, Gr w w' → w.heap.size ≤ b → w'.heap[b]? = some b0 → wpList P l.toArray Q (l.drop n) (aF.put (some d) (.pointer (some ⟨b, 0, none⟩))) w') : (Code.region id l.toArray true).wp P Q a w := by
  obtain ⟨aF, hq, hT⟩ := h
  refine wp_head (blk0 := fun _ => b0) (blk1 := fun _ => b0) n hm hB (fun j h o' ho' => ?_) (fun j h => by cases h) hq fun listed a' w' bs hl S => ?_
  · have : j = i := by simpa using h
    subst this
    have : o' = o := Option.some.inj (ho'.symm.trans ho)
    subst this
    exact hrun
  · have HK := headOk_of hB
    obtain ⟨e1, e2, e3⟩ := sim_final HK (hq w (Gr.refl w)) hl S
    have hdi : dstOf l i = some d := by simp [dstOf, ho, hod]
    obtain ⟨_, _, _, _, hin, _⟩ := HK.als i (by simp)
    obtain ⟨s1, s2, s3⟩ := S.als i d (by simp) (hl i hin) hdi
    have e : a' = aF.put (some d) (.pointer (some ⟨bs i, 0, none⟩)) := act_ext (by rw [put_defers]; exact e1) fun s => by
      by_cases hs : s = d
      · subst hs
        rw [s1 hda, put_at _ _ _ (by rw [← e2, S.size]; exact hda)]
      · rw [put_ne _ _ _ _ (fun he => hs (Option.some.inj he).symm)]
        exact e3 s fun j hj hd => by
          have : j = i := by simpa using hj
          subst this
          exact hs (Option.some.inj (hd.symm.trans hdi))
    rw [e]
    exact hT w' (bs i) (gr_drawn S.grown) s2 (s3.2 (fun ⟨s, hs, _⟩ => by cases hs))

/-- A variable of T is made by operation i (its address goes to slot d), and by operation k what slot x holds is stored into it. -/
theorem wp_reg1s {o os : Oper} {T : TypeId} (zs : Array Value) (n i d k x : Nat) (hm : P.follows .mixedOrders = true) (hB : headB [i] [k] (fun _ => i) n l = true) (ho : l[i]? = some o) (hod : o.dst = some d) (hda : d < a.tmps.size)
    (hos : l[k]? = some os) (hop : os.op = .store T (.tmp d) (.tmp x)) (hdx : d ≠ x)
    (hrun : ∀ (a : Act) (w : World), (execOp a.eval o).run P w = .ok (.value (.pointer (some ⟨w.heap.size, 0, none⟩))) (w.alloc (.cells zs T))) (hi : (P.info? T).map (·.size) = some zs.size)
    (h : ∃ aF cs, (∀ wb, Gr w wb → wpQuiet P l.toArray (fun w' => ∃ p : GrownBy, w' = grow (wb.drewN p.n) p.os) (fun x => x = aF) (headOps [i, k] n 0 l) a) ∧
      aF.tmps[x]? = some (.agg cs) ∧ (zs.size = cs.size ∧ cs.all (·.oneCell') = true) ∧
      ∀ w' b, Gr w w' → w.heap.size ≤ b → w'.heap[b]? = some (.cells cs T) → wpList P l.toArray Q (l.drop n) (aF.put (some d) (.pointer (some ⟨b, 0, none⟩))) w') : (Code.region id l.toArray true).wp P Q a w := by
  obtain ⟨aF, cs, hq, hx, ⟨hz, h1⟩, hT⟩ := h
  rw [hz] at hi
  have HK := headOk_of hB
  have hdi : dstOf l i = some d := by simp [dstOf, ho, hod]
  have hsz : aF.tmps.size = a.tmps.size := by
    have hd1 : ∀ i' j d, dstOf (headOps ([i] ++ [k]) n 0 l) i' = some d → dstOf (headOps ([i] ++ [k]) n 0 l) j = some d → i' = j := by
      intro i' j d hi hj
      rw [dst_head] at hi hj
      split at hi
      · split at hi
        · cases hi
        · split at hj
          · split at hj
            · cases hj
            · exact HK.dsts i' j d ‹_› ‹_› hi hj
          · cases hj
      · cases hi
    exact (lex_walk (headOps ([i] ++ [k]) n 0 l) a hd1 (hq w (Gr.refl w))).1.2.1
  refine wp_head (blk0 := fun _ => .cells zs T) (blk1 := fun _ => .cells cs T) n hm hB (fun j h o' ho' => ?_) (fun j h => ?_) hq fun listed a' w' bs hl S => ?_
  · have : j = i := by simpa using h
    subst this
    have : o' = o := Option.some.inj (ho'.symm.trans ho)
    subst this
    exact hrun
  · have : j = k := by simpa using h
    subst this
    intro o' d' ho' hd' a' w' b g1 g2 g3 g4
    have : o' = os := Option.some.inj (ho'.symm.trans hos)
    subst this
    have : d' = d := Option.some.inj (hd'.symm.trans hdi)
    subst this
    have gd : a'.eval (.tmp d') = .pointer (some ⟨b, 0, none⟩) := by
      simp [Act.eval, Array.getD_eq_getD_getElem?, g1 (by rw [g2, hsz]; exact hda)]
    have gx : a'.eval (.tmp x) = .agg cs := by
      have := g3 x (List.mem_append_left _ (List.mem_filterMap.2 ⟨.tmp x, by rw [hop]; simp [Op.operands], rfl⟩)) (Ne.symm hdx)
      simp [Act.eval, Array.getD_eq_getD_getElem?, this, hx]
    refine ⟨w'.setRow b cs, ?_, rfl, rfl, rfl, rfl, by simp [World.setRow], fun k hk => heap_setRow w' b cs k hk, heap_setRow_at w' b cs zs T g4⟩
    obtain ⟨ds, op, ty, pos, aft, gu⟩ := o'
    simp only at hop
    subst hop
    have := run_storeVar_row (P := P) w' b T T zs cs g4 hi hz h1
    have e : Instr.storeAt T (.pointer (some ⟨b, 0, none⟩)) (.agg cs) = storeVar T ⟨b, 0, none⟩ (.agg cs) := rfl
    simp only [execOp, gd, gx, e]
    generalize storeVar T ⟨b, 0, none⟩ (.agg cs) = sv at this ⊢
    simp [go_sem, this]
  · obtain ⟨e1, e2, e3⟩ := sim_final HK (hq w (Gr.refl w)) hl S
    obtain ⟨_, _, _, _, hin, _⟩ := HK.als i (by simp)
    obtain ⟨_, _, _, hkn, _⟩ := HK.stos k (by simp)
    obtain ⟨s1, s2, s3⟩ := S.als i d (by simp) (hl i hin) hdi
    have e : a' = aF.put (some d) (.pointer (some ⟨bs i, 0, none⟩)) := act_ext (by rw [put_defers]; exact e1) fun s => by
      by_cases hs : s = d
      · subst hs
        rw [s1 hda, put_at _ _ _ (by rw [← e2, S.size]; exact hda)]
      · rw [put_ne _ _ _ _ (fun he => hs (Option.some.inj he).symm)]
        exact e3 s fun j hj hd => by
          have : j = i := by simpa using hj
          subst this
          exact hs (Option.some.inj (hd.symm.trans hdi))
    rw [e]
    exact hT w' (bs i) (gr_drawn S.grown) s2 (s3.1 ⟨k, by simp, rfl, hl k hkn⟩)

end


/-! ### A region in which one call panics, whatever has come up before it -/
/-- c: the call; D: what waits for it; al: makings of variables. All else only reads. -/
def badB (al D : List Nat) (c : Nat) (l : List Oper) : Bool :=
  Region.noSelect l.toArray && decide (c < l.length) && !al.contains c && !D.contains c &&
  (List.range l.length).all (fun i => match l[i]? with
    | some o => o.after.all (fun e => !Region.binds .any e || decide (e.on < i)) &&
        (al.contains i || D.contains i || (o.looksAt l.toArray).all fun s => (List.range l.length).all fun j => dstOf l j != some s || (!(al ++ c :: D).contains j && decide (j < i) && Region.waitsFor .any l.toArray i j)) &&
        (D.contains i || o.after.all (fun e => !Region.binds .any e || !(c :: D).contains e.on)) &&
        ((List.range l.length).all fun j => i == j || o.dst == none || dstOf l j != o.dst || ((c :: D).contains i && (c :: D).contains j))
    | none => false) &&
  D.all (fun k => !al.contains k && (c :: D).any fun j => decide (j < k) && Region.waitsFor .any l.toArray k j) &&
  al.all (fun j => match l[j]? with | some o => o.guard.isNone | none => false) &&
  (match l[c]? with | some o => o.guard.isNone | none => false)

structure BadOk (al D : List Nat) (c : Nat) (l : List Oper) : Prop where
  nosel : Region.noSelect l.toArray = true
  lt : c < l.length
  cal : c ∉ al
  cD : c ∉ D
  after : ∀ i o, l[i]? = some o → ∀ e ∈ o.after, Region.binds .any e = true → e.on < i
  looks : ∀ i o, l[i]? = some o → i ∉ al → i ∉ D → ∀ s ∈ o.looksAt l.toArray, ∀ j, dstOf l j = some s → j ∉ al ++ c :: D ∧ j < i ∧ Region.waitsFor .any l.toArray i j = true
  deps : ∀ i o, l[i]? = some o → i ∉ D → ∀ e ∈ o.after, Region.binds .any e = true → e.on ∉ c :: D
  dsts : ∀ i j d, dstOf l i = some d → dstOf l j = some d → i = j ∨ (i ∈ c :: D ∧ j ∈ c :: D)
  waitD : ∀ k, k ∈ D → k ∉ al ∧ ∃ j, j ∈ c :: D ∧ j < k ∧ Region.waitsFor .any l.toArray k j = true
  als : ∀ j, j ∈ al → ∃ o, l[j]? = some o ∧ o.guard = none
  cg : ∀ o, l[c]? = some o → o.guard = none

theorem lt_of_dst {l : List Oper} {i d : Nat} (h : dstOf l i = some d) : i < l.length := by
  unfold dstOf at h
  cases ho : l[i]? with
  | none => simp [ho] at h
  | some o => exact (List.getElem?_eq_some_iff.1 ho).1

theorem badOk_of {al D : List Nat} {c : Nat} {l : List Oper} (h : badB al D c l = true) : BadOk al D c l := by
  simp only [badB, Bool.and_eq_true, decide_eq_true_eq, Bool.not_eq_true'] at h
  obtain ⟨⟨⟨⟨⟨⟨⟨h1, h2⟩, h3⟩, h4⟩, h5⟩, h6⟩, h7⟩, h8⟩ := h
  have key : ∀ i o, l[i]? = some o → o.after.all (fun e => !Region.binds .any e || decide (e.on < i)) = true ∧
      (al.contains i || D.contains i || (o.looksAt l.toArray).all fun s => (List.range l.length).all fun j => dstOf l j != some s || (!(al ++ c :: D).contains j && decide (j < i) && Region.waitsFor .any l.toArray i j)) = true ∧
      (D.contains i || o.after.all (fun e => !Region.binds .any e || !(c :: D).contains e.on)) = true ∧
      ((List.range l.length).all fun j => i == j || o.dst == none || dstOf l j != o.dst || ((c :: D).contains i && (c :: D).contains j)) = true := by
    intro i o ho
    have := List.all_eq_true.1 h5 i (List.mem_range.2 (List.getElem?_eq_some_iff.1 ho).1)
    simp only [ho, Bool.and_eq_true] at this
    exact ⟨this.1.1.1, this.1.1.2, this.1.2, this.2⟩
  refine ⟨h1, h2, by simpa using h3, by simpa using h4, ?_, ?_, ?_, ?_, ?_, ?_, ?_⟩
  · intro i o ho e he hb
    have h := Array.all_eq_true_iff_forall_mem.1 (key i o ho).1 e he
    simpa [hb] using h
  · intro i o ho hal hD s hs j hd
    have h := (key i o ho).2.1
    have e1 : al.contains i = false := by simpa using hal
    have e2 : D.contains i = false := by simpa using hD
    simp only [e1, e2, Bool.false_or] at h
    have h := List.all_eq_true.1 (List.all_eq_true.1 h s hs) j (List.mem_range.2 (lt_of_dst hd))
    simp only [hd, bne_self_eq_false, Bool.false_or, Bool.and_eq_true, decide_eq_true_eq, Bool.not_eq_true'] at h
    exact ⟨fun hm => (by
      have := h.1.1
      rw [List.contains_iff_mem.2 hm] at this; cases this), h.1.2, h.2⟩
  · intro i o ho hD e he hb hm
    have h := (key i o ho).2.2.1
    have e2 : D.contains i = false := by simpa using hD
    simp only [e2, Bool.false_or] at h
    have h := Array.all_eq_true_iff_forall_mem.1 h e he
    simp only [hb, Bool.not_true, Bool.false_or, Bool.not_eq_true'] at h
    rw [List.contains_iff_mem.2 hm] at h; cases h
  · intro i j d hdi hdj
    have hi := lt_of_dst hdi
    have hj := lt_of_dst hdj
    unfold dstOf at hdi
    cases ho : l[i]? with
    | none => simp [ho] at hdi
    | some o =>
      simp only [ho, Option.bind_some] at hdi
      have h := List.all_eq_true.1 (key i o ho).2.2.2 j (List.mem_range.2 hj)
      simp only [hdi, hdj, Bool.or_eq_true, beq_iff_eq, bne_self_eq_false, Bool.and_eq_true] at h
      rcases h with ((h | h) | h) | h
      · exact .inl h
      · cases h
      · cases h
      · exact .inr ⟨List.contains_iff_mem.1 h.1, List.contains_iff_mem.1 h.2⟩
  · intro k hk
    have h := List.all_eq_true.1 h6 k hk
    simp only [Bool.and_eq_true, Bool.not_eq_true'] at h
    obtain ⟨j, hj, hj2⟩ := List.any_eq_true.1 h.2
    simp only [Bool.and_eq_true, decide_eq_true_eq] at hj2
    exact ⟨by simpa using h.1, j, hj, hj2.1, hj2.2⟩
  · intro j hj
    have h := List.all_eq_true.1 h7 j hj
    cases ho : l[j]? with
    | none => simp [ho] at h
    | some o => exact ⟨o, rfl, by simpa [ho, Option.isNone_iff_eq_none] using h⟩
  · intro o ho
    simpa [ho, Option.isNone_iff_eq_none] using h8

section
variable {P : Program} {l : List Oper} {al D : List Nat} {c : Nat} {a0 aF : Act} {w0 : World} {blk : Nat → Obj}

structure SimB (l : List Oper) (al D : List Nat) (c : Nat) (a0 aF : Act) (w0 : World) (listed : Array Bool) (a : Act) (w : World) : Prop where
  grown : Gr w0 w
  defers : a.defers = a0.defers
  size : a.tmps.size = a0.tmps.size
  lsize : listed.size = l.length
  none : ∀ i, i ∈ c :: D → listed.getD i false = false
  wr : ∀ i d, listed.getD i false = true → i ∉ al → dstOf l i = some d → a.tmps[d]? = aF.tmps[d]?
  old : ∀ s, (∀ i, listed.getD i false = true → dstOf l i ≠ some s) → a.tmps[s]? = a0.tmps[s]?

theorem head_bad (HK : BadOk al D c l) {Q : Exit → Act → World → Prop}
    (hrun : ∀ j ∈ al, ∀ o, l[j]? = some o → ∀ (a : Act) (w : World), (execOp a.eval o).run P w = .ok (.value (.pointer (some ⟨w.heap.size, 0, none⟩))) (w.alloc (blk j)))
    (hq : ∀ wb, Gr w0 wb → wpQuiet P l.toArray (fun w' => ∃ p : GrownBy, w' = grow (wb.drewN p.n) p.os) (fun x => x = aF) (headOps (al ++ c :: D) l.length 0 l) a0)
    (hc : ∀ o, l[c]? = some o → ∀ (a : Act) (w : World) (K : Act → World → Prop), a.defers = a0.defers → execOp a.eval o = execOp aF.eval o → Gr w0 w → o.wp P a w K Q) :
    ∀ (f : Nat) (listed : Array Bool) (a : Act) (w : World), undone listed l.length = f → SimB l al D c a0 aF w0 listed a w → wpAny P .any l.toArray Q f listed a w := by
  have hd1 : ∀ i j d, dstOf (headOps (al ++ c :: D) l.length 0 l) i = some d → dstOf (headOps (al ++ c :: D) l.length 0 l) j = some d → i = j := by
    intro i j d hi hj
    rw [dst_head] at hi hj
    split at hi
    · split at hi
      · cases hi
      · rename_i hni
        split at hj
        · split at hj
          · cases hj
          · rcases HK.dsts i j d hi hj with h | h
            · exact h
            · exact absurd (List.contains_iff_mem.2 (List.mem_append_right _ h.1)) (by simpa using hni)
        · cases hj
    · cases hi
  have hs1 : aF.tmps.size = a0.tmps.size := (lex_walk (headOps (al ++ c :: D) l.length 0 l) a0 hd1 (hq w0 (Gr.refl w0))).1.2.1
  intro f
  induction f with
  | zero =>
    intro listed a w hu S
    have := undone_zero hu c HK.lt
    rw [S.none c (by simp)] at this; cases this
  | succ f ih =>
    intro listed a w hu S
    -- the first that has not come up and does not wait for the call
    have hfirst : ∃ i, i < l.length ∧ i ∉ D ∧ listed.getD i false = false ∧ ∀ j, j < i → j ∉ D → listed.getD j false = true := by
      have h0 : ∃ i, i < l.length ∧ i ∉ D ∧ listed.getD i false = false := ⟨c, HK.lt, HK.cD, S.none c (by simp)⟩
      obtain ⟨i, hi, hD, hf⟩ := h0
      induction i using Nat.strongRecOn with
      | _ i ih' =>
        by_cases hall : ∀ j, j < i → j ∉ D → listed.getD j false = true
        · exact ⟨i, hi, hD, hf, hall⟩
        · by_cases hcc : ∃ j, j < i ∧ j ∉ D ∧ listed.getD j false = false
          · obtain ⟨j, hj, hjD, hjf⟩ := hcc
            exact ih' j hj (by omega) hjD hjf
          · exact absurd (fun j hj hjD => by
              cases hb : listed.getD j false with
              | true => rfl
              | false => exact absurd ⟨j, hj, hjD, hb⟩ hcc) hall
    obtain ⟨i0, hi0, hD0, hf0, hbef⟩ := hfirst
    refine ⟨fun h => ?_, fun k hk => ?_⟩
    · exfalso
      have : i0 ∈ Region.ready .any l.toArray listed := by
        rw [mem_ready]
        refine ⟨by rw [getD_tf (by rw [S.lsize]; exact hi0)]; exact hf0, l[i0], by simp, fun e he hb => ?_⟩
        have hlt := HK.after i0 _ (by simp) e he hb
        have hnd := HK.deps i0 _ (by simp) hD0 e he hb
        exact hbef _ hlt (fun h => hnd (List.mem_cons_of_mem _ h))
      rw [h] at this; cases this
    · obtain ⟨hkun, o, ho, hdeps⟩ := mem_ready.1 hk
      have ho' : l[k]? = some o := by simpa using ho
      have hkl : k < l.length := (List.getElem?_eq_some_iff.1 ho').1
      have hkf : listed.getD k false = false := by rw [← getD_tf (by rw [S.lsize]; exact hkl)]; exact hkun
      have hu' : undone (listed.setIfInBounds k true) l.length = f := by have := undone_set hkl (by rw [S.lsize]; exact hkl) hkf; omega
      have dk : dstOf l k = o.dst := by simp [dstOf, ho']
      have waits : ∀ j, Region.waitsFor .any l.toArray k j = true → listed.getD j false = true := by
        intro j q3
        obtain ⟨ok, hok, e, he, hb, hon⟩ := Region.waitsFor_spec q3
        have : ok = o := Option.some.inj (hok.symm.trans ho)
        subst this
        rw [← hon]; exact hdeps e he hb
      by_cases hkD : k ∈ D
      · exfalso
        obtain ⟨_, j, hj, _, hw⟩ := HK.waitD k hkD
        have := waits j hw
        rw [S.none j hj] at this; cases this
      · unfold wpOp
        simp only [ho]
        by_cases hal : k ∈ al
        · obtain ⟨o', h1, h2⟩ := HK.als k hal
          have : o' = o := Option.some.inj (h1.symm.trans ho')
          subst this
          rw [if_pos (by simp [Region.wanted, h2])]
          refine .inl ?_
          unfold Oper.wp
          rw [hrun k hal o' ho' a w]
          simp only [Oper.upon]
          refine ih _ _ _ hu' ?_
          have hkc : k ∉ c :: D := fun h => by
            rcases List.mem_cons.1 h with h | h
            · exact HK.cal (h ▸ hal)
            · exact hkD h
          constructor
          · exact S.grown.trans (Gr.alloc _ _)
          · rw [put_defers]; exact S.defers
          · rw [put_size]; exact S.size
          · simp [S.lsize]
          · intro i hi
            rw [getD_set_ne false (fun h => hkc (by rw [h]; exact hi))]
            exact S.none i hi
          · intro i e hl hni hde
            rcases set_of hl with rfl | hl
            · exact absurd hal hni
            · rw [put_ne _ _ _ _ (fun he => by
                rcases HK.dsts i k e hde (by rw [dk, he]) with h | h
                · exact hni (h ▸ hal)
                · exact hkc h.2)]
              exact S.wr i e hl hni hde
          · intro s hs
            rw [put_ne _ _ _ _ (fun he => hs k (getD_set_self (by rw [S.lsize]; exact hkl)) (by rw [dk, he]))]
            exact S.old s fun i hl => hs i (getD_set_true hl)
        · have hf4 := lex_walk (headOps (al ++ c :: D) l.length 0 l) a0 hd1 (hq w S.grown)
          by_cases hkc : k = c
          · subst hkc
            rw [if_pos (by simp [Region.wanted, HK.cg o ho'])]
            refine .inl (hc o ho' a w _ S.defers (exec_same (ops := l.toArray) o (fun cs b => Region.noSelect_spec HK.nosel k o cs b ho) fun s hs => ?_) S.grown)
            by_cases hex : ∃ j, dstOf l j = some s
            · obtain ⟨j, hdj⟩ := hex
              obtain ⟨q1, q2, q3⟩ := HK.looks k o ho' hal hkD s hs j hdj
              exact S.wr j s (waits j q3) (fun h => q1 (List.mem_append_left _ h)) hdj
            · have hno : ∀ i, dstOf l i ≠ some s := fun i hd => hex ⟨i, hd⟩
              rw [S.old s fun i _ => hno i, hf4.1.2.2 s fun i => by
                rw [dst_head]
                split
                · split
                  · exact fun h => by cases h
                  · exact hno i
                · exact fun h => by cases h]
          · have hni : k ∉ al ++ c :: D := fun h => by
              rcases List.mem_append.1 h with h | h
              · exact hal h
              · rcases List.mem_cons.1 h with h | h
                · exact hkc h
                · exact hkD h
            have hnc : (al ++ c :: D).contains k = false := by
              cases hb : (al ++ c :: D).contains k with
              | false => rfl
              | true => exact absurd (List.contains_iff_mem.1 hb) hni
            have hhead : (headOps (al ++ c :: D) l.length 0 l)[k]? = some o := by
              rw [headOps_get, if_pos hkl, ho', Nat.zero_add, hnc]; rfl
            obtain ⟨ak, v, hy, hv, hg3, hg4⟩ := hf4.2 k o hhead
            have agree : ∀ s ∈ o.looksAt l.toArray, a.tmps[s]? = ak.tmps[s]? := by
              intro s hs
              by_cases hex : ∃ j, dstOf l j = some s
              · obtain ⟨j, hdj⟩ := hex
                obtain ⟨q1, q2, q3⟩ := HK.looks k o ho' hal hkD s hs j hdj
                have qc : (al ++ c :: D).contains j = false := by
                  cases hb : (al ++ c :: D).contains j with
                  | false => rfl
                  | true => exact absurd (List.contains_iff_mem.1 hb) q1
                rw [S.wr j s (waits j q3) (fun h => q1 (List.mem_append_left _ h)) hdj, hg3 s ⟨j, q2, by rw [dst_head, if_pos (lt_of_dst hdj), qc]; exact hdj⟩]
              · have hno : ∀ i, dstOf l i ≠ some s := fun i hd => hex ⟨i, hd⟩
                rw [S.old s fun i _ => hno i, hg4 s fun i _ => by
                  rw [dst_head]
                  split
                  · split
                    · exact fun h => by cases h
                    · exact hno i
                  · exact fun h => by cases h]
            have hex := exec_same (ops := l.toArray) o (fun cs b => Region.noSelect_spec HK.nosel k o cs b ho) agree
            have hwa := wanted_same (ops := l.toArray) o agree
            have fin : ∀ w', Gr w w' → wpAny P .any l.toArray Q f (listed.setIfInBounds k true) (a.put o.dst v) w' := by
              intro w' hgr
              refine ih _ _ _ hu' ?_
              constructor
              · exact S.grown.trans hgr
              · rw [put_defers]; exact S.defers
              · rw [put_size]; exact S.size
              · simp [S.lsize]
              · intro i hi
                rw [getD_set_ne false (fun h => hni (List.mem_append_right _ (by rw [h]; exact hi)))]
                exact S.none i hi
              · intro i e hl hnal hde
                by_cases hik : i = k
                · subst hik
                  rw [dk] at hde
                  rcases Nat.lt_or_ge e a.tmps.size with hlt' | hge
                  · rw [hde, put_at _ _ _ hlt']
                    exact (hv e hde (by rw [← S.size]; exact hlt')).symm
                  · rw [Array.getElem?_eq_none (by rw [put_size]; exact hge), Array.getElem?_eq_none (by rw [hs1, ← S.size]; exact hge)]
                · have hl := (set_of hl).resolve_left hik
                  rw [put_ne _ _ _ _ (fun he => by
                    rcases HK.dsts i k e hde (by rw [dk, he]) with h | h
                    · exact hik h
                    · exact hni (List.mem_append_right _ h.2))]
                  exact S.wr i e hl hnal hde
              · intro s hs
                rw [put_ne _ _ _ _ (fun he => hs k (getD_set_self (by rw [S.lsize]; exact hkl)) (by rw [dk, he]))]
                exact S.old s fun i hl => hs i (getD_set_true hl)
            rcases hy with ⟨hw, hv1⟩ | ⟨hw, rfl⟩
            · rw [if_pos (by rw [hwa]; exact hw)]
              refine .inl ?_
              have h3 := hv1 w (Gr.refl w)
              unfold Oper.quietAt at h3
              unfold Oper.wp
              rw [hex]
              generalize (execOp ak.eval o).run P w = r at h3
              cases r with
              | ok nx w' =>
                cases nx <;> simp only [Oper.quietUpon] at h3 <;> simp only [Oper.upon]
                case value u =>
                  obtain ⟨e1, e2⟩ := h3
                  rw [e1, e2]
                  exact fin w (Gr.refl w)
                case skip =>
                  obtain ⟨e1, e2⟩ := h3
                  rw [e1, ← e2]
                  exact fin w (Gr.refl w)
                case enter g args =>
                  obtain ⟨e1, hcc⟩ := h3
                  rw [e1]
                  exact hcc.mono fun e w'' ⟨he, hw''⟩ => by subst he; exact fin w'' hw''
              | halt x w' => simp only [Oper.quietUpon] at h3
            · rw [if_neg (by rw [hwa, hw]; exact Bool.false_ne_true)]
              exact fin w (Gr.refl w)

/-- The call numbered c panics, and so does the region. -/
theorem wp_regP {id : Nat} {Q : Exit → Act → World → Prop} {a : Act} {w : World} {o : Oper} (c : Nat) (D : List Nat) (hm : P.follows .mixedOrders = true) (hB : badB [] D c l = true) (ho : l[c]? = some o)
    (h : ∃ aF f args, (∀ wb, Gr w wb → wpQuiet P l.toArray (fun w' => ∃ p : GrownBy, w' = grow (wb.drewN p.n) p.os) (fun x => x = aF) (headOps (c :: D) l.length 0 l) a) ∧
      (∀ w', (execOp aF.eval o).run P w' = .ok (.enter f args) w') ∧
      ∀ w', Gr w w' → Calls P f args w' fun e w'' => ∃ ch, e = .panicked ch ∧ ∀ a', a'.defers = a.defers → Q (.panic ch) a' w'') : (Code.region id l.toArray true).wp P Q a w := by
  obtain ⟨aF, f, args, hq, he, hc⟩ := h
  have HK := badOk_of hB
  refine wp_region_any hm ?_
  have := head_bad (P := P) (Q := Q) (blk := fun _ => default) (w0 := { w with drawn := w.drawn + 1 }) HK (fun j h => by cases h) (fun wb h => hq wb (gr_drawn h))
    (fun o' ho' a' w' K hd hex hg => by
      have : o' = o := Option.some.inj (ho'.symm.trans ho)
      subst this
      unfold Oper.wp
      rw [hex, he w']
      simp only [Oper.upon]
      exact (hc w' (gr_drawn hg)).mono fun e w'' ⟨ch, h1, h2⟩ => by subst h1; exact h2 a' hd)
    l.length (Array.replicate l.length false) a { w with drawn := w.drawn + 1 }
    (by
      unfold undone
      rw [List.filter_eq_self.2 (fun i _ => by rw [getD_replicate_false]; rfl)]; simp)
    ⟨Gr.refl _, rfl, rfl, by simp, fun i _ => getD_replicate_false _ _, fun i d hl => (by rw [getD_replicate_false] at hl; cases hl), fun _ _ => rfl⟩
  simpa using this
end

end Go.Proofs.YtgfopfomhgfcaaaGreatDoor
namespace Go.Proofs.YtgfopfomhgfcaaaGreatDoor
open Go.RowKit Go.Sort

/-- What is asked of the region's form; the kernel reckons it. al: the makings of variables; sts: the stores into them; own: whose store it is. -/
def headBA (al sts : List Nat) (own : Nat → Nat) (n : Nat) (l : List Oper) : Bool :=
  Region.noSelect l.toArray && decide (n < l.length) && Region.sinkB .any l.toArray n && Region.chainB .any l.toArray n &&
  Region.seqB .any l.toArray (l.length - n) n (Array.replicate n true ++ Array.replicate (l.length - n) false) &&
  (List.range n).all (fun i => match l[i]? with
    | some o => o.after.all (fun e => !Region.binds .any e || decide (e.on < i)) &&
        ((o.looksAt l.toArray).all fun s => (List.range n).all fun j => dstOf l j != some s || (((sts.contains i && j == own i) || !(al ++ sts).contains j) && decide (j < i) && Region.waitsFor .any l.toArray i j)) &&
        (match o.guard with | some (g, _) => decide (g < n) && !(al ++ sts).contains g | none => true) &&
        (List.range n).all fun j => i == j || o.dst == none || dstOf l j != o.dst
    | none => false) &&
  al.all (fun j => match l[j]? with | some o => o.guard.isNone && decide (j < n) && o.dst.isSome && !sts.contains j | none => false) &&
  sts.all (fun k => match l[k]? with | some o => o.guard.isNone && decide (k < n) && o.dst == none && al.contains (own k) && Region.waitsFor .any l.toArray k (own k) && sts.all (fun s => s == k || own s != own k) | none => false)

structure HeadOkA (al sts : List Nat) (own : Nat → Nat) (n : Nat) (l : List Oper) : Prop where
  nosel : Region.noSelect l.toArray = true
  lt : n < l.length
  sink : Region.sinkB .any l.toArray n = true
  chain : Region.chainB .any l.toArray n = true
  seq : Region.seqB .any l.toArray (l.length - n) n (Array.replicate n true ++ Array.replicate (l.length - n) false) = true
  after : ∀ i o, i < n → l[i]? = some o → ∀ e ∈ o.after, Region.binds .any e = true → e.on < i
  looks : ∀ i o, i < n → l[i]? = some o → ∀ s ∈ o.looksAt l.toArray, ∀ j, j < n → dstOf l j = some s → ((i ∈ sts ∧ j = own i) ∨ j ∉ al ++ sts) ∧ j < i ∧ Region.waitsFor .any l.toArray i j = true
  guards : ∀ i o g b, i < n → l[i]? = some o → o.guard = some (g, b) → g < n ∧ g ∉ al ++ sts
  dsts : ∀ i j d, i < n → j < n → dstOf l i = some d → dstOf l j = some d → i = j
  als : ∀ j, j ∈ al → ∃ o d, l[j]? = some o ∧ o.guard = none ∧ j < n ∧ o.dst = some d ∧ j ∉ sts
  stos : ∀ k, k ∈ sts → ∃ o, l[k]? = some o ∧ o.guard = none ∧ k < n ∧ o.dst = none ∧ own k ∈ al ∧ Region.waitsFor .any l.toArray k (own k) = true ∧ ∀ s, s ∈ sts → own s = own k → s = k

theorem headOk_ofA {al sts : List Nat} {own : Nat → Nat} {n : Nat} {l : List Oper} (h : headBA al sts own n l = true) : HeadOkA al sts own n l := by
  simp only [headBA, Bool.and_eq_true, decide_eq_true_eq] at h
  obtain ⟨⟨⟨⟨⟨⟨⟨h1, h2⟩, h3⟩, h4⟩, h5⟩, h6⟩, h7⟩, h8⟩ := h
  have key : ∀ i o, i < n → l[i]? = some o → o.after.all (fun e => !Region.binds .any e || decide (e.on < i)) = true ∧
      ((o.looksAt l.toArray).all fun s => (List.range n).all fun j => dstOf l j != some s || (((sts.contains i && j == own i) || !(al ++ sts).contains j) && decide (j < i) && Region.waitsFor .any l.toArray i j)) = true ∧
        (match o.guard with | some (g, _) => decide (g < n) && !(al ++ sts).contains g | none => true) = true ∧
        ((List.range n).all fun j => i == j || o.dst == none || dstOf l j != o.dst) = true := by
    intro i o hi ho
    have := List.all_eq_true.1 h6 i (List.mem_range.2 hi)
    simp only [ho, Bool.and_eq_true] at this
    exact ⟨this.1.1.1, this.1.1.2, this.1.2, this.2⟩
  refine ⟨h1, h2, h3, h4, h5, ?_, ?_, ?_, ?_, ?_, ?_⟩
  · intro i o hi ho e he hb
    have h := Array.all_eq_true_iff_forall_mem.1 (key i o hi ho).1 e he
    simpa [hb] using h
  · intro i o hi ho s hs j hj hd
    have h := (key i o hi ho).2.1
    have h := List.all_eq_true.1 (List.all_eq_true.1 h s hs) j (List.mem_range.2 hj)
    simp only [hd, bne_self_eq_false, Bool.false_or, Bool.and_eq_true, decide_eq_true_eq, Bool.or_eq_true, Bool.not_eq_true', beq_iff_eq] at h
    refine ⟨h.1.1.imp (fun h => ⟨by simpa using h.1, h.2⟩) (fun h => by simpa using h), h.1.2, h.2⟩
  · intro i o g b hi ho hg
    have h := (key i o hi ho).2.2.1
    simp only [hg, Bool.and_eq_true, decide_eq_true_eq, Bool.not_eq_true'] at h
    exact ⟨h.1, by simpa using h.2⟩
  · intro i j d hi hj hdi hdj
    unfold dstOf at hdi
    cases ho : l[i]? with
    | none => simp [ho] at hdi
    | some o =>
      simp only [ho, Option.bind_some] at hdi
      have h := List.all_eq_true.1 (key i o hi ho).2.2.2 j (List.mem_range.2 hj)
      simp only [hdi, hdj, Bool.or_eq_true, beq_iff_eq, bne_self_eq_false] at h
      rcases h with (h | h) | h
      · exact h
      · cases h
      · cases h
  · intro j hj
    have h := List.all_eq_true.1 h7 j hj
    cases ho : l[j]? with
    | none => simp [ho] at h
    | some o =>
      simp only [ho, Bool.and_eq_true, decide_eq_true_eq, Option.isNone_iff_eq_none, Option.isSome_iff_exists, Bool.not_eq_true'] at h
      obtain ⟨⟨⟨hg, hn⟩, d, hd⟩, hs⟩ := h
      exact ⟨o, d, rfl, hg, hn, hd, by simpa using hs⟩
  · intro k hk
    have h := List.all_eq_true.1 h8 k hk
    cases ho : l[k]? with
    | none => simp [ho] at h
    | some o =>
      simp only [ho, Bool.and_eq_true, decide_eq_true_eq, Option.isNone_iff_eq_none, beq_iff_eq] at h
      obtain ⟨⟨⟨⟨⟨hg, hn⟩, hd⟩, ha⟩, hw⟩, hu⟩ := h
      refine ⟨o, rfl, hg, hn, hd, by simpa using ha, hw, fun s hs he => ?_⟩
      have := List.all_eq_true.1 hu s hs
      simp only [Bool.or_eq_true, beq_iff_eq, he, bne_self_eq_false] at this
      exact this.resolve_right Bool.false_ne_true

section
variable {P : Program} {l : List Oper} {al sts : List Nat} {own : Nat → Nat} {n : Nat} {a0 aF : Act} {w0 : World} {blk0 blk1 : Nat → Obj} {mk : Nat → Nat → Value}

structure SimA (l : List Oper) (al sts : List Nat) (own : Nat → Nat) (n : Nat) (a0 aF : Act) (w0 : World) (blk0 blk1 : Nat → Obj) (mk : Nat → Nat → Value) (listed : Array Bool) (a : Act) (w : World) (bs : Nat → Nat) : Prop where
  grown : Gr w0 w
  defers : a.defers = a0.defers
  size : a.tmps.size = a0.tmps.size
  wr : ∀ i d, i < n → listed.getD i false = true → i ∉ al ++ sts → dstOf l i = some d → a.tmps[d]? = aF.tmps[d]?
  als : ∀ i d, i ∈ al → listed.getD i false = true → dstOf l i = some d → (d < a0.tmps.size → a.tmps[d]? = some (mk i (bs i))) ∧ w0.heap.size ≤ bs i ∧ Holds' sts own blk0 blk1 listed i (w.heap[bs i]?)
  apart : ∀ i j, i ∈ al → j ∈ al → listed.getD i false = true → listed.getD j false = true → i ≠ j → bs i ≠ bs j
  old : ∀ s, (∀ i, i < n → listed.getD i false = true → dstOf l i ≠ some s) → a.tmps[s]? = a0.tmps[s]?

/-- What a store of the head does, whatever has come up: to its variable alone. -/
def StoreOkA (P : Program) (l : List Oper) (aF : Act) (own : Nat → Nat) (blk0 blk1 : Nat → Obj) (mk : Nat → Nat → Value) (k : Nat) : Prop :=
  ∀ o d, l[k]? = some o → dstOf l (own k) = some d → ∀ (a : Act) (w : World) (b : Nat), (d < a.tmps.size → a.tmps[d]? = some (mk (own k) b)) → a.tmps.size = aF.tmps.size →
    (∀ s ∈ o.looksAt l.toArray, s ≠ d → a.tmps[s]? = aF.tmps[s]?) → w.heap[b]? = some (blk0 (own k)) →
    ∃ w1, (execOp a.eval o).run P w = .ok .skip w1 ∧ w1.os = w.os ∧ w1.tape = w.tape ∧ w1.output = w.output ∧ w1.drawn = w.drawn ∧ w1.heap.size = w.heap.size ∧ (∀ k, k ≠ b → w1.heap[k]? = w.heap[k]?) ∧ w1.heap[b]? = some (blk1 (own k))

theorem head_allA (HK : HeadOkA al sts own n l) {Q : Exit → Act → World → Prop}
    (hrun : ∀ j ∈ al, ∀ o, l[j]? = some o → ∀ (w : World), (execOp aF.eval o).run P w = .ok (.value (mk j w.heap.size)) (w.alloc (blk0 j)))
    (hsto : ∀ k ∈ sts, StoreOkA P l aF own blk0 blk1 mk k)
    (hq : ∀ wb, Gr w0 wb → wpQuiet P l.toArray (fun w' => ∃ p : GrownBy, w' = grow (wb.drewN p.n) p.os) (fun x => x = aF) (headOps (al ++ sts) n 0 l) a0)
    (hT : ∀ listed a w bs, (∀ i, i < n → listed.getD i false = true) → SimA l al sts own n a0 aF w0 blk0 blk1 mk listed a w bs → wpList P l.toArray Q (l.drop n) a w) :
    ∀ (f : Nat) (listed : Array Bool) (a : Act) (w : World) (bs : Nat → Nat), undone listed n = f → HeadInv .any l.toArray n listed → SimA l al sts own n a0 aF w0 blk0 blk1 mk listed a w bs →
      wpAny P .any l.toArray Q (f + (l.length - n)) listed a w := by
  have hlt := HK.lt
  have hd1 : ∀ i j d, dstOf (headOps (al ++ sts) n 0 l) i = some d → dstOf (headOps (al ++ sts) n 0 l) j = some d → i = j := by
    intro i j d hi hj
    rw [dst_head] at hi hj
    split at hi
    · split at hi
      · cases hi
      · split at hj
        · split at hj
          · cases hj
          · exact HK.dsts i j d ‹_› ‹_› hi hj
        · cases hj
    · cases hi
  have hs1 : aF.tmps.size = a0.tmps.size := (lex_walk (headOps (al ++ sts) n 0 l) a0 hd1 (hq w0 (Gr.refl w0))).1.2.1
  intro f
  induction f with
  | zero =>
    intro listed a w bs hu inv S
    rw [Nat.zero_add]
    have hall := undone_zero hu
    have e : listed = Array.replicate n true ++ Array.replicate (l.length - n) false := by
      have hsz : listed.size = l.length := by have := inv.size; simpa using this
      refine Array.ext (by simp [hsz]; omega) fun i h1 h2 => ?_
      by_cases hi : i < n
      · have := hall i hi
        rw [Array.getElem_append_left (by simpa using hi)]
        simpa [h1] using this
      · have := inv.tail i (by omega) (by simpa [hsz] using h1)
        rw [Array.getElem_append_right (by simpa using hi)]
        simpa [h1] using this
    have hseq := HK.seq
    rw [← e] at hseq
    have := wpAny_of_seq (P := P) (ops := l.toArray) (md := .any) (Q' := Q) (l.drop n) n listed a w (fun j => by simp [List.getElem?_drop]) (by simpa using hseq) (hT listed a w bs hall S)
    simpa using this
  | succ f ih =>
    intro listed a w bs hu inv S
    have hsz : listed.size = l.length := by have := inv.size; simpa using this
    obtain ⟨i0, hi0, hf0, hbef⟩ := undone_pos hu
    have hf0' : listed.getD i0 true = false := by rw [getD_tf (by omega)]; exact hf0
    rw [show f + 1 + (l.length - n) = (f + (l.length - n)) + 1 by omega]
    refine ⟨fun h => ?_, fun k hk => ?_⟩
    · exfalso
      have : i0 ∈ Region.ready .any l.toArray listed := by
        rw [mem_ready]
        have hi0l : i0 < l.length := by omega
        exact ⟨hf0', l[i0], by simp, fun e he hb => hbef _ (HK.after i0 _ hi0 (by simp) e he hb)⟩
      rw [h] at this; cases this
    · have hkn : k < n := by
        rcases Nat.lt_or_ge k n with h | h
        · exact h
        · exact absurd hk (tail_waits HK.sink HK.chain (by simpa using HK.lt) inv _ i0 rfl hi0 hf0' k h)
      obtain ⟨hkun, o, ho, hdeps⟩ := mem_ready.1 hk
      have ho' : l[k]? = some o := by simpa using ho
      have hkf : listed.getD k false = false := by rw [← getD_tf (by omega)]; exact hkun
      have hu' : undone (listed.setIfInBounds k true) n = f := by have := undone_set hkn (by omega) hkf; omega
      have inv' := inv.set hk hkn
      have dk : dstOf l k = o.dst := by simp [dstOf, ho']
      have waits : ∀ j, Region.waitsFor .any l.toArray k j = true → listed.getD j false = true := by
        intro j q3
        obtain ⟨ok, hok, e, he, hb, hon⟩ := Region.waitsFor_spec q3
        have : ok = o := Option.some.inj (hok.symm.trans ho)
        subst this
        rw [← hon]; exact hdeps e he hb
      have stNot : ∀ i, k ∉ sts → (stored sts own (listed.setIfInBounds k true) i ↔ stored sts own listed i) := by
        intro i hns
        constructor
        · rintro ⟨s, hs, he, hl⟩
          exact ⟨s, hs, he, (set_of hl).resolve_left (fun h => hns (h ▸ hs))⟩
        · rintro ⟨s, hs, he, hl⟩
          exact ⟨s, hs, he, getD_set_true hl⟩
      have hnew : ∀ i d', i ∈ al → listed.getD i false = true → dstOf l i = some d' → bs i < w.heap.size := by
        intro i d' hi hl hdd
        obtain ⟨x, hx⟩ := (S.als i d' hi hl hdd).2.2.some
        exact (Array.getElem?_eq_some_iff.1 hx).1
      unfold wpOp
      simp only [ho]
      by_cases hal : k ∈ al
      · obtain ⟨o', d, h1, h2, h3, h4, h5⟩ := HK.als k hal
        have : o' = o := Option.some.inj (h1.symm.trans ho')
        subst this
        rw [if_pos (by simp [Region.wanted, h2])]
        refine .inl ?_
        unfold Oper.wp
        have agree : ∀ s ∈ o'.looksAt l.toArray, a.tmps[s]? = aF.tmps[s]? := by
          intro s hs
          by_cases hex : ∃ j, j < n ∧ dstOf l j = some s
          · obtain ⟨j, hj, hdj⟩ := hex
            obtain ⟨q1, q2, q3⟩ := HK.looks k o' hkn ho' s hs j hj hdj
            exact S.wr j s hj (waits j q3) (q1.resolve_left (fun h => h5 h.1)) hdj
          · have hno : ∀ i, i < n → dstOf l i ≠ some s := fun i hi hd => hex ⟨i, hi, hd⟩
            rw [S.old s fun i hi _ => hno i hi]
            have := (lex_walk (headOps (al ++ sts) n 0 l) a0 hd1 (hq w S.grown)).1.2.2 s fun i => by
              rw [dst_head]
              split
              · split
                · exact fun h => by cases h
                · exact hno i ‹_›
              · exact fun h => by cases h
            exact this.symm
        rw [exec_same (ops := l.toArray) o' (fun cs b => Region.noSelect_spec HK.nosel k o' cs b ho) agree, hrun k hal o' ho' w]
        simp only [Oper.upon]
        refine ih _ _ _ (fun i => if i = k then w.heap.size else bs i) hu' inv' ?_
        have hgr : Gr w (w.alloc (blk0 k)) := Gr.alloc _ _
        constructor
        · exact S.grown.trans hgr
        · rw [put_defers]; exact S.defers
        · rw [put_size]; exact S.size
        · intro i e hi hl hni hde
          rcases set_of hl with rfl | hl
          · exact absurd (List.mem_append_left _ hal) hni
          · rw [put_ne _ _ _ _ (fun he => by
              have : i = k := HK.dsts i k e hi hkn hde (by rw [dk, he])
              subst this; exact absurd (List.mem_append_left _ hal) hni)]
            exact S.wr i e hi hl hni hde
        · intro i e hi hl hde
          by_cases hik : i = k
          · subst hik
            rw [if_pos rfl]
            have : d = e := Option.some.inj ((h4.symm.trans dk.symm).trans hde)
            subst this
            have hns : ¬ stored sts own (listed.setIfInBounds i true) i := by
              rw [stNot i h5]
              rintro ⟨s, hs, he, hl'⟩
              obtain ⟨os, hos, _, _, _, _, hws, _⟩ := HK.stos s hs
              obtain ⟨os', hos', e, he', hb, hon⟩ := Region.waitsFor_spec hws
              have := inv.closed s os' hos' hl' e he' hb
              rw [hon, he, hkf] at this
              cases this
            refine ⟨fun hlt => by rw [h4]; exact put_at _ _ _ (by rw [S.size]; exact hlt), S.grown.size, fun h => absurd h hns, fun _ => ?_⟩
            show (w.heap.push _)[w.heap.size]? = _
            simp
          · rw [if_neg hik]
            rcases set_of hl with h | hl
            · exact absurd h hik
            · obtain ⟨g1, g2, g3⟩ := S.als i e hi hl hde
              refine ⟨fun hlt => by
                rw [put_ne _ _ _ _ (fun he => hik (HK.dsts i k e (by obtain ⟨_, _, _, _, hh, _⟩ := HK.als i hi; exact hh) hkn hde (by rw [dk, he])))]
                exact g1 hlt, g2, by
                  rw [hgr.block (hnew i e hi hl hde)]
                  exact ⟨fun h => g3.1 ((stNot i h5).1 h), fun h => g3.2 (fun h' => h ((stNot i h5).2 h'))⟩⟩
        · intro i j hi hj hli hlj hij
          obtain ⟨oi, di, hoi, _, _, hdi, _⟩ := HK.als i hi
          obtain ⟨oj, dj, hoj, _, _, hdj, _⟩ := HK.als j hj
          by_cases hik : i = k
          · by_cases hjk : j = k
            · exact absurd (hik.trans hjk.symm) hij
            · rw [if_pos hik, if_neg hjk]
              have hlj := (set_of hlj).resolve_left hjk
              have := hnew j dj hj hlj (by simp [dstOf, hoj, hdj])
              omega
          · rw [if_neg hik]
            have hli := (set_of hli).resolve_left hik
            by_cases hjk : j = k
            · rw [if_pos hjk]
              have := hnew i di hi hli (by simp [dstOf, hoi, hdi])
              omega
            · rw [if_neg hjk]
              exact S.apart i j hi hj hli ((set_of hlj).resolve_left hjk) hij
        · intro s hs
          rw [put_ne _ _ _ _ (fun he => hs k hkn (getD_set_self (by omega)) (by rw [dk, he]))]
          exact S.old s fun i hi hl => hs i hi (getD_set_true hl)
      · by_cases hst : k ∈ sts
        · -- a store into one of the head's own variables
          obtain ⟨o', h1, h2, h3, h4, h5, h6, h7⟩ := HK.stos k hst
          have : o' = o := Option.some.inj (h1.symm.trans ho')
          subst this
          obtain ⟨oi, di, hoi, _, hin, hdi, _⟩ := HK.als (own k) h5
          have hdd : dstOf l (own k) = some di := by simp [dstOf, hoi, hdi]
          have hlo : listed.getD (own k) false = true := waits _ h6
          obtain ⟨g1, g2, g3⟩ := S.als (own k) di h5 hlo hdd
          have hnst : ¬ stored sts own listed (own k) := by
            rintro ⟨s, hs, he, hl'⟩
            have := h7 s hs he
            subst this
            rw [hkf] at hl'; cases hl'
          have agree : ∀ s ∈ o'.looksAt l.toArray, s ≠ di → a.tmps[s]? = aF.tmps[s]? := by
            intro s hs hsd
            by_cases hex : ∃ j, j < n ∧ dstOf l j = some s
            · obtain ⟨j, hj, hdj⟩ := hex
              obtain ⟨_, q2, q3⟩ := HK.looks k o' hkn ho' s hs j hj hdj
              have hlj := waits j q3
              have q1 := (HK.looks k o' hkn ho' s hs j hj hdj).1
              by_cases hjal : j ∈ al
              · rcases q1 with q1 | q1
                · have : j = own k := q1.2
                  subst this
                  exact absurd (Option.some.inj (hdj.symm.trans hdd)) hsd
                · exact absurd (List.mem_append_left _ hjal) q1
              · have hjst : j ∉ sts := fun h => by
                  obtain ⟨oj, hoj, _, _, hdn, _⟩ := HK.stos j h
                  simp [dstOf, hoj, hdn] at hdj
                exact S.wr j s hj hlj (fun h => (List.mem_append.1 h).elim hjal hjst) hdj
            · have hno : ∀ i, i < n → dstOf l i ≠ some s := fun i hi hd => hex ⟨i, hi, hd⟩
              rw [S.old s fun i hi _ => hno i hi]
              have := (lex_walk (headOps (al ++ sts) n 0 l) a0 hd1 (hq w S.grown)).1.2.2 s fun i => by
                rw [dst_head]
                split
                · split
                  · exact fun h => by cases h
                  · exact hno i ‹_›
                · exact fun h => by cases h
              exact this.symm
          obtain ⟨w1, r1, r2, r3, r4, r5, r6, r7, r8⟩ := hsto k hst o' di ho' hdd a w (bs (own k)) (fun hlt => g1 (by rw [← S.size]; exact hlt)) (by rw [S.size, hs1]) agree (g3.2 hnst)
          rw [if_pos (by simp [Region.wanted, h2])]
          refine .inl ?_
          unfold Oper.wp
          rw [r1]
          simp only [Oper.upon, h4]
          refine ih _ _ _ bs hu' inv' ?_
          have hstO : stored sts own (listed.setIfInBounds k true) (own k) := ⟨k, hst, rfl, getD_set_self (by omega)⟩
          have hstE : ∀ i, i ≠ own k → (stored sts own (listed.setIfInBounds k true) i ↔ stored sts own listed i) := by
            intro i hi
            constructor
            · rintro ⟨s, hs, he, hl⟩
              exact ⟨s, hs, he, (set_of hl).resolve_left (fun h => hi (by rw [← he, h]))⟩
            · rintro ⟨s, hs, he, hl⟩
              exact ⟨s, hs, he, getD_set_true hl⟩
          constructor
          · exact S.grown.heap r2 r3 r4 r5 (by omega) fun j hj => r7 j (by omega)
          · exact S.defers
          · exact S.size
          · intro i e hi hl hni hde
            rcases set_of hl with rfl | hl
            · exact absurd (List.mem_append_right _ hst) hni
            · exact S.wr i e hi hl hni hde
          · intro i e hi hl hde
            have hik : i ≠ k := fun he => by subst he; exact hal hi
            have hl := (set_of hl).resolve_left hik
            obtain ⟨q1, q2, q3⟩ := S.als i e hi hl hde
            refine ⟨q1, q2, ?_⟩
            by_cases hio : i = own k
            · subst hio
              exact ⟨fun _ => r8, fun h => absurd hstO h⟩
            · rw [r7 (bs i) (S.apart i (own k) hi h5 hl hlo hio)]
              exact ⟨fun h => q3.1 ((hstE i hio).1 h), fun h => q3.2 (fun h' => h ((hstE i hio).2 h'))⟩
          · intro i j hi hj hli hlj hij
            have hik : i ≠ k := fun he => by subst he; exact hal hi
            have hjk : j ≠ k := fun he => by subst he; exact hal hj
            exact S.apart i j hi hj ((set_of hli).resolve_left hik) ((set_of hlj).resolve_left hjk) hij
          · intro s hs
            exact S.old s fun i hi hl => hs i hi (getD_set_true hl)
        · have hni : k ∉ al ++ sts := fun h => (List.mem_append.1 h).elim hal hst
          have hnc : (al ++ sts).contains k = false := by
            cases hc : (al ++ sts).contains k with
            | false => rfl
            | true => exact absurd (by simpa using hc) hni
          have hhead : (headOps (al ++ sts) n 0 l)[k]? = some o := by
            rw [headOps_get, if_pos hkn, ho', Nat.zero_add, hnc]; rfl
          obtain ⟨⟨_, _, _⟩, hf4⟩ := lex_walk (headOps (al ++ sts) n 0 l) a0 hd1 (hq w S.grown)
          obtain ⟨ak, v, hy, hv, hg3, hg4⟩ := hf4 k o hhead
          have agree : ∀ s ∈ o.looksAt l.toArray, a.tmps[s]? = ak.tmps[s]? := by
            intro s hs
            by_cases hex : ∃ j, j < n ∧ dstOf l j = some s
            · obtain ⟨j, hj, hdj⟩ := hex
              obtain ⟨q1, q2, q3⟩ := HK.looks k o hkn ho' s hs j hj hdj
              have q1 := q1.resolve_left (fun h => hst h.1)
              have qc : (al ++ sts).contains j = false := by
                cases hc : (al ++ sts).contains j with
                | false => rfl
                | true => exact absurd (by simpa using hc) q1
              rw [S.wr j s hj (waits j q3) q1 hdj, hg3 s ⟨j, q2, by rw [dst_head, if_pos hj, qc]; exact hdj⟩]
            · have hno : ∀ i, i < n → dstOf l i ≠ some s := fun i hi hd => hex ⟨i, hi, hd⟩
              rw [S.old s fun i hi _ => hno i hi, hg4 s fun i _ => by
                rw [dst_head]
                split
                · split
                  · exact fun h => by cases h
                  · exact hno i ‹_›
                · exact fun h => by cases h]
          have hex := exec_same (ops := l.toArray) o (fun cs b => Region.noSelect_spec HK.nosel k o cs b ho) agree
          have hwa := wanted_same (ops := l.toArray) o agree
          -- what is left to show behind the operation
          have fin : ∀ w', Gr w w' → wpAny P .any l.toArray Q (f + (l.length - n)) (listed.setIfInBounds k true) (a.put o.dst v) w' := by
            intro w' hgr
            refine ih _ _ _ bs hu' inv' ?_
            constructor
            · exact S.grown.trans hgr
            · rw [put_defers]; exact S.defers
            · rw [put_size]; exact S.size
            · intro i e hi hl hni hde
              by_cases hik : i = k
              · subst hik
                rw [dk] at hde
                rcases Nat.lt_or_ge e a.tmps.size with hlt' | hge
                · rw [hde, put_at _ _ _ hlt']
                  exact (hv e hde (by rw [← S.size]; exact hlt')).symm
                · rw [Array.getElem?_eq_none (by rw [put_size]; exact hge), Array.getElem?_eq_none (by rw [hs1, ← S.size]; exact hge)]
              · have hl := (set_of hl).resolve_left hik
                rw [put_ne _ _ _ _ (fun he => hik (HK.dsts i k e hi hkn hde (by rw [dk, he])))]
                exact S.wr i e hi hl hni hde
            · intro i e hi hl hde
              have hik : i ≠ k := fun he => by subst he; exact hal hi
              have hl := (set_of hl).resolve_left hik
              obtain ⟨g1, g2, g3⟩ := S.als i e hi hl hde
              refine ⟨fun hlt => by
                rw [put_ne _ _ _ _ (fun he => hik (HK.dsts i k e (by obtain ⟨_, _, _, _, hh, _⟩ := HK.als i hi; exact hh) hkn hde (by rw [dk, he])))]
                exact g1 hlt, g2, by
                  rw [hgr.block (hnew i e hi hl hde)]
                  exact ⟨fun h => g3.1 ((stNot i hst).1 h), fun h => g3.2 (fun h' => h ((stNot i hst).2 h'))⟩⟩
            · intro i j hi hj hli hlj hij
              have hik : i ≠ k := fun he => by subst he; exact hal hi
              have hjk : j ≠ k := fun he => by subst he; exact hal hj
              exact S.apart i j hi hj ((set_of hli).resolve_left hik) ((set_of hlj).resolve_left hjk) hij
            · intro s hs
              rw [put_ne _ _ _ _ (fun he => hs k hkn (getD_set_self (by omega)) (by rw [dk, he]))]
              exact S.old s fun i hi hl => hs i hi (getD_set_true hl)
          rcases hy with ⟨hw, hv1⟩ | ⟨hw, rfl⟩
          · rw [if_pos (by rw [hwa]; exact hw)]
            refine .inl ?_
            have h3 := hv1 w (Gr.refl w)
            unfold Oper.quietAt at h3
            unfold Oper.wp
            rw [hex]
            generalize (execOp ak.eval o).run P w = r at h3
            cases r with
            | ok nx w' =>
              cases nx <;> simp only [Oper.quietUpon] at h3 <;> simp only [Oper.upon]
              case value u =>
                obtain ⟨e1, e2⟩ := h3
                rw [e1, e2]
                exact fin w (Gr.refl w)
              case skip =>
                obtain ⟨e1, e2⟩ := h3
                rw [e1, ← e2]
                exact fin w (Gr.refl w)
              case enter g args =>
                obtain ⟨e1, hc⟩ := h3
                rw [e1]
                exact hc.mono fun e w'' ⟨he, hw''⟩ => by subst he; exact fin w'' hw''
            | halt x w' => simp only [Oper.quietUpon] at h3
          · rw [if_neg (by rw [hwa, hw]; exact Bool.false_ne_true)]
            exact fin w (Gr.refl w)
end

section
variable {P : Program} {l : List Oper} {id : Nat} {Q : Exit → Act → World → Prop} {a aF : Act} {w : World}

theorem wp_headA {al sts : List Nat} {own : Nat → Nat} {blk0 blk1 : Nat → Obj} {mk : Nat → Nat → Value} (n : Nat) (hm : P.follows .mixedOrders = true) (hB : headBA al sts own n l = true)
    (hrun : ∀ j ∈ al, ∀ o, l[j]? = some o → ∀ (w : World), (execOp aF.eval o).run P w = .ok (.value (mk j w.heap.size)) (w.alloc (blk0 j)))
    (hsto : ∀ k ∈ sts, StoreOkA P l aF own blk0 blk1 mk k)
    (hq : ∀ wb, Gr w wb → wpQuiet P l.toArray (fun w' => ∃ p : GrownBy, w' = grow (wb.drewN p.n) p.os) (fun x => x = aF) (headOps (al ++ sts) n 0 l) a)
    (hT : ∀ listed a' w' bs, (∀ i, i < n → listed.getD i false = true) → SimA l al sts own n a aF { w with drawn := w.drawn + 1 } blk0 blk1 mk listed a' w' bs → wpList P l.toArray Q (l.drop n) a' w') : (Code.region id l.toArray true).wp P Q a w := by
  have HK := headOk_ofA hB
  refine wp_region_any hm ?_
  have hlt := HK.lt
  have := head_allA (P := P) (Q := Q) (blk0 := blk0) (blk1 := blk1) (mk := mk) (w0 := { w with drawn := w.drawn + 1 }) HK hrun hsto (fun wb h => hq wb (gr_drawn h)) hT n (Array.replicate l.length false) a { w with drawn := w.drawn + 1 } (fun _ => 0)
    (by
      unfold undone
      rw [List.filter_eq_self.2 (fun i _ => by rw [getD_replicate_false]; rfl)]; simp)
    ⟨by simp, fun j oj _ hl => (by rw [getD_replicate_false] at hl; cases hl), fun t _ ht => getD_in (by simpa using ht) (getD_replicate_false _ _)⟩
    ⟨Gr.refl _, rfl, rfl, fun i d _ hl => (by rw [getD_replicate_false] at hl; cases hl), fun i d _ hl => (by rw [getD_replicate_false] at hl; cases hl), fun i j _ _ hl => (by rw [getD_replicate_false] at hl; cases hl), fun _ _ => rfl⟩
  rw [show n + (l.length - n) = l.toArray.size by simp; omega] at this
  simpa using this

theorem sim_finalA {al sts : List Nat} {own : Nat → Nat} {n : Nat} {blk0 blk1 : Nat → Obj} {mk : Nat → Nat → Value} {w0 : World} {listed : Array Bool} {a' : Act} {w' : World} {bs : Nat → Nat} (HK : HeadOkA al sts own n l)
    (hq : wpQuiet P l.toArray (fun w' => ∃ p : GrownBy, w' = grow (w.drewN p.n) p.os) (fun x => x = aF) (headOps (al ++ sts) n 0 l) a)
    (hl : ∀ i, i < n → listed.getD i false = true) (S : SimA l al sts own n a aF w0 blk0 blk1 mk listed a' w' bs) :
    a'.defers = aF.defers ∧ a'.tmps.size = aF.tmps.size ∧ ∀ s : Nat, (∀ i, i ∈ al → dstOf l i ≠ some s) → a'.tmps[s]? = aF.tmps[s]? := by
  have hd1 : ∀ i j d, dstOf (headOps (al ++ sts) n 0 l) i = some d → dstOf (headOps (al ++ sts) n 0 l) j = some d → i = j := by
    intro i j d hi hj
    rw [dst_head] at hi hj
    split at hi
    · split at hi
      · cases hi
      · split at hj
        · split at hj
          · cases hj
          · exact HK.dsts i j d ‹_› ‹_› hi hj
        · cases hj
    · cases hi
  obtain ⟨⟨f1, f2, f3⟩, _⟩ := lex_walk (headOps (al ++ sts) n 0 l) a hd1 hq
  refine ⟨by rw [S.defers, f1], by rw [S.size, f2], fun s hs => ?_⟩
  by_cases hex : ∃ i, i < n ∧ dstOf l i = some s
  · obtain ⟨i, hi, hd⟩ := hex
    have hni : i ∉ al ++ sts := fun h => by
      rcases List.mem_append.1 h with h | h
      · exact hs i h hd
      · obtain ⟨o, ho, _, _, hdn, _⟩ := HK.stos i h
        simp [dstOf, ho, hdn] at hd
    exact S.wr i s hi (hl i hi) hni hd
  · rw [S.old s fun i hi _ hd => hex ⟨i, hi, hd⟩, f3 s fun i => by
      rw [dst_head]
      split
      · split
        · exact fun h => by cases h
        · exact fun hd => hex ⟨i, ‹_›, hd⟩
      · exact fun h => by cases h]

/-- A block is made in the head, by operation i, out of what slots hold that the head has filled; what stands for it goes to slot d. -/
theorem wp_regA {o : Oper} {b0 : Obj} (mk : Nat → Value) (n i d : Nat) (hm : P.follows .mixedOrders = true) (hB : headBA [i] [] (fun _ => i) n l = true) (ho : l[i]? = some o) (hod : o.dst = some d) (hda : d < a.tmps.size)
    (h : ∃ aF, (∀ wb, Gr w wb → wpQuiet P l.toArray (fun w' => ∃ p : GrownBy, w' = grow (wb.drewN p.n) p.os) (fun x => x = aF) (headOps [i] n 0 l) a) ∧
      (∀ (w : World), (execOp aF.eval o).run P w = .ok (.value (mk w.heap.size)) (w.alloc b0)) ∧
      ∀ w' b, Gr w w' → w.heap.size ≤ b → w'.heap[b]? = some b0 → wpList P l.toArray Q (l.drop n) (aF.put (some d) (mk b)) w') : (Code.region id l.toArray true).wp P Q a w := by
  obtain ⟨aF, hq, hrun, hT⟩ := h
  refine wp_headA (blk0 := fun _ => b0) (blk1 := fun _ => b0) (mk := fun _ => mk) n hm hB (fun j h o' ho' => ?_) (fun j h => by cases h) hq fun listed a' w' bs hl S => ?_
  · have : j = i := by simpa using h
    subst this
    have : o' = o := Option.some.inj (ho'.symm.trans ho)
    subst this
    exact hrun
  · have HK := headOk_ofA hB
    obtain ⟨e1, e2, e3⟩ := sim_finalA HK (hq w (Gr.refl w)) hl S
    have hdi : dstOf l i = some d := by simp [dstOf, ho, hod]
    obtain ⟨_, _, _, _, hin, _⟩ := HK.als i (by simp)
    obtain ⟨s1, s2, s3⟩ := S.als i d (by simp) (hl i hin) hdi
    have e : a' = aF.put (some d) (mk (bs i)) := act_ext (by rw [put_defers]; exact e1) fun s => by
      by_cases hs : s = d
      · subst hs
        rw [s1 hda, put_at _ _ _ (by rw [← e2, S.size]; exact hda)]
      · rw [put_ne _ _ _ _ (fun he => hs (Option.some.inj he).symm)]
        exact e3 s fun j hj hd => by
          have : j = i := by simpa using hj
          subst this
          exact hs (Option.some.inj (hd.symm.trans hdi))
    rw [e]
    exact hT w' (bs i) (gr_drawn S.grown) s2 (s3.2 (fun ⟨s, hs, _⟩ => by cases hs))
end
end Go.Proofs.YtgfopfomhgfcaaaGreatDoor
namespace Go.Proofs.YtgfopfomhgfcaaaGreatDoor
open Go.RowKit Go.Sort

/-- ds: the calls that make memory (the operation, its slot); g1: what comes behind all of them. -/
def mkrB (al sts : List Nat) (ds : List (Nat × Tmp)) (g1 : List Nat) (n : Nat) (l : List Oper) : Bool :=
  ds.all (fun x => match l[x.1]? with
    | some o => o.guard.isNone && decide (x.1 < n) && (o.dst == some x.2) && !(al ++ sts ++ g1).contains x.1 && ds.all (fun y => y.1 == x.1 || y.2 != x.2)
    | none => false) &&
  g1.all (fun k => decide (k < n) && !(al ++ sts).contains k) &&
  (List.range n).all (fun k => match l[k]? with
    | some o => (if (g1 ++ sts).contains k then ds.all (fun x => Region.waitsFor .any l.toArray k x.1) || g1.any (fun j => Region.waitsFor .any l.toArray k j)
        else al.contains k || (o.looksAt l.toArray).all fun s => (List.range n).all fun j => dstOf l j != some s || !(ds.map (·.1) ++ g1).contains j)
    | none => false)
structure MkOk (al sts : List Nat) (ds : List (Nat × Tmp)) (g1 : List Nat) (n : Nat) (l : List Oper) : Prop where
  maker : ∀ m d, (m, d) ∈ ds → ∃ o, l[m]? = some o ∧ o.guard = none ∧ m < n ∧ o.dst = some d ∧ m ∉ al ∧ m ∉ sts ∧ m ∉ g1
  uniq : ∀ m d m' d', (m, d) ∈ ds → (m', d') ∈ ds → m' = m ∨ d' ≠ d
  g : ∀ k, k ∈ g1 → k < n ∧ k ∉ al ∧ k ∉ sts
  late : ∀ k o, k < n → l[k]? = some o → k ∈ g1 ∨ k ∈ sts → (∀ m d, (m, d) ∈ ds → Region.waitsFor .any l.toArray k m = true) ∨ ∃ j ∈ g1, Region.waitsFor .any l.toArray k j = true
  early : ∀ k o, k < n → l[k]? = some o → k ∉ g1 → k ∉ sts → k ∉ al → ∀ s ∈ o.looksAt l.toArray, ∀ j, j < n → dstOf l j = some s → j ∉ ds.map (·.1) ∧ j ∉ g1
theorem mkOk_of {al sts : List Nat} {ds : List (Nat × Tmp)} {g1 : List Nat} {n : Nat} {l : List Oper} (h : mkrB al sts ds g1 n l = true) : MkOk al sts ds g1 n l := by
  simp only [mkrB, Bool.and_eq_true] at h
  obtain ⟨⟨h1, h2⟩, h3⟩ := h
  refine ⟨?_, ?_, ?_, ?_, ?_⟩
  · intro m d hm
    have := List.all_eq_true.1 h1 (m, d) hm
    cases ho : l[m]? with
    | none => simp [ho] at this
    | some o =>
      simp only [ho, Bool.and_eq_true, decide_eq_true_eq, Option.isNone_iff_eq_none, beq_iff_eq, Bool.not_eq_true'] at this
      obtain ⟨⟨⟨⟨a1, a2⟩, a3⟩, a4⟩, _⟩ := this
      have a5 : m ∉ al ++ sts ++ g1 := by simpa using a4
      simp only [List.mem_append, not_or] at a5
      exact ⟨o, rfl, a1, a2, a3, a5.1.1, a5.1.2, a5.2⟩
  · intro m d m' d' hm hm'
    have := List.all_eq_true.1 h1 (m, d) hm
    cases ho : l[m]? with
    | none => simp [ho] at this
    | some o =>
      simp only [ho, Bool.and_eq_true] at this
      have := List.all_eq_true.1 this.2 (m', d') hm'
      simp only [Bool.or_eq_true, beq_iff_eq, bne_iff_ne] at this
      exact this
  · intro k hk
    have := List.all_eq_true.1 h2 k hk
    simp only [Bool.and_eq_true, decide_eq_true_eq, Bool.not_eq_true'] at this
    have a5 : k ∉ al ++ sts := by simpa using this.2
    simp only [List.mem_append, not_or] at a5
    exact ⟨this.1, a5.1, a5.2⟩
  · intro k o hk ho hg
    have := List.all_eq_true.1 h3 k (List.mem_range.2 hk)
    have hc : (g1 ++ sts).contains k = true := by simpa using hg
    simp only [ho, hc, if_true, Bool.or_eq_true] at this
    rcases this with h | h
    · exact .inl fun m d hm => List.all_eq_true.1 h (m, d) hm
    · obtain ⟨j, hj, hw⟩ := List.any_eq_true.1 h
      exact .inr ⟨j, hj, hw⟩
  · intro k o hk ho hg hs hal s hs' j hj hd
    have := List.all_eq_true.1 h3 k (List.mem_range.2 hk)
    have hc : (g1 ++ sts).contains k = false := by
      cases hc : (g1 ++ sts).contains k with
      | false => rfl
      | true => exact absurd (by simpa using hc) (fun h : k ∈ g1 ∨ k ∈ sts => h.elim hg hs)
    have hca : al.contains k = false := by simpa using hal
    simp only [ho, hc, hca, Bool.false_eq_true, if_false, Bool.false_or] at this
    have := List.all_eq_true.1 (List.all_eq_true.1 this s hs') j (List.mem_range.2 hj)
    simp only [hd, bne_self_eq_false, Bool.false_or, Bool.not_eq_true'] at this
    have a5 : j ∉ ds.map (·.1) ++ g1 := by simpa using this
    simp only [List.mem_append, not_or] at a5
    exact a5

section
variable {P : Program} {l : List Oper} {al sts : List Nat} {own : Nat → Nat} {n : Nat} {a0 aF0 : Act} {aF : (Nat → Nat) → Act} {w0 : World} {blk0 blk1 : Nat → Obj}
variable {ds : List (Nat × Tmp)} {g1 : List Nat} {val : Nat → Nat → Value} {Ob : Nat → Obj}

/-- The slots of what has been made. -/
def putAll (val : Nat → Nat → Value) (γ : Nat → Nat) : List (Nat × Tmp) → Act → Act
  | [], a => a
  | x :: r, a => putAll val γ r (a.put (some x.2) (val x.1 (γ x.1)))
theorem putAll_size (γ : Nat → Nat) : ∀ (ds : List (Nat × Tmp)) (a : Act), (putAll val γ ds a).tmps.size = a.tmps.size
  | [], _ => rfl
  | x :: r, a => by rw [putAll, putAll_size γ r, put_size]
theorem putAll_defers (γ : Nat → Nat) : ∀ (ds : List (Nat × Tmp)) (a : Act), (putAll val γ ds a).defers = a.defers
  | [], _ => rfl
  | x :: r, a => by rw [putAll, putAll_defers γ r, put_defers]
theorem putAll_ne (γ : Nat → Nat) (s : Nat) : ∀ (ds : List (Nat × Tmp)) (a : Act), (∀ m d, (m, d) ∈ ds → d ≠ s) → (putAll val γ ds a).tmps[s]? = a.tmps[s]?
  | [], _, _ => rfl
  | x :: r, a, h => by
    rw [putAll, putAll_ne γ s r _ (fun m d hm => h m d (List.mem_cons_of_mem _ hm)), put_ne _ _ _ _ (fun e => h x.1 x.2 List.mem_cons_self (Option.some.inj e))]
theorem putAll_at (γ : Nat → Nat) (m : Nat) (d : Tmp) : ∀ (ds : List (Nat × Tmp)) (a : Act), (∀ m' d' m'' d'', (m', d') ∈ ds → (m'', d'') ∈ ds → m'' = m' ∨ d'' ≠ d') → (m, d) ∈ ds → d < a.tmps.size → (putAll val γ ds a).tmps[d]? = some (val m (γ m))
  | [], _, _, h, _ => by cases h
  | x :: r, a, hu, h, hd => by
    rw [putAll]
    by_cases hr : ∃ m', (m', d) ∈ r
    · obtain ⟨m', hm'⟩ := hr
      have e : m' = m := ((hu m d m' d h (List.mem_cons_of_mem _ hm')).resolve_right (fun h => h rfl))
      subst e
      exact putAll_at γ m' d r _ (fun a b c d h1 h2 => hu a b c d (List.mem_cons_of_mem _ h1) (List.mem_cons_of_mem _ h2)) hm' (by rw [put_size]; exact hd)
    · rcases List.mem_cons.1 h with e | h
      · subst e
        rw [putAll_ne γ d r _ (fun m' d' hm' he => hr ⟨m', he ▸ hm'⟩), put_at _ _ _ hd]
      · exact absurd ⟨m, h⟩ hr

structure SimG (l : List Oper) (al sts : List Nat) (own : Nat → Nat) (n : Nat) (ds : List (Nat × Tmp)) (g1 : List Nat) (val : Nat → Nat → Value) (Ob : Nat → Obj) (a0 aF0 : Act) (aF : (Nat → Nat) → Act) (w0 : World) (blk0 blk1 : Nat → Obj) (listed : Array Bool) (a : Act) (w : World) (bs γ : Nat → Nat) : Prop where
  grown : Gr w0 w
  defers : a.defers = a0.defers
  size : a.tmps.size = a0.tmps.size
  wr0 : ∀ i d, i < n → listed.getD i false = true → i ∉ al ++ sts → i ∉ ds.map (·.1) → i ∉ g1 → dstOf l i = some d → a.tmps[d]? = aF0.tmps[d]?
  wr1 : ∀ i d, i ∈ g1 → listed.getD i false = true → dstOf l i = some d → a.tmps[d]? = (aF γ).tmps[d]?
  wrm : ∀ m d, (m, d) ∈ ds → listed.getD m false = true → d < a0.tmps.size → a.tmps[d]? = some (val m (γ m))
  phi : ∀ m d, (m, d) ∈ ds → listed.getD m false = true → w.heap[γ m]? = some (Ob m) ∧ w0.heap.size ≤ γ m ∧ ∀ i, i ∈ al → listed.getD i false = true → bs i ≠ γ m
  aft : ∀ k, k ∈ g1 → listed.getD k false = true → ∀ m d, (m, d) ∈ ds → listed.getD m false = true
  als : ∀ i d, i ∈ al → listed.getD i false = true → dstOf l i = some d → (d < a0.tmps.size → a.tmps[d]? = some (.pointer (some ⟨bs i, 0, none⟩))) ∧ w0.heap.size ≤ bs i ∧ Holds' sts own blk0 blk1 listed i (w.heap[bs i]?)
  apart : ∀ i j, i ∈ al → j ∈ al → listed.getD i false = true → listed.getD j false = true → i ≠ j → bs i ≠ bs j
  old : ∀ s, (∀ i, i < n → listed.getD i false = true → dstOf l i ≠ some s) → a.tmps[s]? = a0.tmps[s]?

/-- A call that makes memory: from the slots that it looks at, wherever it comes. -/
def MakerOk (P : Program) (w0 : World) (aF0 : Act) (val : Nat → Nat → Value) (Ob : Nat → Obj) (l : List Oper) (m : Nat) : Prop :=
  ∀ o, l[m]? = some o → ∀ wb, Gr w0 wb → ∃ f args, (execOp aF0.eval o).run P wb = .ok (.enter f args) wb ∧
    Calls P f args wb fun e w' => ∃ g, e = .returned (val m g) ∧ w'.heap[g]? = some (Ob m) ∧ wb.heap.size ≤ g ∧ Gr wb w'

theorem hd_uniq {al' : List Nat} (HK : HeadOk al sts own n l) (i j d : Nat) (hi : dstOf (headOps al' n 0 l) i = some d) (hj : dstOf (headOps al' n 0 l) j = some d) : i = j := by
  rw [dst_head] at hi hj
  split at hi
  · split at hi
    · cases hi
    · split at hj
      · split at hj
        · cases hj
        · exact HK.dsts i j d ‹_› ‹_› hi hj
      · cases hj
  · cases hi

theorem head_allG (HK : HeadOk al sts own n l) (MK : MkOk al sts ds g1 n l) {Q : Exit → Act → World → Prop} (z0 z1 : List Nat)
    (hz0 : ∀ k, k < n → z0.contains k = (al ++ sts ++ ds.map (·.1) ++ g1).contains k) (hz1 : ∀ k, k < n → z1.contains k = !g1.contains k)
    (hrun : ∀ j ∈ al, ∀ o, l[j]? = some o → ∀ (a : Act) (w : World), (execOp a.eval o).run P w = .ok (.value (.pointer (some ⟨w.heap.size, 0, none⟩))) (w.alloc (blk0 j)))
    (hsto : ∀ γ, ∀ k ∈ sts, StoreOk P l (aF γ) own blk0 blk1 k)
    (hmk : ∀ m d, (m, d) ∈ ds → MakerOk P w0 aF0 val Ob l m)
    (hq0 : ∀ wb, Gr w0 wb → wpQuiet P l.toArray (fun w' => ∃ p : GrownBy, w' = grow (wb.drewN p.n) p.os) (fun x => x = aF0) (headOps z0 n 0 l) a0)
    (hq1 : ∀ γ wb, Gr w0 wb → (∀ m d, (m, d) ∈ ds → wb.heap[γ m]? = some (Ob m)) → wpQuiet P l.toArray (fun w' => ∃ p : GrownBy, w' = grow (wb.drewN p.n) p.os) (fun x => x = aF γ) (headOps z1 n 0 l) (putAll val γ ds aF0))
    (hT : ∀ listed a w bs γ, (∀ i, i < n → listed.getD i false = true) → SimG l al sts own n ds g1 val Ob a0 aF0 aF w0 blk0 blk1 listed a w bs γ → wpList P l.toArray Q (l.drop n) a w) :
    ∀ (f : Nat) (listed : Array Bool) (a : Act) (w : World) (bs γ : Nat → Nat), undone listed n = f → HeadInv .any l.toArray n listed → SimG l al sts own n ds g1 val Ob a0 aF0 aF w0 blk0 blk1 listed a w bs γ →
      wpAny P .any l.toArray Q (f + (l.length - n)) listed a w := by
  have hlt := HK.lt
  obtain ⟨⟨hdf0, hs0, hold0⟩, _⟩ := lex_walk (headOps z0 n 0 l) a0 (hd_uniq HK) (hq0 w0 (Gr.refl w0))
  have z0not : ∀ k, k < n → k ∉ al ++ sts → k ∉ ds.map (·.1) → k ∉ g1 → z0.contains k = false := by
    intro k hk h1 h2 h3
    rw [hz0 k hk]
    cases hc : (al ++ sts ++ ds.map (·.1) ++ g1).contains k with
    | false => rfl
    | true =>
      have : k ∈ al ++ sts ++ ds.map (·.1) ++ g1 := by simpa using hc
      rcases List.mem_append.1 this with h | h
      · rcases List.mem_append.1 h with h | h
        · exact absurd h h1
        · exact absurd h h2
      · exact absurd h h3
  have z0yes : ∀ k, k < n → (k ∈ al ++ sts ∨ k ∈ ds.map (·.1) ∨ k ∈ g1) → z0.contains k = true := by
    intro k hk h
    rw [hz0 k hk]
    have : k ∈ al ++ sts ++ ds.map (·.1) ++ g1 := by
      rcases h with h | h | h
      · exact List.mem_append_left _ (List.mem_append_left _ h)
      · exact List.mem_append_left _ (List.mem_append_right _ h)
      · exact List.mem_append_right _ h
    simpa using this
  have mkn : ∀ m d, (m, d) ∈ ds → m < n ∧ dstOf l m = some d ∧ m ∉ al ∧ m ∉ sts ∧ m ∉ g1 := by
    intro m d h
    obtain ⟨o, h1, _, h3, h4, h5, h6, h7⟩ := MK.maker m d h
    exact ⟨h3, by simp [dstOf, h1, h4], h5, h6, h7⟩
  have mem_ds : ∀ m d, (m, d) ∈ ds → m ∈ ds.map (·.1) := fun m d h => List.mem_map.2 ⟨(m, d), h, rfl⟩
  have ds_mem : ∀ m, m ∈ ds.map (·.1) → ∃ d, (m, d) ∈ ds := fun m h => by
    obtain ⟨⟨m', d⟩, h1, rfl⟩ := List.mem_map.1 h
    exact ⟨d, h1⟩
  -- a slot that nothing of the head sets
  have noSet0 : ∀ s, (∀ i, i < n → dstOf l i ≠ some s) → aF0.tmps[s]? = a0.tmps[s]? := fun s hno => hold0 s fun i => by
    rw [dst_head]
    split
    · split
      · exact fun h => by cases h
      · exact hno i ‹_›
    · exact fun h => by cases h
  -- slots of the second group and of the makers lie as they lay in aF0 = a0
  intro f
  induction f with
  | zero =>
    intro listed a w bs γ hu inv S
    rw [Nat.zero_add]
    have hall := undone_zero hu
    have e : listed = Array.replicate n true ++ Array.replicate (l.length - n) false := by
      have hsz : listed.size = l.length := by have := inv.size; simpa using this
      refine Array.ext (by simp [hsz]; omega) fun i h1 h2 => ?_
      by_cases hi : i < n
      · have := hall i hi
        rw [Array.getElem_append_left (by simpa using hi)]
        simpa [h1] using this
      · have := inv.tail i (by omega) (by simpa [hsz] using h1)
        rw [Array.getElem_append_right (by simpa using hi)]
        simpa [h1] using this
    have hseq := HK.seq
    rw [← e] at hseq
    have := wpAny_of_seq (P := P) (ops := l.toArray) (md := .any) (Q' := Q) (l.drop n) n listed a w (fun j => by simp [List.getElem?_drop]) (by simpa using hseq) (hT listed a w bs γ hall S)
    simpa using this
  | succ f ih =>
    intro listed a w bs γ hu inv S
    have hsz : listed.size = l.length := by have := inv.size; simpa using this
    obtain ⟨i0, hi0, hf0, hbef⟩ := undone_pos hu
    have hf0' : listed.getD i0 true = false := by rw [getD_tf (by omega)]; exact hf0
    rw [show f + 1 + (l.length - n) = (f + (l.length - n)) + 1 by omega]
    refine ⟨fun h => ?_, fun k hk => ?_⟩
    · exfalso
      have : i0 ∈ Region.ready .any l.toArray listed := by
        rw [mem_ready]
        have hi0l : i0 < l.length := by omega
        exact ⟨hf0', l[i0], by simp, fun e he hb => hbef _ (HK.after i0 _ hi0 (by simp) e he hb)⟩
      rw [h] at this; cases this
    · have hkn : k < n := by
        rcases Nat.lt_or_ge k n with h | h
        · exact h
        · exact absurd hk (tail_waits HK.sink HK.chain (by simpa using HK.lt) inv _ i0 rfl hi0 hf0' k h)
      obtain ⟨hkun, o, ho, hdeps⟩ := mem_ready.1 hk
      have ho' : l[k]? = some o := by simpa using ho
      have hkf : listed.getD k false = false := by rw [← getD_tf (by omega)]; exact hkun
      have hu' : undone (listed.setIfInBounds k true) n = f := by have := undone_set hkn (by omega) hkf; omega
      have inv' := inv.set hk hkn
      have dk : dstOf l k = o.dst := by simp [dstOf, ho']
      have waits : ∀ j, Region.waitsFor .any l.toArray k j = true → listed.getD j false = true := by
        intro j q3
        obtain ⟨ok, hok, e, he, hb, hon⟩ := Region.waitsFor_spec q3
        have : ok = o := Option.some.inj (hok.symm.trans ho)
        subst this
        rw [← hon]; exact hdeps e he hb
      have stNot : ∀ i, k ∉ sts → (stored sts own (listed.setIfInBounds k true) i ↔ stored sts own listed i) := by
        intro i hns
        constructor
        · rintro ⟨s, hs, he, hl⟩
          exact ⟨s, hs, he, (set_of hl).resolve_left (fun h => hns (h ▸ hs))⟩
        · rintro ⟨s, hs, he, hl⟩
          exact ⟨s, hs, he, getD_set_true hl⟩
      have hnew : ∀ i d', i ∈ al → listed.getD i false = true → dstOf l i = some d' → bs i < w.heap.size := by
        intro i d' hi hl hdd
        obtain ⟨x, hx⟩ := (S.als i d' hi hl hdd).2.2.some
        exact (Array.getElem?_eq_some_iff.1 hx).1
      -- all that has been made is there, for what comes behind it
      have allMade : k ∈ g1 ∨ k ∈ sts → ∀ m d, (m, d) ∈ ds → listed.getD m false = true := by
        intro hg m d hm
        rcases MK.late k o hkn ho' hg with h | ⟨j, hj, hw⟩
        · exact waits m (h m d hm)
        · exact S.aft j hj (waits j hw) m d hm
      -- slots of another operation
      have putNe : ∀ i e v, i < n → i ≠ k → dstOf l i = some e → (a.put o.dst v).tmps[e]? = a.tmps[e]? := fun i e v hi hik hde =>
        put_ne _ _ _ _ (fun he => hik (HK.dsts i k e hi hkn hde (by rw [dk, he])))
      have alLt : ∀ i, i ∈ al → i < n := fun i hi => by obtain ⟨_, _, _, _, hh, _⟩ := HK.als i hi; exact hh
      -- what the looks of an operation agree with
      have walk1 : (∀ m d, (m, d) ∈ ds → listed.getD m false = true) → wpQuiet P l.toArray (fun w' => ∃ p : GrownBy, w' = grow (w.drewN p.n) p.os) (fun x => x = aF γ) (headOps z1 n 0 l) (putAll val γ ds aF0) := fun h =>
        hq1 γ w S.grown fun m d hm => (S.phi m d hm (h m d hm)).1
      have putOld : ∀ s, (∀ m d, (m, d) ∈ ds → d ≠ s) → (putAll val γ ds aF0).tmps[s]? = aF0.tmps[s]? := fun s h => putAll_ne γ s ds aF0 h
      have z1g : ∀ i, i < n → (i ∈ g1 ↔ z1.contains i = false) := fun i hi => by rw [hz1 i hi]; simp
      have hnoSet1 : ∀ s, (∀ i, i < n → dstOf l i ≠ some s) → ∀ i, dstOf (headOps z1 n 0 l) i ≠ some s := fun s hno i => by
        rw [dst_head]
        split
        · split
          · exact fun h => by cases h
          · exact hno i ‹_›
        · exact fun h => by cases h
      unfold wpOp
      simp only [ho]
      by_cases hal : k ∈ al
      · obtain ⟨o', d, h1, h2, h3, h4, h5⟩ := HK.als k hal
        have : o' = o := Option.some.inj (h1.symm.trans ho')
        subst this
        rw [if_pos (by simp [Region.wanted, h2])]
        refine .inl ?_
        unfold Oper.wp
        rw [hrun k hal o' ho' a w]
        simp only [Oper.upon]
        refine ih _ _ _ (fun i => if i = k then w.heap.size else bs i) γ hu' inv' ?_
        have hgr : Gr w (w.alloc (blk0 k)) := Gr.alloc _ _
        constructor
        · exact S.grown.trans hgr
        · rw [put_defers]; exact S.defers
        · rw [put_size]; exact S.size
        · intro i e hi hl hni hnm hng hde
          have hik : i ≠ k := fun he => hni (he ▸ List.mem_append_left _ hal)
          rw [putNe i e _ hi hik hde]
          exact S.wr0 i e hi ((set_of hl).resolve_left hik) hni hnm hng hde
        · intro i e hi hl hde
          have hik : i ≠ k := fun he => (MK.g i hi).2.1 (he ▸ hal)
          rw [putNe i e _ (MK.g i hi).1 hik hde]
          exact S.wr1 i e hi ((set_of hl).resolve_left hik) hde
        · intro m d' hm hl hd'
          obtain ⟨q1, q2, q3, _⟩ := mkn m d' hm
          have hik : m ≠ k := fun he => q3 (he ▸ hal)
          rw [putNe m d' _ q1 hik q2]
          exact S.wrm m d' hm ((set_of hl).resolve_left hik) hd'
        · intro m d' hm hl
          obtain ⟨q1, q2, q3, _⟩ := mkn m d' hm
          have hik : m ≠ k := fun he => q3 (he ▸ hal)
          obtain ⟨p1, p2, p3⟩ := S.phi m d' hm ((set_of hl).resolve_left hik)
          have hb := (Array.getElem?_eq_some_iff.1 p1).1
          refine ⟨(hgr.block hb).trans p1, p2, fun i hi hli => ?_⟩
          by_cases hik' : i = k
          · rw [if_pos hik']; omega
          · rw [if_neg hik']; exact p3 i hi ((set_of hli).resolve_left hik')
        · intro i hi hl m d' hm
          have hik : i ≠ k := fun he => (MK.g i hi).2.1 (he ▸ hal)
          exact getD_set_true (S.aft i hi ((set_of hl).resolve_left hik) m d' hm)
        · intro i e hi hl hde
          by_cases hik : i = k
          · subst hik
            rw [if_pos rfl]
            have : d = e := Option.some.inj ((h4.symm.trans dk.symm).trans hde)
            subst this
            have hns : ¬ stored sts own (listed.setIfInBounds i true) i := by
              rw [stNot i h5]
              rintro ⟨s, hs, he, hl'⟩
              obtain ⟨os, hos, _, _, _, _, hws, _⟩ := HK.stos s hs
              obtain ⟨os', hos', e, he', hb, hon⟩ := Region.waitsFor_spec hws
              have := inv.closed s os' hos' hl' e he' hb
              rw [hon, he, hkf] at this
              cases this
            refine ⟨fun hlt => by rw [h4]; exact put_at _ _ _ (by rw [S.size]; exact hlt), S.grown.size, fun h => absurd h hns, fun _ => ?_⟩
            show (w.heap.push _)[w.heap.size]? = _
            simp
          · rw [if_neg hik]
            have hl := (set_of hl).resolve_left hik
            obtain ⟨q1, q2, q3⟩ := S.als i e hi hl hde
            refine ⟨fun hlt => by rw [putNe i e _ (alLt i hi) hik hde]; exact q1 hlt, q2, by
                  rw [hgr.block (hnew i e hi hl hde)]
                  exact ⟨fun h => q3.1 ((stNot i h5).1 h), fun h => q3.2 (fun h' => h ((stNot i h5).2 h'))⟩⟩
        · intro i j hi hj hli hlj hij
          obtain ⟨oi, di, hoi, _, _, hdi, _⟩ := HK.als i hi
          obtain ⟨oj, dj, hoj, _, _, hdj, _⟩ := HK.als j hj
          by_cases hik : i = k
          · by_cases hjk : j = k
            · exact absurd (hik.trans hjk.symm) hij
            · rw [if_pos hik, if_neg hjk]
              have hlj := (set_of hlj).resolve_left hjk
              have := hnew j dj hj hlj (by simp [dstOf, hoj, hdj])
              omega
          · rw [if_neg hik]
            have hli := (set_of hli).resolve_left hik
            by_cases hjk : j = k
            · rw [if_pos hjk]
              have := hnew i di hi hli (by simp [dstOf, hoi, hdi])
              omega
            · rw [if_neg hjk]
              exact S.apart i j hi hj hli ((set_of hlj).resolve_left hjk) hij
        · intro s hs
          rw [put_ne _ _ _ _ (fun he => hs k hkn (getD_set_self (by omega)) (by rw [dk, he]))]
          exact S.old s fun i hi hl => hs i hi (getD_set_true hl)
      · by_cases hst : k ∈ sts
        · obtain ⟨o', h1, h2, h3, h4, h5, h6, h7⟩ := HK.stos k hst
          have : o' = o := Option.some.inj (h1.symm.trans ho')
          subst this
          have made := allMade (.inr hst)
          obtain ⟨⟨hdf1, hs1, hold1⟩, _⟩ := lex_walk (headOps z1 n 0 l) _ (hd_uniq HK) (walk1 made)
          rw [putAll_size] at hs1
          obtain ⟨oi, di, hoi, _, hin, hdi, _⟩ := HK.als (own k) h5
          have hdd : dstOf l (own k) = some di := by simp [dstOf, hoi, hdi]
          have hlo : listed.getD (own k) false = true := waits _ h6
          obtain ⟨q1, q2, q3⟩ := S.als (own k) di h5 hlo hdd
          have hnst : ¬ stored sts own listed (own k) := by
            rintro ⟨s, hs, he, hl'⟩
            have := h7 s hs he
            subst this
            rw [hkf] at hl'; cases hl'
          have agree : ∀ s ∈ o'.looksAt l.toArray, s ≠ di → a.tmps[s]? = (aF γ).tmps[s]? := by
            intro s hs hsd
            by_cases hex : ∃ j, j < n ∧ dstOf l j = some s
            · obtain ⟨j, hj, hdj⟩ := hex
              obtain ⟨r1, r2, r3⟩ := HK.looks k o' hkn ho' hal s hs j hj hdj
              have hlj := waits j r3
              by_cases hjal : j ∈ al
              · rcases r1 with r1 | r1
                · have : j = own k := r1.2
                  subst this
                  exact absurd (Option.some.inj (hdj.symm.trans hdd)) hsd
                · exact absurd (List.mem_append_left _ hjal) r1
              · have hjst : j ∉ sts := fun h => by
                  obtain ⟨oj, hoj, _, _, hdn, _⟩ := HK.stos j h
                  simp [dstOf, hoj, hdn] at hdj
                have hjn : j ∉ al ++ sts := fun h => (List.mem_append.1 h).elim hjal hjst
                by_cases hjg : j ∈ g1
                · exact S.wr1 j s hjg hlj hdj
                · have hset1 : (aF γ).tmps[s]? = (putAll val γ ds aF0).tmps[s]? := hold1 s fun i => by
                    rw [dst_head]
                    split
                    · split
                      · exact fun h => by cases h
                      · rename_i hi hc
                        exact fun h => hjg ((HK.dsts i j s hi hj h hdj) ▸ (z1g i hi).2 (by simpa using hc))
                    · exact fun h => by cases h
                  by_cases hjm : j ∈ ds.map (·.1)
                  · obtain ⟨d', hm⟩ := ds_mem j hjm
                    have : d' = s := Option.some.inj ((mkn j d' hm).2.1.symm.trans hdj)
                    subst this
                    rcases Nat.lt_or_ge d' a0.tmps.size with hlt' | hge
                    · rw [S.wrm j d' hm hlj hlt', hset1, putAll_at γ j d' ds aF0 (fun m d m' d' h h' => MK.uniq m d m' d' h h') hm (by rw [hs0]; exact hlt')]
                    · rw [Array.getElem?_eq_none (by rw [S.size]; exact hge), Array.getElem?_eq_none (by rw [hs1, hs0]; exact hge)]
                  · rw [S.wr0 j s hj hlj hjn hjm hjg hdj, hset1, putOld s (fun m d hm he => hjm (by
                      subst he
                      have := HK.dsts m j d (mkn m d hm).1 hj (mkn m d hm).2.1 hdj
                      exact this ▸ mem_ds m d hm))]
            · have hno : ∀ i, i < n → dstOf l i ≠ some s := fun i hi hd => hex ⟨i, hi, hd⟩
              rw [S.old s fun i hi _ => hno i hi, hold1 s (hnoSet1 s hno), putOld s (fun m d hm he => hno m (mkn m d hm).1 (by rw [← he]; exact (mkn m d hm).2.1)), noSet0 s hno]
          obtain ⟨w1, r1, r2, r3, r4, r5, r6, r7, r8⟩ := hsto γ k hst o' di ho' hdd a w (bs (own k)) (fun hlt => q1 (by rw [← S.size]; exact hlt)) (by rw [S.size, hs1, hs0]) agree (q3.2 hnst)
          rw [if_pos (by simp [Region.wanted, h2])]
          refine .inl ?_
          unfold Oper.wp
          rw [r1]
          simp only [Oper.upon, h4]
          refine ih _ _ _ bs γ hu' inv' ?_
          have hstO : stored sts own (listed.setIfInBounds k true) (own k) := ⟨k, hst, rfl, getD_set_self (by omega)⟩
          have hstE : ∀ i, i ≠ own k → (stored sts own (listed.setIfInBounds k true) i ↔ stored sts own listed i) := by
            intro i hi
            constructor
            · rintro ⟨s, hs, he, hl⟩
              exact ⟨s, hs, he, (set_of hl).resolve_left (fun h => hi (by rw [← he, h]))⟩
            · rintro ⟨s, hs, he, hl⟩
              exact ⟨s, hs, he, getD_set_true hl⟩
          constructor
          · exact S.grown.heap r2 r3 r4 r5 (by omega) fun j hj => r7 j (by omega)
          · exact S.defers
          · exact S.size
          · intro i e hi hl hni hnm hng hde
            have hik : i ≠ k := fun he => hni (he ▸ List.mem_append_right _ hst)
            exact S.wr0 i e hi ((set_of hl).resolve_left hik) hni hnm hng hde
          · intro i e hi hl hde
            have hik : i ≠ k := fun he => (MK.g i hi).2.2 (he ▸ hst)
            exact S.wr1 i e hi ((set_of hl).resolve_left hik) hde
          · intro m d' hm hl hd'
            have hik : m ≠ k := fun he => (mkn m d' hm).2.2.2.1 (he ▸ hst)
            exact S.wrm m d' hm ((set_of hl).resolve_left hik) hd'
          · intro m d' hm hl
            have hik : m ≠ k := fun he => (mkn m d' hm).2.2.2.1 (he ▸ hst)
            obtain ⟨p1, p2, p3⟩ := S.phi m d' hm ((set_of hl).resolve_left hik)
            refine ⟨by rw [r7 (γ m) (Ne.symm (p3 (own k) h5 hlo))]; exact p1, p2, fun i hi hli => p3 i hi ((set_of hli).resolve_left (fun he => hal (he ▸ hi)))⟩
          · intro i hi hl m d' hm
            have hik : i ≠ k := fun he => (MK.g i hi).2.2 (he ▸ hst)
            exact getD_set_true (S.aft i hi ((set_of hl).resolve_left hik) m d' hm)
          · intro i e hi hl hde
            have hik : i ≠ k := fun he => by subst he; exact hal hi
            have hl := (set_of hl).resolve_left hik
            obtain ⟨t1, t2, t3⟩ := S.als i e hi hl hde
            refine ⟨t1, t2, ?_⟩
            by_cases hio : i = own k
            · subst hio
              exact ⟨fun _ => r8, fun h => absurd hstO h⟩
            · rw [r7 (bs i) (S.apart i (own k) hi h5 hl hlo hio)]
              exact ⟨fun h => t3.1 ((hstE i hio).1 h), fun h => t3.2 (fun h' => h ((hstE i hio).2 h'))⟩
          · intro i j hi hj hli hlj hij
            have hik : i ≠ k := fun he => by subst he; exact hal hi
            have hjk : j ≠ k := fun he => by subst he; exact hal hj
            exact S.apart i j hi hj ((set_of hli).resolve_left hik) ((set_of hlj).resolve_left hjk) hij
          · intro s hs
            exact S.old s fun i hi hl => hs i hi (getD_set_true hl)
        · have hni : k ∉ al ++ sts := fun h => (List.mem_append.1 h).elim hal hst
          -- what is left to show behind the operation, whatever value it gave
          have fin : ∀ (v : Value) (w' : World) (γ' : Nat → Nat), Gr w w' → (∀ m d, (m, d) ∈ ds → m ≠ k → γ' m = γ m) → (k ∉ ds.map (·.1) → γ' = γ) →
              (k ∉ ds.map (·.1) → k ∉ g1 → ∀ e, o.dst = some e → e < a0.tmps.size → aF0.tmps[e]? = some v) →
              (k ∈ g1 → ∀ e, o.dst = some e → e < a0.tmps.size → (aF γ).tmps[e]? = some v) → (k ∈ g1 → (aF γ).tmps.size = a0.tmps.size) →
              (∀ d, (k, d) ∈ ds → v = val k (γ' k) ∧ w'.heap[γ' k]? = some (Ob k) ∧ w.heap.size ≤ γ' k) →
              (k ∈ g1 → ∀ m d, (m, d) ∈ ds → listed.getD m false = true) →
              wpAny P .any l.toArray Q (f + (l.length - n)) (listed.setIfInBounds k true) (a.put o.dst v) w' := by
            intro v w' γ' hgr hγ hγ1 hv0 hv1 hvs hvm hmade
            refine ih _ _ _ bs γ' hu' inv' ?_
            have listedM : ∀ m d, (m, d) ∈ ds → m = k → k ∈ ds.map (·.1) := fun m d hm he => he ▸ mem_ds m d hm
            constructor
            · exact S.grown.trans hgr
            · rw [put_defers]; exact S.defers
            · rw [put_size]; exact S.size
            · intro i e hi hl hni' hnm hng hde
              by_cases hik : i = k
              · subst hik
                rw [dk] at hde
                rcases Nat.lt_or_ge e a.tmps.size with hlt' | hge
                · rw [hde, put_at _ _ _ hlt']
                  exact (hv0 hnm hng e hde (by rw [← S.size]; exact hlt')).symm
                · rw [Array.getElem?_eq_none (by rw [put_size]; exact hge), Array.getElem?_eq_none (by rw [hs0, ← S.size]; exact hge)]
              · rw [putNe i e _ hi hik hde]
                exact S.wr0 i e hi ((set_of hl).resolve_left hik) hni' hnm hng hde
            · intro i e hi hl hde
              by_cases hik : i = k
              · subst hik
                rw [hγ1 (fun hkm => by obtain ⟨d', hm⟩ := ds_mem i hkm; exact (mkn i d' hm).2.2.2.2 hi)]
                rw [dk] at hde
                rcases Nat.lt_or_ge e a.tmps.size with hlt' | hge
                · rw [hde, put_at _ _ _ hlt']
                  exact (hv1 hi e hde (by rw [← S.size]; exact hlt')).symm
                · rw [Array.getElem?_eq_none (by rw [put_size]; exact hge), Array.getElem?_eq_none (by rw [hvs hi, ← S.size]; exact hge)]
              · rw [putNe i e _ (MK.g i hi).1 hik hde]
                have hli := (set_of hl).resolve_left hik
                by_cases hkm : k ∈ ds.map (·.1)
                · obtain ⟨d', hm⟩ := ds_mem k hkm
                  exact absurd (S.aft i hi hli k d' hm) (by rw [hkf]; exact Bool.false_ne_true)
                · rw [hγ1 hkm]
                  exact S.wr1 i e hi hli hde
            · intro m d' hm hl hd'
              obtain ⟨q1, q2, _⟩ := mkn m d' hm
              by_cases hik : m = k
              · subst hik
                obtain ⟨e1, _, _⟩ := hvm d' hm
                have : o.dst = some d' := by rw [← dk]; exact q2
                rw [this, put_at _ _ _ (by rw [S.size]; exact hd'), e1]
              · rw [putNe m d' _ q1 hik q2, hγ m d' hm hik]
                exact S.wrm m d' hm ((set_of hl).resolve_left hik) hd'
            · intro m d' hm hl
              by_cases hik : m = k
              · subst hik
                obtain ⟨_, e2, e3⟩ := hvm d' hm
                refine ⟨e2, Nat.le_trans S.grown.size e3, fun i hi hli => ?_⟩
                obtain ⟨oi, di, hoi, _, _, hdi, _⟩ := HK.als i hi
                have := hnew i di hi ((set_of hli).resolve_left (fun he => hal (he ▸ hi))) (by simp [dstOf, hoi, hdi])
                omega
              · obtain ⟨p1, p2, p3⟩ := S.phi m d' hm ((set_of hl).resolve_left hik)
                rw [hγ m d' hm hik]
                exact ⟨(hgr.block (Array.getElem?_eq_some_iff.1 p1).1).trans p1, p2, fun i hi hli => p3 i hi ((set_of hli).resolve_left (fun he => hal (he ▸ hi)))⟩
            · intro i hi hl m d' hm
              by_cases hik : i = k
              · exact getD_set_true (hmade (hik ▸ hi) m d' hm)
              · exact getD_set_true (S.aft i hi ((set_of hl).resolve_left hik) m d' hm)
            · intro i e hi hl hde
              have hik : i ≠ k := fun he => by subst he; exact hal hi
              have hl := (set_of hl).resolve_left hik
              obtain ⟨q1, q2, q3⟩ := S.als i e hi hl hde
              refine ⟨fun hlt => by rw [putNe i e _ (alLt i hi) hik hde]; exact q1 hlt, q2, by
                  rw [hgr.block (hnew i e hi hl hde)]
                  exact ⟨fun h => q3.1 ((stNot i hst).1 h), fun h => q3.2 (fun h' => h ((stNot i hst).2 h'))⟩⟩
            · intro i j hi hj hli hlj hij
              have hik : i ≠ k := fun he => by subst he; exact hal hi
              have hjk : j ≠ k := fun he => by subst he; exact hal hj
              exact S.apart i j hi hj ((set_of hli).resolve_left hik) ((set_of hlj).resolve_left hjk) hij
            · intro s hs
              rw [put_ne _ _ _ _ (fun he => hs k hkn (getD_set_self (by omega)) (by rw [dk, he]))]
              exact S.old s fun i hi hl => hs i hi (getD_set_true hl)
          by_cases hkm : k ∈ ds.map (·.1)
          · -- a call that makes memory
            obtain ⟨d, hm⟩ := ds_mem k hkm
            obtain ⟨_, hdd, _, _, hng⟩ := mkn k d hm
            obtain ⟨o', h1, h2, _⟩ := MK.maker k d hm
            have : o' = o := Option.some.inj (h1.symm.trans ho')
            subst this
            have agree : ∀ s ∈ o'.looksAt l.toArray, a.tmps[s]? = aF0.tmps[s]? := by
              intro s hs
              by_cases hex : ∃ j, j < n ∧ dstOf l j = some s
              · obtain ⟨j, hj, hdj⟩ := hex
                obtain ⟨r1, r2, r3⟩ := HK.looks k o' hkn ho' hal s hs j hj hdj
                obtain ⟨e1, e2⟩ := MK.early k o' hkn ho' hng hst hal s hs j hj hdj
                exact S.wr0 j s hj (waits j r3) (r1.resolve_left (fun h => hst h.1)) e1 e2 hdj
              · have hno : ∀ i, i < n → dstOf l i ≠ some s := fun i hi hd => hex ⟨i, hi, hd⟩
                rw [S.old s fun i hi _ => hno i hi, noSet0 s hno]
            have hex := exec_same (ops := l.toArray) o' (fun cs b => Region.noSelect_spec HK.nosel k o' cs b ho) agree
            obtain ⟨ff, args, hr, hc⟩ := hmk k d hm o' ho' w S.grown
            rw [if_pos (by simp [Region.wanted, h2])]
            refine .inl ?_
            unfold Oper.wp
            rw [hex, hr]
            simp only [Oper.upon]
            refine hc.mono fun e w'' ⟨g, he, hb, hge, hgr⟩ => ?_
            subst he
            refine fin (val k g) w'' (fun j => if j = k then g else γ j) hgr (fun m d' _ hne => by rw [if_neg hne]) (fun h => absurd hkm h) (fun h => absurd hkm h) (fun h => absurd h hng) (fun h => absurd h hng) (fun d' _ => ?_) (fun h => absurd h hng)
            simp only [if_true]
            exact ⟨trivial, hb, hge⟩
          · by_cases hg : k ∈ g1
            · -- behind all that has been made
              have made := allMade (.inl hg)
              obtain ⟨⟨hdf1, hs1, hold1⟩, hf4⟩ := lex_walk (headOps z1 n 0 l) _ (hd_uniq HK) (walk1 made)
              rw [putAll_size] at hs1 hf4
              have hhead : (headOps z1 n 0 l)[k]? = some o := by
                rw [headOps_get, if_pos hkn, ho', Nat.zero_add, (z1g k hkn).1 hg]; rfl
              obtain ⟨ak, v, hy, hv, hg3, hg4⟩ := hf4 k o hhead
              have agree : ∀ s ∈ o.looksAt l.toArray, a.tmps[s]? = ak.tmps[s]? := by
                intro s hs
                by_cases hex : ∃ j, j < n ∧ dstOf l j = some s
                · obtain ⟨j, hj, hdj⟩ := hex
                  obtain ⟨r1, r2, r3⟩ := HK.looks k o hkn ho' hal s hs j hj hdj
                  have r1 := r1.resolve_left (fun h => hst h.1)
                  have hlj := waits j r3
                  by_cases hjg : j ∈ g1
                  · rw [S.wr1 j s hjg hlj hdj, hg3 s ⟨j, r2, by rw [dst_head, if_pos hj, (z1g j hj).1 hjg]; exact hdj⟩]
                  · have hak : ak.tmps[s]? = (putAll val γ ds aF0).tmps[s]? := hg4 s fun i _ => by
                      rw [dst_head]
                      split
                      · split
                        · exact fun h => by cases h
                        · rename_i hi hc
                          exact fun h => hjg ((HK.dsts i j s hi hj h hdj) ▸ (z1g i hi).2 (by simpa using hc))
                      · exact fun h => by cases h
                    by_cases hjm : j ∈ ds.map (·.1)
                    · obtain ⟨d', hm⟩ := ds_mem j hjm
                      have : d' = s := Option.some.inj ((mkn j d' hm).2.1.symm.trans hdj)
                      subst this
                      rcases Nat.lt_or_ge d' a0.tmps.size with hlt' | hge
                      · rw [S.wrm j d' hm hlj hlt', hak, putAll_at γ j d' ds aF0 (fun m d m' d' h h' => MK.uniq m d m' d' h h') hm (by rw [hs0]; exact hlt')]
                      · rw [hak, Array.getElem?_eq_none (by rw [S.size]; exact hge), Array.getElem?_eq_none (by rw [putAll_size, hs0]; exact hge)]
                    · rw [S.wr0 j s hj hlj r1 hjm hjg hdj, hak, putOld s (fun m d hm he => hjm (by
                        subst he
                        have := HK.dsts m j d (mkn m d hm).1 hj (mkn m d hm).2.1 hdj
                        exact this ▸ mem_ds m d hm))]
                · have hno : ∀ i, i < n → dstOf l i ≠ some s := fun i hi hd => hex ⟨i, hi, hd⟩
                  rw [S.old s fun i hi _ => hno i hi, hg4 s (fun i _ => hnoSet1 s hno i), putOld s (fun m d hm he => hno m (mkn m d hm).1 (by rw [← he]; exact (mkn m d hm).2.1)), noSet0 s hno]
              have hex := exec_same (ops := l.toArray) o (fun cs b => Region.noSelect_spec HK.nosel k o cs b ho) agree
              have hwa := wanted_same (ops := l.toArray) o agree
              have fin' : ∀ w', Gr w w' → wpAny P .any l.toArray Q (f + (l.length - n)) (listed.setIfInBounds k true) (a.put o.dst v) w' := fun w' hgr =>
                fin v w' γ hgr (fun _ _ _ _ => rfl) (fun _ => rfl) (fun _ h => absurd hg h) (fun _ e he hlt => hv e he (by rw [hs0]; exact hlt)) (fun _ => by rw [hs1, hs0]) (fun d hm => absurd (mem_ds k d hm) hkm) (fun _ => made)
              rcases hy with ⟨hw, hv1⟩ | ⟨hw, rfl⟩
              · rw [if_pos (by rw [hwa]; exact hw)]
                refine .inl ?_
                have h3 := hv1 w ⟨⟨0, #[]⟩, by rw [grow_empty]; rfl⟩
                unfold Oper.quietAt at h3
                unfold Oper.wp
                rw [hex]
                generalize (execOp ak.eval o).run P w = r at h3
                cases r with
                | ok nx w' =>
                  cases nx <;> simp only [Oper.quietUpon] at h3 <;> simp only [Oper.upon]
                  case value u =>
                    obtain ⟨e1, e2⟩ := h3
                    rw [e1, e2]
                    exact fin' w (Gr.refl w)
                  case skip =>
                    obtain ⟨e1, e2⟩ := h3
                    rw [e1, ← e2]
                    exact fin' w (Gr.refl w)
                  case enter g args =>
                    obtain ⟨e1, hc⟩ := h3
                    rw [e1]
                    exact hc.mono fun e w'' ⟨he, hw''⟩ => by subst he; exact fin' w'' hw''
                | halt x w' => simp only [Oper.quietUpon] at h3
              · rw [if_neg (by rw [hwa, hw]; exact Bool.false_ne_true)]
                exact fin' w (Gr.refl w)
            · -- what does not look at it
              obtain ⟨⟨_, _, _⟩, hf4⟩ := lex_walk (headOps z0 n 0 l) a0 (hd_uniq HK) (hq0 w S.grown)
              have hhead : (headOps z0 n 0 l)[k]? = some o := by
                rw [headOps_get, if_pos hkn, ho', Nat.zero_add, z0not k hkn hni hkm hg]; rfl
              obtain ⟨ak, v, hy, hv, hg3, hg4⟩ := hf4 k o hhead
              have agree : ∀ s ∈ o.looksAt l.toArray, a.tmps[s]? = ak.tmps[s]? := by
                intro s hs
                by_cases hex : ∃ j, j < n ∧ dstOf l j = some s
                · obtain ⟨j, hj, hdj⟩ := hex
                  obtain ⟨r1, r2, r3⟩ := HK.looks k o hkn ho' hal s hs j hj hdj
                  have r1 := r1.resolve_left (fun h => hst h.1)
                  obtain ⟨e1, e2⟩ := MK.early k o hkn ho' hg hst hal s hs j hj hdj
                  rw [S.wr0 j s hj (waits j r3) r1 e1 e2 hdj, hg3 s ⟨j, r2, by rw [dst_head, if_pos hj, z0not j hj r1 e1 e2]; exact hdj⟩]
                · have hno : ∀ i, i < n → dstOf l i ≠ some s := fun i hi hd => hex ⟨i, hi, hd⟩
                  rw [S.old s fun i hi _ => hno i hi, hg4 s fun i _ => by
                    rw [dst_head]
                    split
                    · split
                      · exact fun h => by cases h
                      · exact hno i ‹_›
                    · exact fun h => by cases h]
              have hex := exec_same (ops := l.toArray) o (fun cs b => Region.noSelect_spec HK.nosel k o cs b ho) agree
              have hwa := wanted_same (ops := l.toArray) o agree
              have fin' : ∀ w', Gr w w' → wpAny P .any l.toArray Q (f + (l.length - n)) (listed.setIfInBounds k true) (a.put o.dst v) w' := fun w' hgr =>
                fin v w' γ hgr (fun _ _ _ _ => rfl) (fun _ => rfl) (fun _ _ e he hlt => hv e he hlt) (fun h => absurd h hg) (fun h => absurd h hg) (fun d hm => absurd (mem_ds k d hm) hkm) (fun h => absurd h hg)
              rcases hy with ⟨hw, hv1⟩ | ⟨hw, rfl⟩
              · rw [if_pos (by rw [hwa]; exact hw)]
                refine .inl ?_
                have h3 := hv1 w ⟨⟨0, #[]⟩, by rw [grow_empty]; rfl⟩
                unfold Oper.quietAt at h3
                unfold Oper.wp
                rw [hex]
                generalize (execOp ak.eval o).run P w = r at h3
                cases r with
                | ok nx w' =>
                  cases nx <;> simp only [Oper.quietUpon] at h3 <;> simp only [Oper.upon]
                  case value u =>
                    obtain ⟨e1, e2⟩ := h3
                    rw [e1, e2]
                    exact fin' w (Gr.refl w)
                  case skip =>
                    obtain ⟨e1, e2⟩ := h3
                    rw [e1, ← e2]
                    exact fin' w (Gr.refl w)
                  case enter g args =>
                    obtain ⟨e1, hc⟩ := h3
                    rw [e1]
                    exact hc.mono fun e w'' ⟨he, hw''⟩ => by subst he; exact fin' w'' hw''
                | halt x w' => simp only [Oper.quietUpon] at h3
              · rw [if_neg (by rw [hwa, hw]; exact Bool.false_ne_true)]
                exact fin' w (Gr.refl w)
end

section
variable {P : Program} {l : List Oper} {id : Nat} {Q : Exit → Act → World → Prop} {a : Act} {w : World}

theorem wp_headG {al sts : List Nat} {own : Nat → Nat} {ds : List (Nat × Tmp)} {g1 : List Nat} {val : Nat → Nat → Value} {Ob : Nat → Obj} {aF0 : Act} {aF : (Nat → Nat) → Act} {blk0 blk1 : Nat → Obj} (n : Nat) (z0 z1 : List Nat) (hm : P.follows .mixedOrders = true) (hB : headB al sts own n l = true) (hM : mkrB al sts ds g1 n l = true)
    (hz0 : (List.range n).all (fun k => z0.contains k == (al ++ sts ++ ds.map (·.1) ++ g1).contains k) = true) (hz1 : (List.range n).all (fun k => z1.contains k == !g1.contains k) = true)
    (hrun : ∀ j ∈ al, ∀ o, l[j]? = some o → ∀ (a : Act) (w : World), (execOp a.eval o).run P w = .ok (.value (.pointer (some ⟨w.heap.size, 0, none⟩))) (w.alloc (blk0 j)))
    (hsto : ∀ γ, ∀ k ∈ sts, StoreOk P l (aF γ) own blk0 blk1 k)
    (hmk : ∀ m d, (m, d) ∈ ds → MakerOk P w aF0 val Ob l m)
    (hq0 : ∀ wb, Gr w wb → wpQuiet P l.toArray (fun w' => ∃ p : GrownBy, w' = grow (wb.drewN p.n) p.os) (fun x => x = aF0) (headOps z0 n 0 l) a)
    (hq1 : ∀ γ wb, Gr w wb → (∀ m d, (m, d) ∈ ds → wb.heap[γ m]? = some (Ob m)) → wpQuiet P l.toArray (fun w' => ∃ p : GrownBy, w' = grow (wb.drewN p.n) p.os) (fun x => x = aF γ) (headOps z1 n 0 l) (putAll val γ ds aF0))
    (hT : ∀ (a' : Act) (w' : World) (bs γ : Nat → Nat), Gr w w' → (∀ m d, (m, d) ∈ ds → w'.heap[γ m]? = some (Ob m) ∧ w.heap.size ≤ γ m) →
      (∀ i d, i ∈ al → dstOf l i = some d → (d < a.tmps.size → a'.tmps[d]? = some (.pointer (some ⟨bs i, 0, none⟩))) ∧ w.heap.size ≤ bs i ∧ ((∃ s ∈ sts, own s = i) → w'.heap[bs i]? = some (blk1 i)) ∧ ((¬ ∃ s ∈ sts, own s = i) → w'.heap[bs i]? = some (blk0 i))) →
      a'.defers = (aF γ).defers → a'.tmps.size = a.tmps.size → (aF γ).tmps.size = a.tmps.size → (∀ s : Nat, (∀ i, i ∈ al → dstOf l i ≠ some s) → a'.tmps[s]? = (aF γ).tmps[s]?) → wpList P l.toArray Q (l.drop n) a' w') : (Code.region id l.toArray true).wp P Q a w := by
  have HK := headOk_of hB
  have MK := mkOk_of hM
  have h0 : ∀ k, k < n → z0.contains k = (al ++ sts ++ ds.map (·.1) ++ g1).contains k := fun k hk => by simpa using List.all_eq_true.1 hz0 k (List.mem_range.2 hk)
  have h1 : ∀ k, k < n → z1.contains k = !g1.contains k := fun k hk => by simpa using List.all_eq_true.1 hz1 k (List.mem_range.2 hk)
  refine wp_region_any hm ?_
  have hlt := HK.lt
  have := head_allG (P := P) (Q := Q) (blk0 := blk0) (blk1 := blk1) (val := val) (Ob := Ob) (aF := aF) (aF0 := aF0) (w0 := { w with drawn := w.drawn + 1 }) HK MK z0 z1 h0 h1 hrun hsto (fun m d h o ho wb hb => hmk m d h o ho wb (gr_drawn hb)) (fun wb h => hq0 wb (gr_drawn h)) (fun γ wb h => hq1 γ wb (gr_drawn h))
    (fun listed a' w' bs γ hl S => by
      obtain ⟨⟨hdf0, hs0, hold0⟩, _⟩ := lex_walk (headOps z0 n 0 l) a (hd_uniq HK) (hq0 w (Gr.refl w))
      have mkn : ∀ m d, (m, d) ∈ ds → m < n ∧ dstOf l m = some d ∧ m ∉ al ∧ m ∉ sts ∧ m ∉ g1 := by
        intro m d h
        obtain ⟨o, h1, _, h3, h4, h5, h6, h7⟩ := MK.maker m d h
        exact ⟨h3, by simp [dstOf, h1, h4], h5, h6, h7⟩
      have hph : ∀ m d, (m, d) ∈ ds → w'.heap[γ m]? = some (Ob m) ∧ w.heap.size ≤ γ m := fun m d hm => by
        obtain ⟨p1, p2, _⟩ := S.phi m d hm (hl m (mkn m d hm).1)
        exact ⟨p1, p2⟩
      obtain ⟨⟨hdf1, hs1, hold1⟩, _⟩ := lex_walk (headOps z1 n 0 l) _ (hd_uniq HK) (hq1 γ w' (gr_drawn S.grown) fun m d hm => (hph m d hm).1)
      rw [putAll_size] at hs1
      rw [putAll_defers] at hdf1
      refine hT a' w' bs γ (gr_drawn S.grown) hph (fun i d hi hd => ?_) (by rw [S.defers, hdf1, hdf0]) S.size (by rw [hs1, hs0]) (fun s hs => ?_)
      · obtain ⟨_, _, _, _, hin, _⟩ := HK.als i hi
        obtain ⟨q1, q2, q3⟩ := S.als i d hi (hl i hin) hd
        refine ⟨q1, q2, fun ⟨s, hs, he⟩ => ?_, fun hno => q3.2 fun ⟨s, hs, he, _⟩ => hno ⟨s, hs, he⟩⟩
        obtain ⟨_, _, _, hsn, _⟩ := HK.stos s hs
        exact q3.1 ⟨s, hs, he, hl s hsn⟩
      · by_cases hex : ∃ i, i < n ∧ dstOf l i = some s
        · obtain ⟨i, hi, hd⟩ := hex
          have hni : i ∉ al ++ sts := fun h => by
            rcases List.mem_append.1 h with h | h
            · exact hs i h hd
            · obtain ⟨o, ho, _, _, hdn, _⟩ := HK.stos i h
              simp [dstOf, ho, hdn] at hd
          by_cases hg : i ∈ g1
          · exact S.wr1 i s hg (hl i hi) hd
          · have hset1 : (aF γ).tmps[s]? = (putAll val γ ds aF0).tmps[s]? := hold1 s fun j => by
              rw [dst_head]
              split
              · split
                · exact fun h => by cases h
                · rename_i hj hc
                  have hjg : j ∈ g1 := by
                    have := h1 j hj
                    have hc' : z1.contains j = false := by simpa using hc
                    rw [hc'] at this
                    simpa using this.symm
                  exact fun h => hg ((HK.dsts j i s hj hi h hd) ▸ hjg)
              · exact fun h => by cases h
            by_cases hm : i ∈ ds.map (·.1)
            · obtain ⟨⟨m, d⟩, hmem, rfl⟩ := List.mem_map.1 hm
              have : d = s := Option.some.inj ((mkn m d hmem).2.1.symm.trans hd)
              subst this
              rcases Nat.lt_or_ge d a.tmps.size with hlt' | hge
              · rw [S.wrm m d hmem (hl m hi) hlt', hset1, putAll_at γ m d ds aF0 (fun m d m' d' h h' => MK.uniq m d m' d' h h') hmem (by rw [hs0]; exact hlt')]
              · rw [Array.getElem?_eq_none (by rw [S.size]; exact hge), Array.getElem?_eq_none (by rw [hs1, hs0]; exact hge)]
            · rw [S.wr0 i s hi (hl i hi) hni hm hg hd, hset1, putAll_ne γ s ds aF0 (fun m d hmem he => hm (by
                subst he
                have := HK.dsts m i d (mkn m d hmem).1 hi (mkn m d hmem).2.1 hd
                exact this ▸ List.mem_map.2 ⟨(m, d), hmem, rfl⟩))]
        · have hno : ∀ i, i < n → dstOf l i ≠ some s := fun i hi hd => hex ⟨i, hi, hd⟩
          have nh : ∀ z, ∀ i, dstOf (headOps z n 0 l) i ≠ some s := fun z i => by
            rw [dst_head]
            split
            · split
              · exact fun h => by cases h
              · exact hno i ‹_›
            · exact fun h => by cases h
          rw [S.old s fun i hi _ hd => hex ⟨i, hi, hd⟩, hold1 s (nh z1), putAll_ne γ s ds aF0 (fun m d hmem he => hno m (mkn m d hmem).1 (by rw [← he]; exact (mkn m d hmem).2.1)), hold0 s (nh z0)])
    n (Array.replicate l.length false) a { w with drawn := w.drawn + 1 } (fun _ => 0) (fun _ => 0)
    (by
      unfold undone
      rw [List.filter_eq_self.2 (fun i _ => by rw [getD_replicate_false]; rfl)]; simp)
    ⟨by simp, fun j oj _ hl => (by rw [getD_replicate_false] at hl; cases hl), fun t _ ht => getD_in (by simpa using ht) (getD_replicate_false _ _)⟩
    ⟨Gr.refl _, rfl, rfl, fun i d _ hl => (by rw [getD_replicate_false] at hl; cases hl), fun i d _ hl => (by rw [getD_replicate_false] at hl; cases hl), fun i d _ hl => (by rw [getD_replicate_false] at hl; cases hl), fun i d _ hl => (by rw [getD_replicate_false] at hl; cases hl), fun i _ hl => (by rw [getD_replicate_false] at hl; cases hl), fun i d _ hl => (by rw [getD_replicate_false] at hl; cases hl), fun i j _ _ hl => (by rw [getD_replicate_false] at hl; cases hl), fun _ _ => rfl⟩
  rw [show n + (l.length - n) = l.toArray.size by simp; omega] at this
  simpa using this

/-- One call makes memory (operation m, slot d); no variable is made. -/
theorem wp_regG1 (n m d : Nat) (g1 z0 z1 : List Nat) (V : Nat → Value) (O : Obj) (hm : P.follows .mixedOrders = true) (hB : headB [] [] (fun i => i) n l = true) (hM : mkrB [] [] [(m, d)] g1 n l = true)
    (hz0 : (List.range n).all (fun k => z0.contains k == ([m] ++ g1).contains k) = true) (hz1 : (List.range n).all (fun k => z1.contains k == !g1.contains k) = true)
    (h : ∃ aF0, ∃ aF : Nat → Act, (∀ wb, Gr w wb → wpQuiet P l.toArray (fun w' => ∃ p : GrownBy, w' = grow (wb.drewN p.n) p.os) (fun x => x = aF0) (headOps z0 n 0 l) a) ∧
      MakerOk P w aF0 (fun _ => V) (fun _ => O) l m ∧
      (∀ g wb, Gr w wb → wb.heap[g]? = some O → wpQuiet P l.toArray (fun w' => ∃ p : GrownBy, w' = grow (wb.drewN p.n) p.os) (fun x => x = aF g) (headOps z1 n 0 l) (aF0.put (some d) (V g))) ∧
      ∀ g w', Gr w w' → w'.heap[g]? = some O → w.heap.size ≤ g → wpList P l.toArray Q (l.drop n) (aF g) w') : (Code.region id l.toArray true).wp P Q a w := by
  obtain ⟨aF0, aF, hq0, hmk, hq1, hT⟩ := h
  refine wp_headG (al := []) (sts := []) (own := fun i => i) (ds := [(m, d)]) (g1 := g1) (val := fun _ => V) (Ob := fun _ => O) (aF0 := aF0) (aF := fun γ => aF (γ m)) (blk0 := fun _ => default) (blk1 := fun _ => default) n z0 z1 hm hB hM (by simpa using hz0) hz1 (fun j h => by cases h) (fun γ k h => by cases h) (fun m' d' h => ?_) hq0 (fun γ wb hg hp => hq1 (γ m) wb hg (hp m d (by simp))) fun a' w' bs γ hg hp _ hd hs _ he => ?_
  · have : m' = m := by simpa using (List.mem_singleton.1 h ▸ rfl : m' = (m, d).1)
    subst this
    exact hmk
  · rw [act_ext hd fun s => he s (fun i h => by cases h)]
    obtain ⟨p1, p2⟩ := hp m d (by simp)
    exact hT (γ m) w' hg p1 p2
/-- .. and a variable of T is made by operation i (its address goes to slot dv), and by operation k what slot x holds is stored into it. -/
theorem wp_regG1s {o os : Oper} {T : TypeId} (zs : Array Value) (n m d i dv k x : Nat) (g1 z0 z1 : List Nat) (V : Nat → Value) (O : Obj) (hm : P.follows .mixedOrders = true) (hB : headB [i] [k] (fun _ => i) n l = true) (hM : mkrB [i] [k] [(m, d)] g1 n l = true)
    (hz0 : (List.range n).all (fun j => z0.contains j == ([i] ++ [k] ++ [m] ++ g1).contains j) = true) (hz1 : (List.range n).all (fun k => z1.contains k == !g1.contains k) = true)
    (ho : l[i]? = some o) (hod : o.dst = some dv) (hda : dv < a.tmps.size) (hos : l[k]? = some os) (hop : os.op = .store T (.tmp dv) (.tmp x)) (hdx : dv ≠ x)
    (hrun : ∀ (a : Act) (w : World), (execOp a.eval o).run P w = .ok (.value (.pointer (some ⟨w.heap.size, 0, none⟩))) (w.alloc (.cells zs T))) (hi : (P.info? T).map (·.size) = some zs.size)
    (h : ∃ aF0, ∃ aF : Nat → Act, ∃ cs, (∀ wb, Gr w wb → wpQuiet P l.toArray (fun w' => ∃ p : GrownBy, w' = grow (wb.drewN p.n) p.os) (fun x => x = aF0) (headOps z0 n 0 l) a) ∧
      MakerOk P w aF0 (fun _ => V) (fun _ => O) l m ∧
      (∀ g wb, Gr w wb → wb.heap[g]? = some O → wpQuiet P l.toArray (fun w' => ∃ p : GrownBy, w' = grow (wb.drewN p.n) p.os) (fun x => x = aF g) (headOps z1 n 0 l) (aF0.put (some d) (V g))) ∧
      (∀ g, (aF g).tmps[x]? = some (.agg cs) ∧ (aF g).tmps.size = a.tmps.size) ∧ (zs.size = cs.size ∧ cs.all (·.oneCell') = true) ∧
      ∀ g w' b, Gr w w' → w'.heap[g]? = some O → w.heap.size ≤ g → w.heap.size ≤ b → w'.heap[b]? = some (.cells cs T) → wpList P l.toArray Q (l.drop n) ((aF g).put (some dv) (.pointer (some ⟨b, 0, none⟩))) w') : (Code.region id l.toArray true).wp P Q a w := by
  obtain ⟨aF0, aF, cs, hq0, hmk, hq1, hx, ⟨hz, h1⟩, hT⟩ := h
  rw [hz] at hi
  have HK := headOk_of hB
  have hdi : dstOf l i = some dv := by simp [dstOf, ho, hod]
  refine wp_headG (al := [i]) (sts := [k]) (own := fun _ => i) (ds := [(m, d)]) (g1 := g1) (val := fun _ => V) (Ob := fun _ => O) (aF0 := aF0) (aF := fun γ => aF (γ m)) (blk0 := fun _ => .cells zs T) (blk1 := fun _ => .cells cs T) n z0 z1 hm hB hM (by simpa using hz0) hz1 (fun j h o' ho' => ?_) (fun γ j h => ?_) (fun m' d' h => ?_) hq0 (fun γ wb hg hp => hq1 (γ m) wb hg (hp m d (by simp))) fun a' w' bs γ hg hp hal hd hs hs2 he => ?_
  · have : j = i := by simpa using h
    subst this
    have : o' = o := Option.some.inj (ho'.symm.trans ho)
    subst this
    exact hrun
  · have : j = k := by simpa using h
    subst this
    intro o' d' ho' hd' a' w' b g1 g2 g3 g4
    have : o' = os := Option.some.inj (ho'.symm.trans hos)
    subst this
    have : d' = dv := Option.some.inj (hd'.symm.trans hdi)
    subst this
    have gd : a'.eval (.tmp d') = .pointer (some ⟨b, 0, none⟩) := by
      simp [Act.eval, Array.getD_eq_getD_getElem?, g1 (by rw [g2, (hx (γ m)).2]; exact hda)]
    have gx : a'.eval (.tmp x) = .agg cs := by
      have := g3 x (List.mem_append_left _ (List.mem_filterMap.2 ⟨.tmp x, by rw [hop]; simp [Op.operands], rfl⟩)) (Ne.symm hdx)
      simp [Act.eval, Array.getD_eq_getD_getElem?, this, (hx (γ m)).1]
    refine ⟨w'.setRow b cs, ?_, rfl, rfl, rfl, rfl, by simp [World.setRow], fun k hk => heap_setRow w' b cs k hk, heap_setRow_at w' b cs zs T g4⟩
    obtain ⟨ds, op, ty, pos, aft, gu⟩ := o'
    simp only at hop
    subst hop
    have := run_storeVar_row (P := P) w' b T T zs cs g4 hi hz h1
    have e : Instr.storeAt T (.pointer (some ⟨b, 0, none⟩)) (.agg cs) = storeVar T ⟨b, 0, none⟩ (.agg cs) := rfl
    simp only [execOp, gd, gx, e]
    generalize storeVar T ⟨b, 0, none⟩ (.agg cs) = sv at this ⊢
    simp [go_sem, this]
  · have : m' = m := by simpa using (List.mem_singleton.1 h ▸ rfl : m' = (m, d).1)
    subst this
    exact hmk
  · obtain ⟨s1, s2, s3, _⟩ := hal i dv (by simp) hdi
    have e : a' = (aF (γ m)).put (some dv) (.pointer (some ⟨bs i, 0, none⟩)) := act_ext (by rw [put_defers]; exact hd) fun s => by
      by_cases hs' : s = dv
      · subst hs'
        rw [s1 hda, put_at _ _ _ (by rw [hs2]; exact hda)]
      · rw [put_ne _ _ _ _ (fun he => hs' (Option.some.inj he).symm)]
        exact he s fun j hj hd' => by
          have : j = i := by simpa using hj
          subst this
          exact hs' (Option.some.inj (hd'.symm.trans hdi))
    rw [e]
    obtain ⟨p1, p2⟩ := hp m d (by simp)
    exact hT (γ m) w' (bs i) hg p1 p2 s2 (s3 ⟨k, by simp, rfl⟩)
end
end Go.Proofs.YtgfopfomhgfcaaaGreatDoor
