/- A region that draws its order, in which one store goes to a block that was there before; all else reads, or calls what only lays blocks. -/
import Derived.Test.YtgfopfomhgfcaaaGreatDoorA
import Derived.Test.YtgfopfomhgfcaaaGreatDoorReg
import Derived.BigQuiet
import Derived.Lib.SmallJoins
namespace Go.Proofs.YtgfopfomhgfcaaaGreatDoor
open Go.RowKit Go.Sort

abbrev fr (p q : Int) : Value := .agg #[.int .i64 p, .int .i64 q]

set_option maxHeartbeats 400000 in
theorem toFrac_any (p q : Int) (w : World) :
    Calls Tryz.prog 32 #[fr p q] w fun e w' => e = .returned (fr p q) ∧ Gr w w' := by
  go_enter Tryz.func32, Tryz.ntmps32
  go_wp2
  refine bodyPost_ret (v := fr p q) (by simp [results, Tryz.results32, go_sem]) rfl ⟨rfl, ?_⟩
  exact ((Gr.alloc _ _).trans (Gr.alloc _ _)).trans (Gr.alloc _ _)

theorem Gr.al {w w' : World} (h : Gr w w') (o : Obj) : Gr w (w'.alloc o) := h.trans (Gr.alloc _ _)
theorem ltb {w : World} {b : Nat} {o : Obj} (h : w.heap[b]? = some o) : b < w.heap.size := (Array.getElem?_eq_some_iff.1 h).1
theorem cells2 {w : World} {b : Nat} {x y : Value} {T : TypeId} (h : w.heap[b]? = some (.cells #[x, y] T)) : w.cell? ⟨b, 0, none⟩ = some x ∧ w.cell? ⟨b, 1, none⟩ = some y := by
  simp [World.cell?, h]

abbrev sp (a b c d : Int) : Value := .agg #[.int .i64 a, .int .i64 b, .int .i64 c, .int .i64 d]
theorem cells4 {w : World} {b : Nat} {x y z u : Value} {T : TypeId} (h : w.heap[b]? = some (.cells #[x, y, z, u] T)) : w.cell? ⟨b, 0, none⟩ = some x ∧ w.cell? ⟨b, 1, none⟩ = some y ∧ w.cell? ⟨b, 2, none⟩ = some z ∧ w.cell? ⟨b, 3, none⟩ = some u := by
  simp [World.cell?, h]
theorem Gr.at1 {w wb : World} {b : Nat} {x : Value} {T : TypeId} (hb : Gr w wb) (h : w.heap[b]? = some (.cells #[x] T)) :
    ∀ (m : Nat) (os : Array Obj), (grow (wb.drewN m) os).cell? ⟨b, 0, none⟩ = some x :=
  have hl := (Array.getElem?_eq_some_iff.1 h).1
  fun m os => (hb.at m os b 0 hl).trans (by simp [World.cell?, h])
theorem Gr.at4 {w wb : World} {b : Nat} {x y z u : Value} {T : TypeId} (hb : Gr w wb) (h : w.heap[b]? = some (.cells #[x, y, z, u] T)) :
    (∀ (m : Nat) (os : Array Obj), (grow (wb.drewN m) os).cell? ⟨b, 0, none⟩ = some x) ∧ (∀ (m : Nat) (os : Array Obj), (grow (wb.drewN m) os).cell? ⟨b, 1, none⟩ = some y) ∧
    (∀ (m : Nat) (os : Array Obj), (grow (wb.drewN m) os).cell? ⟨b, 2, none⟩ = some z) ∧ (∀ (m : Nat) (os : Array Obj), (grow (wb.drewN m) os).cell? ⟨b, 3, none⟩ = some u) :=
  have hl := (Array.getElem?_eq_some_iff.1 h).1
  have c := cells4 h
  ⟨fun m os => (hb.at m os b 0 hl).trans c.1, fun m os => (hb.at m os b 1 hl).trans c.2.1, fun m os => (hb.at m os b 2 hl).trans c.2.2.1, fun m os => (hb.at m os b 3 hl).trans c.2.2.2⟩
theorem Gr.at2 {w wb : World} {b : Nat} {x y : Value} {T : TypeId} (hb : Gr w wb) (h : w.heap[b]? = some (.cells #[x, y] T)) :
    (∀ (m : Nat) (os : Array Obj), (grow (wb.drewN m) os).cell? ⟨b, 0, none⟩ = some x) ∧ (∀ (m : Nat) (os : Array Obj), (grow (wb.drewN m) os).cell? ⟨b, 1, none⟩ = some y) :=
  have hl := (Array.getElem?_eq_some_iff.1 h).1
  ⟨fun m os => (hb.at m os b 0 hl).trans (cells2 h).1, fun m os => (hb.at m os b 1 hl).trans (cells2 h).2⟩
theorem Gr.keep {w w' : World} {b : Nat} {o : Obj} (hg : Gr w w') (h : w.heap[b]? = some o) : w'.heap[b]? = some o := by
  rw [hg.block (Array.getElem?_eq_some_iff.1 h).1]; exact h
theorem alloc1 {w w1 : World} {A : Obj} (h : Gr (w.alloc A) w1) : w1.heap[w.heap.size]? = some A ∧ w.heap.size < w1.heap.size ∧ Gr w w1 := by
  refine ⟨?_, by have := h.size; simp at this; omega, (Gr.alloc _ _).trans h⟩
  rw [h.block (by simp)]
  show (w.heap.push A)[w.heap.size]? = _
  simp
theorem alloc2 {w w1 : World} {A B : Obj} (h : Gr ((w.alloc A).alloc B) w1) : w1.heap[w.heap.size]? = some A ∧ w1.heap[w.heap.size + 1]? = some B ∧ w.heap.size + 1 < w1.heap.size ∧ Gr w w1 := by
  obtain ⟨h1, h2, h3⟩ := alloc1 h
  obtain ⟨g1, g2, g3⟩ := alloc1 h3
  have e : (w.alloc A).heap.size = w.heap.size + 1 := by simp
  rw [e] at h1 h2
  exact ⟨g1, h1, h2, g3⟩

set_option maxHeartbeats 400000 in
theorem eqFrac_any (p q : Int) (w : World) :
    Calls Tryz.prog 41 #[fr p q, fr p q] w fun e w' => e = .returned (.bool true) ∧ Gr w w' := by
  go_enter Tryz.func41, Tryz.ntmps41
  go_wp2
  go_ret
  exact ⟨rfl, (Gr.alloc _ _).trans (Gr.alloc _ _)⟩

/-- What is as it was behind a call, as the walk takes it. -/
theorem Gr.same {w w1 : World} (h : Gr w w1) : (∀ b o, b < w.heap.size → w1.cell? ⟨b, o, none⟩ = w.cell? ⟨b, o, none⟩) ∧ (∀ b o, b < w.heap.size → w1.frozen? ⟨b, o, none⟩ = w.frozen? ⟨b, o, none⟩) :=
  ⟨fun _ _ hb => h.cell hb, fun _ _ hb => h.frozen hb⟩
theorem alloc3 {w w1 : World} {A B C : Obj} (h : Gr (((w.alloc A).alloc B).alloc C) w1) : w1.heap[w.heap.size]? = some A ∧ w1.heap[w.heap.size + 1]? = some B ∧ w1.heap[w.heap.size + 1 + 1]? = some C ∧ w.heap.size + 1 + 1 < w1.heap.size ∧ Gr w w1 := by
  obtain ⟨h1, h2, h3⟩ := alloc1 h
  obtain ⟨g1, g2, g3, g4⟩ := alloc2 h3
  have e : ((w.alloc A).alloc B).heap.size = w.heap.size + 1 + 1 := by simp
  rw [e] at h1 h2
  exact ⟨g1, g2, h1, h2, g4⟩
theorem alloc4 {w w1 : World} {A B C D : Obj} (h : Gr ((((w.alloc A).alloc B).alloc C).alloc D) w1) : w1.heap[w.heap.size]? = some A ∧ w1.heap[w.heap.size + 1]? = some B ∧ w1.heap[w.heap.size + 1 + 1]? = some C ∧ w1.heap[w.heap.size + 1 + 1 + 1]? = some D ∧ w.heap.size + 1 + 1 + 1 < w1.heap.size ∧ Gr w w1 := by
  obtain ⟨h1, h2, h3⟩ := alloc1 h
  obtain ⟨g0, g1, g2, _, gg⟩ := alloc3 h3
  have e : (((w.alloc A).alloc B).alloc C).heap.size = w.heap.size + 1 + 1 + 1 := by simp
  rw [e] at h1 h2
  exact ⟨g0, g1, g2, h1, h2, gg⟩
theorem alloc5 {w w1 : World} {A B C D E : Obj} (h : Gr (((((w.alloc A).alloc B).alloc C).alloc D).alloc E) w1) : w1.heap[w.heap.size]? = some A ∧ w1.heap[w.heap.size + 1]? = some B ∧ w1.heap[w.heap.size + 1 + 1]? = some C ∧ w1.heap[w.heap.size + 1 + 1 + 1]? = some D ∧ w1.heap[w.heap.size + 1 + 1 + 1 + 1]? = some E ∧ w.heap.size + 1 + 1 + 1 + 1 < w1.heap.size ∧ Gr w w1 := by
  obtain ⟨h1, h2, h3⟩ := alloc1 h
  obtain ⟨g0, g1, g2, g3, _, gg⟩ := alloc4 h3
  have e : ((((w.alloc A).alloc B).alloc C).alloc D).heap.size = w.heap.size + 1 + 1 + 1 + 1 := by simp
  rw [e] at h1 h2
  exact ⟨g0, g1, g2, g3, h1, h2, gg⟩
theorem alloc6 {w w1 : World} {A B C D E F : Obj} (h : Gr ((((((w.alloc A).alloc B).alloc C).alloc D).alloc E).alloc F) w1) : w1.heap[w.heap.size]? = some A ∧ w1.heap[w.heap.size + 1]? = some B ∧ w1.heap[w.heap.size + 1 + 1]? = some C ∧ w1.heap[w.heap.size + 1 + 1 + 1]? = some D ∧ w1.heap[w.heap.size + 1 + 1 + 1 + 1]? = some E ∧ w1.heap[w.heap.size + 1 + 1 + 1 + 1 + 1]? = some F ∧ w.heap.size + 1 + 1 + 1 + 1 + 1 < w1.heap.size ∧ Gr w w1 := by
  obtain ⟨h1, h2, h3⟩ := alloc1 h
  obtain ⟨g0, g1, g2, g3, g4, _, gg⟩ := alloc5 h3
  have e : (((((w.alloc A).alloc B).alloc C).alloc D).alloc E).heap.size = w.heap.size + 1 + 1 + 1 + 1 + 1 := by simp
  rw [e] at h1 h2
  exact ⟨g0, g1, g2, g3, g4, h1, h2, gg⟩
theorem alloc7 {w w1 : World} {A B C D E F I : Obj} (h : Gr (((((((w.alloc A).alloc B).alloc C).alloc D).alloc E).alloc F).alloc I) w1) : w1.heap[w.heap.size]? = some A ∧ w1.heap[w.heap.size + 1]? = some B ∧ w1.heap[w.heap.size + 1 + 1]? = some C ∧ w1.heap[w.heap.size + 1 + 1 + 1]? = some D ∧ w1.heap[w.heap.size + 1 + 1 + 1 + 1]? = some E ∧ w1.heap[w.heap.size + 1 + 1 + 1 + 1 + 1]? = some F ∧ w1.heap[w.heap.size + 1 + 1 + 1 + 1 + 1 + 1]? = some I ∧ w.heap.size + 1 + 1 + 1 + 1 + 1 + 1 < w1.heap.size ∧ Gr w w1 := by
  obtain ⟨h1, h2, h3⟩ := alloc1 h
  obtain ⟨g0, g1, g2, g3, g4, g5, _, gg⟩ := alloc6 h3
  have e : ((((((w.alloc A).alloc B).alloc C).alloc D).alloc E).alloc F).heap.size = w.heap.size + 1 + 1 + 1 + 1 + 1 + 1 := by simp
  rw [e] at h1 h2
  exact ⟨g0, g1, g2, g3, g4, g5, h1, h2, gg⟩
theorem ret_bool {a b : Bool} (h : a = b) : Ending.returned (.bool a) = .returned (.bool b) := by rw [h]
theorem fz {w : World} {b : Nat} {cs : Array Value} {T : TypeId} (h : w.heap[b]? = some (.cells cs T)) : ∀ o, w.frozen? ⟨b, o, none⟩ = false := by
  intro o; simp [World.frozen?, h]
end Go.Proofs.YtgfopfomhgfcaaaGreatDoor
namespace Go.Proofs.YtgfopfomhgfcaaaGreatDoor
open Go.RowKit Go.Sort

theorem setRow_drewN (w : World) (n b : Nat) (cs : Array Value) : (w.drewN n).setRow b cs = (w.setRow b cs).drewN n := rfl
theorem setRow_grow (w : World) (os : Array Obj) (b : Nat) (cs : Array Value) (h : b < w.heap.size) : (grow w os).setRow b cs = grow (w.setRow b cs) os := by
  unfold grow World.setRow
  simp only
  congr 1
  refine Array.ext_getElem? fun k => ?_
  rw [Array.getElem?_modify, Array.getElem?_append, Array.getElem?_append, Array.getElem?_modify, Array.size_modify]
  by_cases hk : k < w.heap.size
  · simp [hk]
  · have : b ≠ k := by omega
    simp [hk, this]
theorem Gr.row {w w' : World} (hg : Gr w w') {b : Nat} (h : b < w.heap.size) (cs : Array Value) : Gr (w.setRow b cs) (w'.setRow b cs) := by
  obtain ⟨p, rfl⟩ := hg
  exact ⟨p, by rw [setRow_grow (w.drewN p.n) _ _ _ h, setRow_drewN]⟩
theorem ne_of {w : World} {i j : Nat} {o o' : Obj} (_ : w.heap[i]? = some o) (_ : w.heap[j]? = some o') (h : i ≠ j) : i ≠ j := h
theorem row_new {w : World} {g : Nat} {zs cs : Array Value} {T : TypeId} (h : w.heap[g]? = some (.cells zs T)) : (w.setRow g cs).heap[g]? = some (.cells cs T) :=
  heap_setRow_at w g cs zs T h
theorem row_old {w : World} {g j : Nat} {cs : Array Value} {o : Obj} (h : w.heap[j]? = some o) (hn : j ≠ g) : (w.setRow g cs).heap[j]? = some o := by
  rw [heap_setRow _ _ _ _ hn, h]
theorem atO1 {w wb : World} {b j : Nat} {cs : Array Value} {x : Value} {T : TypeId} (hb : Gr w wb ∨ Gr (w.setRow b cs) wb) (h : w.heap[j]? = some (.cells #[x] T)) (hn : j ≠ b) :
    ∀ (m : Nat) (os : Array Obj), (grow (wb.drewN m) os).cell? ⟨j, 0, none⟩ = some x :=
  hb.elim (fun g => g.at1 h) (fun g => g.at1 (row_old h hn))
theorem atO2 {w wb : World} {b j : Nat} {cs : Array Value} {x y : Value} {T : TypeId} (hb : Gr w wb ∨ Gr (w.setRow b cs) wb) (h : w.heap[j]? = some (.cells #[x, y] T)) (hn : j ≠ b) :
    (∀ (m : Nat) (os : Array Obj), (grow (wb.drewN m) os).cell? ⟨j, 0, none⟩ = some x) ∧ (∀ (m : Nat) (os : Array Obj), (grow (wb.drewN m) os).cell? ⟨j, 1, none⟩ = some y) :=
  hb.elim (fun g => g.at2 h) (fun g => g.at2 (row_old h hn))
theorem atO4 {w wb : World} {b j : Nat} {cs : Array Value} {x y z u : Value} {T : TypeId} (hb : Gr w wb ∨ Gr (w.setRow b cs) wb) (h : w.heap[j]? = some (.cells #[x, y, z, u] T)) (hn : j ≠ b) :
    (∀ (m : Nat) (os : Array Obj), (grow (wb.drewN m) os).cell? ⟨j, 0, none⟩ = some x) ∧ (∀ (m : Nat) (os : Array Obj), (grow (wb.drewN m) os).cell? ⟨j, 1, none⟩ = some y) ∧
    (∀ (m : Nat) (os : Array Obj), (grow (wb.drewN m) os).cell? ⟨j, 2, none⟩ = some z) ∧ (∀ (m : Nat) (os : Array Obj), (grow (wb.drewN m) os).cell? ⟨j, 3, none⟩ = some u) :=
  hb.elim (fun g => g.at4 h) (fun g => g.at4 (row_old h hn))

section
variable {P : Program} {l : List Oper} {n k : Nat} {a0 aF : Act} {R : Bool → World → Prop}

structure SimO (l : List Oper) (n k : Nat) (a0 aF : Act) (R : Bool → World → Prop) (listed : Array Bool) (a : Act) (w : World) : Prop where
  world : R (listed.getD k false) w
  defers : a.defers = a0.defers
  size : a.tmps.size = a0.tmps.size
  wr : ∀ i d, i < n → listed.getD i false = true → dstOf l i = some d → a.tmps[d]? = aF.tmps[d]?
  old : ∀ s, (∀ i, i < n → listed.getD i false = true → dstOf l i ≠ some s) → a.tmps[s]? = a0.tmps[s]?

theorem head_out (HK : HeadOk [] [] (fun i => i) n l) {Q : Exit → Act → World → Prop} (hk : k < n) (hkd : dstOf l k = none) (hkg : ∀ o, l[k]? = some o → o.guard = none)
    (hRg : ∀ b w w', R b w → Gr w w' → R b w')
    (hst : ∀ o, l[k]? = some o → ∀ (a : Act) (w : World), R false w → a.tmps.size = a0.tmps.size → (∀ s ∈ o.looksAt l.toArray, a.tmps[s]? = aF.tmps[s]?) → ∃ w1, (execOp a.eval o).run P w = .ok .skip w1 ∧ R true w1)
    (hq : ∀ b wb, R b wb → wpQuiet P l.toArray (fun w' => ∃ p : GrownBy, w' = grow (wb.drewN p.n) p.os) (fun x => x = aF) (headOps [k] n 0 l) a0)
    (hT : ∀ w, R true w → wpList P l.toArray Q (l.drop n) aF w) :
    ∀ (f : Nat) (listed : Array Bool) (a : Act) (w : World), undone listed n = f → HeadInv .any l.toArray n listed → SimO l n k a0 aF R listed a w →
      wpAny P .any l.toArray Q (f + (l.length - n)) listed a w := by
  have hlt := HK.lt
  have hd1 : ∀ i j d, dstOf (headOps [k] n 0 l) i = some d → dstOf (headOps [k] n 0 l) j = some d → i = j := by
    intro i j d hi hj
    rw [dst_head] at hi hj
    split at hi
    · split at hi
      · cases hi
      · split at hj
        · split at hj
          · cases hj
          · exact HK.dsts i j d ‹_› ‹_› hi hj
        · cases hj
    · cases hi
  have ckk : ∀ i, ([k] : List Nat).contains i = true → i = k := fun i h => by simpa using h
  have dsth : ∀ i, i < n → dstOf (headOps [k] n 0 l) i = dstOf l i := by
    intro i hi
    rw [dst_head, if_pos hi]
    split
    · rename_i h
      rw [ckk i h, hkd]
    · rfl
  intro f
  induction f with
  | zero =>
    intro listed a w hu inv S
    rw [Nat.zero_add]
    have hall := undone_zero hu
    have e : listed = Array.replicate n true ++ Array.replicate (l.length - n) false := by
      have hsz : listed.size = l.length := by have := inv.size; simpa using this
      refine Array.ext (by simp [hsz]; omega) fun i h1 h2 => ?_
      by_cases hi : i < n
      · have := hall i hi
        rw [Array.getElem_append_left (by simpa using hi)]
        simpa [h1] using this
      · have := inv.tail i (by omega) (by simpa [hsz] using h1)
        rw [Array.getElem_append_right (by simpa using hi)]
        simpa [h1] using this
    have hseq := HK.seq
    rw [← e] at hseq
    have hw := S.world
    rw [hall k hk] at hw
    have hlex := (lex_walk (headOps [k] n 0 l) a0 hd1 (hq true w hw)).1
    have ea : a = aF := act_ext (by rw [S.defers, hlex.1]) fun s => by
      by_cases hex : ∃ i, i < n ∧ dstOf l i = some s
      · obtain ⟨i, hi, hd⟩ := hex
        exact S.wr i s hi (hall i hi) hd
      · rw [S.old s fun i hi _ hd => hex ⟨i, hi, hd⟩, hlex.2.2 s fun i => by
          rw [dst_head]
          split
          · split
            · exact fun h => by cases h
            · exact fun hd => hex ⟨i, ‹_›, hd⟩
          · exact fun h => by cases h]
    have := wpAny_of_seq (P := P) (ops := l.toArray) (md := .any) (Q' := Q) (l.drop n) n listed a w (fun j => by simp [List.getElem?_drop]) (by simpa using hseq) (ea ▸ hT w hw)
    simpa using this
  | succ f ih =>
    intro listed a w hu inv S
    have hsz : listed.size = l.length := by have := inv.size; simpa using this
    obtain ⟨i0, hi0, hf0, hbef⟩ := undone_pos hu
    have hf0' : listed.getD i0 true = false := by rw [getD_tf (by omega)]; exact hf0
    rw [show f + 1 + (l.length - n) = (f + (l.length - n)) + 1 by omega]
    refine ⟨fun h => ?_, fun j hj => ?_⟩
    · exfalso
      have : i0 ∈ Region.ready .any l.toArray listed := by
        rw [mem_ready]
        have hi0l : i0 < l.length := by omega
        exact ⟨hf0', l[i0], by simp, fun e he hb => hbef _ (HK.after i0 _ hi0 (by simp) e he hb)⟩
      rw [h] at this; cases this
    · have hjn : j < n := by
        rcases Nat.lt_or_ge j n with h | h
        · exact h
        · exact absurd hj (tail_waits HK.sink HK.chain (by simpa using HK.lt) inv _ i0 rfl hi0 hf0' j h)
      obtain ⟨hjun, o, ho, hdeps⟩ := mem_ready.1 hj
      have ho' : l[j]? = some o := by simpa using ho
      have hjf : listed.getD j false = false := by rw [← getD_tf (by omega)]; exact hjun
      have hu' : undone (listed.setIfInBounds j true) n = f := by have := undone_set hjn (by omega) hjf; omega
      have inv' := inv.set hj hjn
      have dj : dstOf l j = o.dst := by simp [dstOf, ho']
      have waits : ∀ i, Region.waitsFor .any l.toArray j i = true → listed.getD i false = true := by
        intro i q3
        obtain ⟨oj, hoj, e, he, hb, hon⟩ := Region.waitsFor_spec q3
        have : oj = o := Option.some.inj (hoj.symm.trans ho)
        subst this
        rw [← hon]; exact hdeps e he hb
      unfold wpOp
      simp only [ho]
      by_cases hjk : j = k
      · subst hjk
        rw [if_pos (by simp [Region.wanted, hkg o ho'])]
        refine .inl ?_
        have hw := S.world
        rw [hjf] at hw
        have agree : ∀ s ∈ o.looksAt l.toArray, a.tmps[s]? = aF.tmps[s]? := by
          intro s hs
          by_cases hex : ∃ i, i < n ∧ dstOf l i = some s
          · obtain ⟨i, hi, hdi⟩ := hex
            obtain ⟨_, _, q3⟩ := HK.looks j o hjn ho' (fun h => by cases h) s hs i hi hdi
            exact S.wr i s hi (waits i q3) hdi
          · have hno : ∀ i, i < n → dstOf l i ≠ some s := fun i hi hd => hex ⟨i, hi, hd⟩
            rw [S.old s fun i hi _ => hno i hi, (lex_walk (headOps [j] n 0 l) a0 hd1 (hq false w hw)).1.2.2 s fun i => by
              rw [dst_head]
              split
              · split
                · exact fun h => by cases h
                · exact hno i ‹_›
              · exact fun h => by cases h]
        obtain ⟨w1, r1, r2⟩ := hst o ho' a w hw S.size agree
        unfold Oper.wp
        rw [r1]
        simp only [Oper.upon, ← dj, hkd]
        refine ih _ _ _ hu' inv' ?_
        constructor
        · rw [getD_set_self (by omega)]; exact r2
        · exact S.defers
        · exact S.size
        · intro i e hi hl hde
          rcases set_of hl with rfl | hl
          · rw [hkd] at hde; cases hde
          · exact S.wr i e hi hl hde
        · intro s hs
          exact S.old s fun i hi hl => hs i hi (getD_set_true hl)
      · have hnc : ([k] : List Nat).contains j = false := by simpa using hjk
        have hhead : (headOps [k] n 0 l)[j]? = some o := by
          rw [headOps_get, if_pos hjn, ho', Nat.zero_add, hnc]; rfl
        obtain ⟨⟨_, hs1, _⟩, hf4⟩ := lex_walk (headOps [k] n 0 l) a0 hd1 (hq _ w S.world)
        obtain ⟨ak, v, hy, hv, hg3, hg4⟩ := hf4 j o hhead
        have agree : ∀ s ∈ o.looksAt l.toArray, a.tmps[s]? = ak.tmps[s]? := by
          intro s hs
          by_cases hex : ∃ i, i < n ∧ dstOf l i = some s
          · obtain ⟨i, hi, hdi⟩ := hex
            obtain ⟨_, q2, q3⟩ := HK.looks j o hjn ho' (fun h => by cases h) s hs i hi hdi
            rw [S.wr i s hi (waits i q3) hdi, hg3 s ⟨i, q2, by rw [dsth i hi]; exact hdi⟩]
          · have hno : ∀ i, i < n → dstOf l i ≠ some s := fun i hi hd => hex ⟨i, hi, hd⟩
            rw [S.old s fun i hi _ => hno i hi, hg4 s fun i _ => by
              rw [dst_head]
              split
              · split
                · exact fun h => by cases h
                · exact hno i ‹_›
              · exact fun h => by cases h]
        have hex := exec_same (ops := l.toArray) o (fun cs b => Region.noSelect_spec HK.nosel j o cs b ho) agree
        have hwa := wanted_same (ops := l.toArray) o agree
        have fin : ∀ w', Gr w w' → wpAny P .any l.toArray Q (f + (l.length - n)) (listed.setIfInBounds j true) (a.put o.dst v) w' := by
          intro w' hgr
          refine ih _ _ _ hu' inv' ?_
          constructor
          · rw [getD_set_ne false hjk]; exact hRg _ _ _ S.world hgr
          · rw [put_defers]; exact S.defers
          · rw [put_size]; exact S.size
          · intro i e hi hl hde
            by_cases hij : i = j
            · subst hij
              rw [dj] at hde
              rcases Nat.lt_or_ge e a.tmps.size with hlt' | hge
              · rw [hde, put_at _ _ _ hlt']
                exact (hv e hde (by rw [← S.size]; exact hlt')).symm
              · rw [Array.getElem?_eq_none (by rw [put_size]; exact hge), Array.getElem?_eq_none (by rw [hs1, ← S.size]; exact hge)]
            · have hl := (set_of hl).resolve_left hij
              rw [put_ne _ _ _ _ (fun he => hij (HK.dsts i j e hi hjn hde (by rw [dj, he])))]
              exact S.wr i e hi hl hde
          · intro s hs
            rw [put_ne _ _ _ _ (fun he => hs j hjn (getD_set_self (by omega)) (by rw [dj, he]))]
            exact S.old s fun i hi hl => hs i hi (getD_set_true hl)
        rcases hy with ⟨hw, hv1⟩ | ⟨hw, rfl⟩
        · rw [if_pos (by rw [hwa]; exact hw)]
          refine .inl ?_
          have h3 := hv1 w (Gr.refl w)
          unfold Oper.quietAt at h3
          unfold Oper.wp
          rw [hex]
          generalize (execOp ak.eval o).run P w = r at h3
          cases r with
          | ok nx w' =>
            cases nx <;> simp only [Oper.quietUpon] at h3 <;> simp only [Oper.upon]
            case value u =>
              obtain ⟨e1, e2⟩ := h3
              rw [e1, e2]
              exact fin w (Gr.refl w)
            case skip =>
              obtain ⟨e1, e2⟩ := h3
              rw [e1, ← e2]
              exact fin w (Gr.refl w)
            case enter g args =>
              obtain ⟨e1, hc⟩ := h3
              rw [e1]
              exact hc.mono fun e w'' ⟨he, hw''⟩ => by subst he; exact fin w'' hw''
          | halt x w' => simp only [Oper.quietUpon] at h3
        · rw [if_neg (by rw [hwa, hw]; exact Bool.false_ne_true)]
          exact fin w (Gr.refl w)

/-- By operation k, what slot x holds is stored into block b, whose address stands in slot d. -/
theorem wp_regO {id : Nat} {Q : Exit → Act → World → Prop} {a : Act} {w : World} {os : Oper} {T : TypeId} {b : Nat} {zs : Array Value} (n k d x : Nat) (hm : P.follows .mixedOrders = true) (hB : headB [] [] (fun i => i) n l = true)
    (hos : l[k]? = some os) (hk : k < n) (hop : os.op = .store T (.tmp d) (.tmp x)) (hog : os.guard = none) (hod : os.dst = none) (hd : a.tmps[d]? = some (.pointer (some ⟨b, 0, none⟩)))
    (hnd : ((List.range n).all fun j => dstOf l j != some d) = true) (hz : w.heap[b]? = some (.cells zs T)) (hi : (P.info? T).map (·.size) = some zs.size)
    (h : ∃ aF cs, (∀ wb, (Gr w wb ∨ Gr (w.setRow b cs) wb) → wpQuiet P l.toArray (fun w' => ∃ p : GrownBy, w' = grow (wb.drewN p.n) p.os) (fun x => x = aF) (headOps [k] n 0 l) a) ∧
      aF.tmps[x]? = some (.agg cs) ∧ (zs.size = cs.size ∧ cs.all (·.oneCell') = true) ∧ ∀ w', Gr (w.setRow b cs) w' → wpList P l.toArray Q (l.drop n) aF w') : (Code.region id l.toArray true).wp P Q a w := by
  obtain ⟨aF, cs, hq, hx, ⟨hzs, h1⟩, hT⟩ := h
  have HK := headOk_of hB
  have hlt := HK.lt
  rw [hzs] at hi
  have hb : b < w.heap.size := ltb hz
  have hkd : dstOf l k = none := by simp [dstOf, hos, hod]
  have hdF : aF.tmps[d]? = a.tmps[d]? := by
    have hd1 : ∀ i j e, dstOf (headOps [k] n 0 l) i = some e → dstOf (headOps [k] n 0 l) j = some e → i = j := by
      intro i j e hi hj
      rw [dst_head] at hi hj
      split at hi
      · split at hi
        · cases hi
        · split at hj
          · split at hj
            · cases hj
            · exact HK.dsts i j e ‹_› ‹_› hi hj
          · cases hj
      · cases hi
    refine (lex_walk (headOps [k] n 0 l) a hd1 (hq w (.inl (Gr.refl w)))).1.2.2 d fun i => ?_
    rw [dst_head]
    split
    · rename_i hi
      split
      · exact fun h => by cases h
      · have := List.all_eq_true.1 hnd i (List.mem_range.2 hi)
        simpa using this
    · exact fun h => by cases h
  refine wp_region_any hm ?_
  have := head_out (P := P) (Q := Q) (a0 := a) (aF := aF) (k := k) (R := fun ph w' => if ph then Gr ({ w with drawn := w.drawn + 1 }.setRow b cs) w' else Gr { w with drawn := w.drawn + 1 } w') HK hk hkd
    (fun o ho => by
      have : o = os := Option.some.inj (ho.symm.trans hos)
      subst this; exact hog)
    (fun ph w1 w2 h hg => by
      cases ph <;> simp only [Bool.false_eq_true, if_true, if_false] at h ⊢ <;> exact h.trans hg)
    (fun o ho a' w' hR hs hag => by
      have : o = os := Option.some.inj (ho.symm.trans hos)
      subst this
      simp only [Bool.false_eq_true, if_false] at hR
      simp only [if_true]
      refine ⟨w'.setRow b cs, ?_, hR.row (by simpa using hb) cs⟩
      have g4 : w'.heap[b]? = some (.cells zs T) := hR.keep hz
      have gd : a'.eval (.tmp d) = .pointer (some ⟨b, 0, none⟩) := by
        have := hag d (List.mem_append_left _ (List.mem_filterMap.2 ⟨.tmp d, by rw [hop]; simp [Op.operands], rfl⟩))
        simp [Act.eval, Array.getD_eq_getD_getElem?, this, hdF, hd]
      have gx : a'.eval (.tmp x) = .agg cs := by
        have := hag x (List.mem_append_left _ (List.mem_filterMap.2 ⟨.tmp x, by rw [hop]; simp [Op.operands], rfl⟩))
        simp [Act.eval, Array.getD_eq_getD_getElem?, this, hx]
      obtain ⟨ds, op, ty, pos, aft, gu⟩ := o
      simp only at hop
      subst hop
      have := run_storeVar_row (P := P) w' b T T zs cs g4 hi hzs h1
      have e : Instr.storeAt T (.pointer (some ⟨b, 0, none⟩)) (.agg cs) = storeVar T ⟨b, 0, none⟩ (.agg cs) := rfl
      simp only [execOp, gd, gx, e]
      generalize storeVar T ⟨b, 0, none⟩ (.agg cs) = sv at this ⊢
      simp [go_sem, this])
    (fun ph wb h => hq wb (by
      cases ph <;> simp only [Bool.false_eq_true, if_true, if_false] at h
      · exact .inl (gr_drawn h)
      · exact .inr (((Gr.drew (w.setRow b cs))).trans h)))
    (fun w' h => hT w' (by
      simp only [if_true] at h
      exact ((Gr.drew (w.setRow b cs))).trans h))
    n (Array.replicate l.length false) a { w with drawn := w.drawn + 1 }
    (by
      unfold undone
      rw [List.filter_eq_self.2 (fun i _ => by rw [getD_replicate_false]; rfl)]; simp)
    ⟨by simp, fun j oj _ hl => (by rw [getD_replicate_false] at hl; cases hl), fun t _ ht => getD_in (by simpa using ht) (getD_replicate_false _ _)⟩
    ⟨by rw [getD_replicate_false]; exact Gr.refl _, rfl, rfl, fun i e _ hl => (by rw [getD_replicate_false] at hl; cases hl), fun _ _ => rfl⟩
  rw [show n + (l.length - n) = l.toArray.size by simp; omega] at this
  simpa using this
end
end Go.Proofs.YtgfopfomhgfcaaaGreatDoor
namespace Go.Proofs.YtgfopfomhgfcaaaGreatDoor
open Go.RowKit Go.Sort Go.Joins
theorem set1_new {w : World} {g : Nat} {x a : Value} {T : TypeId} (h : w.heap[g]? = some (.cells #[x] T)) :
    (w.setCell ⟨g, 0, none⟩ a).heap[g]? = some (.cells #[a] T) := by
  simpa using block_setCell (i := 0) h a
theorem set1_old {w : World} {g j : Nat} {a : Value} {o : Obj} (h : w.heap[j]? = some o) (hn : j ≠ g) :
    (w.setCell ⟨g, 0, none⟩ a).heap[j]? = some o := by
  rw [Below.heap_setCell _ _ _ _ hn, h]
theorem set2_new {w : World} {g : Nat} {x y a b : Value} {T : TypeId} (h : w.heap[g]? = some (.cells #[x, y] T)) :
    ((w.setCell ⟨g, 0, none⟩ a).setCell ⟨g, 1, none⟩ b).heap[g]? = some (.cells #[a, b] T) := by
  have e1 := block_setCell (i := 0) h a
  simpa using block_setCell (i := 1) e1 b
theorem set2_old {w : World} {g j : Nat} {a b : Value} {o : Obj} (h : w.heap[j]? = some o) (hn : j ≠ g) :
    ((w.setCell ⟨g, 0, none⟩ a).setCell ⟨g, 1, none⟩ b).heap[j]? = some o := by
  rw [Below.heap_setCell _ _ _ _ hn, Below.heap_setCell _ _ _ _ hn, h]
theorem set4_new {w : World} {g : Nat} {x y z u a b c d : Value} {T : TypeId} (h : w.heap[g]? = some (.cells #[x, y, z, u] T)) :
    ((((w.setCell ⟨g, 0, none⟩ a).setCell ⟨g, 1, none⟩ b).setCell ⟨g, 2, none⟩ c).setCell ⟨g, 3, none⟩ d).heap[g]? = some (.cells #[a, b, c, d] T) := by
  have e1 := block_setCell (i := 0) h a
  have e2 := block_setCell (i := 1) e1 b
  have e3 := block_setCell (i := 2) e2 c
  simpa using block_setCell (i := 3) e3 d
theorem set4_old {w : World} {g j : Nat} {a b c d : Value} {o : Obj} (h : w.heap[j]? = some o) (hn : j ≠ g) :
    ((((w.setCell ⟨g, 0, none⟩ a).setCell ⟨g, 1, none⟩ b).setCell ⟨g, 2, none⟩ c).setCell ⟨g, 3, none⟩ d).heap[j]? = some o := by
  rw [Below.heap_setCell _ _ _ _ hn, Below.heap_setCell _ _ _ _ hn, Below.heap_setCell _ _ _ _ hn, Below.heap_setCell _ _ _ _ hn, h]
end Go.Proofs.YtgfopfomhgfcaaaGreatDoor
