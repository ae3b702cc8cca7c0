import Derived.Test.YtfkmlgndggnhaaaA
import Derived.Test.YtfkmlgndggnhaaaReg
import Derived.BigQuiet
namespace Go.Proofs.Ytfkmlgndggnhaaa
open Go.RowKit Go.Sort

abbrev fr (p q : Int) : Value := .agg #[.int .i64 p, .int .i64 q]

set_option maxHeartbeats 400000 in
theorem toFrac_any (p q : Int) (w : World) :
    Calls Try.prog 23 #[fr p q] w fun e w' => e = .returned (fr p q) ∧ Gr w w' := by
  go_enter Try.func23, Try.ntmps23
  go_wp2
  refine bodyPost_ret (v := fr p q) (by simp [results, Try.results23, go_sem]) rfl ⟨rfl, ?_⟩
  exact ((Gr.alloc _ _).trans (Gr.alloc _ _)).trans (Gr.alloc _ _)

theorem Gr.al {w w' : World} (h : Gr w w') (o : Obj) : Gr w (w'.alloc o) := h.trans (Gr.alloc _ _)
theorem ltb {w : World} {b : Nat} {o : Obj} (h : w.heap[b]? = some o) : b < w.heap.size := (Array.getElem?_eq_some_iff.1 h).1
theorem cells2 {w : World} {b : Nat} {x y : Value} {T : TypeId} (h : w.heap[b]? = some (.cells #[x, y] T)) : w.cell? ⟨b, 0, none⟩ = some x ∧ w.cell? ⟨b, 1, none⟩ = some y := by
  simp [World.cell?, h]

abbrev sp (a b c d : Int) : Value := .agg #[.int .i64 a, .int .i64 b, .int .i64 c, .int .i64 d]
theorem cells4 {w : World} {b : Nat} {x y z u : Value} {T : TypeId} (h : w.heap[b]? = some (.cells #[x, y, z, u] T)) : w.cell? ⟨b, 0, none⟩ = some x ∧ w.cell? ⟨b, 1, none⟩ = some y ∧ w.cell? ⟨b, 2, none⟩ = some z ∧ w.cell? ⟨b, 3, none⟩ = some u := by
  simp [World.cell?, h]
theorem Gr.at1 {w wb : World} {b : Nat} {x : Value} {T : TypeId} (hb : Gr w wb) (h : w.heap[b]? = some (.cells #[x] T)) :
    ∀ (m : Nat) (os : Array Obj), (grow (wb.drewN m) os).cell? ⟨b, 0, none⟩ = some x :=
  have hl := (Array.getElem?_eq_some_iff.1 h).1
  fun m os => (hb.at m os b 0 hl).trans (by simp [World.cell?, h])
theorem Gr.at4 {w wb : World} {b : Nat} {x y z u : Value} {T : TypeId} (hb : Gr w wb) (h : w.heap[b]? = some (.cells #[x, y, z, u] T)) :
    (∀ (m : Nat) (os : Array Obj), (grow (wb.drewN m) os).cell? ⟨b, 0, none⟩ = some x) ∧ (∀ (m : Nat) (os : Array Obj), (grow (wb.drewN m) os).cell? ⟨b, 1, none⟩ = some y) ∧
    (∀ (m : Nat) (os : Array Obj), (grow (wb.drewN m) os).cell? ⟨b, 2, none⟩ = some z) ∧ (∀ (m : Nat) (os : Array Obj), (grow (wb.drewN m) os).cell? ⟨b, 3, none⟩ = some u) :=
  have hl := (Array.getElem?_eq_some_iff.1 h).1
  have c := cells4 h
  ⟨fun m os => (hb.at m os b 0 hl).trans c.1, fun m os => (hb.at m os b 1 hl).trans c.2.1, fun m os => (hb.at m os b 2 hl).trans c.2.2.1, fun m os => (hb.at m os b 3 hl).trans c.2.2.2⟩
theorem Gr.at2 {w wb : World} {b : Nat} {x y : Value} {T : TypeId} (hb : Gr w wb) (h : w.heap[b]? = some (.cells #[x, y] T)) :
    (∀ (m : Nat) (os : Array Obj), (grow (wb.drewN m) os).cell? ⟨b, 0, none⟩ = some x) ∧ (∀ (m : Nat) (os : Array Obj), (grow (wb.drewN m) os).cell? ⟨b, 1, none⟩ = some y) :=
  have hl := (Array.getElem?_eq_some_iff.1 h).1
  ⟨fun m os => (hb.at m os b 0 hl).trans (cells2 h).1, fun m os => (hb.at m os b 1 hl).trans (cells2 h).2⟩
theorem Gr.keep {w w' : World} {b : Nat} {o : Obj} (hg : Gr w w') (h : w.heap[b]? = some o) : w'.heap[b]? = some o := by
  rw [hg.block (Array.getElem?_eq_some_iff.1 h).1]; exact h
theorem alloc1 {w w1 : World} {A : Obj} (h : Gr (w.alloc A) w1) : w1.heap[w.heap.size]? = some A ∧ w.heap.size < w1.heap.size ∧ Gr w w1 := by
  refine ⟨?_, by have := h.size; simp at this; omega, (Gr.alloc _ _).trans h⟩
  rw [h.block (by simp)]
  show (w.heap.push A)[w.heap.size]? = _
  simp
theorem alloc2 {w w1 : World} {A B : Obj} (h : Gr ((w.alloc A).alloc B) w1) : w1.heap[w.heap.size]? = some A ∧ w1.heap[w.heap.size + 1]? = some B ∧ w.heap.size + 1 < w1.heap.size ∧ Gr w w1 := by
  obtain ⟨h1, h2, h3⟩ := alloc1 h
  obtain ⟨g1, g2, g3⟩ := alloc1 h3
  have e : (w.alloc A).heap.size = w.heap.size + 1 := by simp
  rw [e] at h1 h2
  exact ⟨g1, h1, h2, g3⟩

set_option maxHeartbeats 400000 in
theorem eqFrac_any (p q : Int) (w : World) :
    Calls Try.prog 29 #[fr p q, fr p q] w fun e w' => e = .returned (.bool true) ∧ Gr w w' := by
  go_enter Try.func29, Try.ntmps29
  go_wp2
  go_ret
  exact ⟨rfl, (Gr.alloc _ _).trans (Gr.alloc _ _)⟩

/-- What is as it was behind a call, as the walk takes it. -/
theorem Gr.same {w w1 : World} (h : Gr w w1) : (∀ b o, b < w.heap.size → w1.cell? ⟨b, o, none⟩ = w.cell? ⟨b, o, none⟩) ∧ (∀ b o, b < w.heap.size → w1.frozen? ⟨b, o, none⟩ = w.frozen? ⟨b, o, none⟩) :=
  ⟨fun _ _ hb => h.cell hb, fun _ _ hb => h.frozen hb⟩
theorem alloc3 {w w1 : World} {A B C : Obj} (h : Gr (((w.alloc A).alloc B).alloc C) w1) : w1.heap[w.heap.size]? = some A ∧ w1.heap[w.heap.size + 1]? = some B ∧ w1.heap[w.heap.size + 1 + 1]? = some C ∧ w.heap.size + 1 + 1 < w1.heap.size ∧ Gr w w1 := by
  obtain ⟨h1, h2, h3⟩ := alloc1 h
  obtain ⟨g1, g2, g3, g4⟩ := alloc2 h3
  have e : ((w.alloc A).alloc B).heap.size = w.heap.size + 1 + 1 := by simp
  rw [e] at h1 h2
  exact ⟨g1, g2, h1, h2, g4⟩
theorem alloc4 {w w1 : World} {A B C D : Obj} (h : Gr ((((w.alloc A).alloc B).alloc C).alloc D) w1) : w1.heap[w.heap.size]? = some A ∧ w1.heap[w.heap.size + 1]? = some B ∧ w1.heap[w.heap.size + 1 + 1]? = some C ∧ w1.heap[w.heap.size + 1 + 1 + 1]? = some D ∧ w.heap.size + 1 + 1 + 1 < w1.heap.size ∧ Gr w w1 := by
  obtain ⟨h1, h2, h3⟩ := alloc1 h
  obtain ⟨g0, g1, g2, _, gg⟩ := alloc3 h3
  have e : (((w.alloc A).alloc B).alloc C).heap.size = w.heap.size + 1 + 1 + 1 := by simp
  rw [e] at h1 h2
  exact ⟨g0, g1, g2, h1, h2, gg⟩
theorem alloc5 {w w1 : World} {A B C D E : Obj} (h : Gr (((((w.alloc A).alloc B).alloc C).alloc D).alloc E) w1) : w1.heap[w.heap.size]? = some A ∧ w1.heap[w.heap.size + 1]? = some B ∧ w1.heap[w.heap.size + 1 + 1]? = some C ∧ w1.heap[w.heap.size + 1 + 1 + 1]? = some D ∧ w1.heap[w.heap.size + 1 + 1 + 1 + 1]? = some E ∧ w.heap.size + 1 + 1 + 1 + 1 < w1.heap.size ∧ Gr w w1 := by
  obtain ⟨h1, h2, h3⟩ := alloc1 h
  obtain ⟨g0, g1, g2, g3, _, gg⟩ := alloc4 h3
  have e : ((((w.alloc A).alloc B).alloc C).alloc D).heap.size = w.heap.size + 1 + 1 + 1 + 1 := by simp
  rw [e] at h1 h2
  exact ⟨g0, g1, g2, g3, h1, h2, gg⟩
theorem alloc6 {w w1 : World} {A B C D E F : Obj} (h : Gr ((((((w.alloc A).alloc B).alloc C).alloc D).alloc E).alloc F) w1) : w1.heap[w.heap.size]? = some A ∧ w1.heap[w.heap.size + 1]? = some B ∧ w1.heap[w.heap.size + 1 + 1]? = some C ∧ w1.heap[w.heap.size + 1 + 1 + 1]? = some D ∧ w1.heap[w.heap.size + 1 + 1 + 1 + 1]? = some E ∧ w1.heap[w.heap.size + 1 + 1 + 1 + 1 + 1]? = some F ∧ w.heap.size + 1 + 1 + 1 + 1 + 1 < w1.heap.size ∧ Gr w w1 := by
  obtain ⟨h1, h2, h3⟩ := alloc1 h
  obtain ⟨g0, g1, g2, g3, g4, _, gg⟩ := alloc5 h3
  have e : (((((w.alloc A).alloc B).alloc C).alloc D).alloc E).heap.size = w.heap.size + 1 + 1 + 1 + 1 + 1 := by simp
  rw [e] at h1 h2
  exact ⟨g0, g1, g2, g3, g4, h1, h2, gg⟩
theorem alloc7 {w w1 : World} {A B C D E F I : Obj} (h : Gr (((((((w.alloc A).alloc B).alloc C).alloc D).alloc E).alloc F).alloc I) w1) : w1.heap[w.heap.size]? = some A ∧ w1.heap[w.heap.size + 1]? = some B ∧ w1.heap[w.heap.size + 1 + 1]? = some C ∧ w1.heap[w.heap.size + 1 + 1 + 1]? = some D ∧ w1.heap[w.heap.size + 1 + 1 + 1 + 1]? = some E ∧ w1.heap[w.heap.size + 1 + 1 + 1 + 1 + 1]? = some F ∧ w1.heap[w.heap.size + 1 + 1 + 1 + 1 + 1 + 1]? = some I ∧ w.heap.size + 1 + 1 + 1 + 1 + 1 + 1 < w1.heap.size ∧ Gr w w1 := by
  obtain ⟨h1, h2, h3⟩ := alloc1 h
  obtain ⟨g0, g1, g2, g3, g4, g5, _, gg⟩ := alloc6 h3
  have e : ((((((w.alloc A).alloc B).alloc C).alloc D).alloc E).alloc F).heap.size = w.heap.size + 1 + 1 + 1 + 1 + 1 + 1 := by simp
  rw [e] at h1 h2
  exact ⟨g0, g1, g2, g3, g4, g5, h1, h2, gg⟩
theorem ret_bool {a b : Bool} (h : a = b) : Ending.returned (.bool a) = .returned (.bool b) := by rw [h]
theorem fz {w : World} {b : Nat} {cs : Array Value} {T : TypeId} (h : w.heap[b]? = some (.cells cs T)) : ∀ o, w.frozen? ⟨b, o, none⟩ = false := by
  intro o; simp [World.frozen?, h]
end Go.Proofs.Ytfkmlgndggnhaaa
