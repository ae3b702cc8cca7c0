/- Slices of integers: one that the call made, known whole; how they come from the laws' values. -/
import Derived.Test.YtljmbdjojogbjaaB0
import Derived.Test.YtljmbdjojogbjaaC0
import Derived.Test.YtljmbdjojogbjaaSet
import Derived.Lib.SmallJoins
import Derived.Laws.MakeOwn
namespace Go.Proofs.Ytljmbdjojogbjaa
open Go.RowKit Go.Sort

def intA (xs : List Int) : Array Value := (xs.map (.int .i64 ·)).toArray
theorem intA_size (xs : List Int) : (intA xs).size = xs.length := by simp [intA]
theorem intA_get {xs : List Int} {k : Nat} {p : Int} (h : xs[k]? = some p) : (intA xs)[k]? = some (.int .i64 p) := by simp [intA, h]
theorem intA_set (xs : List Int) (k : Nat) (p : Int) : (intA xs).setIfInBounds k (.int .i64 p) = intA (xs.set k p) := by
  unfold intA
  simp [List.map_set]
theorem int_cell {w : World} {g k : Nat} {T : TypeId} {xs : List Int} {p : Int} (h : w.heap[g]? = some (.cells (intA xs) T)) (hk : xs[k]? = some p) :
    w.cell? ⟨g, k, none⟩ = some (.int .i64 p) := by
  have := intA_get hk
  simp [World.cell?, h, this]
theorem int_store {w : World} {g k : Nat} {T : TypeId} {xs : List Int} (p : Int) (h : w.heap[g]? = some (.cells (intA xs) T)) :
    (w.setCell ⟨g, k, none⟩ (.int .i64 p)).heap[g]? = some (.cells (intA (xs.set k p)) T) := by
  have e1 := Joins.block_setCell (i := k) h (.int .i64 p)
  rw [intA_set] at e1
  exact e1
theorem int_at {w wb : World} {g k : Nat} {T : TypeId} {xs : List Int} {p : Int} (hb : Gr w wb) (h : w.heap[g]? = some (.cells (intA xs) T)) (hk : xs[k]? = some p) :
    (∀ (m : Nat) (os : Array Obj), (grow (wb.drewN m) os).cell? ⟨g, k, none⟩ = some (.int .i64 p)) :=
  have hl := ltb h
  fun m os => (hb.at m os g _ hl).trans (int_cell h hk)
theorem made_zeros1 (n : Nat) : madeCells #[.int .i64 0] n = intA (List.replicate n 0) := by
  refine Array.ext_getElem? fun i => ?_
  by_cases hi : i < n
  · have g : (intA (List.replicate n (0 : Int)))[i]? = some (.int .i64 0) := intA_get (by simp [hi])
    rw [g]
    unfold madeCells
    simp [hi, Nat.mod_one]
  · rw [Array.getElem?_eq_none (by rw [size_madeCells]; omega), Array.getElem?_eq_none (by simp [intA]; omega)]

/-- A slice of the laws' integers, as it came in. -/
def RawI (w : World) (v : Value) (xs : List Int) : Prop :=
  (v = .slice none 0 0 ∧ xs = []) ∨ ∃ (ad : Addr) (cap : Nat), v = .slice (some ad) xs.length cap ∧
    ∀ (k : Nat) (p : Int), xs[k]? = some p → w.cell? (ad.add k) = some (.int .i64 p)
theorem addI_block (a : Addr) (n : Nat) : (a.add n).block = a.block := by unfold Addr.add; split <;> rfl
theorem Gr.cellI {w w' : World} (h : Gr w w') {a : Addr} (hb : a.block < w.heap.size) : w'.cell? a = w.cell? a := h.below.cell hb
theorem rawI_lt {w : World} {ad : Addr} {n : Nat} {v : Value} (h : w.cell? (ad.add n) = some v) : ad.block < w.heap.size := by
  have h := World.block_lt_of_cell? _ _ h
  rwa [addI_block] at h
theorem RawI.keep {w w' : World} {v : Value} {xs : List Int} (h : RawI w v xs) (hg : Gr w w') : RawI w' v xs := by
  rcases h with h | ⟨ad, cap, h1, h3⟩
  · exact .inl h
  · refine .inr ⟨ad, cap, h1, fun k p hk => ?_⟩
    have c1 := h3 k p hk
    exact (hg.cellI (by rw [addI_block]; exact rawI_lt c1)).trans c1
theorem takeI_step {xs : List Int} {k : Nat} {x : Int} (h : xs[k]? = some x) :
    (xs.take k ++ List.replicate (xs.length - k) 0).set k x = xs.take (k + 1) ++ List.replicate (xs.length - (k + 1)) 0 := by
  have hk : k < xs.length := (List.getElem?_eq_some_iff.1 h).1
  have hl : (xs.take k).length = k := by simp; omega
  rw [List.set_append_right _ _ (by omega), hl, Nat.sub_self]
  rw [show xs.length - k = (xs.length - (k + 1)) + 1 by omega, List.replicate_succ, List.set_cons_zero]
  rw [List.take_add_one, h]
  simp
theorem takeI_get {xs : List Int} {k : Nat} (hk : k < xs.length) : (xs.take k ++ List.replicate (xs.length - k) (0 : Int))[k]? = some 0 := by
  have hl : (xs.take k).length = k := by simp; omega
  rw [List.getElem?_append_right (by omega), hl, Nat.sub_self, List.getElem?_replicate, if_pos (by omega)]
set_option maxRecDepth 100000 in
theorem make_ints (n : Nat) (hn : n ≤ 1048576) (w : World) :
    (Instr.makeSlice 25 (.int .i64 (n : Int)) (.int .i64 (n : Int))).run Try.prog w = .ok (.slice (some ⟨w.heap.size, 0, none⟩) n n) (w.alloc (.cells (intA (List.replicate n 0)) 2)) := by
  obtain ⟨i, hi, hz, hs, hb⟩ : ∃ i, Try.prog.info? 2 = some i ∧ i.zero = some (.int .i64 0) ∧ i.size = 1 ∧ i.bytes = 8 := ⟨_, rfl, rfl, rfl, rfl⟩
  have h := run_make (P := Try.prog) w 25 2 i (.int .i64 0) Try.underlying25 hi hz .i64 .i64 n n (by omega) (Int.le_refl _) (by rw [hb]; omega) (by omega)
  rw [hs] at h
  simp only [Int.toNat_natCast, Nat.mul_one] at h
  rw [h, ← made_zeros1]
  rfl
set_option maxRecDepth 20000 in
set_option maxHeartbeats 1000000 in
theorem toInt64S_some (ad : Addr) (cap : Nat) (xs : List Int) (w : World) (hn : xs.length ≤ 1048576)
    (hr : ∀ (k : Nat) (p : Int), xs[k]? = some p → w.cell? (ad.add k) = some (.int .i64 p)) :
    Calls Try.prog 10 #[.slice (some ad) xs.length cap] w fun e w' => e = .returned (.slice (some ⟨w.heap.size, 0, none⟩) xs.length xs.length) ∧ w'.heap[w.heap.size]? = some (.cells (intA xs) 2) ∧ Gr w w' := by
  have HR := hid hr; clear hr
  have hmk := make_ints xs.length hn
  go_enter Try.func10, Try.ntmps10
  go_wp2_with fail
  go_loopw [4] (fun u wr => ∃ (k : Nat), u = .int .i64 (k : Int) ∧ k ≤ xs.length ∧ Gr w wr ∧ wr.heap[w.heap.size]? = some (.cells (intA (xs.take k ++ List.replicate (xs.length - k) 0)) 2)) (fun u _ => xs.length - (intOf u).toNat)
  case atStart => exact ⟨0, rfl, by omega, (Gr.refl _).al _, by simpa using (alloc1 (Gr.refl (w.alloc (.cells (intA (List.replicate xs.length 0)) 2)))).1⟩
  case round =>
    obtain ⟨k, rfl, hk, g, x0⟩ := hrel
    clear hmk
    by_cases hlt : k < xs.length
    · obtain ⟨p, hp⟩ : ∃ p, xs[k]? = some p := ⟨xs[k], List.getElem?_eq_getElem _⟩
      have hz := ltb x0
      have GW := hid g; have X0 := hid x0
      have r1 := HR.out k p hp
      have hb := rawI_lt r1
      have e1 : wr.cell? (ad.add k) = some (.int .i64 p) := (g.cellI (by rw [addI_block]; exact hb)).trans r1
      have HP := hid hp
      have c1 := int_cell x0 (takeI_get hlt)
      have f1 := fz x0
      clear g x0 hp r1 hb
      go_wp2_with fail
      refine ⟨⟨k + 1, by simp, by omega, GW.out.setCell (by simp) _, ?_⟩, by simp [intOf]; omega⟩
      have h := int_store (k := k) p X0.out
      rw [takeI_step HP.out] at h
      exact h
    · have hke : k = xs.length := by omega
      have GW := hid g; have X0 := hid x0
      clear g x0
      go_wp2_with fail
      go_ret
      refine ⟨rfl, ?_, GW.out⟩
      have h := X0.out
      rw [hke] at h
      simpa using h
set_option maxRecDepth 20000 in
set_option maxHeartbeats 1000000 in
theorem toInt64S_none (w : World) :
    Calls Try.prog 10 #[.slice none 0 0] w fun e w' => e = .returned (.slice (some ⟨w.heap.size, 0, none⟩) 0 0) ∧ w'.heap[w.heap.size]? = some (.cells (intA []) 2) ∧ Gr w w' := by
  have hmk : ∀ w : World, (Instr.makeSlice 25 (.int .i64 0) (.int .i64 0)).run Try.prog w = .ok (.slice (some ⟨w.heap.size, 0, none⟩) 0 0) (w.alloc (.cells (intA []) 2)) := fun w => make_ints 0 (by omega) w
  go_enter Try.func10, Try.ntmps10
  go_wp2_with fail
  go_loopw [4] (fun u wr => u = .int .i64 0 ∧ Gr w wr ∧ wr.heap[w.heap.size]? = some (.cells (intA []) 2)) (fun _ _ => 0)
  case atStart => exact ⟨rfl, (Gr.refl _).al _, (alloc1 (Gr.refl _)).1⟩
  case round =>
    obtain ⟨rfl, g, x0⟩ := hrel
    have GW := hid g; have X0 := hid x0
    clear g x0
    go_wp2_with fail
    go_ret
    exact ⟨rfl, X0.out, GW.out⟩
theorem toInt64S_any (v : Value) (xs : List Int) (w : World) (hn : xs.length ≤ 1048576) (h : RawI w v xs) :
    Calls Try.prog 10 #[v] w fun e w' => e = .returned (.slice (some ⟨w.heap.size, 0, none⟩) xs.length xs.length) ∧ w'.heap[w.heap.size]? = some (.cells (intA xs) 2) ∧ Gr w w' := by
  rcases h with ⟨rfl, rfl⟩ | ⟨ad, cap, rfl, hr⟩
  · exact toInt64S_none w
  · exact toInt64S_some ad cap xs w hn hr
abbrev il (g n cap : Nat) : Value := .slice (some ⟨g, 0, none⟩) n cap
end Go.Proofs.Ytljmbdjojogbjaa
