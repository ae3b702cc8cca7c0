/- Slices of int16: one that the call made, known whole; how they come from the laws' values. -/
import Derived.Test.YteopkbeokiomlaaIs
import Derived.Test.YteopkbeokiomlaaC0
import Derived.Test.YteopkbeokiomlaaB0
import Derived.Lib.SmallJoins
import Derived.Laws.MakeOwn
namespace Go.Proofs.Yteopkbeokiomlaa
open Go.RowKit Go.Sort

def h16A (xs : List Int) : Array Value := (xs.map (.int .i16 ·)).toArray
theorem h16A_size (xs : List Int) : (h16A xs).size = xs.length := by simp [h16A]
theorem h16A_get {xs : List Int} {k : Nat} {p : Int} (h : xs[k]? = some p) : (h16A xs)[k]? = some (.int .i16 p) := by simp [h16A, h]
theorem h16A_set (xs : List Int) (k : Nat) (p : Int) : (h16A xs).setIfInBounds k (.int .i16 p) = h16A (xs.set k p) := by
  unfold h16A
  simp [List.map_set]
theorem h16_cell {w : World} {g k : Nat} {T : TypeId} {xs : List Int} {p : Int} (h : w.heap[g]? = some (.cells (h16A xs) T)) (hk : xs[k]? = some p) :
    w.cell? ⟨g, k, none⟩ = some (.int .i16 p) := by
  have := h16A_get hk
  simp [World.cell?, h, this]
theorem h16_store {w : World} {g k : Nat} {T : TypeId} {xs : List Int} (p : Int) (h : w.heap[g]? = some (.cells (h16A xs) T)) :
    (w.setCell ⟨g, k, none⟩ (.int .i16 p)).heap[g]? = some (.cells (h16A (xs.set k p)) T) := by
  have e1 := Joins.block_setCell (i := k) h (.int .i16 p)
  rw [h16A_set] at e1
  exact e1
theorem h16_at {w wb : World} {g k : Nat} {T : TypeId} {xs : List Int} {p : Int} (hb : Gr w wb) (h : w.heap[g]? = some (.cells (h16A xs) T)) (hk : xs[k]? = some p) :
    (∀ (m : Nat) (os : Array Obj), (grow (wb.drewN m) os).cell? ⟨g, k, none⟩ = some (.int .i16 p)) :=
  have hl := ltb h
  fun m os => (hb.at m os g _ hl).trans (h16_cell h hk)
theorem made_zerosH (n : Nat) : madeCells #[.int .i16 0] n = h16A (List.replicate n 0) := by
  refine Array.ext_getElem? fun i => ?_
  by_cases hi : i < n
  · have g : (h16A (List.replicate n (0 : Int)))[i]? = some (.int .i16 0) := h16A_get (by simp [hi])
    rw [g]
    unfold madeCells
    simp [hi, Nat.mod_one]
  · rw [Array.getElem?_eq_none (by rw [size_madeCells]; omega), Array.getElem?_eq_none (by simp [h16A]; omega)]

/-- A slice of the laws' integers, as it came in. -/
def RawH (w : World) (v : Value) (xs : List Int) : Prop :=
  (v = .slice none 0 0 ∧ xs = []) ∨ ∃ (ad : Addr) (cap : Nat), v = .slice (some ad) xs.length cap ∧
    ∀ (k : Nat) (p : Int), xs[k]? = some p → w.cell? (ad.add k) = some (.int .i16 p)
theorem RawH.keep {w w' : World} {v : Value} {xs : List Int} (h : RawH w v xs) (hg : Gr w w') : RawH w' v xs := by
  rcases h with h | ⟨ad, cap, h1, h3⟩
  · exact .inl h
  · refine .inr ⟨ad, cap, h1, fun k p hk => ?_⟩
    have c1 := h3 k p hk
    exact (hg.cellI (by rw [addI_block]; exact rawI_lt c1)).trans c1
set_option maxRecDepth 100000 in
theorem make_h16 (n : Nat) (hn : n ≤ 1048576) (w : World) :
    (Instr.makeSlice 52 (.int .i64 (n : Int)) (.int .i64 (n : Int))).run Try.prog w = .ok (.slice (some ⟨w.heap.size, 0, none⟩) n n) (w.alloc (.cells (h16A (List.replicate n 0)) 176)) := by
  obtain ⟨i, hi, hz, hs, hb⟩ : ∃ i, Try.prog.info? 176 = some i ∧ i.zero = some (.int .i16 0) ∧ i.size = 1 ∧ i.bytes = 2 := ⟨_, rfl, rfl, rfl, rfl⟩
  have h := run_make (P := Try.prog) w 52 176 i (.int .i16 0) Try.underlying52 hi hz .i64 .i64 n n (by omega) (Int.le_refl _) (by rw [hb]; omega) (by omega)
  rw [hs] at h
  simp only [Int.toNat_natCast, Nat.mul_one] at h
  rw [h, ← made_zerosH]
  rfl
set_option maxRecDepth 20000 in
set_option maxHeartbeats 1000000 in
theorem toInt16S_some (ad : Addr) (cap : Nat) (xs : List Int) (w : World) (hn : xs.length ≤ 1048576)
    (hr : ∀ (k : Nat) (p : Int), xs[k]? = some p → w.cell? (ad.add k) = some (.int .i16 p)) :
    Calls Try.prog 88 #[.slice (some ad) xs.length cap] w fun e w' => e = .returned (.slice (some ⟨w.heap.size, 0, none⟩) xs.length xs.length) ∧ w'.heap[w.heap.size]? = some (.cells (h16A xs) 176) ∧ Gr w w' := by
  have HR := hid hr; clear hr
  have hmk := make_h16 xs.length hn
  go_enter Try.func88, Try.ntmps88
  go_wp2_with fail
  go_loopw [4] (fun u wr => ∃ (k : Nat), u = .int .i64 (k : Int) ∧ k ≤ xs.length ∧ Gr w wr ∧ wr.heap[w.heap.size]? = some (.cells (h16A (xs.take k ++ List.replicate (xs.length - k) 0)) 176)) (fun u _ => xs.length - (intOf u).toNat)
  case atStart => exact ⟨0, rfl, by omega, (Gr.refl _).al _, by simpa using (alloc1 (Gr.refl (w.alloc (.cells (h16A (List.replicate xs.length 0)) 176)))).1⟩
  case round =>
    obtain ⟨k, rfl, hk, g, x0⟩ := hrel
    clear hmk
    by_cases hlt : k < xs.length
    · obtain ⟨p, hp⟩ : ∃ p, xs[k]? = some p := ⟨xs[k], List.getElem?_eq_getElem _⟩
      have hz := ltb x0
      have GW := hid g; have X0 := hid x0
      have r1 := HR.out k p hp
      have hb := rawI_lt r1
      have e1 : wr.cell? (ad.add k) = some (.int .i16 p) := (g.cellI (by rw [addI_block]; exact hb)).trans r1
      have HP := hid hp
      have c1 := h16_cell x0 (takeI_get hlt)
      have f1 := fz x0
      clear g x0 hp r1 hb
      go_wp2_with fail
      refine ⟨⟨k + 1, by simp, by omega, GW.out.setCell (by simp) _, ?_⟩, by simp [intOf]; omega⟩
      have h := h16_store (k := k) p X0.out
      rw [takeI_step HP.out] at h
      exact h
    · have hke : k = xs.length := by omega
      have GW := hid g; have X0 := hid x0
      clear g x0
      go_wp2_with fail
      go_ret
      refine ⟨rfl, ?_, GW.out⟩
      have h := X0.out
      rw [hke] at h
      simpa using h
set_option maxRecDepth 20000 in
set_option maxHeartbeats 1000000 in
theorem toInt16S_none (w : World) :
    Calls Try.prog 88 #[.slice none 0 0] w fun e w' => e = .returned (.slice (some ⟨w.heap.size, 0, none⟩) 0 0) ∧ w'.heap[w.heap.size]? = some (.cells (h16A []) 176) ∧ Gr w w' := by
  have hmk : ∀ w : World, (Instr.makeSlice 52 (.int .i64 0) (.int .i64 0)).run Try.prog w = .ok (.slice (some ⟨w.heap.size, 0, none⟩) 0 0) (w.alloc (.cells (h16A []) 176)) := fun w => make_h16 0 (by omega) w
  go_enter Try.func88, Try.ntmps88
  go_wp2_with fail
  go_loopw [4] (fun u wr => u = .int .i64 0 ∧ Gr w wr ∧ wr.heap[w.heap.size]? = some (.cells (h16A []) 176)) (fun _ _ => 0)
  case atStart => exact ⟨rfl, (Gr.refl _).al _, (alloc1 (Gr.refl _)).1⟩
  case round =>
    obtain ⟨rfl, g, x0⟩ := hrel
    have GW := hid g; have X0 := hid x0
    clear g x0
    go_wp2_with fail
    go_ret
    exact ⟨rfl, X0.out, GW.out⟩
theorem toInt16S_any (v : Value) (xs : List Int) (w : World) (hn : xs.length ≤ 1048576) (h : RawH w v xs) :
    Calls Try.prog 88 #[v] w fun e w' => e = .returned (.slice (some ⟨w.heap.size, 0, none⟩) xs.length xs.length) ∧ w'.heap[w.heap.size]? = some (.cells (h16A xs) 176) ∧ Gr w w' := by
  rcases h with ⟨rfl, rfl⟩ | ⟨ad, cap, rfl, hr⟩
  · exact toInt16S_none w
  · exact toInt16S_some ad cap xs w hn hr
/-- A slice that reads as these integers. -/
def RdH (w : World) (A : Option Addr) (xs : List Int) : Prop := ∀ (k : Nat) (p : Int), xs[k]? = some p → ∃ ad, A = some ad ∧ w.cell? (ad.add k) = some (.int .i16 p)
theorem RdH.keep {w w' : World} {A : Option Addr} {xs : List Int} (h : RdH w A xs) (hg : Gr w w') : RdH w' A xs := fun k p hk => by
  obtain ⟨ad, e, c⟩ := h k p hk
  exact ⟨ad, e, (hg.cellI (by rw [addI_block]; exact rawI_lt c)).trans c⟩
theorem RdH.of_block {w : World} {g : Nat} {T : TypeId} {xs : List Int} (h : w.heap[g]? = some (.cells (h16A xs) T)) : RdH w (some ⟨g, 0, none⟩) xs := fun k p hk =>
  ⟨_, rfl, by rw [add_at]; exact h16_cell h hk⟩
theorem RdH.of_raw {w : World} {v : Value} {xs : List Int} (h : RawH w v xs) : ∃ A cap, v = .slice A xs.length cap ∧ RdH w A xs := by
  rcases h with ⟨rfl, rfl⟩ | ⟨ad, cap, rfl, hr⟩
  · exact ⟨none, 0, rfl, fun k p hk => by simp at hk⟩
  · exact ⟨some ad, cap, rfl, fun k p hk => ⟨ad, rfl, hr k p hk⟩⟩
set_option maxRecDepth 20000 in
set_option maxHeartbeats 1000000 in
theorem eqInt16S_any (A A' : Option Addr) (c c' : Nat) (xs : List Int) (w : World) (X1 : Hid (RdH w A xs)) (X2 : Hid (RdH w A' xs)) (hn : xs.length ≤ 1048576) :
    Calls Try.prog 94 #[.slice A xs.length c, .slice A' xs.length c'] w fun e w' => e = .returned (.bool true) ∧ Gr w w' := by
  go_enter Try.func94, Try.ntmps94
  go_wp2_with fail
  go_loopw [5] (fun u wr => ∃ (k : Nat), u = .int .i64 (k : Int) ∧ k ≤ xs.length ∧ Gr w wr) (fun u _ => xs.length - (intOf u).toNat)
  case atStart => exact ⟨0, rfl, by omega, Gr.refl _⟩
  case round =>
    obtain ⟨k, rfl, hk, hg⟩ := hrel
    have HG := hid hg
    by_cases hlt : k < xs.length
    · obtain ⟨p, hp⟩ : ∃ p, xs[k]? = some p := ⟨xs[k], List.getElem?_eq_getElem _⟩
      obtain ⟨ad, rfl, c1⟩ := (X1.out.keep hg) k p hp
      obtain ⟨ad', rfl, c2⟩ := (X2.out.keep hg) k p hp
      clear hp hg
      go_wp2_with fail
      go_quiet (fail)
      go_wp2_with fail
      exact ⟨⟨k + 1, by simp, by omega, HG.out.trans (Gr.drewN _ _)⟩, by simp [intOf]; omega⟩
    · clear hg
      go_wp2_with fail
      go_ret
      exact ⟨rfl, HG.out⟩

end Go.Proofs.Yteopkbeokiomlaa
