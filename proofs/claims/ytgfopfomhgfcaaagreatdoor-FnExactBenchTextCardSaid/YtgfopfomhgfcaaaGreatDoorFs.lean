/- Slices of fractions: one that the call made, known whole; how they come from the laws' values; they are compared. -/
import Derived.Test.YtgfopfomhgfcaaaGreatDoorN
import Derived.Lib.SmallJoins
import Derived.Laws.MakeOwn
namespace Go.Proofs.YtgfopfomhgfcaaaGreatDoor
open Go.RowKit Go.Sort

def flatL (xs : List (Int × Int)) : List Value := xs.flatMap fun x => [.int .i64 x.1, .int .i64 x.2]
def flatA (xs : List (Int × Int)) : Array Value := (flatL xs).toArray
theorem flatL_len : ∀ xs : List (Int × Int), (flatL xs).length = xs.length * 2
  | [] => rfl
  | x :: r => by
    have := flatL_len r
    simp only [flatL, List.flatMap_cons, List.length_append, List.length_cons, List.length_nil] at this ⊢
    omega
theorem flatL_get : ∀ (xs : List (Int × Int)) (k : Nat) (p q : Int), xs[k]? = some (p, q) → (flatL xs)[k * 2]? = some (.int .i64 p) ∧ (flatL xs)[k * 2 + 1]? = some (.int .i64 q)
  | [], k, p, q, h => by simp at h
  | x :: r, 0, p, q, h => by
    simp at h
    subst h
    simp [flatL]
  | x :: r, k + 1, p, q, h => by
    have := flatL_get r k p q (by simpa using h)
    have e : flatL (x :: r) = .int .i64 x.1 :: .int .i64 x.2 :: flatL r := by simp [flatL]
    rw [e, show (k + 1) * 2 = k * 2 + 1 + 1 by omega]
    simpa using this
theorem flatL_set : ∀ (xs : List (Int × Int)) (k : Nat) (p q : Int), ((flatL xs).set (k * 2) (.int .i64 p)).set (k * 2 + 1) (.int .i64 q) = flatL (xs.set k (p, q))
  | [], k, p, q => by simp [flatL]
  | x :: r, 0, p, q => by simp [flatL]
  | x :: r, k + 1, p, q => by
    have := flatL_set r k p q
    have e : ∀ (x : Int × Int) (r : List (Int × Int)), flatL (x :: r) = .int .i64 x.1 :: .int .i64 x.2 :: flatL r := fun x r => by simp [flatL]
    show ((flatL (x :: r)).set ((k + 1) * 2) _).set ((k + 1) * 2 + 1) _ = flatL (x :: r.set k (p, q))
    rw [e, e, show (k + 1) * 2 = k * 2 + 1 + 1 by omega]
    simpa using this
theorem flatA_set (xs : List (Int × Int)) (k : Nat) (p q : Int) : ((flatA xs).setIfInBounds (k * 2) (.int .i64 p)).setIfInBounds (k * 2 + 1) (.int .i64 q) = flatA (xs.set k (p, q)) := by
  unfold flatA
  rw [← flatL_set]
  simp
theorem flat_cells {w : World} {g k : Nat} {T : TypeId} {xs : List (Int × Int)} {p q : Int} (h : w.heap[g]? = some (.cells (flatA xs) T)) (hk : xs[k]? = some (p, q)) :
    w.cell? ⟨g, k * 2, none⟩ = some (.int .i64 p) ∧ w.cell? ⟨g, k * 2 + 1, none⟩ = some (.int .i64 q) := by
  have := flatL_get xs k p q hk
  simp [World.cell?, h, flatA, this]
theorem flat_store {w : World} {g k : Nat} {T : TypeId} {xs : List (Int × Int)} (p q : Int) (h : w.heap[g]? = some (.cells (flatA xs) T)) :
    ((w.setCell ⟨g, k * 2, none⟩ (.int .i64 p)).setCell ⟨g, k * 2 + 1, none⟩ (.int .i64 q)).heap[g]? = some (.cells (flatA (xs.set k (p, q))) T) := by
  have e1 := Joins.block_setCell (i := k * 2) h (.int .i64 p)
  have e2 := Joins.block_setCell (i := k * 2 + 1) e1 (.int .i64 q)
  rw [flatA_set] at e2
  exact e2
theorem flat_at {w wb : World} {g k : Nat} {T : TypeId} {xs : List (Int × Int)} {p q : Int} (hb : Gr w wb) (h : w.heap[g]? = some (.cells (flatA xs) T)) (hk : xs[k]? = some (p, q)) :
    (∀ (m : Nat) (os : Array Obj), (grow (wb.drewN m) os).cell? ⟨g, k * 2, none⟩ = some (.int .i64 p)) ∧ (∀ (m : Nat) (os : Array Obj), (grow (wb.drewN m) os).cell? ⟨g, k * 2 + 1, none⟩ = some (.int .i64 q)) :=
  have hl := ltb h
  have c := flat_cells h hk
  ⟨fun m os => (hb.at m os g _ hl).trans c.1, fun m os => (hb.at m os g _ hl).trans c.2⟩
theorem made_zeros (n : Nat) : madeCells #[.int .i64 0, .int .i64 0] (n * 2) = flatA (List.replicate n (0, 0)) := by
  refine Array.ext_getElem? fun i => ?_
  by_cases hi : i < n * 2
  · have g : (flatA (List.replicate n ((0 : Int), (0 : Int))))[i]? = some (.int .i64 0) := by
      have hk : (List.replicate n ((0 : Int), (0 : Int)))[i / 2]? = some (0, 0) := by simp [List.getElem?_replicate]; omega
      have := flatL_get _ _ _ _ hk
      have h2 : (flatL (List.replicate n ((0 : Int), (0 : Int))))[i]? = some (.int .i64 0) := by
        rcases Nat.mod_two_eq_zero_or_one i with h | h
        · have e : i / 2 * 2 = i := by omega
          rw [e] at this; exact this.1
        · have e : i / 2 * 2 + 1 = i := by omega
          rw [e] at this; exact this.2
      simpa [flatA] using h2
    rw [g]
    unfold madeCells
    rcases Nat.mod_two_eq_zero_or_one i with h | h <;> simp [hi, h]
  · rw [Array.getElem?_eq_none (by rw [size_madeCells]; omega), Array.getElem?_eq_none (by simp [flatA, flatL_len]; omega)]
end Go.Proofs.YtgfopfomhgfcaaaGreatDoor
namespace Go.Proofs.YtgfopfomhgfcaaaGreatDoor
open Go.RowKit Go.Sort

/-- A slice of the laws' fractions, as it came in. -/
def RawF (w : World) (v : Value) (xs : List (Int × Int)) : Prop :=
  (v = .slice none 0 0 ∧ xs = []) ∨ ∃ (ad : Addr) (cap : Nat), v = .slice (some ad) xs.length cap ∧
    ∀ (k : Nat) (p q : Int), xs[k]? = some (p, q) → w.cell? (ad.add (k * 2)) = some (.int .i64 p) ∧ w.cell? ⟨(ad.add (k * 2)).block, (ad.add (k * 2)).off + 1, none⟩ = some (.int .i64 q)
theorem add_block (a : Addr) (n : Nat) : (a.add n).block = a.block := by unfold Addr.add; split <;> rfl
theorem Gr.cell' {w w' : World} (h : Gr w w') {a : Addr} (hb : a.block < w.heap.size) : w'.cell? a = w.cell? a := h.below.cell hb
theorem raw_lt {w : World} {ad : Addr} {n : Nat} {v : Value} (h : w.cell? (ad.add n) = some v) : ad.block < w.heap.size := by
  have h := World.block_lt_of_cell? _ _ h
  rwa [add_block] at h
theorem RawF.keep {w w' : World} {v : Value} {xs : List (Int × Int)} (h : RawF w v xs) (hg : Gr w w') : RawF w' v xs := by
  rcases h with h | ⟨ad, cap, h1, h3⟩
  · exact .inl h
  · refine .inr ⟨ad, cap, h1, fun k p q hk => ?_⟩
    obtain ⟨c1, c2⟩ := h3 k p q hk
    have h2 := raw_lt c1
    exact ⟨(hg.cell' (by rw [add_block]; exact h2)).trans c1, (hg.cell' (by show (ad.add (k * 2)).block < _; rw [add_block]; exact h2)).trans c2⟩
theorem take_step {xs : List (Int × Int)} {k : Nat} {x : Int × Int} (h : xs[k]? = some x) :
    (xs.take k ++ List.replicate (xs.length - k) (0, 0)).set k x = xs.take (k + 1) ++ List.replicate (xs.length - (k + 1)) (0, 0) := by
  have hk : k < xs.length := (List.getElem?_eq_some_iff.1 h).1
  have hl : (xs.take k).length = k := by simp; omega
  rw [List.set_append_right _ _ (by omega), hl, Nat.sub_self]
  rw [show xs.length - k = (xs.length - (k + 1)) + 1 by omega, List.replicate_succ, List.set_cons_zero]
  rw [List.take_add_one, h]
  simp
theorem take_get {xs : List (Int × Int)} {k : Nat} (hk : k < xs.length) : (xs.take k ++ List.replicate (xs.length - k) ((0 : Int), (0 : Int)))[k]? = some (0, 0) := by
  have hl : (xs.take k).length = k := by simp; omega
  rw [List.getElem?_append_right (by omega), hl, Nat.sub_self, List.getElem?_replicate, if_pos (by omega)]
set_option maxRecDepth 100000 in
theorem make_fracs (n : Nat) (hn : n ≤ 1048576) (w : World) :
    (Instr.makeSlice 35 (.int .i64 (n : Int)) (.int .i64 (n : Int))).run Tryz.prog w = .ok (.slice (some ⟨w.heap.size, 0, none⟩) n n) (w.alloc (.cells (flatA (List.replicate n (0, 0))) 34)) := by
  obtain ⟨i, hi, hz, hs, hb⟩ : ∃ i, Tryz.prog.info? 34 = some i ∧ i.zero = some (fr 0 0) ∧ i.size = 2 ∧ i.bytes = 16 := ⟨_, rfl, rfl, rfl, rfl⟩
  have h := run_make (P := Tryz.prog) w 35 34 i (fr 0 0) Tryz.underlying35 hi hz .i64 .i64 n n (by omega) (Int.le_refl _) (by rw [hb]; omega) (by omega)
  rw [hs] at h
  simp only [Int.toNat_natCast] at h
  rw [h, ← made_zeros]
  rfl
set_option maxRecDepth 20000 in
set_option maxHeartbeats 1000000 in
theorem toFracS_some (ad : Addr) (cap : Nat) (xs : List (Int × Int)) (w : World) (hn : xs.length ≤ 1048576)
    (hr : ∀ (k : Nat) (p q : Int), xs[k]? = some (p, q) → w.cell? (ad.add (k * 2)) = some (.int .i64 p) ∧ w.cell? ⟨(ad.add (k * 2)).block, (ad.add (k * 2)).off + 1, none⟩ = some (.int .i64 q)) :
    Calls Tryz.prog 75 #[.slice (some ad) xs.length cap] w fun e w' => e = .returned (.slice (some ⟨w.heap.size, 0, none⟩) xs.length xs.length) ∧ w'.heap[w.heap.size]? = some (.cells (flatA xs) 34) ∧ Gr w w' := by
  have HR := hid hr; clear hr
  have hmk := make_fracs xs.length hn
  go_enter Tryz.func75, Tryz.ntmps75
  go_wp2_with fail
  go_loopw [4] (fun u wr => ∃ (k : Nat), u = .int .i64 (k : Int) ∧ k ≤ xs.length ∧ Gr w wr ∧ wr.heap[w.heap.size]? = some (.cells (flatA (xs.take k ++ List.replicate (xs.length - k) (0, 0))) 34)) (fun u _ => xs.length - (intOf u).toNat)
  case atStart => exact ⟨0, rfl, by omega, (Gr.refl _).al _, by simpa using (alloc1 (Gr.refl (w.alloc (.cells (flatA (List.replicate xs.length (0, 0))) 34)))).1⟩
  case round =>
    obtain ⟨k, rfl, hk, g, x0⟩ := hrel
    clear hmk
    by_cases hlt : k < xs.length
    · obtain ⟨⟨p, q⟩, hpq⟩ : ∃ pq, xs[k]? = some pq := ⟨xs[k], List.getElem?_eq_getElem _⟩
      have hz := ltb x0
      have GW := hid g; have X0 := hid x0
      obtain ⟨r1, r2⟩ := HR.out k p q hpq
      have hb := raw_lt r1
      have e1 : wr.cell? (ad.add (k * 2)) = some (.int .i64 p) := (g.cell' (by rw [add_block]; exact hb)).trans r1
      have e2 : wr.cell? ⟨(ad.add (k * 2)).block, (ad.add (k * 2)).off + 1, none⟩ = some (.int .i64 q) := (g.cell' (by show (ad.add (k * 2)).block < _; rw [add_block]; exact hb)).trans r2
      have HP := hid hpq
      clear g x0 hpq r1 r2 hb
      go_wp2_with fail
      refine (toFrac_any _ _ _).mono ?_
      rintro e w1 ⟨rfl, hg1⟩
      have G1 := hid (GW.out.trans hg1)
      have x1 := hg1.keep X0.out
      have _ := ltb x1
      have f1 := fz x1
      obtain ⟨c1, c2⟩ := flat_cells x1 (take_get hlt)
      have X1 := hid x1
      clear hg1 x1 X0 GW
      go_wp2_with fail
      refine ⟨⟨k + 1, by simp, by omega, (G1.out.setCell (by simp) _).setCell (by simp) _, ?_⟩, by simp [intOf]; omega⟩
      have h := flat_store (k := k) p q X1.out
      rw [take_step HP.out] at h
      exact h
    · have hke : k = xs.length := by omega
      have GW := hid g; have X0 := hid x0
      clear g x0
      go_wp2_with fail
      go_ret
      refine ⟨rfl, ?_, GW.out⟩
      have h := X0.out
      rw [hke] at h
      simpa using h
set_option maxRecDepth 20000 in
set_option maxHeartbeats 1000000 in
theorem toFracS_none (w : World) :
    Calls Tryz.prog 75 #[.slice none 0 0] w fun e w' => e = .returned (.slice (some ⟨w.heap.size, 0, none⟩) 0 0) ∧ w'.heap[w.heap.size]? = some (.cells (flatA []) 34) ∧ Gr w w' := by
  have hmk : ∀ w : World, (Instr.makeSlice 35 (.int .i64 0) (.int .i64 0)).run Tryz.prog w = .ok (.slice (some ⟨w.heap.size, 0, none⟩) 0 0) (w.alloc (.cells (flatA []) 34)) := fun w => make_fracs 0 (by omega) w
  go_enter Tryz.func75, Tryz.ntmps75
  go_wp2_with fail
  go_loopw [4] (fun u wr => u = .int .i64 0 ∧ Gr w wr ∧ wr.heap[w.heap.size]? = some (.cells (flatA []) 34)) (fun _ _ => 0)
  case atStart => exact ⟨rfl, (Gr.refl _).al _, (alloc1 (Gr.refl _)).1⟩
  case round =>
    obtain ⟨rfl, g, x0⟩ := hrel
    have GW := hid g; have X0 := hid x0
    clear g x0
    go_wp2_with fail
    go_ret
    exact ⟨rfl, X0.out, GW.out⟩
theorem toFracS_any (v : Value) (xs : List (Int × Int)) (w : World) (hn : xs.length ≤ 1048576) (h : RawF w v xs) :
    Calls Tryz.prog 75 #[v] w fun e w' => e = .returned (.slice (some ⟨w.heap.size, 0, none⟩) xs.length xs.length) ∧ w'.heap[w.heap.size]? = some (.cells (flatA xs) 34) ∧ Gr w w' := by
  rcases h with ⟨rfl, rfl⟩ | ⟨ad, cap, rfl, hr⟩
  · exact toFracS_none w
  · exact toFracS_some ad cap xs w hn hr
end Go.Proofs.YtgfopfomhgfcaaaGreatDoor
