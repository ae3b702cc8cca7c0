/- Slices of integers: one that the call made, known whole; how they come from the laws' values. -/
import Derived.Test.YtpadjkgbeijkpaaB0
import Derived.Test.YtpadjkgbeijkpaaC0
import Derived.Lib.SmallJoins
import Derived.Laws.MakeOwn
import Derived.Laws.AppendOwn
namespace Go.Proofs.Ytpadjkgbeijkpaa
open Go.RowKit Go.Sort

def intA (xs : List Int) : Array Value := (xs.map (.int .i64 ·)).toArray
theorem intA_size (xs : List Int) : (intA xs).size = xs.length := by simp [intA]
theorem intA_get {xs : List Int} {k : Nat} {p : Int} (h : xs[k]? = some p) : (intA xs)[k]? = some (.int .i64 p) := by simp [intA, h]
theorem intA_set (xs : List Int) (k : Nat) (p : Int) : (intA xs).setIfInBounds k (.int .i64 p) = intA (xs.set k p) := by
  unfold intA
  simp [List.map_set]
theorem int_cell {w : World} {g k : Nat} {T : TypeId} {xs : List Int} {p : Int} (h : w.heap[g]? = some (.cells (intA xs) T)) (hk : xs[k]? = some p) :
    w.cell? ⟨g, k, none⟩ = some (.int .i64 p) := by
  have := intA_get hk
  simp [World.cell?, h, this]
theorem int_store {w : World} {g k : Nat} {T : TypeId} {xs : List Int} (p : Int) (h : w.heap[g]? = some (.cells (intA xs) T)) :
    (w.setCell ⟨g, k, none⟩ (.int .i64 p)).heap[g]? = some (.cells (intA (xs.set k p)) T) := by
  have e1 := Joins.block_setCell (i := k) h (.int .i64 p)
  rw [intA_set] at e1
  exact e1
theorem int_at {w wb : World} {g k : Nat} {T : TypeId} {xs : List Int} {p : Int} (hb : Gr w wb) (h : w.heap[g]? = some (.cells (intA xs) T)) (hk : xs[k]? = some p) :
    (∀ (m : Nat) (os : Array Obj), (grow (wb.drewN m) os).cell? ⟨g, k, none⟩ = some (.int .i64 p)) :=
  have hl := ltb h
  fun m os => (hb.at m os g _ hl).trans (int_cell h hk)
theorem made_zeros1 (n : Nat) : madeCells #[.int .i64 0] n = intA (List.replicate n 0) := by
  refine Array.ext_getElem? fun i => ?_
  by_cases hi : i < n
  · have g : (intA (List.replicate n (0 : Int)))[i]? = some (.int .i64 0) := intA_get (by simp [hi])
    rw [g]
    unfold madeCells
    simp [hi, Nat.mod_one]
  · rw [Array.getElem?_eq_none (by rw [size_madeCells]; omega), Array.getElem?_eq_none (by simp [intA]; omega)]

/-- A slice of the laws' integers, as it came in. -/
def RawI (w : World) (v : Value) (xs : List Int) : Prop :=
  (v = .slice none 0 0 ∧ xs = []) ∨ ∃ (ad : Addr) (cap : Nat), v = .slice (some ad) xs.length cap ∧
    ∀ (k : Nat) (p : Int), xs[k]? = some p → w.cell? (ad.add k) = some (.int .i64 p)
theorem addI_block (a : Addr) (n : Nat) : (a.add n).block = a.block := by unfold Addr.add; split <;> rfl
theorem Gr.cellI {w w' : World} (h : Gr w w') {a : Addr} (hb : a.block < w.heap.size) : w'.cell? a = w.cell? a := h.below.cell hb
theorem rawI_lt {w : World} {ad : Addr} {n : Nat} {v : Value} (h : w.cell? (ad.add n) = some v) : ad.block < w.heap.size := by
  have h := World.block_lt_of_cell? _ _ h
  rwa [addI_block] at h
theorem RawI.keep {w w' : World} {v : Value} {xs : List Int} (h : RawI w v xs) (hg : Gr w w') : RawI w' v xs := by
  rcases h with h | ⟨ad, cap, h1, h3⟩
  · exact .inl h
  · refine .inr ⟨ad, cap, h1, fun k p hk => ?_⟩
    have c1 := h3 k p hk
    exact (hg.cellI (by rw [addI_block]; exact rawI_lt c1)).trans c1
theorem takeI_step {xs : List Int} {k : Nat} {x : Int} (h : xs[k]? = some x) :
    (xs.take k ++ List.replicate (xs.length - k) 0).set k x = xs.take (k + 1) ++ List.replicate (xs.length - (k + 1)) 0 := by
  have hk : k < xs.length := (List.getElem?_eq_some_iff.1 h).1
  have hl : (xs.take k).length = k := by simp; omega
  rw [List.set_append_right _ _ (by omega), hl, Nat.sub_self]
  rw [show xs.length - k = (xs.length - (k + 1)) + 1 by omega, List.replicate_succ, List.set_cons_zero]
  rw [List.take_add_one, h]
  simp
theorem takeI_get {xs : List Int} {k : Nat} (hk : k < xs.length) : (xs.take k ++ List.replicate (xs.length - k) (0 : Int))[k]? = some 0 := by
  have hl : (xs.take k).length = k := by simp; omega
  rw [List.getElem?_append_right (by omega), hl, Nat.sub_self, List.getElem?_replicate, if_pos (by omega)]
set_option maxRecDepth 100000 in
theorem make_ints (n : Nat) (hn : n ≤ 1048576) (w : World) :
    (Instr.makeSlice 42 (.int .i64 (n : Int)) (.int .i64 (n : Int))).run Try.prog w = .ok (.slice (some ⟨w.heap.size, 0, none⟩) n n) (w.alloc (.cells (intA (List.replicate n 0)) 2)) := by
  obtain ⟨i, hi, hz, hs, hb⟩ : ∃ i, Try.prog.info? 2 = some i ∧ i.zero = some (.int .i64 0) ∧ i.size = 1 ∧ i.bytes = 8 := ⟨_, rfl, rfl, rfl, rfl⟩
  have h := run_make (P := Try.prog) w 42 2 i (.int .i64 0) Try.underlying42 hi hz .i64 .i64 n n (by omega) (Int.le_refl _) (by rw [hb]; omega) (by omega)
  rw [hs] at h
  simp only [Int.toNat_natCast, Nat.mul_one] at h
  rw [h, ← made_zeros1]
  rfl
set_option maxRecDepth 20000 in
set_option maxHeartbeats 1000000 in
theorem toInt64S_some (ad : Addr) (cap : Nat) (xs : List Int) (w : World) (hn : xs.length ≤ 1048576)
    (hr : ∀ (k : Nat) (p : Int), xs[k]? = some p → w.cell? (ad.add k) = some (.int .i64 p)) :
    Calls Try.prog 17 #[.slice (some ad) xs.length cap] w fun e w' => e = .returned (.slice (some ⟨w.heap.size, 0, none⟩) xs.length xs.length) ∧ w'.heap[w.heap.size]? = some (.cells (intA xs) 2) ∧ Gr w w' := by
  have HR := hid hr; clear hr
  have hmk := make_ints xs.length hn
  go_enter Try.func17, Try.ntmps17
  go_wp2_with fail
  go_loopw [4] (fun u wr => ∃ (k : Nat), u = .int .i64 (k : Int) ∧ k ≤ xs.length ∧ Gr w wr ∧ wr.heap[w.heap.size]? = some (.cells (intA (xs.take k ++ List.replicate (xs.length - k) 0)) 2)) (fun u _ => xs.length - (intOf u).toNat)
  case atStart => exact ⟨0, rfl, by omega, (Gr.refl _).al _, by simpa using (alloc1 (Gr.refl (w.alloc (.cells (intA (List.replicate xs.length 0)) 2)))).1⟩
  case round =>
    obtain ⟨k, rfl, hk, g, x0⟩ := hrel
    clear hmk
    by_cases hlt : k < xs.length
    · obtain ⟨p, hp⟩ : ∃ p, xs[k]? = some p := ⟨xs[k], List.getElem?_eq_getElem _⟩
      have hz := ltb x0
      have GW := hid g; have X0 := hid x0
      have r1 := HR.out k p hp
      have hb := rawI_lt r1
      have e1 : wr.cell? (ad.add k) = some (.int .i64 p) := (g.cellI (by rw [addI_block]; exact hb)).trans r1
      have HP := hid hp
      have c1 := int_cell x0 (takeI_get hlt)
      have f1 := fz x0
      clear g x0 hp r1 hb
      go_wp2_with fail
      refine ⟨⟨k + 1, by simp, by omega, GW.out.setCell (by simp) _, ?_⟩, by simp [intOf]; omega⟩
      have h := int_store (k := k) p X0.out
      rw [takeI_step HP.out] at h
      exact h
    · have hke : k = xs.length := by omega
      have GW := hid g; have X0 := hid x0
      clear g x0
      go_wp2_with fail
      go_ret
      refine ⟨rfl, ?_, GW.out⟩
      have h := X0.out
      rw [hke] at h
      simpa using h
set_option maxRecDepth 20000 in
set_option maxHeartbeats 1000000 in
theorem toInt64S_none (w : World) :
    Calls Try.prog 17 #[.slice none 0 0] w fun e w' => e = .returned (.slice (some ⟨w.heap.size, 0, none⟩) 0 0) ∧ w'.heap[w.heap.size]? = some (.cells (intA []) 2) ∧ Gr w w' := by
  have hmk : ∀ w : World, (Instr.makeSlice 42 (.int .i64 0) (.int .i64 0)).run Try.prog w = .ok (.slice (some ⟨w.heap.size, 0, none⟩) 0 0) (w.alloc (.cells (intA []) 2)) := fun w => make_ints 0 (by omega) w
  go_enter Try.func17, Try.ntmps17
  go_wp2_with fail
  go_loopw [4] (fun u wr => u = .int .i64 0 ∧ Gr w wr ∧ wr.heap[w.heap.size]? = some (.cells (intA []) 2)) (fun _ _ => 0)
  case atStart => exact ⟨rfl, (Gr.refl _).al _, (alloc1 (Gr.refl _)).1⟩
  case round =>
    obtain ⟨rfl, g, x0⟩ := hrel
    have GW := hid g; have X0 := hid x0
    clear g x0
    go_wp2_with fail
    go_ret
    exact ⟨rfl, X0.out, GW.out⟩
theorem toInt64S_any (v : Value) (xs : List Int) (w : World) (hn : xs.length ≤ 1048576) (h : RawI w v xs) :
    Calls Try.prog 17 #[v] w fun e w' => e = .returned (.slice (some ⟨w.heap.size, 0, none⟩) xs.length xs.length) ∧ w'.heap[w.heap.size]? = some (.cells (intA xs) 2) ∧ Gr w w' := by
  rcases h with ⟨rfl, rfl⟩ | ⟨ad, cap, rfl, hr⟩
  · exact toInt64S_none w
  · exact toInt64S_some ad cap xs w hn hr
abbrev il (g n cap : Nat) : Value := .slice (some ⟨g, 0, none⟩) n cap
end Go.Proofs.Ytpadjkgbeijkpaa
namespace Go.Proofs.Ytpadjkgbeijkpaa
open Go.RowKit Go.Sort

theorem add_at (g k : Nat) : (⟨g, 0, none⟩ : Addr).add k = ⟨g, k, none⟩ := by
  unfold Addr.add
  by_cases h : k = 0 <;> simp [h]
/-- A slice that reads as these integers. -/
def RdI (w : World) (A : Option Addr) (xs : List Int) : Prop := ∀ (k : Nat) (p : Int), xs[k]? = some p → ∃ ad, A = some ad ∧ w.cell? (ad.add k) = some (.int .i64 p)
theorem RdI.keep {w w' : World} {A : Option Addr} {xs : List Int} (h : RdI w A xs) (hg : Gr w w') : RdI w' A xs := fun k p hk => by
  obtain ⟨ad, e, c⟩ := h k p hk
  exact ⟨ad, e, (hg.cellI (by rw [addI_block]; exact rawI_lt c)).trans c⟩
theorem RdI.of_block {w : World} {g : Nat} {T : TypeId} {xs : List Int} (h : w.heap[g]? = some (.cells (intA xs) T)) : RdI w (some ⟨g, 0, none⟩) xs := fun k p hk =>
  ⟨_, rfl, by rw [add_at]; exact int_cell h hk⟩
theorem RdI.of_raw {w : World} {v : Value} {xs : List Int} (h : RawI w v xs) : ∃ A cap, v = .slice A xs.length cap ∧ RdI w A xs := by
  rcases h with ⟨rfl, rfl⟩ | ⟨ad, cap, rfl, hr⟩
  · exact ⟨none, 0, rfl, fun k p hk => by simp at hk⟩
  · exact ⟨some ad, cap, rfl, fun k p hk => ⟨ad, rfl, hr k p hk⟩⟩
theorem RdI.of_own {w : World} {base : Nat} {e : TypeId} {A : Option Addr} {n c : Nat} {xs : List Int} (h : w.ownsRow base e 1 (.slice A n c) n (xs.map (.int .i64 ·))) : RdI w A xs := fun k p hk => by
  rcases h.2 with ⟨hv, rfl⟩ | ⟨g, cap, cur, hv, _⟩
  · have := h.1
    simp at this
    subst this
    simp at hk
  · have hA : A = some ⟨g, 0, none⟩ := by injection hv
    subst hA
    exact ⟨_, rfl, h.cells (g := g) rfl k _ (by simp [hk])⟩

set_option maxRecDepth 20000 in
set_option maxHeartbeats 1000000 in
theorem eqInt64S_any (A A' : Option Addr) (c c' : Nat) (xs : List Int) (w : World) (X1 : Hid (RdI w A xs)) (X2 : Hid (RdI w A' xs)) (hn : xs.length ≤ 1048576) :
    Calls Try.prog 19 #[.slice A xs.length c, .slice A' xs.length c'] w fun e w' => e = .returned (.bool true) ∧ Gr w w' := by
  go_enter Try.func19, Try.ntmps19
  go_wp2_with fail
  go_loopw [5] (fun u wr => ∃ (k : Nat), u = .int .i64 (k : Int) ∧ k ≤ xs.length ∧ Gr w wr) (fun u _ => xs.length - (intOf u).toNat)
  case atStart => exact ⟨0, rfl, by omega, Gr.refl _⟩
  case round =>
    obtain ⟨k, rfl, hk, hg⟩ := hrel
    have HG := hid hg
    by_cases hlt : k < xs.length
    · obtain ⟨p, hp⟩ : ∃ p, xs[k]? = some p := ⟨xs[k], List.getElem?_eq_getElem _⟩
      obtain ⟨ad, rfl, c1⟩ := (X1.out.keep hg) k p hp
      obtain ⟨ad', rfl, c2⟩ := (X2.out.keep hg) k p hp
      clear hp hg
      go_wp2_with fail
      go_quiet (fail)
      go_wp2_with fail
      exact ⟨⟨k + 1, by simp, by omega, HG.out.trans (Gr.drewN _ _)⟩, by simp [intOf]; omega⟩
    · clear hg
      go_wp2_with fail
      go_ret
      exact ⟨rfl, HG.out⟩

/-- What a mark leaves: block g alone is other than it was. -/
def Only (g : Nat) (w w' : World) : Prop := (∀ j o, j ≠ g → w.heap[j]? = some o → w'.heap[j]? = some o) ∧ ∀ W0, Gr W0 w → W0.heap.size ≤ g → Gr W0 w'
theorem Only.refl (g : Nat) (w : World) : Only g w w := ⟨fun _ _ _ h => h, fun _ h _ => h⟩
theorem Only.set {g : Nat} {w w' : World} (h : Only g w w') (i : Nat) (v : Value) : Only g w (w'.setCell ⟨g, i, none⟩ v) :=
  ⟨fun j o hj ho => by rw [Below.heap_setCell _ _ _ _ hj]; exact h.1 j o hj ho, fun W0 h0 hg => (h.2 W0 h0 hg).setCell hg v⟩
/-- The marks from k0 on. -/
def marks (k0 : Int) (n : Nat) : List Int := (List.range n).map (fun i : Nat => k0 + (i : Int))
theorem marks_len (k0 : Int) (n : Nat) : (marks k0 n).length = n := by simp [marks]
theorem marks_get (k0 : Int) (n : Nat) {i : Nat} (h : i < n) : (marks k0 n)[i]? = some (k0 + (i : Int)) := by simp [marks, h]
def mkA (k0 : Int) (k : Nat) (cs : Array Value) : Array Value := Array.ofFn (n := cs.size) fun i => if i.1 < k then .int .i64 (k0 + (i.1 : Int)) else cs[i.1]
theorem mkA_size (k0 : Int) (k : Nat) (cs : Array Value) : (mkA k0 k cs).size = cs.size := by simp [mkA]
theorem mkA_zero (k0 : Int) (cs : Array Value) : mkA k0 0 cs = cs := by
  apply Array.ext
  · simp [mkA]
  · intro i h1 h2
    simp [mkA]
theorem mkA_succ (k0 : Int) (k : Nat) (cs : Array Value) : (mkA k0 k cs).setIfInBounds k (.int .i64 (k0 + (k : Int))) = mkA k0 (k + 1) cs := by
  apply Array.ext
  · simp [mkA]
  · intro i h1 h2
    simp only [mkA, Array.size_setIfInBounds, Array.size_ofFn] at h1
    by_cases h : k = i
    · subst h
      simp [mkA]
    · by_cases h3 : i < k
      · have h4 : i < k + 1 := by omega
        simp [mkA, h3, h4, h, Array.getElem_setIfInBounds_ne, h1]
      · have h4 : ¬ i < k + 1 := by omega
        simp [mkA, h3, h4, h, Array.getElem_setIfInBounds_ne, h1]
theorem mkA_get (k0 : Int) (n : Nat) (cs : Array Value) {i : Nat} (h : i < n) (hn : n ≤ cs.size) : (mkA k0 n cs)[i]? = some (.int .i64 (k0 + (i : Int))) := by
  have : i < (mkA k0 n cs).size := by rw [mkA_size]; omega
  rw [Array.getElem?_eq_getElem this]
  simp [mkA, h]
set_option maxRecDepth 20000 in
set_option maxHeartbeats 1000000 in
theorem markInt64S_any (g cap n : Nat) (k0 : Int) (cs : Array Value) (T : TypeId) (w : World) (X : Hid (w.heap[g]? = some (.cells cs T))) (hn : n ≤ cs.size) (hn2 : n ≤ 1048576) (h1 : 0 ≤ k0) (h2 : k0 ≤ 1000) :
    Calls Try.prog 20 #[.slice (some ⟨g, 0, none⟩) n cap, .int .i64 k0] w fun e w' => e = .returned (.int .i64 (k0 + (n : Int))) ∧ w'.heap[g]? = some (.cells (mkA k0 n cs) T) ∧ Only g w w' := by
  go_enter Try.func20, Try.ntmps20
  go_wp2_with fail
  go_loopw [1, 5] (fun v u wr => ∃ (k : Nat), u = .int .i64 (k : Int) ∧ v = .int .i64 (k0 + (k : Int)) ∧ k ≤ n ∧ wr.heap[g]? = some (.cells (mkA k0 k cs) T) ∧ Only g w wr) (fun _ u _ => n - (intOf u).toNat)
  case atStart => exact ⟨0, rfl, by simp, by omega, by rw [mkA_zero]; exact X.out, Only.refl _ _⟩
  case round =>
    obtain ⟨k, rfl, rfl, hk, x0, ho⟩ := hrel
    have HO := hid ho; have X0 := hid x0
    clear ho
    by_cases hlt : k < n
    · obtain ⟨v0, hv0⟩ : ∃ v, (mkA k0 k cs)[k]? = some v := ⟨_, Array.getElem?_eq_getElem (by rw [mkA_size]; omega)⟩
      have c1 : wr.cell? ⟨g, k, none⟩ = some v0 := by simp [World.cell?, x0, hv0]
      have f1 := fz x0
      clear x0 hv0
      go_wp2_with fail
      refine ⟨⟨k + 1, by simp, by simp; omega, by omega, ?_, HO.out.set _ _⟩, by simp [intOf]; omega⟩
      have e1 := Joins.block_setCell (i := k) X0.out (.int .i64 (k0 + (k : Int)))
      rw [mkA_succ] at e1
      exact e1
    · have hke : k = n := by omega
      subst hke
      clear x0
      go_wp2_with fail
      go_ret
      exact ⟨rfl, X0.out, HO.out⟩
set_option maxRecDepth 20000 in
set_option maxHeartbeats 1000000 in
theorem heldInt64S_any (A : Option Addr) (c n : Nat) (k0 : Int) (w : World) (X : Hid (RdI w A (marks k0 n))) (hn2 : n ≤ 1048576) (h1 : 0 ≤ k0) (h2 : k0 ≤ 1000) :
    Calls Try.prog 21 #[.slice A n c, .int .i64 k0] w fun e w' => e = .returned (.int .i64 (k0 + (n : Int))) ∧ Gr w w' := by
  go_enter Try.func21, Try.ntmps21
  go_wp2_with fail
  go_loopw [1, 5] (fun v u wr => ∃ (k : Nat), u = .int .i64 (k : Int) ∧ v = .int .i64 (k0 + (k : Int)) ∧ k ≤ n ∧ wr = w) (fun _ u _ => n - (intOf u).toNat)
  case atStart => exact ⟨0, rfl, by simp, by omega, rfl⟩
  case round =>
    obtain ⟨k, rfl, rfl, hk, rfl⟩ := hrel
    by_cases hlt : k < n
    · obtain ⟨ad, rfl, c1⟩ := X.out k _ (marks_get k0 n hlt)
      go_wp2_with fail
      exact ⟨⟨k + 1, by simp, by simp; omega, by omega, by simp⟩, by simp [intOf]; omega⟩
    · have hke : k = n := by omega
      subst hke
      go_wp2_with fail
      go_ret
      exact ⟨rfl, Gr.refl _⟩

/-! append -/
section
variable {P : Program}
theorem append_gr {w w' : World} {v v' : Value} (base : Nat) (t ty e : TypeId) (i : TypeInfo) (z : Value) (size : Nat) (ht : P.underlying t = some (.slice e)) (hi : P.info? e = some i) (hz : i.zero = some z)
    (hsize : i.size = size) (n : Nat) (xs : List Value) (hown : w.ownsRow base e size v n xs)
    (a : Addr) (m c : Nat) (news : List Value) (hl : news.length = m * size) (hnews : ∀ j u, news[j]? = some u → w.cell? (a.add j) = some u) (h1 : ∀ u ∈ news, u.oneCell' = true)
    (hm0 : 0 < m) (h63 : n + m ≤ maxLen) (hbytes : (n + m) * i.bytes ≤ 140737488355328) (hrun : (Builtin.append_ #[t, t] ty #[v, .slice (some a) m c]).run P w = .ok v' w') :
    (v'.ownBlock = v.ownBlock ∨ v'.ownBlock = some w.heap.size) ∧ ∀ W0, Gr W0 w → W0.heap.size ≤ base → Gr W0 w' := by
  subst hsize
  have hsmall : n + m ≤ 9223372036854775807 := by simp only [maxLen] at h63; omega
  rcases hown.2 with ⟨rfl, rfl⟩ | ⟨g, cap, cur, rfl, hbg, hg, hnc, hcm, hcs, htake⟩
  · have hr := run_append_nil (P := P) w t ty e i z ht hi hz a m c news hl hnews hm0 (by omega) (by simp only [Nat.zero_add] at hbytes; omega)
    rw [hr] at hrun
    injection hrun with e1 e2
    subst e1 e2
    exact ⟨.inr rfl, fun W0 h0 _ => (h0.trans (Gr.drew _)).al _⟩
  · by_cases hroom : n + m ≤ cap
    · have hfit : n * i.size + news.length ≤ cur.size := by rw [hl, hcs, ← Nat.add_mul]; exact Nat.mul_le_mul_right _ hroom
      have hr := run_append_room (P := P) w t ty e i ht hi g n cap cur hg a m c news hl hnews h1 hroom hfit
      rw [hr] at hrun
      injection hrun with e1 e2
      subst e1 e2
      exact ⟨.inl rfl, fun W0 h0 hb => h0.setRow (by omega) _⟩
    · have holds : ∀ j u, xs[j]? = some u → w.cell? ((⟨g, 0, none⟩ : Addr).add j) = some u := hown.cells (g := g) rfl
      have hr := run_append_grow (P := P) w t ty e i z ht hi hz ⟨g, 0, none⟩ n cap xs hown.1 holds a m c news hl hnews (by omega) (by omega) (growslice_fits (by omega) hbytes)
      rw [hr] at hrun
      injection hrun with e1 e2
      subst e1 e2
      exact ⟨.inr rfl, fun W0 h0 _ => (h0.trans (Gr.drew _)).al _⟩
theorem wpList_append_gr {w : World} {ops : Array Oper} {rest : List Oper} {o : Oper} {a : Act} {Q : Exit → Act → World → Prop} (hgd : o.guard = none) (s x : Operand) (t : TypeId)
    (ho : o.op = .call { callee := .builtin .append, args := #[s, x], argTypes := #[t, t] })
    (base : Nat) (e : TypeId) (i : TypeInfo) (z : Value) (size bytes : Nat) (ht : P.underlying t = some (.slice e)) (hi : P.info? e = some i) (hz : i.zero = some z)
    (hsize : i.size = size) (hby : i.bytes = bytes) (hzs : z.cells.size = size) (hsz : 0 < size)
    (v : Value) (n : Nat) (xs : List Value) (hs : a.eval s = v) (hown : w.ownsRow base e size v n xs)
    (ad : Addr) (m c : Nat) (news : List Value) (hx : a.eval x = .slice (some ad) m c) (hl : news.length = m * size) (hnews : ∀ j u, news[j]? = some u → w.cell? (ad.add j) = some u) (h1 : ∀ u ∈ news, u.oneCell' = true)
    (hm0 : 0 < m) (h63 : n + m ≤ maxLen) (hbytes : (n + m) * bytes ≤ 140737488355328) (hbase : base ≤ w.heap.size)
    (h : ∀ v' w', w'.ownsRow base e size v' (n + m) (xs ++ news) → w.grownBy w' v.ownBlock → (v'.ownBlock = v.ownBlock ∨ v'.ownBlock = some w.heap.size) → (∀ W0, Gr W0 w → W0.heap.size ≤ base → Gr W0 w') → wpList P ops Q rest (a.put o.dst v') w') :
    wpList P ops Q (o :: rest) a w := by
  refine wpList_plain hgd fun K hK => ?_
  obtain ⟨v', w', hr, h2, h3, _⟩ := run_append_own w base t o.type e i z size bytes ht hi hz hsize hby hzs hsz v n xs hown ad m c news hl hnews h1 h63 hbytes hbase
  obtain ⟨h4, h5⟩ := append_gr base t o.type e i z size ht hi hz hsize n xs hown ad m c news hl hnews h1 hm0 h63 (by rw [hby]; exact hbytes) hr
  unfold Oper.wp execOp
  simp only [ho, resolve, invoke, builtin, Sem.run_bind, Sem.run_pure, Result.andThen_ok, List.map_toArray, List.map_cons, List.map_nil, hs, hx, hr]
  exact hK _ _ (h v' w' h2 h3 h4 h5)
end
end Go.Proofs.Ytpadjkgbeijkpaa
