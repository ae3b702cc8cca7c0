/- Slices of integers: one that the call made, known whole; how they come from the laws' values. -/
import Derived.Test.YtgfopfomhgfcaaaGreatDoorB0
import Derived.Test.YtgfopfomhgfcaaaGreatDoorC0
import Derived.Lib.SmallJoins
import Derived.Laws.MakeOwn
import Derived.Laws.AppendOwn
namespace Go.Proofs.YtgfopfomhgfcaaaGreatDoor
open Go.RowKit Go.Sort

def intA (xs : List Int) : Array Value := (xs.map (.int .i64 ·)).toArray
theorem intA_size (xs : List Int) : (intA xs).size = xs.length := by simp [intA]
theorem intA_get {xs : List Int} {k : Nat} {p : Int} (h : xs[k]? = some p) : (intA xs)[k]? = some (.int .i64 p) := by simp [intA, h]
theorem intA_set (xs : List Int) (k : Nat) (p : Int) : (intA xs).setIfInBounds k (.int .i64 p) = intA (xs.set k p) := by
  unfold intA
  simp [List.map_set]
theorem int_cell {w : World} {g k : Nat} {T : TypeId} {xs : List Int} {p : Int} (h : w.heap[g]? = some (.cells (intA xs) T)) (hk : xs[k]? = some p) :
    w.cell? ⟨g, k, none⟩ = some (.int .i64 p) := by
  have := intA_get hk
  simp [World.cell?, h, this]
theorem int_store {w : World} {g k : Nat} {T : TypeId} {xs : List Int} (p : Int) (h : w.heap[g]? = some (.cells (intA xs) T)) :
    (w.setCell ⟨g, k, none⟩ (.int .i64 p)).heap[g]? = some (.cells (intA (xs.set k p)) T) := by
  have e1 := Joins.block_setCell (i := k) h (.int .i64 p)
  rw [intA_set] at e1
  exact e1
theorem int_at {w wb : World} {g k : Nat} {T : TypeId} {xs : List Int} {p : Int} (hb : Gr w wb) (h : w.heap[g]? = some (.cells (intA xs) T)) (hk : xs[k]? = some p) :
    (∀ (m : Nat) (os : Array Obj), (grow (wb.drewN m) os).cell? ⟨g, k, none⟩ = some (.int .i64 p)) :=
  have hl := ltb h
  fun m os => (hb.at m os g _ hl).trans (int_cell h hk)
theorem made_zeros1 (n : Nat) : madeCells #[.int .i64 0] n = intA (List.replicate n 0) := by
  refine Array.ext_getElem? fun i => ?_
  by_cases hi : i < n
  · have g : (intA (List.replicate n (0 : Int)))[i]? = some (.int .i64 0) := intA_get (by simp [hi])
    rw [g]
    unfold madeCells
    simp [hi, Nat.mod_one]
  · rw [Array.getElem?_eq_none (by rw [size_madeCells]; omega), Array.getElem?_eq_none (by simp [intA]; omega)]

/-- A slice of the laws' integers, as it came in. -/
def RawI (w : World) (v : Value) (xs : List Int) : Prop :=
  (v = .slice none 0 0 ∧ xs = []) ∨ ∃ (ad : Addr) (cap : Nat), v = .slice (some ad) xs.length cap ∧
    ∀ (k : Nat) (p : Int), xs[k]? = some p → w.cell? (ad.add k) = some (.int .i64 p)
theorem addI_block (a : Addr) (n : Nat) : (a.add n).block = a.block := by unfold Addr.add; split <;> rfl
theorem Gr.cellI {w w' : World} (h : Gr w w') {a : Addr} (hb : a.block < w.heap.size) : w'.cell? a = w.cell? a := h.below.cell hb
theorem rawI_lt {w : World} {ad : Addr} {n : Nat} {v : Value} (h : w.cell? (ad.add n) = some v) : ad.block < w.heap.size := by
  have h := World.block_lt_of_cell? _ _ h
  rwa [addI_block] at h
theorem RawI.keep {w w' : World} {v : Value} {xs : List Int} (h : RawI w v xs) (hg : Gr w w') : RawI w' v xs := by
  rcases h with h | ⟨ad, cap, h1, h3⟩
  · exact .inl h
  · refine .inr ⟨ad, cap, h1, fun k p hk => ?_⟩
    have c1 := h3 k p hk
    exact (hg.cellI (by rw [addI_block]; exact rawI_lt c1)).trans c1
theorem takeI_step {xs : List Int} {k : Nat} {x : Int} (h : xs[k]? = some x) :
    (xs.take k ++ List.replicate (xs.length - k) 0).set k x = xs.take (k + 1) ++ List.replicate (xs.length - (k + 1)) 0 := by
  have hk : k < xs.length := (List.getElem?_eq_some_iff.1 h).1
  have hl : (xs.take k).length = k := by simp; omega
  rw [List.set_append_right _ _ (by omega), hl, Nat.sub_self]
  rw [show xs.length - k = (xs.length - (k + 1)) + 1 by omega, List.replicate_succ, List.set_cons_zero]
  rw [List.take_add_one, h]
  simp
theorem takeI_get {xs : List Int} {k : Nat} (hk : k < xs.length) : (xs.take k ++ List.replicate (xs.length - k) (0 : Int))[k]? = some 0 := by
  have hl : (xs.take k).length = k := by simp; omega
  rw [List.getElem?_append_right (by omega), hl, Nat.sub_self, List.getElem?_replicate, if_pos (by omega)]
abbrev il (g n cap : Nat) : Value := .slice (some ⟨g, 0, none⟩) n cap
end Go.Proofs.YtgfopfomhgfcaaaGreatDoor
namespace Go.Proofs.YtgfopfomhgfcaaaGreatDoor
open Go.RowKit Go.Sort

theorem add_at (g k : Nat) : (⟨g, 0, none⟩ : Addr).add k = ⟨g, k, none⟩ := by
  unfold Addr.add
  by_cases h : k = 0 <;> simp [h]
/-- A slice that reads as these integers. -/
def RdI (w : World) (A : Option Addr) (xs : List Int) : Prop := ∀ (k : Nat) (p : Int), xs[k]? = some p → ∃ ad, A = some ad ∧ w.cell? (ad.add k) = some (.int .i64 p)
theorem RdI.keep {w w' : World} {A : Option Addr} {xs : List Int} (h : RdI w A xs) (hg : Gr w w') : RdI w' A xs := fun k p hk => by
  obtain ⟨ad, e, c⟩ := h k p hk
  exact ⟨ad, e, (hg.cellI (by rw [addI_block]; exact rawI_lt c)).trans c⟩
theorem RdI.of_block {w : World} {g : Nat} {T : TypeId} {xs : List Int} (h : w.heap[g]? = some (.cells (intA xs) T)) : RdI w (some ⟨g, 0, none⟩) xs := fun k p hk =>
  ⟨_, rfl, by rw [add_at]; exact int_cell h hk⟩
theorem RdI.of_raw {w : World} {v : Value} {xs : List Int} (h : RawI w v xs) : ∃ A cap, v = .slice A xs.length cap ∧ RdI w A xs := by
  rcases h with ⟨rfl, rfl⟩ | ⟨ad, cap, rfl, hr⟩
  · exact ⟨none, 0, rfl, fun k p hk => by simp at hk⟩
  · exact ⟨some ad, cap, rfl, fun k p hk => ⟨ad, rfl, hr k p hk⟩⟩
theorem RdI.of_own {w : World} {base : Nat} {e : TypeId} {A : Option Addr} {n c : Nat} {xs : List Int} (h : w.ownsRow base e 1 (.slice A n c) n (xs.map (.int .i64 ·))) : RdI w A xs := fun k p hk => by
  rcases h.2 with ⟨hv, rfl⟩ | ⟨g, cap, cur, hv, _⟩
  · have := h.1
    simp at this
    subst this
    simp at hk
  · have hA : A = some ⟨g, 0, none⟩ := by injection hv
    subst hA
    exact ⟨_, rfl, h.cells (g := g) rfl k _ (by simp [hk])⟩

/-- What a mark leaves: block g alone is other than it was. -/
def Only (g : Nat) (w w' : World) : Prop := (∀ j o, j ≠ g → w.heap[j]? = some o → w'.heap[j]? = some o) ∧ ∀ W0, Gr W0 w → W0.heap.size ≤ g → Gr W0 w'
theorem Only.refl (g : Nat) (w : World) : Only g w w := ⟨fun _ _ _ h => h, fun _ h _ => h⟩
theorem Only.set {g : Nat} {w w' : World} (h : Only g w w') (i : Nat) (v : Value) : Only g w (w'.setCell ⟨g, i, none⟩ v) :=
  ⟨fun j o hj ho => by rw [Below.heap_setCell _ _ _ _ hj]; exact h.1 j o hj ho, fun W0 h0 hg => (h.2 W0 h0 hg).setCell hg v⟩
/-- The marks from k0 on. -/
def marks (k0 : Int) (n : Nat) : List Int := (List.range n).map (fun i : Nat => k0 + (i : Int))
theorem marks_len (k0 : Int) (n : Nat) : (marks k0 n).length = n := by simp [marks]
theorem marks_get (k0 : Int) (n : Nat) {i : Nat} (h : i < n) : (marks k0 n)[i]? = some (k0 + (i : Int)) := by simp [marks, h]
def mkA (k0 : Int) (k : Nat) (cs : Array Value) : Array Value := Array.ofFn (n := cs.size) fun i => if i.1 < k then .int .i64 (k0 + (i.1 : Int)) else cs[i.1]
theorem mkA_size (k0 : Int) (k : Nat) (cs : Array Value) : (mkA k0 k cs).size = cs.size := by simp [mkA]
theorem mkA_zero (k0 : Int) (cs : Array Value) : mkA k0 0 cs = cs := by
  apply Array.ext
  · simp [mkA]
  · intro i h1 h2
    simp [mkA]
theorem mkA_succ (k0 : Int) (k : Nat) (cs : Array Value) : (mkA k0 k cs).setIfInBounds k (.int .i64 (k0 + (k : Int))) = mkA k0 (k + 1) cs := by
  apply Array.ext
  · simp [mkA]
  · intro i h1 h2
    simp only [mkA, Array.size_setIfInBounds, Array.size_ofFn] at h1
    by_cases h : k = i
    · subst h
      simp [mkA]
    · by_cases h3 : i < k
      · have h4 : i < k + 1 := by omega
        simp [mkA, h3, h4, h, Array.getElem_setIfInBounds_ne, h1]
      · have h4 : ¬ i < k + 1 := by omega
        simp [mkA, h3, h4, h, Array.getElem_setIfInBounds_ne, h1]
theorem mkA_get (k0 : Int) (n : Nat) (cs : Array Value) {i : Nat} (h : i < n) (hn : n ≤ cs.size) : (mkA k0 n cs)[i]? = some (.int .i64 (k0 + (i : Int))) := by
  have : i < (mkA k0 n cs).size := by rw [mkA_size]; omega
  rw [Array.getElem?_eq_getElem this]
  simp [mkA, h]
/-! append -/
section
variable {P : Program}
theorem append_gr {w w' : World} {v v' : Value} (base : Nat) (t ty e : TypeId) (i : TypeInfo) (z : Value) (size : Nat) (ht : P.underlying t = some (.slice e)) (hi : P.info? e = some i) (hz : i.zero = some z)
    (hsize : i.size = size) (n : Nat) (xs : List Value) (hown : w.ownsRow base e size v n xs)
    (a : Addr) (m c : Nat) (news : List Value) (hl : news.length = m * size) (hnews : ∀ j u, news[j]? = some u → w.cell? (a.add j) = some u) (h1 : ∀ u ∈ news, u.oneCell' = true)
    (hm0 : 0 < m) (h63 : n + m ≤ maxLen) (hbytes : (n + m) * i.bytes ≤ 140737488355328) (hrun : (Builtin.append_ #[t, t] ty #[v, .slice (some a) m c]).run P w = .ok v' w') :
    (v'.ownBlock = v.ownBlock ∨ v'.ownBlock = some w.heap.size) ∧ ∀ W0, Gr W0 w → W0.heap.size ≤ base → Gr W0 w' := by
  subst hsize
  have hsmall : n + m ≤ 9223372036854775807 := by simp only [maxLen] at h63; omega
  rcases hown.2 with ⟨rfl, rfl⟩ | ⟨g, cap, cur, rfl, hbg, hg, hnc, hcm, hcs, htake⟩
  · have hr := run_append_nil (P := P) w t ty e i z ht hi hz a m c news hl hnews hm0 (by omega) (by simp only [Nat.zero_add] at hbytes; omega)
    rw [hr] at hrun
    injection hrun with e1 e2
    subst e1 e2
    exact ⟨.inr rfl, fun W0 h0 _ => (h0.trans (Gr.drew _)).al _⟩
  · by_cases hroom : n + m ≤ cap
    · have hfit : n * i.size + news.length ≤ cur.size := by rw [hl, hcs, ← Nat.add_mul]; exact Nat.mul_le_mul_right _ hroom
      have hr := run_append_room (P := P) w t ty e i ht hi g n cap cur hg a m c news hl hnews h1 hroom hfit
      rw [hr] at hrun
      injection hrun with e1 e2
      subst e1 e2
      exact ⟨.inl rfl, fun W0 h0 hb => h0.setRow (by omega) _⟩
    · have holds : ∀ j u, xs[j]? = some u → w.cell? ((⟨g, 0, none⟩ : Addr).add j) = some u := hown.cells (g := g) rfl
      have hr := run_append_grow (P := P) w t ty e i z ht hi hz ⟨g, 0, none⟩ n cap xs hown.1 holds a m c news hl hnews (by omega) (by omega) (growslice_fits (by omega) hbytes)
      rw [hr] at hrun
      injection hrun with e1 e2
      subst e1 e2
      exact ⟨.inr rfl, fun W0 h0 _ => (h0.trans (Gr.drew _)).al _⟩
theorem wpList_append_gr {w : World} {ops : Array Oper} {rest : List Oper} {o : Oper} {a : Act} {Q : Exit → Act → World → Prop} (hgd : o.guard = none) (s x : Operand) (t : TypeId)
    (ho : o.op = .call { callee := .builtin .append, args := #[s, x], argTypes := #[t, t] })
    (base : Nat) (e : TypeId) (i : TypeInfo) (z : Value) (size bytes : Nat) (ht : P.underlying t = some (.slice e)) (hi : P.info? e = some i) (hz : i.zero = some z)
    (hsize : i.size = size) (hby : i.bytes = bytes) (hzs : z.cells.size = size) (hsz : 0 < size)
    (v : Value) (n : Nat) (xs : List Value) (hs : a.eval s = v) (hown : w.ownsRow base e size v n xs)
    (ad : Addr) (m c : Nat) (news : List Value) (hx : a.eval x = .slice (some ad) m c) (hl : news.length = m * size) (hnews : ∀ j u, news[j]? = some u → w.cell? (ad.add j) = some u) (h1 : ∀ u ∈ news, u.oneCell' = true)
    (hm0 : 0 < m) (h63 : n + m ≤ maxLen) (hbytes : (n + m) * bytes ≤ 140737488355328) (hbase : base ≤ w.heap.size)
    (h : ∀ v' w', w'.ownsRow base e size v' (n + m) (xs ++ news) → w.grownBy w' v.ownBlock → (v'.ownBlock = v.ownBlock ∨ v'.ownBlock = some w.heap.size) → (∀ W0, Gr W0 w → W0.heap.size ≤ base → Gr W0 w') → wpList P ops Q rest (a.put o.dst v') w') :
    wpList P ops Q (o :: rest) a w := by
  refine wpList_plain hgd fun K hK => ?_
  obtain ⟨v', w', hr, h2, h3, _⟩ := run_append_own w base t o.type e i z size bytes ht hi hz hsize hby hzs hsz v n xs hown ad m c news hl hnews h1 h63 hbytes hbase
  obtain ⟨h4, h5⟩ := append_gr base t o.type e i z size ht hi hz hsize n xs hown ad m c news hl hnews h1 hm0 h63 (by rw [hby]; exact hbytes) hr
  unfold Oper.wp execOp
  simp only [ho, resolve, invoke, builtin, Sem.run_bind, Sem.run_pure, Result.andThen_ok, List.map_toArray, List.map_cons, List.map_nil, hs, hx, hr]
  exact hK _ _ (h v' w' h2 h3 h4 h5)
end
end Go.Proofs.YtgfopfomhgfcaaaGreatDoor
