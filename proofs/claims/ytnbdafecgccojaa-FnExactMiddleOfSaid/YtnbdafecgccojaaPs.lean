/- THE ORDER OF FRACTIONS: what it leaves behind, exactly; strict and weak; the sorted list is one. -/
import Derived.Test.YtnbdafecgccojaaPy
import Derived.Test.YtnbdafecgccojaaN
import Derived.Test.YtnbdafecgccojaaFm
import Derived.Shelf.SlSortCmp.WholeK
namespace Go.Proofs.Ytnbdafecgccojaa
open Go.RowKit Go.Sort

set_option maxHeartbeats 400000 in
theorem iordX_same (a b : Int) (w : World) :
    Calls Try.prog 186 #[fr a b, fr a b] w fun e w' => e = .returned (.int .i64 0) ∧ ∃ n os', w' = grow (w.drewN n) os' := by
  go_enter Try.func186, Try.ntmps186
  go_wp2
  go_ret
  exact ⟨rfl, 0, _, by rw [alloc_eq_grow, alloc_eq_grow, grow_grow]; rfl⟩
set_option maxHeartbeats 400000 in
theorem iordX_lt_p (a b c d : Int) (w : World) (hn : ((a : Int) == c) = false) (q0 : -1000000000000000000 ≤ a * d ∧ a * d ≤ 1000000000000000000) (q2 : -1000000000000000000 ≤ c * b ∧ c * b ≤ 1000000000000000000) (h : a * d < c * b) :
    Calls Try.prog 186 #[fr a b, fr c d] w fun e w' => e = .returned (.int .i64 (-1)) ∧ ∃ n os', w' = grow (w.drewN n) os' := by
  obtain ⟨_, _⟩ := q0
  obtain ⟨_, _⟩ := q2
  go_enter Try.func186, Try.ntmps186
  go_wp2
  go_ret
  exact ⟨rfl, 0, _, by rw [alloc_eq_grow, alloc_eq_grow, grow_grow]; rfl⟩
set_option maxHeartbeats 400000 in
theorem iordX_lt_q (a b d : Int) (w : World) (hn : ((b : Int) == d) = false) (q0 : -1000000000000000000 ≤ a * d ∧ a * d ≤ 1000000000000000000) (q2 : -1000000000000000000 ≤ a * b ∧ a * b ≤ 1000000000000000000) (h : a * d < a * b) :
    Calls Try.prog 186 #[fr a b, fr a d] w fun e w' => e = .returned (.int .i64 (-1)) ∧ ∃ n os', w' = grow (w.drewN n) os' := by
  obtain ⟨_, _⟩ := q0
  obtain ⟨_, _⟩ := q2
  go_enter Try.func186, Try.ntmps186
  go_wp2
  go_ret
  exact ⟨rfl, 0, _, by rw [alloc_eq_grow, alloc_eq_grow, grow_grow]; rfl⟩
set_option maxHeartbeats 400000 in
theorem iordX_gt_p (a b c d : Int) (w : World) (hn : ((a : Int) == c) = false) (q0 : -1000000000000000000 ≤ a * d ∧ a * d ≤ 1000000000000000000) (q2 : -1000000000000000000 ≤ c * b ∧ c * b ≤ 1000000000000000000) (h : ¬ a * d < c * b) :
    Calls Try.prog 186 #[fr a b, fr c d] w fun e w' => e = .returned (.int .i64 1) ∧ ∃ n os', w' = grow (w.drewN n) os' := by
  obtain ⟨_, _⟩ := q0
  obtain ⟨_, _⟩ := q2
  go_enter Try.func186, Try.ntmps186
  go_wp2
  go_ret
  exact ⟨rfl, 0, _, by rw [alloc_eq_grow, alloc_eq_grow, grow_grow]; rfl⟩
set_option maxHeartbeats 400000 in
theorem iordX_gt_q (a b d : Int) (w : World) (hn : ((b : Int) == d) = false) (q0 : -1000000000000000000 ≤ a * d ∧ a * d ≤ 1000000000000000000) (q2 : -1000000000000000000 ≤ a * b ∧ a * b ≤ 1000000000000000000) (h : ¬ a * d < a * b) :
    Calls Try.prog 186 #[fr a b, fr a d] w fun e w' => e = .returned (.int .i64 1) ∧ ∃ n os', w' = grow (w.drewN n) os' := by
  obtain ⟨_, _⟩ := q0
  obtain ⟨_, _⟩ := q2
  go_enter Try.func186, Try.ntmps186
  go_wp2
  go_ret
  exact ⟨rfl, 0, _, by rw [alloc_eq_grow, alloc_eq_grow, grow_grow]; rfl⟩
theorem iordX (a b c d : Int) (w : World) (h1 : okB a b = true) (h2 : okB c d = true) :
    Calls Try.prog 186 #[fr a b, fr c d] w fun e w' => e = .returned (.int .i64 (cmpI a b c d)) ∧ ∃ n os', w' = grow (w.drewN n) os' := by
  have o1 := okB_iff.1 h1
  have o2 := okB_iff.1 h2
  obtain ⟨b1, b2, b3, b4⟩ := okB_bd h1
  obtain ⟨d1, d2, d3, d4⟩ := okB_bd h2
  have q0 := mul_bd (x := a) (y := d) b3 b4 (by omega) d2
  have q2 := mul_bd (x := c) (y := b) d3 d4 (by omega) b2
  by_cases e : a = c ∧ b = d
  · obtain ⟨rfl, rfl⟩ := e
    have : cmpI a b a b = 0 := by unfold cmpI; simp
    rw [this]
    exact iordX_same a b w
  · have hne : a * d ≠ c * b := fun h => e (same_of o1 o2 h)
    by_cases h : a * d < c * b
    · have : cmpI a b c d = -1 := by unfold cmpI; rw [if_pos h]
      rw [this]
      by_cases hc : a = c
      · subst hc
        exact iordX_lt_q a b d w (by simpa using fun hb => e ⟨rfl, hb⟩) q0 q2 h
      · exact iordX_lt_p a b c d w (by simpa using hc) q0 q2 h
    · have : cmpI a b c d = 1 := by unfold cmpI; rw [if_neg h, if_pos (by omega)]
      rw [this]
      by_cases hc : a = c
      · subst hc
        exact iordX_gt_q a b d w (by simpa using fun hb => e ⟨rfl, hb⟩) q0 q2 h
      · exact iordX_gt_p a b c d w (by simpa using hc) q0 q2 h

abbrev VF : Type := {x : Int × Int // okB x.1 x.2 = true}
instance : Inhabited VF := ⟨⟨(0, 1), by decide⟩⟩
def encV (x : VF) : List Value := [.int .i64 x.1.1, .int .i64 x.1.2]
def cfV (x y : VF) : Int := cmpI x.1.1 x.1.2 y.1.1 y.1.2
def leF (x y : Int × Int) : Prop := x.1 * y.2 ≤ y.1 * x.2
theorem cmp_neg {a b c d : Int} : cmpI a b c d < 0 ↔ a * d < c * b := by
  unfold cmpI
  by_cases h : a * d < c * b
  · simp [h]
  · by_cases h2 : c * b < a * d <;> simp [h, h2]
theorem VF.pos (x : VF) : 0 < x.1.2 := by have := (okB_bd x.2).1; omega
theorem leF_trans {x y z : Int × Int} (hx : 0 < x.2) (hy : 0 < y.2) (hz : 0 < z.2) (h1 : leF x y) (h2 : leF y z) : leF x z := by
  unfold leF at *
  have a := Int.mul_le_mul_of_nonneg_right h1 (Int.le_of_lt hz)
  have b := Int.mul_le_mul_of_nonneg_right h2 (Int.le_of_lt hx)
  refine Int.le_of_mul_le_mul_right (a := y.2) ?_ hy
  have e1 : x.1 * z.2 * y.2 = x.1 * y.2 * z.2 := Int.mul_right_comm _ _ _
  have e2 : z.1 * x.2 * y.2 = z.1 * y.2 * x.2 := Int.mul_right_comm _ _ _
  have e3 : y.1 * x.2 * z.2 = y.1 * z.2 * x.2 := Int.mul_right_comm _ _ _
  rw [e1, e2]
  rw [e3] at a
  exact Int.le_trans a b
theorem lt_leF (x y : VF) : ltOf cfV x y = false ↔ leF y.1 x.1 := by
  unfold ltOf cfV leF
  rw [decide_eq_false_iff_not, cmp_neg]
  omega
theorem swoV : SWO (ltOf cfV) where
  irrefl x := (lt_leF x x).2 (by unfold leF; omega)
  trans x y z h1 h2 := by
    refine Classical.byContradiction fun h => ?_
    have h3 := (lt_leF x z).1 (by simpa using h)
    have h1' : ¬ leF y.1 x.1 := fun h => by rw [(lt_leF x y).2 h] at h1; cases h1
    have h2' : ¬ leF z.1 y.1 := fun h => by rw [(lt_leF y z).2 h] at h2; cases h2
    have h4 : leF y.1 z.1 := by unfold leF at *; omega
    exact h1' (leF_trans y.pos z.pos x.pos h4 h3)
  ntrans x y z h1 h2 := (lt_leF x z).2 (leF_trans z.pos y.pos x.pos ((lt_leF y z).1 h2) ((lt_leF x y).1 h1))
theorem leF_anti {x y : Int × Int} (hx : okB x.1 x.2 = true) (hy : okB y.1 y.2 = true) (h1 : leF x y) (h2 : leF y x) : x = y := by
  unfold leF at *
  obtain ⟨e1, e2⟩ := same_of (okB_iff.1 hx) (okB_iff.1 hy) (by omega)
  exact Prod.ext e1 e2
theorem leF_unique {xs ys : List (Int × Int)} (hall : ∀ x ∈ xs, okB x.1 x.2 = true) (hp : xs.Perm ys) (h1 : xs.Pairwise leF) (h2 : ys.Pairwise leF) : xs = ys :=
  List.Perm.eq_of_pairwise (le := leF) (fun a b ha hb h h' => leF_anti (hall a ha) (hall b (hp.mem_iff.2 hb)) h h') h1 h2 hp

/-! the cells -/
def vfs (D : List (Int × Int)) (h : ∀ x ∈ D, okB x.1 x.2 = true) : Array VF := (D.attach.map fun x => (⟨x.1, h x.1 x.2⟩ : VF)).toArray
theorem vfs_size (D : List (Int × Int)) (h : ∀ x ∈ D, okB x.1 x.2 = true) : (vfs D h).size = D.length := by
  unfold vfs
  rw [List.size_toArray, List.length_map, List.length_attach]
theorem vfs_list (D : List (Int × Int)) (h : ∀ x ∈ D, okB x.1 x.2 = true) : (vfs D h).toList.map (·.1) = D := by
  unfold vfs
  show List.map (fun x : VF => x.1) (List.map (fun x => (⟨x.1, h x.1 x.2⟩ : VF)) D.attach) = D
  rw [List.map_map]
  exact List.attach_map_subtype_val D
theorem encV_len (x : VF) : (encV x).length = 2 := rfl
theorem flatK_flatL (d : Array VF) : flatK encV 2 d = (flatL (d.toList.map (·.1))).toArray := by
  refine ext_get! (by simp [flatL_len]) fun t ht => ?_
  have ht2 : t < d.size * 2 := by simpa using ht
  rw [get_flatK encV 2 d t ht2]
  have hk : t / 2 < d.size := by omega
  have e : (d.toList.map (·.1))[t / 2]? = some ((d[t / 2]).1.1, (d[t / 2]).1.2) := by simp [hk]
  obtain ⟨a1, a2⟩ := flatL_get _ _ _ _ e
  have g : d[t / 2]! = d[t / 2] := getElem!_pos d (t / 2) hk
  rw [g]
  rcases Nat.mod_two_eq_zero_or_one t with h | h
  · rw [h]
    have ht' : t / 2 * 2 = t := by omega
    rw [ht'] at a1
    simp [encV, a1]
  · rw [h]
    have ht' : t / 2 * 2 + 1 = t := by omega
    rw [ht'] at a2
    simp [encV, a2]
theorem put_fracR (ys zs : List (Int × Int)) (rest : List Value) (hl : zs.length = ys.length) : putCells (id : Value → Value) 0 (flatL zs).toArray (fracR ys rest) = fracR zs rest := by
  have hlz : (flatL zs).length = (flatL ys).length := by rw [flatL_len, flatL_len, hl]
  apply Array.ext_getElem?
  intro k
  simp only [putCells, Array.getElem?_mapIdx, fracR, List.getElem?_toArray]
  by_cases hk : k < (flatL zs).length
  · rw [List.getElem?_append_left (by omega), List.getElem?_append_left (by omega)]
    have hk2 : k < (flatL ys).length := by omega
    simp [hk2, hlz]
  · rw [List.getElem?_append_right (by omega), List.getElem?_append_right (by omega)]
    have hk2 : ¬ k < (flatL ys).length := by omega
    simp [hk2, hlz]
theorem sorted_worldF {w0 w1 : World} (hg : Gr w0 w1) {g : Nat} (hge : w0.heap.size ≤ g) {T : TypeId} {ys zs : List (Int × Int)} {rest : List Value} (hb : w1.heap[g]? = some (.cells (fracR ys rest) T)) (hl : zs.length = ys.length) (d : Array VF) (hd : d.toList.map (·.1) = zs) (n : Nat) (os : Array Obj) :
    Gr w0 (sortWorldK encV 2 w1 g 0 n d os) ∧ (sortWorldK encV 2 w1 g 0 n d os).heap[g]? = some (.cells (fracR zs rest) T) ∧ ∀ m o, m ≠ g → w1.heap[m]? = some o → (sortWorldK encV 2 w1 g 0 n d os).heap[m]? = some o := by
  have hlt := ltb hb
  unfold sortWorldK putRowK
  rw [flatK_flatL, hd]
  have hsz : (putRow (id : Value → Value) (Sort.ahead w1 n) g 0 (flatL zs).toArray).heap.size = w1.heap.size := by simp
  refine ⟨(hg.trans (Gr.drewN w1 n)).heap rfl rfl rfl rfl (by rw [size_grow, hsz]; exact Nat.le_add_right _ _) fun k hk => ?_, ?_, fun m o hm ho => ?_⟩
  · have hk1 : k < w1.heap.size := Nat.lt_of_lt_of_le hk hg.size
    rw [heap_grow_old _ _ (by rw [hsz]; exact hk1)]
    show (w1.heap.modify g _)[k]? = w1.heap[k]?
    rw [Array.getElem?_modify, if_neg (by omega)]
  · rw [heap_grow_old _ _ (by rw [hsz]; exact hlt)]
    show (w1.heap.modify g _)[g]? = _
    rw [Array.getElem?_modify, if_pos rfl, hb, ← put_fracR ys zs rest hl]
    rfl
  · have hk1 : m < w1.heap.size := ltb ho
    rw [heap_grow_old _ _ (by rw [hsz]; exact hk1)]
    show (w1.heap.modify g _)[m]? = some o
    rw [Array.getElem?_modify, if_neg (Ne.symm hm), ho]
theorem holdsV {w : World} {g : Nat} {T : TypeId} {D : List (Int × Int)} {rest : List Value} (hb : w.heap[g]? = some (.cells (fracR D rest) T)) (d : Array VF) (hd : d.toList.map (·.1) = D) : HoldsK encV 2 w g 0 d := by
  unfold HoldsK
  rw [flatK_flatL, hd]
  intro j hj
  have hj' : j < (flatL D).length := by simpa using hj
  refine ⟨?_, fz hb _⟩
  simp [World.cell?, hb, fracR, hj', List.getElem?_append_left hj']
theorem sortedV {d : Array VF} (h : SortedIn (ltOf cfV) 0 d.size d) : (d.toList.map (·.1)).Pairwise leF := by
  rw [List.pairwise_map, List.pairwise_iff_getElem]
  intro i j hi hj hij
  have := (lt_leF _ _).1 (h i j (Nat.zero_le _) hij (by simpa using hj))
  rw [getElem!_pos d i (by simpa using hi), getElem!_pos d j (by simpa using hj)] at this
  simpa using this
theorem permV {d d' : Array VF} (h : PermIn 0 d.size d d') : (d'.toList.map (·.1)).Perm (d.toList.map (·.1)) := by
  obtain ⟨h1, _, h2⟩ := h
  have e1 : d'.extract 0 d.size = d' := by rw [← h1]; simp
  rw [e1] at h2
  simpa using h2.map (·.1)
end Go.Proofs.Ytnbdafecgccojaa
