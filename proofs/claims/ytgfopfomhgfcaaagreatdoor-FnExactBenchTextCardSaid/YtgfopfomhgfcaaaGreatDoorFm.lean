/- Slices of fractions of the call's own: marked, held, stored to, cloned, appended to. -/
import Derived.Test.YtgfopfomhgfcaaaGreatDoorSka
import Derived.Test.YtgfopfomhgfcaaaGreatDoorIv
import Derived.Test.YtgfopfomhgfcaaaGreatDoorRf
namespace Go.Proofs.YtgfopfomhgfcaaaGreatDoor
open Go.RowKit Go.Sort

/-- A row of the call's own: the fractions that it holds, and what is spare. -/
def fracR (ys : List (Int × Int)) (rest : List Value) : Array Value := (flatL ys ++ rest).toArray
theorem fracR_size (ys : List (Int × Int)) (rest : List Value) : (fracR ys rest).size = ys.length * 2 + rest.length := by simp [fracR, flatL_len]
theorem fracR_get {ys : List (Int × Int)} {rest : List Value} {k : Nat} {p q : Int} (h : ys[k]? = some (p, q)) : (fracR ys rest)[k * 2]? = some (.int .i64 p) ∧ (fracR ys rest)[k * 2 + 1]? = some (.int .i64 q) := by
  have hk : k < ys.length := (List.getElem?_eq_some_iff.1 h).1
  obtain ⟨h1, h2⟩ := flatL_get ys k p q h
  unfold fracR
  rw [List.getElem?_toArray, List.getElem?_toArray, List.getElem?_append_left (by rw [flatL_len]; omega), List.getElem?_append_left (by rw [flatL_len]; omega)]
  exact ⟨h1, h2⟩
theorem fracR_set {ys : List (Int × Int)} {rest : List Value} {k : Nat} (p q : Int) (h : k < ys.length) : ((fracR ys rest).setIfInBounds (k * 2) (.int .i64 p)).setIfInBounds (k * 2 + 1) (.int .i64 q) = fracR (ys.set k (p, q)) rest := by
  unfold fracR
  rw [List.setIfInBounds_toArray, List.setIfInBounds_toArray, List.set_append_left _ _ (by rw [flatL_len]; omega), List.set_append_left _ _ (by rw [List.length_set, flatL_len]; omega), flatL_set]
theorem fracR_cells {w : World} {g k : Nat} {T : TypeId} {ys : List (Int × Int)} {rest : List Value} {p q : Int} (h : w.heap[g]? = some (.cells (fracR ys rest) T)) (hk : ys[k]? = some (p, q)) :
    w.cell? ⟨g, k * 2, none⟩ = some (.int .i64 p) ∧ w.cell? ⟨g, k * 2 + 1, none⟩ = some (.int .i64 q) := by
  have := fracR_get (rest := rest) hk
  simp [World.cell?, h, this]
theorem fracR_store {w : World} {g k : Nat} {T : TypeId} {ys : List (Int × Int)} {rest : List Value} (p q : Int) (h : w.heap[g]? = some (.cells (fracR ys rest) T)) (hk : k < ys.length) :
    ((w.setCell ⟨g, k * 2, none⟩ (.int .i64 p)).setCell ⟨g, k * 2 + 1, none⟩ (.int .i64 q)).heap[g]? = some (.cells (fracR (ys.set k (p, q)) rest) T) := by
  have e1 := Joins.block_setCell (i := k * 2) h (.int .i64 p)
  have e2 := Joins.block_setCell (i := k * 2 + 1) e1 (.int .i64 q)
  rw [fracR_set p q hk] at e2
  exact e2
theorem own_openF {w : World} {base : Nat} {E : TypeId} {A : Option Addr} {c : Nat} {ys : List (Int × Int)} (h : w.ownsRow base E 2 (.slice A ys.length c) ys.length (flatL ys)) (h0 : 0 < ys.length) :
    ∃ g rest, A = some ⟨g, 0, none⟩ ∧ base ≤ g ∧ w.heap[g]? = some (.cells (fracR ys rest) E) ∧ c ≤ maxLen ∧ ys.length * 2 + rest.length = c * 2 := by
  rcases h.2 with ⟨hv, hn⟩ | ⟨g, cap, cur, hv, hb, hg, hnc, hcm, hcs, ht⟩
  · omega
  · injection hv with e1 e2 e3
    subst e1 e3
    refine ⟨g, cur.toList.drop (ys.length * 2), rfl, hb, ?_, hcm, ?_⟩
    · rw [hg]
      have : fracR ys (cur.toList.drop (ys.length * 2)) = cur := by
        unfold fracR
        rw [← ht, List.take_append_drop]
      rw [this]
    · have := congrArg List.length ht
      rw [flatL_len] at this
      simp at this ⊢
      omega
theorem own_closeF {w : World} {base g : Nat} {E : TypeId} {c : Nat} {ys : List (Int × Int)} {rest : List Value} (hb : base ≤ g) (hg : w.heap[g]? = some (.cells (fracR ys rest) E)) (hc : c ≤ maxLen) (hl : ys.length * 2 + rest.length = c * 2) :
    w.ownsRow base E 2 (.slice (some ⟨g, 0, none⟩) ys.length c) ys.length (flatL ys) :=
  ⟨by rw [flatL_len], .inr ⟨g, c, _, rfl, hb, hg, by omega, hc, by rw [fracR_size]; omega, by unfold fracR; rw [← flatL_len]; simp⟩⟩
theorem RdF.of_ownF {w : World} {base : Nat} {E : TypeId} {A : Option Addr} {n c : Nat} {ys : List (Int × Int)} (h : w.ownsRow base E 2 (.slice A n c) n (flatL ys)) : RdF w A ys := fun k p q hk => by
  have hkl : k < ys.length := (List.getElem?_eq_some_iff.1 hk).1
  have hl : n = ys.length := by have := h.1; rw [flatL_len] at this; omega
  subst hl
  obtain ⟨g, rest, rfl, _, hg, _⟩ := own_openF h (by omega)
  obtain ⟨c1, c2⟩ := fracR_cells hg hk
  refine ⟨_, rfl, ?_, ?_⟩ <;> rw [add_at]
  · exact c1
  · exact c2
theorem RdF.only {w w' : World} {g : Nat} {A : Option Addr} {xs : List (Int × Int)} (h : RdF w A xs) (o : Only g w w') (hne : ∀ ad, A = some ad → ad.block ≠ g) : RdF w' A xs := fun k p q hk => by
  obtain ⟨ad, e, c1, c2⟩ := h k p q hk
  exact ⟨ad, e, o.keepI c1 (by rw [addI_block]; exact hne ad e), o.keepI c2 (by show (ad.add (k * 2)).block ≠ g; rw [addI_block]; exact hne ad e)⟩

/-! markFracS and heldFracS -/
def mksF (k0 : Int) (n : Nat) : List (Int × Int) := (List.range n).map fun i => (k0 + ((i * 2 : Nat) : Int), k0 + ((i * 2 + 1 : Nat) : Int))
theorem mksF_len (k0 : Int) (n : Nat) : (mksF k0 n).length = n := by simp [mksF]
theorem mksF_get (k0 : Int) (n : Nat) {i : Nat} (h : i < n) : (mksF k0 n)[i]? = some (k0 + ((i * 2 : Nat) : Int), k0 + ((i * 2 + 1 : Nat) : Int)) := by simp [mksF, h]
set_option maxRecDepth 20000 in
set_option maxHeartbeats 1000000 in
theorem markF_any (g cap n : Nat) (k0 : Int) (cs : Array Value) (T : TypeId) (w : World) (X : Hid (w.heap[g]? = some (.cells cs T))) (hn : n * 2 ≤ cs.size) (hn2 : n ≤ 1048576) (h1 : 0 ≤ k0) (h2 : k0 ≤ 10000000) :
    Calls Tryz.prog 50 #[.slice (some ⟨g, 0, none⟩) n cap, .int .i64 k0] w fun e w' => e = .returned (.int .i64 (k0 + ((n * 2 : Nat) : Int))) ∧ w'.heap[g]? = some (.cells (mkA k0 (n * 2) cs) T) ∧ Only g w w' := by
  go_enter Tryz.func50, Tryz.ntmps50
  go_wp2_with fail
  go_loopw [1, 5] (fun v u wr => ∃ (k : Nat), u = .int .i64 (k : Int) ∧ v = .int .i64 (k0 + (k : Int) * 2) ∧ k ≤ n ∧ wr.heap[g]? = some (.cells (mkA k0 (k * 2) cs) T) ∧ Only g w wr) (fun _ u _ => n - (intOf u).toNat)
  case atStart => exact ⟨0, rfl, by simp, by omega, by rw [Nat.zero_mul, mkA_zero]; exact X.out, Only.refl _ _⟩
  case round =>
    obtain ⟨k, rfl, rfl, hk, x0, ho⟩ := hrel
    have HO := hid ho; have X0 := hid x0
    clear ho
    by_cases hlt : k < n
    · obtain ⟨v0, hv0⟩ : ∃ v, (mkA k0 (k * 2) cs)[k * 2]? = some v := ⟨_, Array.getElem?_eq_getElem (by rw [mkA_size]; omega)⟩
      have c1 : wr.cell? ⟨g, k * 2, none⟩ = some v0 := by simp [World.cell?, x0, hv0]
      have f1 := fz x0
      have e1 := Joins.block_setCell (i := k * 2) X0.out (.int .i64 (k0 + ((k * 2 : Nat) : Int)))
      rw [mkA_succ] at e1
      obtain ⟨v1, hv1⟩ : ∃ v, (mkA k0 (k * 2) cs)[k * 2 + 1]? = some v := ⟨_, Array.getElem?_eq_getElem (by rw [mkA_size]; omega)⟩
      have c2 : wr.cell? ⟨g, k * 2 + 1, none⟩ = some v1 := by simp [World.cell?, x0, hv1]
      have E1 := hid e1
      clear x0 hv0 hv1 e1
      go_wp2_with fail
      refine ⟨⟨k + 1, by simp, by simp; omega, by omega, ?_, (HO.out.set _ _).set _ _⟩, by simp [intOf]; omega⟩
      have e2 := Joins.block_setCell (i := k * 2 + 1) E1.out (.int .i64 (k0 + ((k * 2 + 1 : Nat) : Int)))
      rw [mkA_succ] at e2
      rw [show (k + 1) * 2 = k * 2 + 1 + 1 by omega]
      have e3 : k0 + ((k * 2 + 1 : Nat) : Int) = k0 + (k : Int) * 2 + 1 := by omega
      have e4 : k0 + ((k * 2 : Nat) : Int) = k0 + (k : Int) * 2 := by omega
      rw [e3, e4] at e2
      exact e2
    · have hke : k = n := by omega
      subst hke
      clear x0
      go_wp2_with fail
      go_ret
      exact ⟨ret_int (by omega), X0.out, HO.out⟩
set_option maxRecDepth 20000 in
set_option maxHeartbeats 1000000 in
theorem heldF_any (A : Option Addr) (c n : Nat) (k0 : Int) (w : World) (X : Hid (RdF w A (mksF k0 n))) (hn2 : n ≤ 1048576) (h1 : 0 ≤ k0) (h2 : k0 ≤ 10000000) :
    Calls Tryz.prog 51 #[.slice A n c, .int .i64 k0] w fun e w' => e = .returned (.int .i64 (k0 + ((n * 2 : Nat) : Int))) ∧ Gr w w' := by
  go_enter Tryz.func51, Tryz.ntmps51
  go_wp2_with fail
  go_loopw [1, 5] (fun v u wr => ∃ (k : Nat), u = .int .i64 (k : Int) ∧ v = .int .i64 (k0 + ((k * 2 : Nat) : Int)) ∧ k ≤ n ∧ w = wr) (fun _ u _ => n - (intOf u).toNat)
  case atStart => exact ⟨0, rfl, by simp, by omega, rfl⟩
  case round =>
    obtain ⟨k, rfl, rfl, hk, rfl⟩ := hrel
    by_cases hlt : k < n
    · obtain ⟨ad, rfl, c1, c2⟩ := X.out k _ _ (mksF_get k0 n hlt)
      have e3 : k0 + ((k * 2 + 1 : Nat) : Int) = k0 + ((k * 2 : Nat) : Int) + 1 := by omega
      rw [e3] at c2
      go_wp2_with fail
      exact ⟨⟨k + 1, by simp, by simp; omega, by omega, by simp⟩, by simp [intOf]; omega⟩
    · have hke : k = n := by omega
      subst hke
      go_wp2_with fail
      go_ret
      exact ⟨rfl, Gr.refl _⟩
set_option maxRecDepth 20000 in
set_option maxHeartbeats 1000000 in
theorem markF_zero (A : Option Addr) (c : Nat) (k0 : Int) (w : World) :
    Calls Tryz.prog 50 #[.slice A 0 c, .int .i64 k0] w fun e w' => e = .returned (.int .i64 k0) ∧ w' = w := by
  go_enter Tryz.func50, Tryz.ntmps50
  go_wp2_with fail
  go_loopw [1, 5] (fun v u wr => u = .int .i64 0 ∧ v = .int .i64 k0 ∧ wr = w) (fun _ _ _ => 0)
  case atStart => exact ⟨rfl, rfl, by simp⟩
  case round =>
    obtain ⟨rfl, rfl, rfl⟩ := hrel
    go_wp2_with fail
    go_ret
    exact ⟨rfl, by simp⟩
theorem markOwnF (A : Option Addr) (c : Nat) (ys : List (Int × Int)) (base : Nat) (E : TypeId) (k0 : Int) (w : World) (O : Hid (w.ownsRow base E 2 (.slice A ys.length c) ys.length (flatL ys))) (hn : ys.length ≤ 1048576) (h1 : 0 ≤ k0) (h2 : k0 ≤ 10000000) :
    Calls Tryz.prog 50 #[.slice A ys.length c, .int .i64 k0] w fun e w' => e = .returned (.int .i64 (k0 + ((ys.length * 2 : Nat) : Int))) ∧ ∃ g, base ≤ g ∧ Only g w w' ∧ RdF w' A (mksF k0 ys.length) := by
  by_cases h0 : 0 < ys.length
  · obtain ⟨g, rest, rfl, hb, hg, _, _⟩ := own_openF O.out h0
    refine (markF_any g c ys.length k0 (fracR ys rest) E w (hid hg) (by rw [fracR_size]; omega) hn h1 h2).mono ?_
    rintro e w' ⟨rfl, hx, ho⟩
    refine ⟨rfl, g, hb, ho, fun k p q hk => ⟨_, rfl, ?_⟩⟩
    have hkl : k < ys.length := by have := (List.getElem?_eq_some_iff.1 hk).1; rwa [mksF_len] at this
    rw [mksF_get _ _ hkl] at hk
    cases hk
    rw [add_at]
    have a1 := mkA_get k0 (ys.length * 2) (fracR ys rest) (i := k * 2) (by omega) (by rw [fracR_size]; omega)
    have a2 := mkA_get k0 (ys.length * 2) (fracR ys rest) (i := k * 2 + 1) (by omega) (by rw [fracR_size]; omega)
    constructor
    · simp only [World.cell?, hx]; simpa using a1
    · simp only [World.cell?, hx]; simpa using a2
  · have e : ys = [] := List.eq_nil_of_length_eq_zero (by omega)
    subst e
    refine (markF_zero A c k0 w).mono ?_
    rintro e w' ⟨rfl, rfl⟩
    exact ⟨by simp, base, Nat.le_refl _, Only.refl _ _, fun k p q hk => by simp [mksF] at hk⟩

theorem Only.of_gr {g : Nat} {w w1 w' : World} (hg : Gr w w1) (o : Only g w1 w') : Only g w w' :=
  ⟨fun j x hj h => o.1 j x hj (hg.keep h), fun W0 h hs => o.2 W0 (h.trans hg) hs⟩
set_option maxRecDepth 20000 in
set_option maxHeartbeats 400000 in
theorem markSc_any (a b : Int) (g cap n : Nat) (k0 : Int) (cs : Array Value) (T : TypeId) (w : World) (X : Hid (w.heap[g]? = some (.cells cs T))) (hn : n * 2 ≤ cs.size) (hn2 : n ≤ 1048576) (h1 : 0 ≤ k0) (h2 : k0 ≤ 10000000) :
    Calls Tryz.prog 15 #[scl a b (some ⟨g, 0, none⟩) n cap, .int .i64 k0] w fun e w' => e = .returned (.int .i64 (k0 + ((n * 2 : Nat) : Int))) ∧ w'.heap[g]? = some (.cells (mkA k0 (n * 2) cs) T) ∧ Only g w w' := by
  go_enter Tryz.func15, Tryz.ntmps15
  go_wp2_with fail
  refine (markF_any g cap n k0 cs T _ (hid (((Gr.refl w).al _).keep X.out)) hn hn2 h1 h2).mono ?_
  rintro e w1 ⟨rfl, hx, ho⟩
  have HX := hid hx; have HO := hid (Only.of_gr ((Gr.refl w).al _) ho)
  clear hx ho
  go_wp2_with fail
  go_ret
  exact ⟨rfl, HX.out, HO.out⟩
set_option maxRecDepth 20000 in
set_option maxHeartbeats 400000 in
theorem markOwnSc (a b : Int) (A : Option Addr) (c : Nat) (ys : List (Int × Int)) (base : Nat) (E : TypeId) (k0 : Int) (w : World) (O : Hid (w.ownsRow base E 2 (.slice A ys.length c) ys.length (flatL ys))) (hn : ys.length ≤ 1048576) (h1 : 0 ≤ k0) (h2 : k0 ≤ 10000000) :
    Calls Tryz.prog 15 #[scl a b A ys.length c, .int .i64 k0] w fun e w' => e = .returned (.int .i64 (k0 + ((ys.length * 2 : Nat) : Int))) ∧ ∃ g, base ≤ g ∧ Only g w w' ∧ RdF w' A (mksF k0 ys.length) := by
  go_enter Tryz.func15, Tryz.ntmps15
  go_wp2_with fail
  refine (markOwnF A c ys base E k0 _ (hid (own_gr O.out ((Gr.refl w).al _))) hn h1 h2).mono ?_
  rintro e w1 ⟨rfl, g, hb, ho, hx⟩
  have HX := hid hx; have HO := hid (Only.of_gr ((Gr.refl w).al _) ho)
  clear hx ho
  go_wp2_with fail
  go_ret
  exact ⟨rfl, g, hb, HO.out, HX.out⟩
set_option maxRecDepth 20000 in
set_option maxHeartbeats 400000 in
theorem heldSc_any (a b : Int) (A : Option Addr) (c n : Nat) (k0 : Int) (w : World) (X : Hid (RdF w A (mksF k0 n))) (hn2 : n ≤ 1048576) (h1 : 0 ≤ k0) (h2 : k0 ≤ 10000000) :
    Calls Tryz.prog 16 #[scl a b A n c, .int .i64 k0] w fun e w' => e = .returned (.int .i64 (k0 + ((n * 2 : Nat) : Int))) ∧ Gr w w' := by
  go_enter Tryz.func16, Tryz.ntmps16
  go_wp2_with fail
  refine (heldF_any A c n k0 _ (hid (X.out.keep ((Gr.refl w).al _))) hn2 h1 h2).mono ?_
  rintro e w1 ⟨rfl, hg1⟩
  obtain ⟨x1_0, hz1, g1⟩ := alloc1 hg1
  obtain ⟨_, _, _⟩ := cells3 x1_0
  have _ := fz x1_0
  have _ := ltb x1_0
  have X1_0 := hid x1_0; clear x1_0
  have G1 := hid (g1)
  clear hg1 g1
  go_wp2
  go_ret
  exact ⟨rfl, G1.out⟩

/-! append and Clone -/
theorem one_newsF {w : World} {b : Nat} {p q : Int} {T : TypeId} (h : w.heap[b]? = some (.cells #[.int .i64 p, .int .i64 q] T)) : ∀ (j : Nat) (u : Value), [Value.int .i64 p, .int .i64 q][j]? = some u → w.cell? ((⟨b, 0, none⟩ : Addr).add j) = some u := by
  intro j u hj
  obtain ⟨n0, n1⟩ := cells2 h
  match j with
  | 0 => simp at hj; subst hj; exact n0
  | 1 => simp at hj; subst hj; exact n1
  | j + 2 => simp at hj
theorem flatL_app (xs : List (Int × Int)) (p q : Int) : flatL xs ++ [.int .i64 p, .int .i64 q] = flatL (xs ++ [(p, q)]) := by simp [flatL]
theorem flat_news {w : World} {ad : Addr} {xs : List (Int × Int)} (X : RdF w (some ad) xs) : ∀ (j : Nat) (u : Value), (flatL xs)[j]? = some u → w.cell? (ad.add j) = some u := by
  intro j u hj
  have hjl : j < xs.length * 2 := by have := (List.getElem?_eq_some_iff.1 hj).1; rwa [flatL_len] at this
  obtain ⟨⟨p, q⟩, hk⟩ : ∃ pq, xs[j / 2]? = some pq := ⟨xs[j / 2]'(by omega), List.getElem?_eq_getElem _⟩
  obtain ⟨ad', e, c1, c2⟩ := X (j / 2) p q hk
  cases e
  obtain ⟨h1, h2⟩ := flatL_get xs _ p q hk
  rcases Nat.mod_two_eq_zero_or_one j with hm | hm
  · have ej : j / 2 * 2 = j := by omega
    rw [ej] at h1 c1
    rw [h1] at hj
    cases hj
    exact c1
  · have ej : j / 2 * 2 + 1 = j := by omega
    rw [ej] at h2
    rw [h2] at hj
    cases hj
    have : ad.add j = ⟨(ad.add (j / 2 * 2)).block, (ad.add (j / 2 * 2)).off + 1, none⟩ := by
      have e0 : j = j / 2 * 2 + 1 := by omega
      generalize j / 2 * 2 = m at *
      subst e0
      exact add_succ ad m
    rw [this]
    exact c2
/-- A slice of fractions of the call's own, and a code. -/
def GivesF (w w' : World) (e : Ending) (ys : List (Int × Int)) (C : Int) : Prop := ∃ A c, e = .returned (.tuple #[.slice A ys.length c, .int .i64 C]) ∧ w'.ownsRow w.heap.size 34 2 (.slice A ys.length c) ys.length (flatL ys) ∧ Gr w w'
/-- A scale of the call's own, and a code. -/
def GivesS (w w' : World) (e : Ending) (a b : Int) (ys : List (Int × Int)) (C : Int) : Prop := ∃ A c, e = .returned (.tuple #[scl a b A ys.length c, .int .i64 C]) ∧ w'.ownsRow w.heap.size 34 2 (.slice A ys.length c) ys.length (flatL ys) ∧ Gr w w'
theorem own_nilF (w : World) (base : Nat) : w.ownsRow base 34 2 (.slice none 0 0) 0 (flatL []) := World.ownsRow_nil _ _ _ _
end Go.Proofs.YtgfopfomhgfcaaaGreatDoor
