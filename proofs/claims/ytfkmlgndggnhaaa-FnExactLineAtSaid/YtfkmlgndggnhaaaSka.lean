/- Slices of fractions wherever they lie: how they read; scales: how they come from the laws' values; compared. -/
import Derived.Test.YtfkmlgndggnhaaaFs
import Derived.Test.YtfkmlgndggnhaaaFt
import Derived.Test.YtfkmlgndggnhaaaB1
import Derived.Test.YtfkmlgndggnhaaaSet
namespace Go.Proofs.Ytfkmlgndggnhaaa
open Go.RowKit Go.Sort

/-- A slice of fractions at an address, whoever made it: its elements. -/
def RdF (w : World) (A : Option Addr) (xs : List (Int × Int)) : Prop := ∀ (k : Nat) (p q : Int), xs[k]? = some (p, q) → ∃ ad, A = some ad ∧ w.cell? (ad.add (k * 2)) = some (.int .i64 p) ∧ w.cell? ⟨(ad.add (k * 2)).block, (ad.add (k * 2)).off + 1, none⟩ = some (.int .i64 q)
theorem RdF.keep {w w' : World} {A : Option Addr} {xs : List (Int × Int)} (h : RdF w A xs) (hg : Gr w w') : RdF w' A xs := fun k p q hk => by
  obtain ⟨ad, e, c1, c2⟩ := h k p q hk
  have h2 := raw_lt c1
  exact ⟨ad, e, (hg.cell' (by rw [add_block]; exact h2)).trans c1, (hg.cell' (by show (ad.add (k * 2)).block < _; rw [add_block]; exact h2)).trans c2⟩
theorem RdF.of_block {w : World} {g : Nat} {T : TypeId} {xs : List (Int × Int)} (h : w.heap[g]? = some (.cells (flatA xs) T)) : RdF w (some ⟨g, 0, none⟩) xs := fun k p q hk => by
  obtain ⟨c1, c2⟩ := flat_cells h hk
  refine ⟨_, rfl, ?_, ?_⟩
  · have e : Addr.add ⟨g, 0, none⟩ (k * 2) = ⟨g, k * 2, none⟩ := by unfold Addr.add; split <;> simp_all
    rw [e]; exact c1
  · have e : Addr.add ⟨g, 0, none⟩ (k * 2) = ⟨g, k * 2, none⟩ := by unfold Addr.add; split <;> simp_all
    rw [e]; exact c2
theorem RdF.of_raw {w : World} {v : Value} {xs : List (Int × Int)} (h : RawF w v xs) : ∃ A cap, v = .slice A xs.length cap ∧ RdF w A xs := by
  rcases h with ⟨rfl, rfl⟩ | ⟨ad, cap, rfl, hr⟩
  · exact ⟨none, 0, rfl, fun k p q hk => by simp at hk⟩
  · exact ⟨some ad, cap, rfl, fun k p q hk => ⟨ad, rfl, hr k p q hk⟩⟩
theorem RdF.nil {w : World} {A : Option Addr} : RdF w A [] := fun k p q hk => by simp at hk

theorem Gr.atF {w wb : World} (h : Gr w wb) {a : Addr} {v : Value} (hc : w.cell? a = some v) : ∀ (m : Nat) (os : Array Obj), (grow (wb.drewN m) os).cell? a = some v := fun m os =>
  ((h.trans ⟨⟨m, os⟩, rfl⟩).cell' (World.block_lt_of_cell? _ _ hc)).trans hc
abbrev scl (a b : Int) (A : Option Addr) (n c : Nat) : Value := .agg #[.int .i64 a, .int .i64 b, .slice A n c]
theorem keepSet' {w : World} {g : Nat} {o : Obj} {a : Addr} {v : Value} (h : w.heap[g]? = some o) (hne : g ≠ a.block) : (w.setCell a v).heap[g]? = some o := by
  rw [Below.heap_setCell _ _ _ _ hne, h]
theorem set2_new3 {w : World} {g : Nat} {x y z a b : Value} {T : TypeId} (h : w.heap[g]? = some (.cells #[x, y, z] T)) :
    ((w.setCell ⟨g, 0, none⟩ a).setCell ⟨g, 1, none⟩ b).heap[g]? = some (.cells #[a, b, z] T) := by
  have e1 := Joins.block_setCell (i := 0) h a
  simpa using Joins.block_setCell (i := 1) e1 b
set_option maxHeartbeats 400000 in
theorem szF (A : Option Addr) (n c : Nat) (l : Int) (w : World) (h : n ≤ 9223372036854775807) (l0 : 0 ≤ l) (l1 : l ≤ 1048576) :
    Calls Try.prog 48 #[.slice A n c, .int .i64 l] w fun e w' => e = .returned (.int .i64 (if (n : Int) ≤ l then l - (n : Int) else -1)) ∧ Gr w w' := by
  by_cases h1 : (n : Int) ≤ l
  · rw [if_pos h1]
    go_enter Try.func48, Try.ntmps48
    go_wp2
    go_ret
    exact ⟨rfl, Gr.refl _⟩
  · rw [if_neg h1]
    go_enter Try.func48, Try.ntmps48
    go_wp2
    go_ret
    exact ⟨rfl, Gr.refl _⟩
set_option maxRecDepth 20000 in
set_option maxHeartbeats 400000 in
theorem szSc_yes (a b : Int) (A : Option Addr) (n c : Nat) (l : Int) (w : World) (h : (n : Int) ≤ l) (l1 : l ≤ 1048576) :
    Calls Try.prog 15 #[scl a b A n c, .int .i64 l] w fun x w' => x = .returned (.int .i64 (l - (n : Int))) ∧ Gr w w' := by
  have hs : ∀ w, Calls Try.prog 48 #[.slice A n c, .int .i64 l] w fun e w' => e = .returned (.int .i64 (l - (n : Int))) ∧ Gr w w' := fun w => by
    have := szF A n c l w (by omega) (by omega) l1
    rwa [if_pos h] at this
  have HS := hid hs; clear hs
  go_enter Try.func15, Try.ntmps15
  go_wp2_with fail
  refine (HS.out _).mono ?_
  rintro e w1 ⟨rfl, hg1⟩
  obtain ⟨x1_0, hz1, g1⟩ := alloc1 hg1
  obtain ⟨_, _, _⟩ := cells3 x1_0
  have _ := fz x1_0
  have _ := ltb x1_0
  have X1_0 := hid x1_0; clear x1_0
  have G1 := hid (g1)
  clear hg1 g1
  go_wp2
  go_ret
  exact ⟨rfl, G1.out⟩
set_option maxRecDepth 20000 in
set_option maxHeartbeats 400000 in
theorem szSc_no (a b : Int) (A : Option Addr) (n c : Nat) (l : Int) (w : World) (h : l < (n : Int)) (h2 : n ≤ 9223372036854775807) (l0 : 0 ≤ l) (l1 : l ≤ 1048576) :
    Calls Try.prog 15 #[scl a b A n c, .int .i64 l] w fun x w' => x = .returned (.int .i64 (-1)) ∧ Gr w w' := by
  have hs : ∀ w, Calls Try.prog 48 #[.slice A n c, .int .i64 l] w fun e w' => e = .returned (.int .i64 (-1)) ∧ Gr w w' := fun w => by
    have := szF A n c l w h2 l0 l1
    rwa [if_neg (by omega)] at this
  have HS := hid hs; clear hs
  go_enter Try.func15, Try.ntmps15
  go_wp2_with fail
  refine (HS.out _).mono ?_
  rintro e w1 ⟨rfl, hg1⟩
  obtain ⟨x1_0, hz1, g1⟩ := alloc1 hg1
  obtain ⟨_, _, _⟩ := cells3 x1_0
  have _ := fz x1_0
  have _ := ltb x1_0
  have X1_0 := hid x1_0; clear x1_0
  have G1 := hid (g1)
  clear hg1 g1
  go_wp2
  go_ret
  exact ⟨rfl, G1.out⟩
set_option maxRecDepth 20000 in
set_option maxHeartbeats 1000000 in
theorem toSc_any (a b : Int) (A : Option Addr) (cap : Nat) (xs : List (Int × Int)) (w : World) (hn : xs.length ≤ 1048576) (h : RawF w (.slice A xs.length cap) xs) :
    Calls Try.prog 17 #[scl a b A xs.length cap] w fun x w' => ∃ g, x = .returned (scl a b (some ⟨g, 0, none⟩) xs.length xs.length) ∧ w'.heap[g]? = some (.cells (flatA xs) 29) ∧ w.heap.size ≤ g ∧ Gr w w' := by
  have HR := hid h; clear h
  go_enter Try.func17, Try.ntmps17
  go_wp2_with fail
  refine (toFrac_any _ _ _).mono ?_
  rintro e w1 ⟨rfl, hg1⟩
  obtain ⟨x1_0, x1_1, x1_2, hz1, g1⟩ := alloc3 hg1
  obtain ⟨_, _, _⟩ := cells3 x1_0
  have _ := fz x1_0
  have _ := ltb x1_0
  obtain ⟨_, _, _⟩ := cells3 x1_1
  have _ := fz x1_1
  have _ := ltb x1_1
  obtain ⟨_, _, _⟩ := cells3 x1_2
  have _ := fz x1_2
  have _ := ltb x1_2
  have X1_0 := hid x1_0; clear x1_0
  have X1_1 := hid x1_1; clear x1_1
  have X1_2 := hid x1_2; clear x1_2
  have G1 := hid (g1)
  clear hg1 g1
  go_wp2_with fail
  have G2 : Hid (Gr w ((w1.setCell ⟨w.heap.size + 1 + 1, 0, none⟩ (.int .i64 a)).setCell ⟨w.heap.size + 1 + 1, 1, none⟩ (.int .i64 b))) := hid ((G1.out.setCell (by simp; omega) _).setCell (by simp; omega) _)
  have y0 := set2_old (a := .int .i64 a) (b := .int .i64 b) X1_0.out (show w.heap.size ≠ w.heap.size + 1 + 1 by omega)
  have y1 := set2_old (a := .int .i64 a) (b := .int .i64 b) X1_1.out (show w.heap.size + 1 ≠ w.heap.size + 1 + 1 by omega)
  have y2 := set2_new3 (a := .int .i64 a) (b := .int .i64 b) X1_2.out
  refine (toFracS_any _ xs _ hn (HR.out.keep G2.out)).mono ?_
  rintro x w2 ⟨rfl, x1, hg2⟩
  have z0 := hg2.keep y0; have z1 := hg2.keep y1; have z2 := hg2.keep y2
  obtain ⟨_, _, _⟩ := cells3 z0
  obtain ⟨_, _, _⟩ := cells3 z1
  obtain ⟨_, _, _⟩ := cells3 z2
  have _ := fz z1; have _ := fz z2
  have _ := ltb z0; have _ := ltb z1; have _ := ltb z2
  have hz : w.heap.size + 1 + 1 < ((w1.setCell ⟨w.heap.size + 1 + 1, 0, none⟩ (.int .i64 a)).setCell ⟨w.heap.size + 1 + 1, 1, none⟩ (.int .i64 b)).heap.size := ltb y2
  have HZ := hid hz
  have X1 := hid x1; have G3 := hid (G2.out.trans hg2)
  clear x1 hg2 z0 z1 z2 y0 y1 y2 hz
  generalize ((w1.setCell ⟨w.heap.size + 1 + 1, 0, none⟩ (.int .i64 a)).setCell ⟨w.heap.size + 1 + 1, 1, none⟩ (.int .i64 b)).heap.size = gg at *
  go_wp2
  refine bodyPost_ret (v := scl a b (some ⟨gg, 0, none⟩) xs.length xs.length) (by simp [results, Try.results17, go_sem, *]) rfl ⟨_, rfl, ?_, ?_, ?_⟩
  · have := HZ.out
    repeat (refine keepSet' ?_ (by simp <;> omega))
    exact X1.out
  · have := HZ.out
    omega
  · exact ((((G3.out).setCell (by simp <;> omega) _).setCell (by simp <;> omega) _).setCell (by simp <;> omega) _).setCell (by simp <;> omega) _
set_option maxRecDepth 20000 in
set_option maxHeartbeats 1000000 in
theorem eqF_any (A A' : Option Addr) (c c' : Nat) (xs : List (Int × Int)) (w : World) (X1 : Hid (RdF w A xs)) (X2 : Hid (RdF w A' xs)) (hn : xs.length ≤ 1048576) :
    Calls Try.prog 59 #[.slice A xs.length c, .slice A' xs.length c'] w fun e w' => e = .returned (.bool true) ∧ Gr w w' := by
  go_enter Try.func59, Try.ntmps59
  go_wp2_with fail
  go_loopw [5] (fun u wr => ∃ (k : Nat), u = .int .i64 (k : Int) ∧ k ≤ xs.length ∧ Gr w wr) (fun u _ => xs.length - (intOf u).toNat)
  case atStart => exact ⟨0, rfl, by omega, Gr.refl _⟩
  case round =>
    obtain ⟨k, rfl, hk, g0⟩ := hrel
    by_cases hlt : k < xs.length
    · obtain ⟨⟨p, q⟩, hpq⟩ : ∃ pq, xs[k]? = some pq := ⟨xs[k], List.getElem?_eq_getElem _⟩
      obtain ⟨ad, rfl, c1, c2⟩ := (X1.out.keep g0) k p q hpq
      obtain ⟨ad', rfl, c3, c4⟩ := (X2.out.keep g0) k p q hpq
      have GW := hid g0; have C1 := hid c1; have C2 := hid c2; have C3 := hid c3; have C4 := hid c4; clear g0 hpq c1 c2 c3 c4
      go_wp2_with fail
      refine wp_reg0 9 (by kernel_rfl) (by kernel_rfl) ?_
      apply Exists.intro
      refine ⟨fun wb hb => ?_, ?_⟩
      · have _ := hb.atF C1.out; have _ := hb.atF C2.out; have _ := hb.atF C3.out; have _ := hb.atF C4.out
        simp only [headOps, List.contains, List.elem, reduceIte, Bool.false_eq_true]
        repeat (first | go_big_quiet_step (first | (go_at_call 29; exact Calls.of_gr (eqFrac_any _ _ _))) | quiet_step (fail))
        exact wpQuiet_nil rfl
      intro w1 hg1
      have G1 := hid (GW.out.trans hg1)
      clear hg1
      go_wp2_with fail
      exact ⟨⟨k + 1, by simp, by omega, G1.out⟩, by simp [intOf]; omega⟩
    · go_wp2_with fail
      go_ret
      exact ⟨rfl, g0⟩
set_option maxRecDepth 20000 in
set_option maxHeartbeats 400000 in
theorem eqSc_any (a b : Int) (A A' : Option Addr) (c c' : Nat) (xs : List (Int × Int)) (w : World) (X1 : Hid (RdF w A xs)) (X2 : Hid (RdF w A' xs)) (hn : xs.length ≤ 1048576) :
    Calls Try.prog 19 #[scl a b A xs.length c, scl a b A' xs.length c'] w fun x w' => x = .returned (.bool true) ∧ Gr w w' := by
  go_enter Try.func19, Try.ntmps19
  go_wp2_with fail
  refine (eqFrac_any _ _ _).mono ?_
  rintro e w1 ⟨rfl, hg1⟩
  obtain ⟨x1_0, x1_1, hz1, g1⟩ := alloc2 hg1
  obtain ⟨_, _, _⟩ := cells3 x1_0
  have _ := fz x1_0
  have _ := ltb x1_0
  obtain ⟨_, _, _⟩ := cells3 x1_1
  have _ := fz x1_1
  have _ := ltb x1_1
  have X1_0 := hid x1_0; clear x1_0
  have X1_1 := hid x1_1; clear x1_1
  have G1 := hid (g1)
  clear hg1 g1
  go_wp2_with fail
  refine (eqF_any _ _ _ _ xs _ (hid (X1.out.keep G1.out)) (hid (X2.out.keep G1.out)) hn).mono ?_
  rintro e w2 ⟨rfl, hg2⟩
  have x2_1 := hg2.keep X1_0.out
  have x2_2 := hg2.keep X1_1.out
  obtain ⟨_, _, _⟩ := cells3 x2_1
  have _ := fz x2_1
  have _ := ltb x2_1
  obtain ⟨_, _, _⟩ := cells3 x2_2
  have _ := fz x2_2
  have _ := ltb x2_2
  have X2_1 := hid x2_1; clear x2_1
  have X2_2 := hid x2_2; clear x2_2
  have G2 := hid (G1.out.trans hg2)
  clear hg2
  go_wp2
  go_ret
  exact ⟨rfl, G2.out⟩
end Go.Proofs.Ytfkmlgndggnhaaa
