/- Slices of fractions wherever they lie: how they read; scales: how they come from the laws' values; compared. -/
import Derived.Test.YtgfopfomhgfcaaaGreatDoorFs
import Derived.Test.YtgfopfomhgfcaaaGreatDoorB1
import Derived.Test.YtgfopfomhgfcaaaGreatDoorB0
import Derived.Test.YtgfopfomhgfcaaaGreatDoorX1
import Derived.Test.YtgfopfomhgfcaaaGreatDoorFu
import Derived.Test.YtgfopfomhgfcaaaGreatDoorRgf
import Derived.Test.YtgfopfomhgfcaaaGreatDoorC0
namespace Go.Proofs.YtgfopfomhgfcaaaGreatDoor
open Go.RowKit Go.Sort

/-- A slice of fractions at an address, whoever made it: its elements. -/
def RdF (w : World) (A : Option Addr) (xs : List (Int × Int)) : Prop := ∀ (k : Nat) (p q : Int), xs[k]? = some (p, q) → ∃ ad, A = some ad ∧ w.cell? (ad.add (k * 2)) = some (.int .i64 p) ∧ w.cell? ⟨(ad.add (k * 2)).block, (ad.add (k * 2)).off + 1, none⟩ = some (.int .i64 q)
theorem RdF.keep {w w' : World} {A : Option Addr} {xs : List (Int × Int)} (h : RdF w A xs) (hg : Gr w w') : RdF w' A xs := fun k p q hk => by
  obtain ⟨ad, e, c1, c2⟩ := h k p q hk
  have h2 := raw_lt c1
  exact ⟨ad, e, (hg.cell' (by rw [add_block]; exact h2)).trans c1, (hg.cell' (by show (ad.add (k * 2)).block < _; rw [add_block]; exact h2)).trans c2⟩
theorem RdF.of_block {w : World} {g : Nat} {T : TypeId} {xs : List (Int × Int)} (h : w.heap[g]? = some (.cells (flatA xs) T)) : RdF w (some ⟨g, 0, none⟩) xs := fun k p q hk => by
  obtain ⟨c1, c2⟩ := flat_cells h hk
  refine ⟨_, rfl, ?_, ?_⟩
  · have e : Addr.add ⟨g, 0, none⟩ (k * 2) = ⟨g, k * 2, none⟩ := by unfold Addr.add; split <;> simp_all
    rw [e]; exact c1
  · have e : Addr.add ⟨g, 0, none⟩ (k * 2) = ⟨g, k * 2, none⟩ := by unfold Addr.add; split <;> simp_all
    rw [e]; exact c2
theorem RdF.of_raw {w : World} {v : Value} {xs : List (Int × Int)} (h : RawF w v xs) : ∃ A cap, v = .slice A xs.length cap ∧ RdF w A xs := by
  rcases h with ⟨rfl, rfl⟩ | ⟨ad, cap, rfl, hr⟩
  · exact ⟨none, 0, rfl, fun k p q hk => by simp at hk⟩
  · exact ⟨some ad, cap, rfl, fun k p q hk => ⟨ad, rfl, hr k p q hk⟩⟩
theorem RdF.nil {w : World} {A : Option Addr} : RdF w A [] := fun k p q hk => by simp at hk

theorem Gr.atF {w wb : World} (h : Gr w wb) {a : Addr} {v : Value} (hc : w.cell? a = some v) : ∀ (m : Nat) (os : Array Obj), (grow (wb.drewN m) os).cell? a = some v := fun m os =>
  ((h.trans ⟨⟨m, os⟩, rfl⟩).cell' (World.block_lt_of_cell? _ _ hc)).trans hc
abbrev scl (a b : Int) (A : Option Addr) (n c : Nat) : Value := .agg #[.int .i64 a, .int .i64 b, .slice A n c]
theorem keepSet' {w : World} {g : Nat} {o : Obj} {a : Addr} {v : Value} (h : w.heap[g]? = some o) (hne : g ≠ a.block) : (w.setCell a v).heap[g]? = some o := by
  rw [Below.heap_setCell _ _ _ _ hne, h]
theorem set2_new3 {w : World} {g : Nat} {x y z a b : Value} {T : TypeId} (h : w.heap[g]? = some (.cells #[x, y, z] T)) :
    ((w.setCell ⟨g, 0, none⟩ a).setCell ⟨g, 1, none⟩ b).heap[g]? = some (.cells #[a, b, z] T) := by
  have e1 := Joins.block_setCell (i := 0) h a
  simpa using Joins.block_setCell (i := 1) e1 b
set_option maxHeartbeats 400000 in
theorem szF (A : Option Addr) (n c : Nat) (l : Int) (w : World) (h : n ≤ 9223372036854775807) (l0 : 0 ≤ l) (l1 : l ≤ 1048576) :
    Calls Tryz.prog 66 #[.slice A n c, .int .i64 l] w fun e w' => e = .returned (.int .i64 (if (n : Int) ≤ l then l - (n : Int) else -1)) ∧ Gr w w' := by
  by_cases h1 : (n : Int) ≤ l
  · rw [if_pos h1]
    go_enter Tryz.func66, Tryz.ntmps66
    go_wp2
    go_ret
    exact ⟨rfl, Gr.refl _⟩
  · rw [if_neg h1]
    go_enter Tryz.func66, Tryz.ntmps66
    go_wp2
    go_ret
    exact ⟨rfl, Gr.refl _⟩
set_option maxRecDepth 20000 in
set_option maxHeartbeats 400000 in
theorem szSc_yes (a b : Int) (A : Option Addr) (n c : Nat) (l : Int) (w : World) (h : (n : Int) ≤ l) (l1 : l ≤ 1048576) :
    Calls Tryz.prog 26 #[scl a b A n c, .int .i64 l] w fun x w' => x = .returned (.int .i64 (l - (n : Int))) ∧ Gr w w' := by
  have hs : ∀ w, Calls Tryz.prog 66 #[.slice A n c, .int .i64 l] w fun e w' => e = .returned (.int .i64 (l - (n : Int))) ∧ Gr w w' := fun w => by
    have := szF A n c l w (by omega) (by omega) l1
    rwa [if_pos h] at this
  have HS := hid hs; clear hs
  go_enter Tryz.func26, Tryz.ntmps26
  go_wp2_with fail
  refine (HS.out _).mono ?_
  rintro e w1 ⟨rfl, hg1⟩
  obtain ⟨x1_0, hz1, g1⟩ := alloc1 hg1
  obtain ⟨_, _, _⟩ := cells3 x1_0
  have _ := fz x1_0
  have _ := ltb x1_0
  have X1_0 := hid x1_0; clear x1_0
  have G1 := hid (g1)
  clear hg1 g1
  go_wp2
  go_ret
  exact ⟨rfl, G1.out⟩
set_option maxRecDepth 20000 in
set_option maxHeartbeats 400000 in
theorem szSc_no (a b : Int) (A : Option Addr) (n c : Nat) (l : Int) (w : World) (h : l < (n : Int)) (h2 : n ≤ 9223372036854775807) (l0 : 0 ≤ l) (l1 : l ≤ 1048576) :
    Calls Tryz.prog 26 #[scl a b A n c, .int .i64 l] w fun x w' => x = .returned (.int .i64 (-1)) ∧ Gr w w' := by
  have hs : ∀ w, Calls Tryz.prog 66 #[.slice A n c, .int .i64 l] w fun e w' => e = .returned (.int .i64 (-1)) ∧ Gr w w' := fun w => by
    have := szF A n c l w h2 l0 l1
    rwa [if_neg (by omega)] at this
  have HS := hid hs; clear hs
  go_enter Tryz.func26, Tryz.ntmps26
  go_wp2_with fail
  refine (HS.out _).mono ?_
  rintro e w1 ⟨rfl, hg1⟩
  obtain ⟨x1_0, hz1, g1⟩ := alloc1 hg1
  obtain ⟨_, _, _⟩ := cells3 x1_0
  have _ := fz x1_0
  have _ := ltb x1_0
  have X1_0 := hid x1_0; clear x1_0
  have G1 := hid (g1)
  clear hg1 g1
  go_wp2
  go_ret
  exact ⟨rfl, G1.out⟩
set_option maxRecDepth 20000 in
set_option maxHeartbeats 1000000 in
theorem toSc_any (a b : Int) (A : Option Addr) (cap : Nat) (xs : List (Int × Int)) (w : World) (hn : xs.length ≤ 1048576) (h : RawF w (.slice A xs.length cap) xs) :
    Calls Tryz.prog 30 #[scl a b A xs.length cap] w fun x w' => ∃ g, x = .returned (scl a b (some ⟨g, 0, none⟩) xs.length xs.length) ∧ w'.heap[g]? = some (.cells (flatA xs) 34) ∧ w.heap.size ≤ g ∧ Gr w w' := by
  have HR := hid h; clear h
  go_enter Tryz.func30, Tryz.ntmps30
  go_wp2_with fail
  refine (toFrac_any _ _ _).mono ?_
  rintro e w1 ⟨rfl, hg1⟩
  obtain ⟨x1_0, x1_1, x1_2, hz1, g1⟩ := alloc3 hg1
  obtain ⟨_, _, _⟩ := cells3 x1_0
  have _ := fz x1_0
  have _ := ltb x1_0
  obtain ⟨_, _, _⟩ := cells3 x1_1
  have _ := fz x1_1
  have _ := ltb x1_1
  obtain ⟨_, _, _⟩ := cells3 x1_2
  have _ := fz x1_2
  have _ := ltb x1_2
  have X1_0 := hid x1_0; clear x1_0
  have X1_1 := hid x1_1; clear x1_1
  have X1_2 := hid x1_2; clear x1_2
  have G1 := hid (g1)
  clear hg1 g1
  go_wp2_with fail
  have G2 : Hid (Gr w ((w1.setCell ⟨w.heap.size + 1 + 1, 0, none⟩ (.int .i64 a)).setCell ⟨w.heap.size + 1 + 1, 1, none⟩ (.int .i64 b))) := hid ((G1.out.setCell (by simp; omega) _).setCell (by simp; omega) _)
  have y0 := set2_old (a := .int .i64 a) (b := .int .i64 b) X1_0.out (show w.heap.size ≠ w.heap.size + 1 + 1 by omega)
  have y1 := set2_old (a := .int .i64 a) (b := .int .i64 b) X1_1.out (show w.heap.size + 1 ≠ w.heap.size + 1 + 1 by omega)
  have y2 := set2_new3 (a := .int .i64 a) (b := .int .i64 b) X1_2.out
  refine (toFracS_any _ xs _ hn (HR.out.keep G2.out)).mono ?_
  rintro x w2 ⟨rfl, x1, hg2⟩
  have z0 := hg2.keep y0; have z1 := hg2.keep y1; have z2 := hg2.keep y2
  obtain ⟨_, _, _⟩ := cells3 z0
  obtain ⟨_, _, _⟩ := cells3 z1
  obtain ⟨_, _, _⟩ := cells3 z2
  have _ := fz z1; have _ := fz z2
  have _ := ltb z0; have _ := ltb z1; have _ := ltb z2
  have hz : w.heap.size + 1 + 1 < ((w1.setCell ⟨w.heap.size + 1 + 1, 0, none⟩ (.int .i64 a)).setCell ⟨w.heap.size + 1 + 1, 1, none⟩ (.int .i64 b)).heap.size := ltb y2
  have HZ := hid hz
  have X1 := hid x1; have G3 := hid (G2.out.trans hg2)
  clear x1 hg2 z0 z1 z2 y0 y1 y2 hz
  generalize ((w1.setCell ⟨w.heap.size + 1 + 1, 0, none⟩ (.int .i64 a)).setCell ⟨w.heap.size + 1 + 1, 1, none⟩ (.int .i64 b)).heap.size = gg at *
  go_wp2
  refine bodyPost_ret (v := scl a b (some ⟨gg, 0, none⟩) xs.length xs.length) (by simp [results, Tryz.results30, go_sem, *]) rfl ⟨_, rfl, ?_, ?_, ?_⟩
  · have := HZ.out
    repeat (refine keepSet' ?_ (by simp <;> omega))
    exact X1.out
  · have := HZ.out
    omega
  · exact ((((G3.out).setCell (by simp <;> omega) _).setCell (by simp <;> omega) _).setCell (by simp <;> omega) _).setCell (by simp <;> omega) _
set_option maxRecDepth 20000 in
set_option maxHeartbeats 1000000 in
theorem eqF_any (A A' : Option Addr) (c c' : Nat) (xs : List (Int × Int)) (w : World) (X1 : Hid (RdF w A xs)) (X2 : Hid (RdF w A' xs)) (hn : xs.length ≤ 1048576) :
    Calls Tryz.prog 49 #[.slice A xs.length c, .slice A' xs.length c'] w fun e w' => e = .returned (.bool true) ∧ Gr w w' := by
  go_enter Tryz.func49, Tryz.ntmps49
  go_wp2_with fail
  go_loopw [5] (fun u wr => ∃ (k : Nat), u = .int .i64 (k : Int) ∧ k ≤ xs.length ∧ Gr w wr) (fun u _ => xs.length - (intOf u).toNat)
  case atStart => exact ⟨0, rfl, by omega, Gr.refl _⟩
  case round =>
    obtain ⟨k, rfl, hk, g0⟩ := hrel
    by_cases hlt : k < xs.length
    · obtain ⟨⟨p, q⟩, hpq⟩ : ∃ pq, xs[k]? = some pq := ⟨xs[k], List.getElem?_eq_getElem _⟩
      obtain ⟨ad, rfl, c1, c2⟩ := (X1.out.keep g0) k p q hpq
      obtain ⟨ad', rfl, c3, c4⟩ := (X2.out.keep g0) k p q hpq
      have GW := hid g0; have C1 := hid c1; have C2 := hid c2; have C3 := hid c3; have C4 := hid c4; clear g0 hpq c1 c2 c3 c4
      go_wp2_with fail
      refine wp_reg0 9 (by kernel_rfl) (by kernel_rfl) ?_
      apply Exists.intro
      refine ⟨fun wb hb => ?_, ?_⟩
      · have _ := hb.atF C1.out; have _ := hb.atF C2.out; have _ := hb.atF C3.out; have _ := hb.atF C4.out
        simp only [headOps, List.contains, List.elem, reduceIte, Bool.false_eq_true]
        repeat (first | go_big_quiet_step (first | (go_at_call 41; exact Calls.of_gr (eqFrac_any _ _ _))) | quiet_step (fail))
        exact wpQuiet_nil rfl
      intro w1 hg1
      have G1 := hid (GW.out.trans hg1)
      clear hg1
      go_wp2_with fail
      exact ⟨⟨k + 1, by simp, by omega, G1.out⟩, by simp [intOf]; omega⟩
    · go_wp2_with fail
      go_ret
      exact ⟨rfl, g0⟩
set_option maxRecDepth 20000 in
set_option maxHeartbeats 400000 in
theorem eqSc_any (a b : Int) (A A' : Option Addr) (c c' : Nat) (xs : List (Int × Int)) (w : World) (X1 : Hid (RdF w A xs)) (X2 : Hid (RdF w A' xs)) (hn : xs.length ≤ 1048576) :
    Calls Tryz.prog 14 #[scl a b A xs.length c, scl a b A' xs.length c'] w fun x w' => x = .returned (.bool true) ∧ Gr w w' := by
  go_enter Tryz.func14, Tryz.ntmps14
  go_wp2_with fail
  refine (eqFrac_any _ _ _).mono ?_
  rintro e w1 ⟨rfl, hg1⟩
  obtain ⟨x1_0, x1_1, hz1, g1⟩ := alloc2 hg1
  obtain ⟨_, _, _⟩ := cells3 x1_0
  have _ := fz x1_0
  have _ := ltb x1_0
  obtain ⟨_, _, _⟩ := cells3 x1_1
  have _ := fz x1_1
  have _ := ltb x1_1
  have X1_0 := hid x1_0; clear x1_0
  have X1_1 := hid x1_1; clear x1_1
  have G1 := hid (g1)
  clear hg1 g1
  go_wp2_with fail
  refine (eqF_any _ _ _ _ xs _ (hid (X1.out.keep G1.out)) (hid (X2.out.keep G1.out)) hn).mono ?_
  rintro e w2 ⟨rfl, hg2⟩
  have x2_1 := hg2.keep X1_0.out
  have x2_2 := hg2.keep X1_1.out
  obtain ⟨_, _, _⟩ := cells3 x2_1
  have _ := fz x2_1
  have _ := ltb x2_1
  obtain ⟨_, _, _⟩ := cells3 x2_2
  have _ := fz x2_2
  have _ := ltb x2_2
  have X2_1 := hid x2_1; clear x2_1
  have X2_2 := hid x2_2; clear x2_2
  have G2 := hid (G1.out.trans hg2)
  clear hg2
  go_wp2
  go_ret
  exact ⟨rfl, G2.out⟩
end Go.Proofs.YtgfopfomhgfcaaaGreatDoor
namespace Go.Proofs.YtgfopfomhgfcaaaGreatDoor
open Go.RowKit Go.Sort

def mkP (a b k p q : Int) : Int := redP (n1P a b k * q + p * n1Q a b k) (n1Q a b k * q)
def mkQ (a b k p q : Int) : Int := redQ (n1P a b k * q + p * n1Q a b k) (n1Q a b k * q)
/-- Can a mark be told, its unit times k being told? -/
def mk2 (a b k p q : Int) : Bool := okB (mkP a b k p q) (mkQ a b k p q)
theorem plusm_t (a b k p q : Int) (w : World) (h2 : okB p q = true) (g1 : n1B a b k = true) (g2 : mk2 a b k p q = true) :
    Calls Tryz.prog 173 #[fr (n1P a b k) (n1Q a b k), fr p q] w fun e w' => e = .returned (fr (mkP a b k p q) (mkQ a b k p q)) ∧ Gr w w' := plus_yes _ _ p q w g1 h2 g2
theorem saddm_t (a b k p q : Int) (w : World) (h2 : okB p q = true) (g1 : n1B a b k = true) (g2 : mk2 a b k p q = true) :
    Calls Tryz.prog 127 #[fr (n1P a b k) (n1Q a b k), fr p q] w fun e w' => e = .returned (.tuple #[fr (mkP a b k p q) (mkQ a b k p q), .int .i64 0]) ∧ Gr w w' := sadd_t _ _ p q w g1 h2 g2
theorem saddm_f (a b k p q : Int) (w : World) (h2 : okB p q = true) (g1 : n1B a b k = true) (g2 : mk2 a b k p q = false) :
    Calls Tryz.prog 127 #[fr (n1P a b k) (n1Q a b k), fr p q] w fun e w' => e = .returned (.tuple #[fr 0 0, .int .i64 3]) ∧ Gr w w' := sadd_f _ _ p q w g1 h2 g2
set_option maxRecDepth 20000 in
set_option maxHeartbeats 400000 in
theorem imark_ok (a b : Int) (A : Option Addr) (c k : Nat) (xs : List (Int × Int)) (p q : Int) (w : World) (X : Hid (RdF w A xs)) (hk : xs[k]? = some (p, q)) (_hn : xs.length ≤ 1048576)
    (h1 : okB a b = true) (ht : okB k 1 = true) (h2 : okB p q = true) (g1 : n1B a b k = true) (g2 : mk2 a b k p q = true) :
    Calls Tryz.prog 147 #[scl a b A xs.length c, .int .i64 k] w fun e w' => e = .returned (fr (mkP a b k p q) (mkQ a b k p q)) ∧ Gr w w' := by
  have hlt := (List.getElem?_eq_some_iff.1 hk).1
  obtain ⟨ad, rfl, c1, c2⟩ := X.out k p q hk
  have C1 := hid c1; have C2 := hid c2
  have h1 := hid h1; have ht := hid ht; have h2 := hid h2; have g1 := hid g1; have g2 := hid g2
  clear hk c1 c2
  go_enter Tryz.func147, Tryz.ntmps147
  go_wp2_with fail
  refine wp_reg0 10 (by kernel_rfl) (by kernel_rfl) ?_
  apply Exists.intro
  refine ⟨fun wb hb => ?_, ?_⟩
  · obtain ⟨y0, y1, _, _⟩ := alloc2 (Gr.refl _)
    obtain ⟨_, _, _⟩ := hb.at3 y0
    obtain ⟨_, _⟩ := hb.at2 y1
    clear y0 y1
    have hg := ((((Gr.refl w).al _).al _).trans hb)
    have _ := hg.atF C1.out; have _ := hg.atF C2.out
    clear hg
    simp only [headOps, List.contains, List.elem, reduceIte, Bool.false_eq_true]
    repeat (first | go_big_quiet_step (first | (go_at_call 172; exact Calls.of_gr (itw_ok _ _ _ _ h1.out ht.out g1.out)) | (go_at_call 173; exact Calls.of_gr (plusm_t a b k p q _ h2.out g1.out g2.out))) | quiet_step (fail))
    exact wpQuiet_nil rfl
  intro w1 hg1
  obtain ⟨x1_0, x1_1, hz1, g1⟩ := alloc2 hg1
  obtain ⟨_, _, _⟩ := cells3 x1_0
  have _ := fz x1_0
  have _ := ltb x1_0
  obtain ⟨_, _⟩ := cells2 x1_1
  have _ := fz x1_1
  have _ := ltb x1_1
  have X1_0 := hid x1_0; clear x1_0
  have X1_1 := hid x1_1; clear x1_1
  have G1 := hid (g1)
  clear hg1 g1
  go_wp2
  refine bodyPost_ret (v := fr (mkP a b k p q) (mkQ a b k p q)) (by simp [results, Tryz.results147, go_sem, *]) rfl ⟨rfl, ?_⟩
  exact ((G1.out).setCell (by simp <;> omega) _).setCell (by simp <;> omega) _
set_option maxRecDepth 20000 in
set_option maxHeartbeats 400000 in
theorem imark_b1 (a b : Int) (A : Option Addr) (c k : Nat) (xs : List (Int × Int)) (p q : Int) (w : World) (X : Hid (RdF w A xs)) (hk : xs[k]? = some (p, q)) (_hn : xs.length ≤ 1048576)
    (h1 : okB a b = true) (ht : okB k 1 = true) (g1 : n1B a b k = false) :
    Calls Tryz.prog 147 #[scl a b A xs.length c, .int .i64 k] w fun e w' => (∃ x y, e = .panicked [{ v := .iface 227 (fr x y), recovered := false }]) ∧ Gr w w' := by
  have hlt := (List.getElem?_eq_some_iff.1 hk).1
  obtain ⟨ad, rfl, c1, c2⟩ := X.out k p q hk
  have C1 := hid c1; have C2 := hid c2
  have h1 := hid h1; have ht := hid ht; have g1 := hid g1
  clear hk c1 c2
  go_enter Tryz.func147, Tryz.ntmps147
  go_wp2_with fail
  refine wp_regP 3 [9, 10] (by kernel_rfl) (by kernel_rfl) rfl ?_
  apply Exists.intro
  refine ⟨172, #[fr a b, .int .i64 k], fun wb hb => ?_, ?_⟩
  · obtain ⟨y0, y1, _, _⟩ := alloc2 (Gr.refl _)
    obtain ⟨_, _, _⟩ := hb.at3 y0
    obtain ⟨_, _⟩ := hb.at2 y1
    clear y0 y1
    have hg := ((((Gr.refl w).al _).al _).trans hb)
    have _ := hg.atF C1.out; have _ := hg.atF C2.out
    clear hg
    simp only [headOps, List.contains, List.elem, List.length_cons, List.length_nil, Nat.zero_add, Nat.reduceAdd, Nat.reduceBEq, reduceIte, Bool.false_eq_true, dumOp]
    repeat (first | go_big_quiet_step (first | (fail)) | quiet_step (fail))
    exact wpQuiet_nil rfl
  refine ⟨fun w' => by kernel_rfl, fun w' hg' => (itw_bad _ _ _ _ h1.out ht.out g1.out).mono fun e w2 ⟨⟨x, y, he⟩, hg2⟩ => ⟨_, he, fun a' ha' => ⟨ha', ⟨x, y, rfl⟩, ((((Gr.refl _).al _).al _).trans hg').trans hg2⟩⟩⟩
set_option maxRecDepth 20000 in
set_option maxHeartbeats 400000 in
theorem imark_b2 (a b : Int) (A : Option Addr) (c k : Nat) (xs : List (Int × Int)) (p q : Int) (w : World) (X : Hid (RdF w A xs)) (hk : xs[k]? = some (p, q)) (_hn : xs.length ≤ 1048576)
    (h1 : okB a b = true) (ht : okB k 1 = true) (h2 : okB p q = true) (g1 : n1B a b k = true) (g2 : mk2 a b k p q = false) :
    Calls Tryz.prog 147 #[scl a b A xs.length c, .int .i64 k] w fun e w' => (∃ x y, e = .panicked [{ v := .iface 227 (fr x y), recovered := false }]) ∧ Gr w w' := by
  have hlt := (List.getElem?_eq_some_iff.1 hk).1
  obtain ⟨ad, rfl, c1, c2⟩ := X.out k p q hk
  have C1 := hid c1; have C2 := hid c2
  have h1 := hid h1; have ht := hid ht; have h2 := hid h2; have g1 := hid g1; have g2 := hid g2
  clear hk c1 c2
  go_enter Tryz.func147, Tryz.ntmps147
  go_wp2_with fail
  refine wp_regP 9 [10] (by kernel_rfl) (by kernel_rfl) rfl ?_
  apply Exists.intro
  refine ⟨173, #[fr (n1P a b k) (n1Q a b k), fr p q], fun wb hb => ?_, ?_⟩
  · obtain ⟨y0, y1, _, _⟩ := alloc2 (Gr.refl _)
    obtain ⟨_, _, _⟩ := hb.at3 y0
    obtain ⟨_, _⟩ := hb.at2 y1
    clear y0 y1
    have hg := ((((Gr.refl w).al _).al _).trans hb)
    have _ := hg.atF C1.out; have _ := hg.atF C2.out
    clear hg
    simp only [headOps, List.contains, List.elem, List.length_cons, List.length_nil, Nat.zero_add, Nat.reduceAdd, Nat.reduceBEq, reduceIte, Bool.false_eq_true, dumOp]
    repeat (first | go_big_quiet_step (first | (go_at_call 172; exact Calls.of_gr (itw_ok _ _ _ _ h1.out ht.out g1.out))) | quiet_step (fail))
    exact wpQuiet_nil rfl
  refine ⟨fun w' => by kernel_rfl, fun w' hg' => (plus_no _ _ _ _ _ g1.out h2.out g2.out).mono fun e w2 ⟨⟨x, y, he⟩, hg2⟩ => ⟨_, he, fun a' ha' => ⟨ha', ⟨x, y, rfl⟩, ((((Gr.refl _).al _).al _).trans hg').trans hg2⟩⟩⟩
/-- Can a mark be told? -/
def mkB (a b k p q : Int) : Bool := n1B a b k && mk2 a b k p q
theorem imark_bad (a b : Int) (A : Option Addr) (c k : Nat) (xs : List (Int × Int)) (p q : Int) (w : World) (X : Hid (RdF w A xs)) (hk : xs[k]? = some (p, q)) (_hn : xs.length ≤ 1048576)
    (h1 : okB a b = true) (ht : okB k 1 = true) (h2 : okB p q = true) (g : mkB a b k p q = false) :
    Calls Tryz.prog 147 #[scl a b A xs.length c, .int .i64 k] w fun e w' => (∃ x y, e = .panicked [{ v := .iface 227 (fr x y), recovered := false }]) ∧ Gr w w' := by
  unfold mkB at g
  cases g1 : n1B a b k with
  | false => exact imark_b1 a b A c k xs p q w X hk _hn h1 ht g1
  | true =>
    rw [g1] at g
    exact imark_b2 a b A c k xs p q w X hk _hn h1 ht h2 g1 (by simpa using g)
theorem imark_yes (a b : Int) (A : Option Addr) (c k : Nat) (xs : List (Int × Int)) (p q : Int) (w : World) (X : Hid (RdF w A xs)) (hk : xs[k]? = some (p, q)) (_hn : xs.length ≤ 1048576)
    (h1 : okB a b = true) (ht : okB k 1 = true) (h2 : okB p q = true) (g : mkB a b k p q = true) :
    Calls Tryz.prog 147 #[scl a b A xs.length c, .int .i64 k] w fun e w' => e = .returned (fr (mkP a b k p q) (mkQ a b k p q)) ∧ Gr w w' := by
  unfold mkB at g
  simp only [Bool.and_eq_true] at g
  exact imark_ok a b A c k xs p q w X hk _hn h1 ht h2 g.1 g.2

set_option maxRecDepth 20000 in
set_option maxHeartbeats 400000 in
theorem smark_f1 (a b : Int) (A : Option Addr) (c k j : Nat) (xs : List (Int × Int)) (w : World) (X1 : Hid (w.heap[j]? = some (.cells #[.int .i64 a, .int .i64 b, .slice A xs.length c] 37)))
    (h1 : okB a b = true) (ht : okB k 1 = true) (g1 : n1B a b k = false) :
    Calls Tryz.prog 91 #[.pointer (some ⟨j, 0, none⟩), .int .i64 k] w fun e w' => e = .returned (.tuple #[fr 0 0, .int .i64 3]) ∧ Gr w w' := by
  have h1 := hid h1; have ht := hid ht; have g1 := hid g1
  go_enter Tryz.func91, Tryz.ntmps91
  obtain ⟨_, _, _⟩ := cells3 X1.out
  have _ := fz X1.out
  have _ := ltb X1.out
  go_wp2_with fail
  refine wp_reg1s #[.int .i64 0, .int .i64 0] 12 10 6 11 16 (by kernel_rfl) (by kernel_rfl) rfl rfl (by simp) rfl rfl (by decide) (fun _ _ => by kernel_rfl) (by kernel_rfl) ?_
  apply Exists.intro; apply Exists.intro
  refine ⟨fun wb hb => ?_, ?_⟩
  · obtain ⟨y0, _, _⟩ := alloc1 (Gr.refl _)
    obtain ⟨_, _⟩ := hb.at2 y0
    clear y0
    obtain ⟨_, _, _⟩ := hb.at3 (((Gr.refl _).al _).keep X1.out)
    simp only [headOps, List.contains, List.elem, Nat.reduceAdd, Nat.reduceBEq, reduceIte, Bool.false_eq_true, dumOp]
    repeat (first | go_big_quiet_step (first | (go_at_call 53; exact Calls.of_gr (swhole1 _ _)) | (go_at_call 126; exact Calls.of_gr (smul_f _ _ _ _ _ ht.out h1.out g1.out))) | quiet_step (fail))
    exact wpQuiet_nil rfl
  refine ⟨rfl, ⟨rfl, by simp [Value.oneCell']⟩, fun w1 b1 hg1 _ xb1 => ?_⟩
  obtain ⟨x1_0, hz1, g1⟩ := alloc1 hg1
  have x1_1 := g1.keep X1.out
  obtain ⟨_, _⟩ := cells2 x1_0
  have _ := fz x1_0
  have _ := ltb x1_0
  obtain ⟨_, _, _⟩ := cells3 x1_1
  have _ := fz x1_1
  have _ := ltb x1_1
  obtain ⟨_, _⟩ := cells2 xb1
  have _ := fz xb1
  have _ := ltb xb1
  have X1_0 := hid x1_0; clear x1_0
  have X1_1 := hid x1_1; clear x1_1
  have Xb1 := hid xb1; clear xb1
  have G1 := hid (g1)
  clear hg1 g1
  go_wp2
  refine bodyPost_ret (v := .tuple #[fr 0 0, .int .i64 3]) (by simp [results, Tryz.results91, go_sem, *]) rfl ⟨rfl, ?_⟩
  exact ((G1.out).setCell (by simp <;> omega) _).setCell (by simp <;> omega) _
set_option maxRecDepth 20000 in
set_option maxHeartbeats 400000 in
theorem smark_f2 (a b : Int) (A : Option Addr) (c k j : Nat) (xs : List (Int × Int)) (p q : Int) (w : World) (X1 : Hid (w.heap[j]? = some (.cells #[.int .i64 a, .int .i64 b, .slice A xs.length c] 37)))
    (X : Hid (RdF w A xs)) (hk : xs[k]? = some (p, q)) (_hn : xs.length ≤ 1048576) (h1 : okB a b = true) (ht : okB k 1 = true) (h2 : okB p q = true) (g1 : n1B a b k = true) (g2 : mk2 a b k p q = false) :
    Calls Tryz.prog 91 #[.pointer (some ⟨j, 0, none⟩), .int .i64 k] w fun e w' => e = .returned (.tuple #[fr 0 0, .int .i64 3]) ∧ Gr w w' := by
  have hlt := (List.getElem?_eq_some_iff.1 hk).1
  obtain ⟨ad, rfl, c1, c2⟩ := X.out k p q hk
  have C1 := hid c1; have C2 := hid c2
  have h1 := hid h1; have ht := hid ht; have h2 := hid h2; have g1 := hid g1; have g2 := hid g2
  clear hk c1 c2
  go_enter Tryz.func91, Tryz.ntmps91
  obtain ⟨_, _, _⟩ := cells3 X1.out
  have _ := fz X1.out
  have _ := ltb X1.out
  go_wp2_with fail
  refine wp_reg1s #[.int .i64 0, .int .i64 0] 12 10 6 11 16 (by kernel_rfl) (by kernel_rfl) rfl rfl (by simp) rfl rfl (by decide) (fun _ _ => by kernel_rfl) (by kernel_rfl) ?_
  apply Exists.intro; apply Exists.intro
  refine ⟨fun wb hb => ?_, ?_⟩
  · obtain ⟨y0, _, _⟩ := alloc1 (Gr.refl _)
    obtain ⟨_, _⟩ := hb.at2 y0
    clear y0
    obtain ⟨_, _, _⟩ := hb.at3 (((Gr.refl _).al _).keep X1.out)
    simp only [headOps, List.contains, List.elem, Nat.reduceAdd, Nat.reduceBEq, reduceIte, Bool.false_eq_true, dumOp]
    repeat (first | go_big_quiet_step (first | (go_at_call 53; exact Calls.of_gr (swhole1 _ _)) | (go_at_call 126; exact Calls.of_gr (mulw_t a b k _ h1.out ht.out g1.out))) | quiet_step (fail))
    exact wpQuiet_nil rfl
  refine ⟨rfl, ⟨rfl, by simp [Value.oneCell']⟩, fun w1 b1 hg1 _ xb1 => ?_⟩
  obtain ⟨x1_0, hz1, g1⟩ := alloc1 hg1
  have x1_1 := g1.keep X1.out
  obtain ⟨_, _⟩ := cells2 x1_0
  have _ := fz x1_0
  have _ := ltb x1_0
  obtain ⟨_, _, _⟩ := cells3 x1_1
  have _ := fz x1_1
  have _ := ltb x1_1
  obtain ⟨_, _⟩ := cells2 xb1
  have _ := fz xb1
  have _ := ltb xb1
  have X1_0 := hid x1_0; clear x1_0
  have X1_1 := hid x1_1; clear x1_1
  have Xb1 := hid xb1; clear xb1
  have G1 := hid (g1)
  clear hg1 g1
  go_wp2_with fail
  refine wp_reg0 11 (by kernel_rfl) (by kernel_rfl) ?_
  apply Exists.intro
  refine ⟨fun wb hb => ?_, ?_⟩
  · obtain ⟨_, _⟩ := hb.at2 X1_0.out
    obtain ⟨_, _, _⟩ := hb.at3 X1_1.out
    obtain ⟨_, _⟩ := hb.at2 Xb1.out
    have hg := G1.out.trans hb
    have _ := hg.atF C1.out; have _ := hg.atF C2.out
    clear hg
    simp only [headOps, List.contains, List.elem, reduceIte, Bool.false_eq_true]
    repeat (first | go_big_quiet_step (first | (go_at_call 127; exact Calls.of_gr (saddm_f a b k p q _ h2.out g1.out g2.out))) | quiet_step (fail))
    exact wpQuiet_nil rfl
  intro w2 hg2
  have x2_1 := hg2.keep X1_0.out
  have x2_2 := hg2.keep X1_1.out
  have x2_3 := hg2.keep Xb1.out
  obtain ⟨_, _⟩ := cells2 x2_1
  have _ := fz x2_1
  have _ := ltb x2_1
  obtain ⟨_, _, _⟩ := cells3 x2_2
  have _ := fz x2_2
  have _ := ltb x2_2
  obtain ⟨_, _⟩ := cells2 x2_3
  have _ := fz x2_3
  have _ := ltb x2_3
  have X2_1 := hid x2_1; clear x2_1
  have X2_2 := hid x2_2; clear x2_2
  have X2_3 := hid x2_3; clear x2_3
  have G2 := hid (G1.out.trans hg2)
  clear hg2
  go_wp2
  refine bodyPost_ret (v := .tuple #[fr 0 0, .int .i64 3]) (by simp [results, Tryz.results91, go_sem, *]) rfl ⟨rfl, ?_⟩
  exact ((G2.out).setCell (by simp <;> omega) _).setCell (by simp <;> omega) _
set_option maxRecDepth 20000 in
set_option maxHeartbeats 400000 in
theorem smark_t (a b : Int) (A : Option Addr) (c k j : Nat) (xs : List (Int × Int)) (p q : Int) (w : World) (X1 : Hid (w.heap[j]? = some (.cells #[.int .i64 a, .int .i64 b, .slice A xs.length c] 37)))
    (X : Hid (RdF w A xs)) (hk : xs[k]? = some (p, q)) (_hn : xs.length ≤ 1048576) (h1 : okB a b = true) (ht : okB k 1 = true) (h2 : okB p q = true) (g1 : n1B a b k = true) (g2 : mk2 a b k p q = true) :
    Calls Tryz.prog 91 #[.pointer (some ⟨j, 0, none⟩), .int .i64 k] w fun e w' => e = .returned (.tuple #[fr (mkP a b k p q) (mkQ a b k p q), .int .i64 0]) ∧ Gr w w' := by
  have hlt := (List.getElem?_eq_some_iff.1 hk).1
  obtain ⟨ad, rfl, c1, c2⟩ := X.out k p q hk
  have C1 := hid c1; have C2 := hid c2
  have h1 := hid h1; have ht := hid ht; have h2 := hid h2; have g1 := hid g1; have g2 := hid g2
  clear hk c1 c2
  go_enter Tryz.func91, Tryz.ntmps91
  obtain ⟨_, _, _⟩ := cells3 X1.out
  have _ := fz X1.out
  have _ := ltb X1.out
  go_wp2_with fail
  refine wp_reg1s #[.int .i64 0, .int .i64 0] 12 10 6 11 16 (by kernel_rfl) (by kernel_rfl) rfl rfl (by simp) rfl rfl (by decide) (fun _ _ => by kernel_rfl) (by kernel_rfl) ?_
  apply Exists.intro; apply Exists.intro
  refine ⟨fun wb hb => ?_, ?_⟩
  · obtain ⟨y0, _, _⟩ := alloc1 (Gr.refl _)
    obtain ⟨_, _⟩ := hb.at2 y0
    clear y0
    obtain ⟨_, _, _⟩ := hb.at3 (((Gr.refl _).al _).keep X1.out)
    simp only [headOps, List.contains, List.elem, Nat.reduceAdd, Nat.reduceBEq, reduceIte, Bool.false_eq_true, dumOp]
    repeat (first | go_big_quiet_step (first | (go_at_call 53; exact Calls.of_gr (swhole1 _ _)) | (go_at_call 126; exact Calls.of_gr (mulw_t a b k _ h1.out ht.out g1.out))) | quiet_step (fail))
    exact wpQuiet_nil rfl
  refine ⟨rfl, ⟨rfl, by simp [Value.oneCell']⟩, fun w1 b1 hg1 _ xb1 => ?_⟩
  obtain ⟨x1_0, hz1, g1⟩ := alloc1 hg1
  have x1_1 := g1.keep X1.out
  obtain ⟨_, _⟩ := cells2 x1_0
  have _ := fz x1_0
  have _ := ltb x1_0
  obtain ⟨_, _, _⟩ := cells3 x1_1
  have _ := fz x1_1
  have _ := ltb x1_1
  obtain ⟨_, _⟩ := cells2 xb1
  have _ := fz xb1
  have _ := ltb xb1
  have X1_0 := hid x1_0; clear x1_0
  have X1_1 := hid x1_1; clear x1_1
  have Xb1 := hid xb1; clear xb1
  have G1 := hid (g1)
  clear hg1 g1
  go_wp2_with fail
  refine wp_reg0 11 (by kernel_rfl) (by kernel_rfl) ?_
  apply Exists.intro
  refine ⟨fun wb hb => ?_, ?_⟩
  · obtain ⟨_, _⟩ := hb.at2 X1_0.out
    obtain ⟨_, _, _⟩ := hb.at3 X1_1.out
    obtain ⟨_, _⟩ := hb.at2 Xb1.out
    have hg := G1.out.trans hb
    have _ := hg.atF C1.out; have _ := hg.atF C2.out
    clear hg
    simp only [headOps, List.contains, List.elem, reduceIte, Bool.false_eq_true]
    repeat (first | go_big_quiet_step (first | (go_at_call 127; exact Calls.of_gr (saddm_t a b k p q _ h2.out g1.out g2.out))) | quiet_step (fail))
    exact wpQuiet_nil rfl
  intro w2 hg2
  have x2_1 := hg2.keep X1_0.out
  have x2_2 := hg2.keep X1_1.out
  have x2_3 := hg2.keep Xb1.out
  obtain ⟨_, _⟩ := cells2 x2_1
  have _ := fz x2_1
  have _ := ltb x2_1
  obtain ⟨_, _, _⟩ := cells3 x2_2
  have _ := fz x2_2
  have _ := ltb x2_2
  obtain ⟨_, _⟩ := cells2 x2_3
  have _ := fz x2_3
  have _ := ltb x2_3
  have X2_1 := hid x2_1; clear x2_1
  have X2_2 := hid x2_2; clear x2_2
  have X2_3 := hid x2_3; clear x2_3
  have G2 := hid (G1.out.trans hg2)
  clear hg2
  go_wp2
  refine bodyPost_ret (v := .tuple #[fr (mkP a b k p q) (mkQ a b k p q), .int .i64 0]) (by simp [results, Tryz.results91, go_sem, *]) rfl ⟨rfl, ?_⟩
  exact ((G2.out).setCell (by simp <;> omega) _).setCell (by simp <;> omega) _
end Go.Proofs.YtgfopfomhgfcaaaGreatDoor
namespace Go.Proofs.YtgfopfomhgfcaaaGreatDoor
open Go.RowKit Go.Sort Go.Shelf
attribute [local go_sem] Oper.semAt_some wide_fn

/-- All marks of a scale. -/
def mks (a b : Int) (xs : List (Int × Int)) : List (Int × Int) := xs.mapIdx fun k x => (mkP a b k x.1 x.2, mkQ a b k x.1 x.2)
theorem mks_len (a b : Int) (xs : List (Int × Int)) : (mks a b xs).length = xs.length := by simp [mks]
theorem mks_get {a b : Int} {xs : List (Int × Int)} {k : Nat} {p q : Int} (h : xs[k]? = some (p, q)) : (mks a b xs)[k]? = some (mkP a b k p q, mkQ a b k p q) := by
  simp [mks, h]
def encF (l : List (Int × Int)) (k : Nat) : Array Value := #[fr (l.getD k (0, 0)).1 (l.getD k (0, 0)).2]
theorem encF_mks {a b : Int} {xs : List (Int × Int)} {k : Nat} {p q : Int} (h : xs[k]? = some (p, q)) : encF (mks a b xs) k = #[fr (mkP a b k p q) (mkQ a b k p q)] := by
  unfold encF
  rw [List.getD_eq_getElem?_getD, mks_get h]
  rfl
def TooGreat (ch : List PanicEntry) : Prop := ∃ x y, ch = [{ v := .iface 227 (fr x y), recovered := false }]
/-- Can all marks be told? -/
def AllMk (a b : Int) (xs : List (Int × Int)) : Prop := ∀ (k : Nat) (p q : Int), xs[k]? = some (p, q) → mkB a b k p q = true
set_option maxRecDepth 100000 in
set_option maxHeartbeats 2000000 in
theorem marks_hands (n : Nat) (hn : 1 ≤ n) (a b : Int) (A : Option Addr) (c Bs : Nat) (xs : List (Int × Int)) (I : Nat → World → Prop) (w : World) (hl : xs.length ≤ 60) (h1 : okB a b = true) (hx : xs.all (fun x => okB x.1 x.2) = true)
    (hI : ∀ k W, I k W → W.heap[Bs]? = some (.cells #[.int .i64 a, .int .i64 b, .slice A xs.length c] 37) ∧ RdF W A xs) (S : Option (List PanicEntry → Prop))
    (hS : (S = none ∧ AllMk a b xs) ∨ (S = some TooGreat ∧ ¬ AllMk a b xs)) :
    Hands Fence.wide n Tryz.prog 146 #[.pointer (some ⟨Bs, 0, none⟩)] (encF (mks a b xs)) xs.length I S w := by
  intro l J W1 _ hJg hJI hY h0
  have HX := hid hx; have H1 := hid h1; have HY := hid hY; have HJG := hid hJg; have HS := hid hS
  have HI := hid (fun k W h => hI k W (hJI k W h))
  clear hx h1 hY hJg hJI hI hS
  have hb0 := (HI.out 0 W1 h0).1
  obtain ⟨_, _, _⟩ := cells3 hb0
  refine callsIn_of_wp Tryz.func146 rfl trivial ?_ rfl
  simp only [Tryz.ntmps146, List.size_toArray, List.length_cons, List.length_nil, Nat.reduceAdd, Nat.reduceSub, Array.replicate_succ, Array.replicate_zero, List.push_toArray, List.append_toArray, List.nil_append, List.cons_append]
  gi_wp2
  gi_loopw [7] (fun u wr => ∃ k : Nat, k ≤ xs.length ∧ u = .int .i64 k ∧ J k wr ∧ ∀ (i : Nat) (p q : Int), i < k → xs[i]? = some (p, q) → mkB a b i p q = true)
    (fun u _ => xs.length - (intOf u).toNat)
  case atStart => exact ⟨0, Nat.zero_le _, rfl, h0, fun i p q h => by omega⟩
  case round =>
    obtain ⟨k, hk, rfl, hJ, hall⟩ := hrel
    obtain ⟨hb1, hr1⟩ := HI.out k wr hJ
    obtain ⟨_, _, _⟩ := cells3 hb1
    have HJ := hid hJ; have HALL := hid hall; have HR := hid hr1
    clear hJ hall hr1
    by_cases hlt : k < xs.length
    · obtain ⟨⟨p, q⟩, hpq⟩ : ∃ pq, xs[k]? = some pq := ⟨xs[k], List.getElem?_eq_getElem _⟩
      have HPQ := hid hpq
      have ht := hid (ok_whole (t := k) (by omega) (by omega))
      have h2 := hid (all_get hpq HX.out)
      clear hpq
      cases hm : mkB a b k p q with
      | true =>
        have HM := hid hm; clear hm
        gi_wp2_with fail
        refine (callsIn_wide.2 (imark_yes a b A c k xs p q _ HR HPQ.out (by omega) H1.out ht.out h2.out HM.out)).mono ?_
        rintro e w2 ⟨rfl, hg2⟩
        have hJ2 := HJG.out k _ _ HJ.out hg2
        obtain ⟨fn, tmps, assign, body, hy, hR⟩ := HY.out k w2 hJ2 hlt
        rw [encF_mks HPQ.out] at hy
        clear hg2 hJ2
        gi_wp2
        refine hR.mono ?_
        rintro e W3 ⟨rfl, hJ3⟩
        gi_wp2
        go_roundw
        case rel => exact ⟨k + 1, by omega, by simp, hJ3, fun i p' q' hi hp' => by
          by_cases he : i = k
          · subst he
            have := HPQ.out
            rw [hp'] at this
            cases this
            exact HM.out
          · exact HALL.out i p' q' (by omega) hp'⟩
        case measure => simp [intOf]; omega
      | false =>
        have HM := hid hm; clear hm
        gi_wp2_with fail
        refine (callsIn_wide.2 (imark_bad a b A c k xs p q _ HR HPQ.out (by omega) H1.out ht.out h2.out HM.out)).mono ?_
        rintro e w2 ⟨⟨x, y, rfl⟩, hg2⟩
        have hbad : ¬ AllMk a b xs := fun h => by have := h k p q HPQ.out; rw [HM.out] at this; cases this
        rcases HS.out with ⟨_, h⟩ | ⟨rfl, _⟩
        · exact absurd h hbad
        · exact ⟨rfl, _, k, rfl, ⟨x, y, rfl⟩, HJG.out k _ _ HJ.out hg2⟩
    · obtain rfl : k = xs.length := by omega
      have hok : AllMk a b xs := fun k p q h => HALL.out k p q (List.getElem?_eq_some_iff.1 h).1 h
      gi_wp2
      go_end0
      rcases HS.out with ⟨rfl, _⟩ | ⟨_, h⟩
      · exact ⟨⟨_, rfl⟩, HJ.out⟩
      · exact absurd hok h
end Go.Proofs.YtgfopfomhgfcaaaGreatDoor
namespace Go.Proofs.YtgfopfomhgfcaaaGreatDoor
open Go.RowKit Go.Sort Go.Shelf
attribute [local go_sem] Oper.semAt_some wide_fn

/-- The box of a slice that owns the first k of L. -/
def Boxed2 (w0 : World) (B : Nat) (L : List (Int × Int)) (k : Nat) (W : World) : Prop :=
  Gr w0 W ∧ ∃ v, W.heap[B]? = some (.cells #[v] 35) ∧ W.ownsRow w0.heap.size 34 2 v k (flatL (L.take k))
theorem flatL_append (xs ys : List (Int × Int)) : flatL (xs ++ ys) = flatL xs ++ flatL ys := by simp [flatL]
theorem flatL_one (p q : Int) : flatL [(p, q)] = [.int .i64 p, .int .i64 q] := by simp [flatL]
theorem own_keep {W W' : World} {v : Value} {k : Nat} {xs : List Value} {e : TypeId} {sz base : Nat} (h : W.ownsRow base e sz v k xs) (hg : Gr W W') : W'.ownsRow base e sz v k xs := by
  refine ⟨h.1, ?_⟩
  rcases h.2 with h | ⟨g, cap, cur, h1, h2, h3, h4⟩
  · exact .inl h
  · exact .inr ⟨g, cap, cur, h1, h2, hg.keep h3, h4⟩
theorem own_put {W : World} {v : Value} {k : Nat} {xs : List Value} {e : TypeId} {sz base : Nat} (h : W.ownsRow base e sz v k xs) {r : Nat} {o : Obj} (o' : Obj) (hr : W.heap[r]? = some o) (hc : o.isCells = false) : (W.putObj r o').ownsRow base e sz v k xs := by
  refine ⟨h.1, ?_⟩
  rcases h.2 with h | ⟨g, cap, cur, h1, h2, h3, h4⟩
  · exact .inl h
  · refine .inr ⟨g, cap, cur, h1, h2, (World.putObj_heap_other ?_).trans h3, h4⟩
    rintro rfl
    rw [h3] at hr
    cases hr
    cases hc
theorem heap_put {W : World} {b r : Nat} {cs : Array Value} {T : TypeId} {o : Obj} (o' : Obj) (h : W.heap[b]? = some (.cells cs T)) (hr : W.heap[r]? = some o) (hc : o.isCells = false) : (W.putObj r o').heap[b]? = some (.cells cs T) := by
  refine (World.putObj_heap_other ?_).trans h
  rintro rfl
  rw [h] at hr
  cases hr
  cases hc
/-- What is collected of a function that hands over L. -/
def seqPost (S : Option (List PanicEntry → Prop)) (L : List (Int × Int)) (w : World) (e : Ending) (w' : World) : Prop :=
  match S with
  | none => ∃ v, e = .returned v ∧ w'.ownsRow w.heap.size 34 2 v L.length (flatL L) ∧ Gr w w'
  | some S => ∃ ch, e = .panicked ch ∧ S ch ∧ Gr w w'
set_option maxRecDepth 100000 in
set_option maxHeartbeats 2000000 in
theorem appendSeq_any (gf : Nat) (lb : Array Value) (L : List (Int × Int)) (S : Option (List PanicEntry → Prop)) (w : World) (hN : L.length ≤ 64) (eg : ∀ args w, (callFunc gf args).run Tryz.prog w = .ok (.enter gf args) w)
    (hH : ∀ (I : Nat → World → Prop) (w1 : World), Gr w w1 → (∀ k W, I k W → Gr w W) → Hands Fence.wide 4 Tryz.prog gf lb (encF L) L.length I S w1) :
    Calls Tryz.prog 145 #[.slice none 0 0, .func (.func gf) #[] lb] w (seqPost S L w) := by
  have HH := hid hH; have EG := hid eg; clear hH eg
  obtain ⟨i0, hi, hz0, hz1, hz2⟩ : ∃ i, Tryz.prog.info? 34 = some i ∧ i.zero = some (fr 0 0) ∧ i.size = 2 ∧ i.bytes = 16 := ⟨_, rfl, rfl, rfl, rfl⟩
  have HI0 := hid hi
  clear hi
  refine (callsIn_wide (n := 5)).1 (callsIn_of_wp_marks Tryz.func145 rfl trivial ?_ rfl)
  simp only [Tryz.ntmps145, List.size_toArray, List.length_cons, List.length_nil, Nat.reduceAdd, Nat.reduceSub, Array.replicate_succ, Array.replicate_zero, List.push_toArray, List.append_toArray, List.nil_append, List.cons_append]
  gi_wp2
  refine wpIn_rangeFunc_gr rfl (by omega) (gf := gf) (lb := lb) rfl trivial EG.out (Boxed2 w w.heap.size L) (HH.out _ _ (Gr.alloc _ _) (fun k W h => h.1)) (fun _ => rfl) ?_ ?_ ?_ ?round ?done ?pan
  · rintro k W W' ⟨hg, v, hb, ho⟩ hg'
    exact ⟨hg.trans hg', v, hg'.keep hb, own_keep ho hg'⟩
  · rintro k W r o o' ⟨hg, v, hb, ho⟩ hr hc hge
    exact ⟨hg.putObj (by simp at hge; omega) _, v, heap_put _ hb hr hc, own_put ho _ hr hc⟩
  · exact ⟨Gr.alloc _ _, _, (alloc1 (Gr.refl _)).1, ⟨by simp [flatL], .inl ⟨rfl, rfl⟩⟩⟩
  case round =>
    rintro l k W ⟨hg, v, hb, ho⟩ hk hsz
    obtain ⟨⟨p, q⟩, hpq⟩ : ∃ pq, L[k]? = some pq := ⟨L[k], List.getElem?_eq_getElem _⟩
    have he : encF L k = #[fr p q] := by unfold encF; rw [List.getD_eq_getElem?_getD, hpq]; rfl
    rw [he]
    simp only [List.zip_toArray, List.zip_cons_cons, List.zip_nil_right, List.foldl_toArray, List.foldl_cons, List.foldl_nil]
    have HG := hid hg; have HB := hid hb; have HO := hid ho; have HPQ := hid hpq
    clear hg hb ho hpq he
    gi_wp2
    refine ⟨KeepsOthers.alloc _ _, fun o o' ho hc => ?_⟩
    simp only [World.size_alloc] at hsz ho ⊢
    obtain ⟨Wb, hWb⟩ : ∃ Wb, (W.alloc (.cells #[.int .i64 p, .int .i64 q] 34)).putObj (w.heap.size + 1 + 1) o' = Wb := ⟨_, rfl⟩
    have hgb : Gr w Wb := by rw [← hWb]; exact (HG.out.al _).putObj (by omega) _
    have hvb : Wb.heap[W.heap.size]? = some (.cells #[.int .i64 p, .int .i64 q] 34) := by rw [← hWb]; exact heap_put _ (alloc1 (Gr.refl _)).1 ho hc
    have hbb : Wb.heap[w.heap.size]? = some (.cells #[v] 35) := by rw [← hWb]; exact heap_put _ (((Gr.refl _).al _).keep HB.out) ho hc
    have hob : Wb.ownsRow w.heap.size 34 2 v k (flatL (L.take k)) := by rw [← hWb]; exact own_put (own_keep HO.out (Gr.alloc _ _)) _ ho hc
    rw [hWb]
    clear hWb ho hc
    obtain ⟨_, _⟩ := cells2 hvb
    have _ := cells1 hbb
    have _ := fz hbb
    have hbl := ltb hbb
    have hvl := ltb hvb
    have HGB := hid hgb; have HBB := hid hbb; have HOB := hid hob; have HVB := hid hvb
    clear hgb hbb hob hvb
    gi_wp2_with (gi_at_builtin; refine wpListIn_append_gr rfl _ _ 35 rfl w.heap.size 34 i0 (fr 0 0) 2 16 Tryz.underlying35 HI0.out hz0 hz1 hz2 rfl (by decide) _ _ _ rfl (own_keep HOB.out (Gr.alloc _ _)) ⟨Wb.heap.size, 0, none⟩ 1 1 [.int .i64 p, .int .i64 q] rfl rfl ?_ ?_ (by decide) ?_ ?_ ?_ ?_)
    · intro j u hj
      have hnew := (alloc1 (A := .cells #[.int .i64 p, .int .i64 q] 34) (w := Wb) (Gr.refl _)).1
      obtain ⟨n0, n1⟩ := cells2 hnew
      match j with
      | 0 => simp at hj; subst hj; exact n0
      | 1 => simp at hj; subst hj; exact n1
      | j + 2 => simp at hj
    · intro u hu
      simp at hu
      rcases hu with rfl | rfl <;> rfl
    · unfold maxLen; omega
    · omega
    · simp; omega
    · intro v' w' hown' hgrow _ hgr
      obtain ⟨g', cap', cur', rfl, hbase', hgb', _⟩ : ∃ g' cap' cur', v' = .slice (some ⟨g', 0, none⟩) (k + 1) cap' ∧ w.heap.size ≤ g' ∧ w'.heap[g']? = some (.cells cur' 34 (0, 0)) ∧ k + 1 ≤ cap' := by
        rcases hown'.2 with ⟨_, h0⟩ | ⟨g', cap', cur', h1, h2, h3, h4, _⟩
        · exact absurd h0 (by omega)
        · exact ⟨g', cap', cur', h1, h2, h3, h4⟩
      have hrow : ∀ (j : Nat) (o : Obj), v.ownBlock = some j → (Wb.alloc (.cells #[.int .i64 p, .int .i64 q] 34)).heap[j]? = some o → ∃ cur, o = .cells cur 34 (0, 0) := by
        intro j o hj ho
        rcases (own_keep HOB.out (Gr.alloc _ (.cells #[.int .i64 p, .int .i64 q] 34))).2 with ⟨rfl, _⟩ | ⟨g, cap, cur, rfl, _, hgb, _⟩
        · simp [Value.ownBlock] at hj
        · have : g = j := by simpa [Value.ownBlock] using hj
          subst this
          rw [hgb] at ho
          exact ⟨cur, (Option.some.inj ho).symm⟩
      have hbw : w'.heap[w.heap.size]? = some (.cells #[v] 35) := by
        have h0 : (Wb.alloc (.cells #[.int .i64 p, .int .i64 q] 34)).heap[w.heap.size]? = some (.cells #[v] 35) := (Gr.alloc _ _).keep HBB.out
        refine (hgrow.block w.heap.size (ltb h0) ?_).trans h0
        intro e
        obtain ⟨cur, hc⟩ := hrow _ _ e.symm h0
        cases hc
      have hg3 := hgr w (HGB.out.al _) (Nat.le_refl _)
      have hko : KeepsOthers Wb w' := (KeepsOthers.alloc _ _).trans (KeepsOthers.of_grownBy hgrow (fun j o hj ho => by obtain ⟨cur, rfl⟩ := hrow j o hj ho; rfl))
      have _ := cells1 hbw
      have _ := fz hbw
      have hne : g' ≠ w.heap.size := by
        rintro rfl
        rw [hgb'] at hbw
        cases hbw
      have HOWN := hid hown'; have HBW := hid hbw; have HG3 := hid hg3; have HKO := hid hko
      clear hown' hgrow hgr hrow hbw hg3 hko hgb'
      gi_wp2
      refine ⟨HKO.out.trans (KeepsOthers.setCell _ _ _), HG3.out.setCell (by simp) _, _, by simpa using Joins.block_setCell (i := 0) HBW.out (.slice (some ⟨g', 0, none⟩) (k + 1) cap'), ?_⟩
      rw [List.take_add_one, HPQ.out, Option.toList_some, flatL_append, flatL_one]
      refine ⟨HOWN.out.1, ?_⟩
      rcases HOWN.out.2 with h | ⟨g2, cap2, cur2, h1, h2, h3, h4⟩
      · exact .inl h
      · refine .inr ⟨g2, cap2, cur2, h1, h2, ?_, h4⟩
        have : g' = g2 := by injection h1 with e1; injection e1 with e2; injection e2
        subst this
        exact keepSet' h3 hne
  case done =>
    rintro W rfl ⟨hg, v, hb, ho⟩ hD
    have _ := cells1 hb
    have hne : w.heap.size < w.heap.size + 1 := by omega
    rw [List.take_length] at ho
    have HG := hid hg; have HO := hid ho; have HD := hid hD
    clear hg hb ho hD
    gi_wp2
    refine ⟨by simp, .inl ⟨_, _, rfl, run_takeDeferred HD.out, ?_⟩⟩
    exact ⟨_, results_tmp rfl _ _ _, _, rfl, own_put HO.out _ HD.out rfl, HG.out.putObj (by simp) _⟩
  case pan =>
    rintro S' ch k W rfl hch ⟨hg, v, hb, ho⟩ hD
    refine ⟨by simp, .inl ⟨_, _, rfl, run_takeDeferred hD, ?_⟩⟩
    exact ⟨ch, rfl, hch, hg.putObj (by simp) _⟩
end Go.Proofs.YtgfopfomhgfcaaaGreatDoor
namespace Go.Proofs.YtgfopfomhgfcaaaGreatDoor
open Go.RowKit Go.Sort

theorem collect_any (gf : Nat) (lb : Array Value) (L : List (Int × Int)) (S : Option (List PanicEntry → Prop)) (w : World) (hN : L.length ≤ 64) (eg : ∀ args w, (callFunc gf args).run Tryz.prog w = .ok (.enter gf args) w)
    (hH : ∀ (I : Nat → World → Prop) (w1 : World), Gr w w1 → (∀ k W, I k W → Gr w W) → Hands Fence.wide 4 Tryz.prog gf lb (encF L) L.length I S w1) :
    Calls Tryz.prog 114 #[.func (.func gf) #[] lb] w (seqPost S L w) := by
  have HA := hid (appendSeq_any gf lb L S w hN eg hH)
  clear hH eg
  go_enter Tryz.func114, Tryz.ntmps114
  go_wp2_with fail
  refine HA.out.mono ?_
  intro e w1 hp
  cases S with
  | none =>
    obtain ⟨v, rfl, ho, hg⟩ := hp
    have HO := hid ho; have HG := hid hg; clear ho hg
    go_wp2_with fail
    go_ret
    exact ⟨_, rfl, HO.out, HG.out⟩
  | some S' =>
    obtain ⟨ch, rfl, hS, hg⟩ := hp
    exact ⟨rfl, ch, rfl, hS, hg⟩
set_option maxHeartbeats 400000 in
theorem imarks (a b : Int) (A : Option Addr) (n c : Nat) (w : World) :
    Calls Tryz.prog 115 #[scl a b A n c] w fun e w' => e = .returned (.func (.func 146) #[] #[.pointer (some ⟨w.heap.size, 0, none⟩)]) ∧ w'.heap[w.heap.size]? = some (.cells #[.int .i64 a, .int .i64 b, .slice A n c] 37) ∧ Gr w w' := by
  go_enter Tryz.func115, Tryz.ntmps115
  go_wp2_with fail
  go_ret
  exact ⟨rfl, (alloc1 (Gr.refl _)).1, Gr.alloc _ _⟩
set_option maxRecDepth 20000 in
set_option maxHeartbeats 400000 in
theorem iallMarks (a b : Int) (A : Option Addr) (c k : Nat) (xs : List (Int × Int)) (w : World) (X1 : Hid (w.heap[k]? = some (.cells #[.int .i64 a, .int .i64 b, .slice A xs.length c] 37))) (X : Hid (RdF w A xs)) (hl : xs.length ≤ 60) (h1 : okB a b = true) (hx : xs.all (fun x => okB x.1 x.2) = true)
    (S : Option (List PanicEntry → Prop)) (hS : (S = none ∧ AllMk a b xs) ∨ (S = some TooGreat ∧ ¬ AllMk a b xs)) :
    Calls Tryz.prog 113 #[.pointer (some ⟨k, 0, none⟩)] w (seqPost S (mks a b xs) w) := by
  have hC : ∀ w1, Gr w w1 → w1.heap[w.heap.size]? = some (.cells #[.int .i64 a, .int .i64 b, .slice A xs.length c] 37) → Calls Tryz.prog 114 #[.func (.func 146) #[] #[.pointer (some ⟨w.heap.size, 0, none⟩)]] w1 (seqPost S (mks a b xs) w1) := fun w1 hg hb =>
    collect_any _ _ _ _ _ (by rw [mks_len]; omega) (fun _ _ => by kernel_rfl) (fun I w2 hg2 hI => by
      rw [mks_len]
      exact marks_hands 4 (by omega) a b A c w.heap.size xs I w2 hl h1 hx (fun k W h => ⟨(hI k W h).keep hb, X.out.keep (hg.trans (hI k W h))⟩) S hS)
  have HC := hid hC
  clear hC hx hS
  go_enter Tryz.func113, Tryz.ntmps113
  obtain ⟨_, _, _⟩ := cells3 X1.out
  have _ := fz X1.out
  have _ := ltb X1.out
  go_wp2_with fail
  refine (imarks a b A xs.length c _).mono ?_
  rintro e w1 ⟨rfl, xb, hg⟩
  have XB := hid xb; have G1 := hid hg
  clear xb hg
  go_wp2_with fail
  refine (HC.out w1 G1.out XB.out).mono ?_
  intro e w2 hp
  cases S with
  | none =>
    obtain ⟨v, rfl, ho, hg⟩ := hp
    have HO := hid ho; have HG := hid hg; clear ho hg
    go_wp2_with fail
    go_ret
    refine ⟨_, rfl, ?_, G1.out.trans HG.out⟩
    refine ⟨HO.out.1, ?_⟩
    rcases HO.out.2 with h | ⟨g, cap, cur, h1, h2, h3⟩
    · exact .inl h
    · exact .inr ⟨g, cap, cur, h1, Nat.le_trans G1.out.size h2, h3⟩
  | some S' =>
    obtain ⟨ch, rfl, hS, hg⟩ := hp
    exact ⟨rfl, ch, rfl, hS, G1.out.trans hg⟩
set_option maxHeartbeats 400000 in
theorem catch_idle_L (p : Addr) (w : World) :
    CallsD Tryz.prog 144 #[.pointer (some p)] .returning w fun e u' w' => e = .returned (.tuple #[]) ∧ u' = .returning ∧ w' = w := by
  have h1 : ∀ w, (Instr.typeAssert .nilIface 20 198 true).run Tryz.prog w = .ok (.tuple #[.nilIface, .bool false]) w := fun _ => by kernel_rfl
  refine callsD_of_wpS Tryz.func144 rfl fun c₀ cs hu => ?_
  apply wpS_seq
  apply wpS_region
  simp [wpOpsS, go_sem, recoverD, hu, Tryz.ntmps144, Exit.thenS, ↓h1]
  apply wpS_of_wp
  go_wp2
  cases c₀
  simp_all [bodyPostS, results, Tryz.results144]
set_option maxHeartbeats 400000 in
theorem catch_great_L (b : Nat) (x y : Int) (w : World) (c : Int) (T : TypeId) (hc : w.heap[b]? = some (.cells #[.int .i64 c] T)) :
    CallsD Tryz.prog 144 #[.pointer (some ⟨b, 0, none⟩)] (.panicking [{ v := .iface 227 (fr x y), recovered := false }]) w fun e u' w' =>
      e = .returned (.tuple #[]) ∧ u' = .panicking [{ v := .iface 227 (fr x y), recovered := true }] ∧ ∃ w1, Gr w w1 ∧ w' = w1.setCell ⟨b, 0, none⟩ (.int .i64 3) := by
  have h1 : ∀ x w, (Instr.typeAssert (.iface 227 x) 20 198 true).run Tryz.prog w = .ok (.tuple #[.iface 227 x, .bool true]) w := fun _ _ => by kernel_rfl
  refine callsD_of_wpS Tryz.func144 rfl fun c₀ cs hu => ?_
  apply wpS_seq
  apply wpS_region
  simp [wpOpsS, go_sem, recoverD, hu, Tryz.ntmps144, Exit.thenS, ↓h1, Array.replicate, List.replicate]
  apply wpS_of_wp
  clear hu h1
  have HC := hid hc; clear hc
  go_wp2_with (go_at_call 220; refine (code_great _ _ _).mono ?_; rintro e w1 ⟨rfl, hg⟩; have hb := hg.keep HC.out; have f0 := fz hb; have c0 := cells1 hb; have HG := hid hg; clear hg hb)
  cases c₀
  simp [bodyPostS, results, Tryz.results144]
  exact ⟨w1, HG.out, rfl⟩
set_option maxRecDepth 20000 in
set_option maxHeartbeats 400000 in
theorem told_ok_L (f : Nat) (cap : Array Value) (R : Value → World → Prop) (hRs : ∀ v W (b : Nat) x, R v W → W.heap[b]? = some (.cells #[x] 2) → ∀ y, R v (W.setCell ⟨b, 0, none⟩ y)) (w : World) (hen : ∀ w, (callFunc f cap).run Tryz.prog w = .ok (.enter f cap) w) (hF : ∀ w', Gr w w' → Calls Tryz.prog f cap w' fun e w'' => ∃ v, e = .returned v ∧ R v w'' ∧ Gr w' w'') :
    Calls Tryz.prog 112 #[.func (.func f) #[] cap] w fun e w' => ∃ v, e = .returned (.tuple #[v, .int .i64 0]) ∧ R v w' ∧ Gr w w' := by
  have HF := hid hF; clear hF
  have HRS := hid hRs; clear hRs
  go_enter_defers Tryz.func112, Tryz.ntmps112
  go_wp2_with fail
  refine (HF.out _ (Gr.alloc _ _)).mono ?_
  rintro e w1 ⟨v, rfl, hR, hg⟩
  obtain ⟨x1, hz, G1⟩ := alloc1 hg
  have _ := cells1 x1
  have _ := fz x1
  have G1 := hid G1; have HR := hid hR; have X1 := hid x1
  clear hg x1 hR
  go_wp2_with fail
  refine leaves_cons (f := 144) (args := #[.pointer (some ⟨w.heap.size, 0, none⟩)]) (by simp) (by simp [go_sem]) ?_
  refine (catch_idle_L _ _).mono ?_
  rintro e u' w2 ⟨rfl, rfl, rfl⟩
  simp [Leaves, settle, results, Tryz.results112, go_sem, *]
  exact ⟨HRS.out _ _ _ _ HR.out X1.out _, G1.out.setCell (by simp) _⟩

set_option maxRecDepth 20000 in
set_option maxHeartbeats 400000 in
theorem told_great_L (f : Nat) (cap : Array Value) (w : World) (hen : ∀ w, (callFunc f cap).run Tryz.prog w = .ok (.enter f cap) w) (hF : ∀ w', Gr w w' → Calls Tryz.prog f cap w' fun e w'' => (∃ p q, e = .panicked [{ v := .iface 227 (fr p q), recovered := false }]) ∧ Gr w' w'') :
    Calls Tryz.prog 112 #[.func (.func f) #[] cap] w fun e w' => e = .returned (.tuple #[.slice none 0 0, .int .i64 3]) ∧ Gr w w' := by
  have HF := hid hF; clear hF
  go_enter_defers Tryz.func112, Tryz.ntmps112
  go_wp2_with fail
  refine (HF.out _ (Gr.alloc _ _)).mono ?_
  rintro e w1 ⟨⟨p, q, rfl⟩, hg⟩
  obtain ⟨x1, hz, G1⟩ := alloc1 hg
  refine leaves_cons (f := 144) (args := #[.pointer (some ⟨w.heap.size, 0, none⟩)]) (by simp) (by simp [go_sem]) ?_
  refine (catch_great_L _ _ _ _ _ _ x1).mono ?_
  rintro e u' w2 ⟨rfl, rfl, w3, hg3, rfl⟩
  have _ := cells1 (hg3.keep x1)
  simp [Leaves, settle, results, Tryz.results112, go_sem, *]
  exact (G1.trans hg3).setCell (by simp) _
end Go.Proofs.YtgfopfomhgfcaaaGreatDoor
