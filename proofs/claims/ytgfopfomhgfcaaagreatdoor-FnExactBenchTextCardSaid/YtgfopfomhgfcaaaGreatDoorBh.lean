/- BENCHES: the laws' conversion, size and equality. -/
import Derived.Test.YtgfopfomhgfcaaaGreatDoorBf
import Derived.Test.YtgfopfomhgfcaaaGreatDoorCg
import Derived.Test.YtgfopfomhgfcaaaGreatDoorRs
import Derived.OpenShut
import Derived.Carry
import Derived.Deep.Strs
import Derived.Lib.SmallJoins
namespace Go.Proofs.YtgfopfomhgfcaaaGreatDoor
open Go.RowKit Go.Sort

abbrev bnZ : Array Value := #[.int .i64 0, .int .i64 0, .slice none 0 0, .int .i64 0, .bool false, .int .i64 0, .int .i64 0, .slice none 0 0]
set_option maxRecDepth 20000 in
set_option maxHeartbeats 4000000 in
theorem toBn_any (a b : Int) (A : Option Addr) (c : Nat) (xs : List (Int × Int)) (N : Int) (kb : Bool) (u v : Int) (B : Option Addr) (d : Nat) (ts : List Tgv) (w : World) (hn : xs.length ≤ 1048576) (hm : ts.length ≤ 1048576) (h : RawF w (.slice A xs.length c) xs) (h2 : RawTg w (.slice B ts.length d) ts) :
    Calls Tryz.prog 9 #[bnc a b A xs.length c N kb u v B ts.length d] w fun e w' => ∃ g1 g2, e = .returned (bnc a b (some ⟨g1, 0, none⟩) xs.length xs.length N kb u v (some ⟨g2, 0, none⟩) ts.length ts.length) ∧ (w'.heap[g1]? = some (.cells (flatA xs) 34) ∧ w'.heap[g2]? = some (.cells (rowTg ts []) 76) ∧ g1 < g2) ∧ w.heap.size ≤ g1 ∧ Gr w w' := by
  have HR := hid h; have HT := hid h2; clear h h2
  obtain ⟨y0, y1, y2, _, _⟩ := alloc3 (w := w) (A := .cells (bncA a b A xs.length c N kb u v B ts.length d) 31) (B := .cells bnZ 41) (C := .cells bnZ 41) (Gr.refl _)
  have Y0 := hid y0; have Y1 := hid y1; have Y2 := hid y2
  clear y0 y1 y2
  go_enter Tryz.func9, Tryz.ntmps9
  go_wp2_with fail
  refine (toSc_any _ _ _ _ xs _ hn (HR.out.keep ((((Gr.refl w).al _).al _).al _))).mono ?_
  rintro x w1 ⟨g1, rfl, x1, b1, hg1⟩
  have z0 := hg1.keep Y0.out
  have z1 := hg1.keep Y1.out
  have z2 := hg1.keep Y2.out
  have hb1 : w.heap.size + 1 + 1 < g1 := by have := b1; simp at this; omega
  have HB1 := hid hb1
  have G1 := hid (((((Gr.refl w).al _).al _).al _).trans hg1)
  obtain ⟨_, _, _, _, _, _, _, _⟩ := cells8 z0
  obtain ⟨_, _, _, _, _, _, _, _⟩ := cells8 z2
  have _ := fz z2
  have _ := ltb z0; have _ := ltb z1; have _ := ltb z2
  have X1 := hid x1; have Z0 := hid z0; have Z1 := hid z1; have Z2 := hid z2
  clear hg1 x1 z0 z1 z2 b1 hb1 Y0 Y1 Y2
  go_wp2_with fail
  refine (toVernier_any _ _ _).mono ?_
  rintro x w2 ⟨rfl, hg2⟩
  have hb1 := HB1.out
  have z0 := hg2.keep (keepSet' (keepSet' (keepSet' Z0.out (by simp; omega)) (by simp; omega)) (by simp; omega))
  have z1 := hg2.keep (keepSet' (keepSet' (keepSet' Z1.out (by simp)) (by simp)) (by simp))
  have z2 := hg2.keep (Joins.block_setCell (Joins.block_setCell (Joins.block_setCell Z2.out _) _) _)
  have x1 := hg2.keep (keepSet' (keepSet' (keepSet' X1.out (by simp; omega)) (by simp; omega)) (by simp; omega))
  have G2 := hid ((((G1.out.setCell (by simp; omega) _).setCell (by simp; omega) _).setCell (by simp; omega) _).trans hg2)
  simp only [List.setIfInBounds_toArray, List.set_cons_zero, List.set_cons_succ] at z2
  obtain ⟨_, _, _, _, _, _, _, _⟩ := cells8 z0
  obtain ⟨_, _, _, _, _, _, _, _⟩ := cells8 z2
  have _ := fz z2
  have _ := ltb z0; have _ := ltb z1; have _ := ltb z2
  clear X1 Z0 Z1 Z2
  have X1 := hid x1; have Z0 := hid z0; have Z1 := hid z1; have Z2 := hid z2
  clear hg2 x1 z0 z1 z2 hb1 G1
  go_wp2_with fail
  refine (toFrac_any _ _ _).mono ?_
  rintro x w3 ⟨rfl, hg3⟩
  have hb1 := HB1.out
  have z0 := hg3.keep (keepSet' (keepSet' Z0.out (by simp; omega)) (by simp; omega))
  have z1 := hg3.keep (keepSet' (keepSet' Z1.out (by simp)) (by simp))
  have z2 := hg3.keep (Joins.block_setCell (Joins.block_setCell Z2.out _) _)
  have x1 := hg3.keep (keepSet' (keepSet' X1.out (by simp; omega)) (by simp; omega))
  have G3 := hid (((G2.out.setCell (by simp; omega) _).setCell (by simp; omega) _).trans hg3)
  simp only [List.setIfInBounds_toArray, List.set_cons_zero, List.set_cons_succ] at z2
  obtain ⟨_, _, _, _, _, _, _, _⟩ := cells8 z0
  obtain ⟨_, _, _, _, _, _, _, _⟩ := cells8 z2
  have _ := fz z2
  have _ := ltb z0; have _ := ltb z1; have _ := ltb z2
  clear X1 Z0 Z1 Z2
  have X1 := hid x1; have Z0 := hid z0; have Z1 := hid z1; have Z2 := hid z2
  have HT3 := hid ((HT.out.keep G3.out).keep (Gr.refl _))
  clear hg3 x1 z0 z1 z2 hb1 G2
  go_wp2_with fail
  have GS := hid ((G3.out.setCell (a := ⟨w.heap.size + 1 + 1, 5, none⟩) (by simp; omega) (.int .i64 u)).setCell (a := ⟨w.heap.size + 1 + 1, 6, none⟩) (by simp; omega) (.int .i64 v))
  refine (toThingS_any _ ts _ hm (HT.out.keep GS.out)).mono ?_
  rintro x w4 ⟨rfl, x2, hg4⟩
  have hb1 := HB1.out
  have hx1 := ltb X1.out
  have z1 := hg4.keep (keepSet' (keepSet' Z1.out (by simp)) (by simp))
  have z2 := hg4.keep (Joins.block_setCell (Joins.block_setCell Z2.out _) _)
  have x1 := hg4.keep (keepSet' (keepSet' X1.out (by simp; omega)) (by simp; omega))
  have G4 := hid (GS.out.trans hg4)
  simp only [List.setIfInBounds_toArray, List.set_cons_zero, List.set_cons_succ] at z2
  have hs4 : w3.heap.size ≤ w4.heap.size := by have := hg4.size; simpa using this
  have e4 : ((w3.setCell ⟨w.heap.size + 1 + 1, 5, none⟩ (.int .i64 u)).setCell ⟨w.heap.size + 1 + 1, 6, none⟩ (.int .i64 v)).heap.size = w3.heap.size := by simp
  rw [e4] at x2
  have hlt2 := ltb Z2.out
  obtain ⟨_, _, _, _, _, _, _, _⟩ := cells8 z1
  obtain ⟨_, _, _, _, _, _, _, _⟩ := cells8 z2
  have _ := fz z1; have _ := fz z2
  have _ := ltb z1; have _ := ltb z2
  clear X1 Z0 Z1 Z2
  have X1 := hid x1; have X2 := hid x2; have HL := hid hx1; have HL2 := hid hlt2
  clear hg4 x1 x2 z1 z2 hb1 G3 GS HT HT3 hx1 hs4 hlt2
  go_wp2
  refine bodyPost_ret (v := bnc a b (some ⟨g1, 0, none⟩) xs.length xs.length N kb u v (some ⟨w3.heap.size, 0, none⟩) ts.length ts.length) (by simp [results, Tryz.results9, go_sem, *]) rfl ⟨_, _, rfl, ⟨?_, ?_, HL.out⟩, by have := HB1.out; omega, ?_⟩
  · have hb1 := HB1.out
    repeat (refine keepSet' ?_ (by simp <;> omega))
    exact X1.out
  · have hl2 := HL2.out
    repeat (refine keepSet' ?_ (by simp <;> omega))
    exact X2.out
  · exact (((((((((G4.out).setCell (by simp <;> omega) _).setCell (by simp <;> omega) _).setCell (by simp <;> omega) _).setCell (by simp <;> omega) _).setCell (by simp <;> omega) _).setCell (by simp <;> omega) _).setCell (by simp <;> omega) _).setCell (by simp <;> omega) _).setCell (by simp <;> omega) _
set_option maxRecDepth 20000 in
set_option maxHeartbeats 400000 in
theorem eqVern_any (n : Int) (b : Bool) (w : World) :
    Calls Tryz.prog 40 #[vn n b, vn n b] w fun e w' => e = .returned (.bool true) ∧ Gr w w' := by
  cases b
  all_goals
    go_enter Tryz.func40, Tryz.ntmps40
    go_wp2
    go_ret
    exact ⟨rfl, (Gr.alloc _ _).trans (Gr.alloc _ _)⟩
set_option maxRecDepth 20000 in
set_option maxHeartbeats 1000000 in
theorem eqBn_any (a b : Int) (A A' : Option Addr) (c c' : Nat) (xs : List (Int × Int)) (N : Int) (kb : Bool) (u v : Int) (B B' : Option Addr) (d d' : Nat) (ts : List Tgv) (w : World) (hn : xs.length ≤ 1048576) (hm : ts.length ≤ 1048576) (X1 : Hid (RdF w A xs)) (X2 : Hid (RdF w A' xs)) (T1 : Hid (RdTg w B ts)) (T2 : Hid (RdTg w B' ts)) :
    Calls Tryz.prog 11 #[bnc a b A xs.length c N kb u v B ts.length d, bnc a b A' xs.length c' N kb u v B' ts.length d'] w fun e w' => e = .returned (.bool true) ∧ Gr w w' := by
  go_enter Tryz.func11, Tryz.ntmps11
  go_wp2_with fail
  refine (eqSc_any _ _ _ _ _ _ xs _ (hid (X1.out.keep (((Gr.refl w).al _).al _))) (hid (X2.out.keep (((Gr.refl w).al _).al _))) hn).mono ?_
  rintro e w1 ⟨rfl, hg1⟩
  obtain ⟨x1_0, x1_1, hz1, g1⟩ := alloc2 hg1
  obtain ⟨_, _, _, _, _, _, _, _⟩ := cells8 x1_0
  have _ := fz x1_0
  have _ := ltb x1_0
  obtain ⟨_, _, _, _, _, _, _, _⟩ := cells8 x1_1
  have _ := fz x1_1
  have _ := ltb x1_1
  have X1_0 := hid x1_0; clear x1_0
  have X1_1 := hid x1_1; clear x1_1
  have G1 := hid (g1)
  clear hg1 g1
  go_wp2_with fail
  refine (eqVern_any _ _ _).mono ?_
  rintro e w2 ⟨rfl, hg2⟩
  have x2_1 := hg2.keep X1_0.out
  have x2_2 := hg2.keep X1_1.out
  obtain ⟨_, _, _, _, _, _, _, _⟩ := cells8 x2_1
  have _ := fz x2_1
  have _ := ltb x2_1
  obtain ⟨_, _, _, _, _, _, _, _⟩ := cells8 x2_2
  have _ := fz x2_2
  have _ := ltb x2_2
  have X2_1 := hid x2_1; clear x2_1
  have X2_2 := hid x2_2; clear x2_2
  have G2 := hid (G1.out.trans hg2)
  clear hg2
  go_wp2_with fail
  refine (eqFrac_any _ _ _).mono ?_
  rintro e w3 ⟨rfl, hg3⟩
  have x3_1 := hg3.keep X2_1.out
  have x3_2 := hg3.keep X2_2.out
  obtain ⟨_, _, _, _, _, _, _, _⟩ := cells8 x3_1
  have _ := fz x3_1
  have _ := ltb x3_1
  obtain ⟨_, _, _, _, _, _, _, _⟩ := cells8 x3_2
  have _ := fz x3_2
  have _ := ltb x3_2
  have X3_1 := hid x3_1; clear x3_1
  have X3_2 := hid x3_2; clear x3_2
  have G3 := hid (G2.out.trans hg3)
  clear hg3
  go_wp2_with fail
  refine (eqTg_any _ _ _ _ ts _ (hid (T1.out.keep G3.out)) (hid (T2.out.keep G3.out)) hm).mono ?_
  rintro e w4 ⟨rfl, hg4⟩
  have x4_1 := hg4.keep X3_1.out
  have x4_2 := hg4.keep X3_2.out
  obtain ⟨_, _, _, _, _, _, _, _⟩ := cells8 x4_1
  have _ := fz x4_1
  have _ := ltb x4_1
  obtain ⟨_, _, _, _, _, _, _, _⟩ := cells8 x4_2
  have _ := fz x4_2
  have _ := ltb x4_2
  have X4_1 := hid x4_1; clear x4_1
  have X4_2 := hid x4_2; clear x4_2
  have G4 := hid (G3.out.trans hg4)
  clear hg4
  go_wp2
  go_ret
  exact ⟨rfl, G4.out⟩
def szToB (xs : List (Int × Int)) (ts : List Tgv) (l : Int) : Int := if (xs.length : Int) ≤ l then szToT ts (l - (xs.length : Int)) else -1
theorem szToB_bd {xs : List (Int × Int)} {ts : List Tgv} {l q : Int} (h : 0 ≤ l) (hq : szToB xs ts l = q) : -1 ≤ q ∧ q ≤ l ∧ (0 ≤ q → (xs.length : Int) ≤ l ∧ (ts.length : Int) ≤ l) := by
  unfold szToB at hq
  split at hq
  · rename_i hx
    obtain ⟨h1, h2, h3⟩ := szToT_bd ts (l - (xs.length : Int)) q (by omega) hq
    exact ⟨h1, by omega, fun h => ⟨hx, by have := h3 h; omega⟩⟩
  · exact ⟨by omega, by omega, fun h => by omega⟩
set_option maxRecDepth 20000 in
set_option maxHeartbeats 1000000 in
theorem szBn_is (a b : Int) (A : Option Addr) (c : Nat) (xs : List (Int × Int)) (N : Int) (kb : Bool) (u v : Int) (B : Option Addr) (d : Nat) (ts : List Tgv) (l q : Int) (w : World) (h2 : RawTg w (.slice B ts.length d) ts) (hx : xs.length ≤ 9223372036854775807) (hm : ts.length ≤ 9223372036854775807) (hs : ∀ x ∈ ts, x.nm.size ≤ 9223372036854775807) (l0 : 0 ≤ l) (l1 : l ≤ 1048576) (hq : szToB xs ts l = q) :
    Calls Tryz.prog 7 #[bnc a b A xs.length c N kb u v B ts.length d, .int .i64 l] w fun e w' => e = .returned (.int .i64 q) ∧ Gr w w' := by
  have HT := hid h2; have HSS := hid hs; clear h2 hs
  unfold szToB at hq
  by_cases h : (xs.length : Int) ≤ l
  · rw [if_pos h] at hq
    obtain ⟨b1, b2, b3⟩ := szToT_bd ts (l - (xs.length : Int)) q (by omega) hq
    have HQ := hid fun (w : World) (T : RawTg w (.slice B ts.length d) ts) => szTg_is _ B d ts (l - (xs.length : Int)) q w rfl T hm HSS.out (by omega) (by omega) hq
    clear hq
    by_cases hq0 : q < 0
    · obtain rfl : q = -1 := by omega
      go_enter Tryz.func7, Tryz.ntmps7
      go_wp2_with fail
      refine (szSc_yes _ _ _ _ _ _ _ h l1).mono ?_
      rintro e w1 ⟨rfl, hg1⟩
      obtain ⟨x1_0, hz1, g1⟩ := alloc1 hg1
      obtain ⟨_, _, _, _, _, _, _, _⟩ := cells8 x1_0
      have _ := fz x1_0
      have _ := ltb x1_0
      have X1_0 := hid x1_0; clear x1_0
      have G1 := hid (g1)
      clear hg1 g1
      go_wp2_with fail
      refine (HQ.out _ (HT.out.keep G1.out)).mono ?_
      rintro e w2 ⟨rfl, hg2⟩
      have x2_1 := hg2.keep X1_0.out
      obtain ⟨_, _, _, _, _, _, _, _⟩ := cells8 x2_1
      have _ := fz x2_1
      have _ := ltb x2_1
      have X2_1 := hid x2_1; clear x2_1
      have G2 := hid (G1.out.trans hg2)
      clear hg2
      go_wp2
      go_ret
      exact ⟨rfl, G2.out⟩
    · go_enter Tryz.func7, Tryz.ntmps7
      go_wp2_with fail
      refine (szSc_yes _ _ _ _ _ _ _ h l1).mono ?_
      rintro e w1 ⟨rfl, hg1⟩
      obtain ⟨x1_0, hz1, g1⟩ := alloc1 hg1
      obtain ⟨_, _, _, _, _, _, _, _⟩ := cells8 x1_0
      have _ := fz x1_0
      have _ := ltb x1_0
      have X1_0 := hid x1_0; clear x1_0
      have G1 := hid (g1)
      clear hg1 g1
      go_wp2_with fail
      refine (HQ.out _ (HT.out.keep G1.out)).mono ?_
      rintro e w2 ⟨rfl, hg2⟩
      have x2_1 := hg2.keep X1_0.out
      obtain ⟨_, _, _, _, _, _, _, _⟩ := cells8 x2_1
      have _ := fz x2_1
      have _ := ltb x2_1
      have X2_1 := hid x2_1; clear x2_1
      have G2 := hid (G1.out.trans hg2)
      clear hg2
      go_wp2
      go_ret
      exact ⟨rfl, G2.out⟩
  · rw [if_neg h] at hq
    subst hq
    go_enter Tryz.func7, Tryz.ntmps7
    go_wp2_with fail
    refine (szSc_no _ _ _ _ _ _ _ (by omega) hx l0 l1).mono ?_
    rintro e w1 ⟨rfl, hg1⟩
    obtain ⟨x1_0, hz1, g1⟩ := alloc1 hg1
    obtain ⟨_, _, _, _, _, _, _, _⟩ := cells8 x1_0
    have _ := fz x1_0
    have _ := ltb x1_0
    have X1_0 := hid x1_0; clear x1_0
    have G1 := hid (g1)
    clear hg1 g1
    go_wp2
    go_ret
    exact ⟨rfl, G1.out⟩
end Go.Proofs.YtgfopfomhgfcaaaGreatDoor
namespace Go.Proofs.YtgfopfomhgfcaaaGreatDoor
open Go.RowKit Go.Sort Go.ChangeShapes Go.WideShapes Go.ChangeAt Go.Joins Go.Deep

theorem cellsTng : Tryz.prog.cellsOf 119 = 5 := by kernel_rfl
theorem cellsStrTg : Tryz.prog.cellsOf 9 = 1 := by kernel_rfl
theorem cellsSlT : Tryz.prog.cellsOf 29 = 1 := by kernel_rfl
theorem cellsBench : Tryz.prog.cellsOf 31 = 8 := by kernel_rfl
theorem listTg5 {α : Type} {cs : List α} (h : cs.length = 5) : ∃ c0 c1 c2 c3 c4, cs = [c0, c1, c2, c3, c4] := by
  match cs, h with
  | [c0, c1, c2, c3, c4], _ => exact ⟨c0, c1, c2, c3, c4, rfl⟩
theorem listBn8 {α : Type} {cs : List α} (h : cs.length = 8) : ∃ c0 c1 c2 c3 c4 c5 c6 c7, cs = [c0, c1, c2, c3, c4, c5, c6, c7] := by
  match cs, h with
  | [c0, c1, c2, c3, c4, c5, c6, c7], _ => exact ⟨c0, c1, c2, c3, c4, c5, c6, c7, rfl⟩
theorem add_zeroTg (a : Addr) : a.add 0 = a := by unfold Addr.add; simp
theorem add_posTg (a : Addr) (j : Nat) (h : 0 < j) : a.add j = ⟨a.block, a.off + j, none⟩ := by
  unfold Addr.add
  rw [if_neg (by omega)]
section
variable {H : Type} {enc : TypeId × Value → H} {W : World} {base : Nat} {spare : Nat → Bool} {held : Bool}
set_option maxRecDepth 100000 in
theorem trod_tng {n : Nat} {cs : List Value} {x : DataW H × List MemPlace} (h : DataW.trod enc Tryz.prog W base spare held n 119 cs = some x) : ∃ o : Tgv, cs = cTg o ∧ o.nm.size ≤ maxLen := by
  obtain ⟨ys, m, _, _, hl, hyl, hg⟩ := DataW.trod_struct Tryz.underlying119 h
  rw [cellsTng] at hl
  obtain ⟨c0, c1, c2, c3, c4, rfl⟩ := listTg5 hl
  match ys, hyl with
  | [y0, y1, y2], _ =>
    have h0 : DataW.trod enc Tryz.prog W base spare held m 9 (List.take (Tryz.prog.cellsOf 9) (List.drop 0 [c0, c1, c2, c3, c4])) = some y0 := hg 0 _ rfl
    have h1 : DataW.trod enc Tryz.prog W base spare held m 23 (List.take (Tryz.prog.cellsOf 23) (List.drop 1 [c0, c1, c2, c3, c4])) = some y1 := hg 1 _ rfl
    have h2 : DataW.trod enc Tryz.prog W base spare held m 23 (List.take (Tryz.prog.cellsOf 23) (List.drop 3 [c0, c1, c2, c3, c4])) = some y2 := hg 2 _ rfl
    simp only [List.drop, List.take, cellsStrTg, cellsFrac] at h0 h1 h2
    obtain ⟨s, e0, _, ws⟩ := DataW.trod_string Tryz.underlying9 h0
    obtain ⟨p, q, e1, _, _, _⟩ := trod_frac h1
    obtain ⟨a, b, e2, _, _, _⟩ := trod_frac h2
    simp at e0 e1 e2
    obtain ⟨rfl, rfl⟩ := e1
    obtain ⟨rfl, rfl⟩ := e2
    subst e0
    exact ⟨⟨s, p, q, a, b⟩, rfl, ws⟩
set_option maxRecDepth 100000 in
theorem open_tngs {fuel : Nat} {c : Value} {x : DataW H × List MemPlace} (hf : DataW.trod enc Tryz.prog W base spare held fuel 29 [c] = some x) :
    ∃ (A : Option Addr) (n cap : Nat), c = .slice A n cap ∧ n ≤ 9223372036854775807 ∧ ∃ xs : List Tgv, n = xs.length ∧ RawTg W (.slice A n cap) xs ∧ ∀ x ∈ xs, x.nm.size ≤ 9223372036854775807 := by
  rcases open_slice Tryz.underlying29 hf with ⟨hcs, _⟩ | ⟨a, len, cap, m, n', D, Pl, hcs, hb, hl, hm, hmm, hx, hall⟩
  · simp at hcs
    subst hcs
    exact ⟨none, 0, 0, rfl, by omega, [], rfl, .inl ⟨rfl, rfl⟩, by simp⟩
  · simp at hcs
    subst hcs
    have hlm : len ≤ m := by rw [hmm]; split <;> omega
    have each : ∀ i, i < len → ∃ o : Tgv, CelTg W (a.add (i * 5)) o ∧ o.nm.size ≤ maxLen := fun i hi => by
      obtain ⟨cs', hc, ht⟩ := hall i (by omega)
      rw [cellsTng] at hc
      obtain ⟨o, rfl, hs⟩ := trod_tng ht
      obtain ⟨_, hcl, hat⟩ := World.cells?_some hc
      refine ⟨o, ⟨?_, ?_, ?_, ?_, ?_⟩, hs⟩
      · have := hat (i := 0) (by omega); rwa [add_zeroTg] at this
      · have := hat (i := 1) (by omega); rwa [add_posTg _ _ (by omega)] at this
      · have := hat (i := 2) (by omega); rwa [add_posTg _ _ (by omega)] at this
      · have := hat (i := 3) (by omega); rwa [add_posTg _ _ (by omega)] at this
      · have := hat (i := 4) (by omega); rwa [add_posTg _ _ (by omega)] at this
    obtain ⟨f, hf'⟩ := choose_lt each
    have hlen : ((List.range len).map f).length = len := by simp
    refine ⟨some a, len, cap, rfl, by unfold maxLen at hm; omega, (List.range len).map f, hlen.symm, .inr ⟨a, cap, by rw [hlen], fun k o hk => ?_⟩, fun x hx => ?_⟩
    · have hkn : k < len := by
        have := (List.getElem?_eq_some_iff.1 hk).1
        simpa using this
      have hfk : f k = o := by simpa [hkn] using hk
      rw [← hfk]
      exact (hf' k hkn).1
    · obtain ⟨i, hi, rfl⟩ := List.mem_map.1 hx
      have := (hf' i (List.mem_range.1 hi)).2
      unfold maxLen at this
      omega
set_option maxRecDepth 100000 in
theorem open_bench {r : Reach} {b0 : Nat} {v : Value} {d : DataW H} {ps : List MemPlace} (hv : Value.okWide Tryz.prog W r b0 31 v) (h : DataW.Trod enc Tryz.prog W base spare held 31 v d ps) :
    ∃ (a b : Int) (A : Option Addr) (m c : Nat) (N : Int) (kb : Bool) (u w : Int) (B : Option Addr) (l e : Nat), v = bnc a b A m c N kb u w B l e ∧ m ≤ 9223372036854775807 ∧ l ≤ 9223372036854775807 ∧
      ∃ (xs : List (Int × Int)) (ts : List Tgv), m = xs.length ∧ l = ts.length ∧ RawF W (.slice A m c) xs ∧ RawTg W (.slice B l e) ts ∧ ∀ x ∈ ts, x.nm.size ≤ 9223372036854775807 := by
  obtain ⟨cs, rfl, hsz⟩ := okWide_struct Tryz.underlying31 hv
  obtain ⟨fuel, hf⟩ := h
  obtain ⟨ys, m', _, hx, hl, hyl, hg⟩ := DataW.trod_struct Tryz.underlying31 hf
  rw [cellsBench] at hl
  obtain ⟨c0, c1, c2, c3, c4, c5, c6, c7, hc⟩ := listBn8 hl
  match ys, hyl with
  | [y0, y1, y2, y3], _ =>
    have g0 : DataW.trod enc Tryz.prog W base spare held m' 26 (List.take (Tryz.prog.cellsOf 26) (List.drop 0 (Value.agg cs).cells.toList)) = some y0 := hg 0 _ rfl
    have g1 : DataW.trod enc Tryz.prog W base spare held m' 28 (List.take (Tryz.prog.cellsOf 28) (List.drop 3 (Value.agg cs).cells.toList)) = some y1 := hg 1 _ rfl
    have g2 : DataW.trod enc Tryz.prog W base spare held m' 23 (List.take (Tryz.prog.cellsOf 23) (List.drop 5 (Value.agg cs).cells.toList)) = some y2 := hg 2 _ rfl
    have g3 : DataW.trod enc Tryz.prog W base spare held m' 29 (List.take (Tryz.prog.cellsOf 29) (List.drop 7 (Value.agg cs).cells.toList)) = some y3 := hg 3 _ rfl
    rw [hc] at g0 g1 g2 g3
    simp only [List.drop, List.take, cellsScale, cellsVernier, cellsFrac, cellsSlT] at g0 g1 g2 g3
    obtain ⟨z0, z1, mm, _, hl0, h0, h1⟩ := trod_struct2 Tryz.underlying26 g0
    simp only [List.drop, List.take, cellsFrac, cellsSlF] at h0 h1
    obtain ⟨a, b, e0, _, _, _⟩ := trod_frac h0
    obtain ⟨A, m, c, rfl, hmax, xs, hm, hr⟩ := open_fracs' h1
    obtain ⟨k0, k1, mv, _, hl1, v0, v1⟩ := trod_struct2 Tryz.underlying28 g1
    simp only [List.drop, List.take, cellsInt, cellsBool] at v0 v1
    obtain ⟨N, e1, _, _⟩ := DataW.trod_int Tryz.underlying2 v0
    obtain ⟨kb, e2, _⟩ := DataW.trod_bool Tryz.underlying4 v1
    obtain ⟨u, w, e3, _, _, _⟩ := trod_frac g2
    obtain ⟨B, l, e, rfl, hmax2, ts, hl2, ht, hs⟩ := open_tngs g3
    simp at e0 e1 e2 e3
    obtain ⟨rfl, rfl⟩ := e0
    subst e1 e2
    obtain ⟨rfl, rfl⟩ := e3
    have hcs : cs = bncA a b A m c N kb u w B l e := by
      cases cs; simpa [Value.cells] using hc
    subst hcs
    exact ⟨a, b, A, m, c, N, kb, u, w, B, l, e, rfl, hmax, hmax2, xs, ts, hm, hl2, hr, ht, hs⟩
end
end Go.Proofs.YtgfopfomhgfcaaaGreatDoor
