/- WALKS: LastDigits, of the program and of the reference. -/
import Derived.Test.YtmjcnagniphkeaaPe
namespace Go.Proofs.Ytmjcnagniphkeaa
open Go.RowKit Go.Sort

theorem tm_neg {p : Int} (h : p ≤ 0) : p.tmod 10 = -((p.natAbs % 10 : Nat) : Int) := by
  obtain ⟨a, rfl⟩ : ∃ a : Nat, p = -(a : Int) := ⟨p.natAbs, by omega⟩
  rw [Int.neg_tmod, Int.tmod_eq_emod_of_nonneg (by omega), Int.natAbs_neg]
  omega
set_option maxRecDepth 20000 in
set_option maxHeartbeats 1000000 in
theorem iDig (A : Option Addr) (c : Nat) (xs : List Int) (d0 d1 d2 d3 d4 d5 d6 d7 d8 d9 : Int) (w : World) (X : Hid (RdI w A xs)) (h : rdB xs = true) (hd : dgt xs = [d0, d1, d2, d3, d4, d5, d6, d7, d8, d9]) :
    Calls Try.prog 110 #[.slice A xs.length c] w fun e w' => e = .returned (dv d0 d1 d2 d3 d4 d5 d6 d7 d8 d9) ∧ Gr w w' := by
  obtain ⟨h1, h2, h3⟩ := rd_parts h
  have H3 := hid h3; have HD := hid hd
  clear h h3 hd
  go_enter Try.func110, Try.ntmps110
  go_wp2_with fail
  go_loopw [8] (fun u wr => ∃ (k : Nat), u = .int .i64 (k : Int) ∧ k ≤ xs.length ∧ Gr w wr ∧ wr.heap[w.heap.size]? = some (.cells (intA (List.replicate 10 0)) 81) ∧ wr.heap[w.heap.size + 1]? = some (.cells (intA (dgt (xs.take k))) 81)) (fun u _ => xs.length - (intOf u).toNat)
  case atStart => exact ⟨0, rfl, by omega, ((Gr.refl _).al _).al _, (alloc2 (Gr.refl _)).1, (alloc2 (Gr.refl _)).2.1⟩
  case round =>
    obtain ⟨k, rfl, hk, hg, hz, hx⟩ := hrel
    have GR := hid hg; have Z := hid hz; have Y := hid hx
    clear hg hz hx
    by_cases hlt : k < xs.length
    · obtain ⟨p, hp⟩ : ∃ p, xs[k]? = some p := ⟨xs[k], List.getElem?_eq_getElem _⟩
      obtain ⟨ad, rfl, c1⟩ := (X.out.keep GR.out) k p hp
      obtain ⟨_, _⟩ := okR_bd (allI_get hp H3.out)
      obtain ⟨d, hdk, _, hd2⟩ := dgt_get (xs.take k) (dgI_lt p)
      have hl : (xs.take k).length ≤ 64 := by rw [List.length_take]; omega
      have hst := dgt_step hp
      rw [dgS_of hdk] at hst
      have c2 := int_cell Y.out hdk
      have f2 := fz Y.out
      have _ := ltb Y.out
      have hlt10 := dgI_lt p
      have HS := hid hst
      obtain ⟨m, hm⟩ : ∃ m, dgI p = m := ⟨_, rfl⟩
      rw [hm] at hlt10 c2 HS
      unfold dgI at hm
      clear hst hdk hp
      by_cases hneg : p < -p
      · have et := tm_neg (p := p) (by omega)
        have e : (-p.tmod 10).toNat = m := by omega
        have b1 : p.tmod 10 ≤ 0 := by omega
        have b2 : -p.tmod 10 < 10 := by omega
        clear hm et
        go_wp2_with fail
        refine ⟨⟨k + 1, by simp, by omega, GR.out.setCell (by simp) _, keepInt Z.out (by omega), ?_⟩, by simp [intOf]; omega⟩
        rw [HS.out]
        exact int_store (d + 1) Y.out
      · have e : (p % 10).toNat = m := by omega
        have b0 : 0 ≤ p := by omega
        clear hm
        go_wp2_with fail
        refine ⟨⟨k + 1, by simp, by omega, GR.out.setCell (by simp) _, keepInt Z.out (by omega), ?_⟩, by simp [intOf]; omega⟩
        rw [HS.out]
        exact int_store (d + 1) Y.out
    · have hke : k = xs.length := by omega
      have hy := Y.out
      rw [hke, List.take_length, HD.out] at hy
      have hy : wr.heap[w.heap.size + 1]? = some (.cells #[.int .i64 d0, .int .i64 d1, .int .i64 d2, .int .i64 d3, .int .i64 d4, .int .i64 d5, .int .i64 d6, .int .i64 d7, .int .i64 d8, .int .i64 d9] 81) := hy
      have hz : wr.heap[w.heap.size]? = some (.cells #[.int .i64 0, .int .i64 0, .int .i64 0, .int .i64 0, .int .i64 0, .int .i64 0, .int .i64 0, .int .i64 0, .int .i64 0, .int .i64 0] 81) := Z.out
      have Y2 := hid hy; have Z2 := hid hz
      clear hy hz hke
      obtain ⟨_, _, _, _, _, _, _, _, _, _⟩ := cells10 Z2.out
      have _ := fz Z2.out
      have _ := ltb Z2.out
      obtain ⟨_, _, _, _, _, _, _, _, _, _⟩ := cells10 Y2.out
      have _ := fz Y2.out
      have _ := ltb Y2.out
      go_wp2
      refine bodyPost_ret (v := dv d0 d1 d2 d3 d4 d5 d6 d7 d8 d9) (by simp [results, Try.results110, go_sem, *]) rfl ⟨rfl, ?_⟩
      exact ((((((((((GR.out).setCell (by simp <;> omega) _).setCell (by simp <;> omega) _).setCell (by simp <;> omega) _).setCell (by simp <;> omega) _).setCell (by simp <;> omega) _).setCell (by simp <;> omega) _).setCell (by simp <;> omega) _).setCell (by simp <;> omega) _).setCell (by simp <;> omega) _).setCell (by simp <;> omega) _
set_option maxRecDepth 20000 in
set_option maxHeartbeats 1000000 in
theorem sDig (A : Option Addr) (c : Nat) (xs : List Int) (d0 d1 d2 d3 d4 d5 d6 d7 d8 d9 : Int) (w : World) (X : Hid (RdI w A xs)) (h : rdB xs = true) (hd : dgt xs = [d0, d1, d2, d3, d4, d5, d6, d7, d8, d9]) :
    Calls Try.prog 108 #[.slice A xs.length c] w fun e w' => e = .returned (dv d0 d1 d2 d3 d4 d5 d6 d7 d8 d9) ∧ Gr w w' := by
  obtain ⟨h1, h2, h3⟩ := rd_parts h
  have H3 := hid h3; have HD := hid hd
  clear h h3 hd
  go_enter Try.func108, Try.ntmps108
  go_wp2_with fail
  go_loopw [4] (fun u wr => ∃ (k : Nat), u = .int .i64 (k : Int) ∧ k ≤ xs.length ∧ Gr w wr ∧ wr.heap[w.heap.size]? = some (.cells (intA (List.replicate 10 0)) 81) ∧ wr.heap[w.heap.size + 1]? = some (.cells (intA (dgt (xs.take k))) 81)) (fun u _ => xs.length - (intOf u).toNat)
  case atStart => exact ⟨0, rfl, by omega, ((Gr.refl _).al _).al _, (alloc2 (Gr.refl _)).1, (alloc2 (Gr.refl _)).2.1⟩
  case round =>
    obtain ⟨k, rfl, hk, hg, hz, hx⟩ := hrel
    have GR := hid hg; have Z := hid hz; have Y := hid hx
    clear hg hz hx
    by_cases hlt : k < xs.length
    · obtain ⟨p, hp⟩ : ∃ p, xs[k]? = some p := ⟨xs[k], List.getElem?_eq_getElem _⟩
      obtain ⟨ad, rfl, c1⟩ := (X.out.keep GR.out) k p hp
      obtain ⟨_, _⟩ := okR_bd (allI_get hp H3.out)
      obtain ⟨d, hdk, _, hd2⟩ := dgt_get (xs.take k) (dgI_lt p)
      have hl : (xs.take k).length ≤ 64 := by rw [List.length_take]; omega
      have hst := dgt_step hp
      rw [dgS_of hdk] at hst
      have c2 := int_cell Y.out hdk
      have f2 := fz Y.out
      have _ := ltb Y.out
      have hlt10 := dgI_lt p
      have HS := hid hst
      obtain ⟨m, hm⟩ : ∃ m, dgI p = m := ⟨_, rfl⟩
      rw [hm] at hlt10 c2 HS
      unfold dgI at hm
      obtain ⟨a, ha⟩ : ∃ a, p.natAbs = a := ⟨_, rfl⟩
      have HB := hid fun (w : World) => abs_any p w (by omega) (by omega)
      rw [ha] at hm HB
      have e : ((a : Int) % 10).toNat = m := by omega
      clear hst hdk hp hm ha
      go_wp2_with (go_at_call 113; refine (HB.out _).mono ?_; rintro e w1 ⟨rfl, rfl⟩)
      refine ⟨⟨k + 1, by simp, by omega, GR.out.setCell (by simp) _, keepInt Z.out (by omega), ?_⟩, by simp [intOf]; omega⟩
      rw [HS.out]
      exact int_store (d + 1) Y.out
    · have hke : k = xs.length := by omega
      have hy := Y.out
      rw [hke, List.take_length, HD.out] at hy
      have hy : wr.heap[w.heap.size + 1]? = some (.cells #[.int .i64 d0, .int .i64 d1, .int .i64 d2, .int .i64 d3, .int .i64 d4, .int .i64 d5, .int .i64 d6, .int .i64 d7, .int .i64 d8, .int .i64 d9] 81) := hy
      have hz : wr.heap[w.heap.size]? = some (.cells #[.int .i64 0, .int .i64 0, .int .i64 0, .int .i64 0, .int .i64 0, .int .i64 0, .int .i64 0, .int .i64 0, .int .i64 0, .int .i64 0] 81) := Z.out
      have Y2 := hid hy; have Z2 := hid hz
      clear hy hz hke
      obtain ⟨_, _, _, _, _, _, _, _, _, _⟩ := cells10 Z2.out
      have _ := fz Z2.out
      have _ := ltb Z2.out
      obtain ⟨_, _, _, _, _, _, _, _, _, _⟩ := cells10 Y2.out
      have _ := fz Y2.out
      have _ := ltb Y2.out
      go_wp2
      refine bodyPost_ret (v := dv d0 d1 d2 d3 d4 d5 d6 d7 d8 d9) (by simp [results, Try.results108, go_sem, *]) rfl ⟨rfl, ?_⟩
      exact ((((((((((GR.out).setCell (by simp <;> omega) _).setCell (by simp <;> omega) _).setCell (by simp <;> omega) _).setCell (by simp <;> omega) _).setCell (by simp <;> omega) _).setCell (by simp <;> omega) _).setCell (by simp <;> omega) _).setCell (by simp <;> omega) _).setCell (by simp <;> omega) _).setCell (by simp <;> omega) _
set_option maxRecDepth 20000 in
set_option maxHeartbeats 400000 in
theorem iLast (A : Option Addr) (n c : Nat) (d0 d1 d2 d3 d4 d5 d6 d7 d8 d9 C : Int) (w : World) (ho : ∀ w', Gr w w' → Calls Try.prog 109 #[.slice A n c, .func (.func 110) #[] #[]] w' fun e w'' => e = .returned (.tuple #[dv d0 d1 d2 d3 d4 d5 d6 d7 d8 d9, .int .i64 C]) ∧ Gr w' w'') :
    Calls Try.prog 51 #[.slice A n c] w fun e w' => e = .returned (.tuple #[dv d0 d1 d2 d3 d4 d5 d6 d7 d8 d9, .int .i64 C]) ∧ Gr w w' := by
  have HO := hid ho; clear ho
  go_enter Try.func51, Try.ntmps51
  go_wp2_with fail
  refine (HO.out _ ((Gr.refl _).al _)).mono ?_
  rintro e w1 ⟨rfl, hg1⟩
  obtain ⟨x1_0, hz1, g1⟩ := alloc1 hg1
  obtain ⟨_, _, _, _, _, _, _, _, _, _⟩ := cells10 x1_0
  have _ := fz x1_0
  have _ := ltb x1_0
  have X1_0 := hid x1_0; clear x1_0
  have G1 := hid (g1)
  clear hg1 g1
  go_wp2
  refine bodyPost_ret (v := .tuple #[dv d0 d1 d2 d3 d4 d5 d6 d7 d8 d9, .int .i64 C]) (by simp [results, Try.results51, go_sem, *]) rfl ⟨rfl, ?_⟩
  exact ((((((((((G1.out).setCell (by simp <;> omega) _).setCell (by simp <;> omega) _).setCell (by simp <;> omega) _).setCell (by simp <;> omega) _).setCell (by simp <;> omega) _).setCell (by simp <;> omega) _).setCell (by simp <;> omega) _).setCell (by simp <;> omega) _).setCell (by simp <;> omega) _).setCell (by simp <;> omega) _
set_option maxRecDepth 20000 in
set_option maxHeartbeats 800000 in
theorem sLast_no (A : Option Addr) (c : Nat) (xs : List Int) (w : World) (X : Hid (RdI w A xs)) (hn : xs.length ≤ 1048576) (h : rdB xs = false) :
    Calls Try.prog 49 #[.slice A xs.length c] w fun e w' => e = .returned (.tuple #[dv 0 0 0 0 0 0 0 0 0 0, .int .i64 2]) ∧ Gr w w' := by
  have H := hid h; clear h
  go_enter Try.func49, Try.ntmps49
  go_wp2_with fail
  refine (sReadings_no A c xs _ (hid (X.out.keep ((Gr.refl w).al _))) hn H.out).mono ?_
  rintro e w1 ⟨rfl, hg1⟩
  obtain ⟨x1_0, hz1, g1⟩ := alloc1 hg1
  obtain ⟨_, _, _, _, _, _, _, _, _, _⟩ := cells10 x1_0
  have _ := fz x1_0
  have _ := ltb x1_0
  have X1_0 := hid x1_0; clear x1_0
  have G1 := hid (g1)
  clear hg1 g1
  go_wp2
  refine bodyPost_ret (v := .tuple #[dv 0 0 0 0 0 0 0 0 0 0, .int .i64 2]) (by simp [results, Try.results49, go_sem, *]) rfl ⟨rfl, ?_⟩
  exact ((((((((((G1.out).setCell (by simp <;> omega) _).setCell (by simp <;> omega) _).setCell (by simp <;> omega) _).setCell (by simp <;> omega) _).setCell (by simp <;> omega) _).setCell (by simp <;> omega) _).setCell (by simp <;> omega) _).setCell (by simp <;> omega) _).setCell (by simp <;> omega) _).setCell (by simp <;> omega) _
set_option maxRecDepth 20000 in
set_option maxHeartbeats 800000 in
theorem sLast_yes (A : Option Addr) (c : Nat) (xs : List Int) (d0 d1 d2 d3 d4 d5 d6 d7 d8 d9 : Int) (w : World) (X : Hid (RdI w A xs)) (h : rdB xs = true) (hd : dgt xs = [d0, d1, d2, d3, d4, d5, d6, d7, d8, d9]) :
    Calls Try.prog 49 #[.slice A xs.length c] w fun e w' => e = .returned (.tuple #[dv d0 d1 d2 d3 d4 d5 d6 d7 d8 d9, .int .i64 0]) ∧ Gr w w' := by
  have H := hid h; have HD := hid hd; clear h hd
  go_enter Try.func49, Try.ntmps49
  go_wp2_with fail
  refine (sReadings_yes A c xs _ (hid (X.out.keep ((Gr.refl w).al _))) H.out).mono ?_
  rintro e w1 ⟨rfl, hg1⟩
  obtain ⟨x1_0, hz1, g1⟩ := alloc1 hg1
  obtain ⟨_, _, _, _, _, _, _, _, _, _⟩ := cells10 x1_0
  have _ := fz x1_0
  have _ := ltb x1_0
  have X1_0 := hid x1_0; clear x1_0
  have G1 := hid (g1)
  clear hg1 g1
  go_wp2_with fail
  refine (sDig A c xs d0 d1 d2 d3 d4 d5 d6 d7 d8 d9 _ (hid (X.out.keep G1.out)) H.out HD.out).mono ?_
  rintro e w2 ⟨rfl, hg2⟩
  have x2_1 := hg2.keep X1_0.out
  obtain ⟨_, _, _, _, _, _, _, _, _, _⟩ := cells10 x2_1
  have _ := fz x2_1
  have _ := ltb x2_1
  have X2_1 := hid x2_1; clear x2_1
  have G2 := hid (G1.out.trans hg2)
  clear hg2
  go_wp2
  refine bodyPost_ret (v := .tuple #[dv d0 d1 d2 d3 d4 d5 d6 d7 d8 d9, .int .i64 0]) (by simp [results, Try.results49, go_sem, *]) rfl ⟨rfl, ?_⟩
  exact ((((((((((G2.out).setCell (by simp <;> omega) _).setCell (by simp <;> omega) _).setCell (by simp <;> omega) _).setCell (by simp <;> omega) _).setCell (by simp <;> omega) _).setCell (by simp <;> omega) _).setCell (by simp <;> omega) _).setCell (by simp <;> omega) _).setCell (by simp <;> omega) _).setCell (by simp <;> omega) _
theorem bothLastDigits (xs : List Int) (hn : xs.length ≤ 1048576) : ∃ d0 d1 d2 d3 d4 d5 d6 d7 d8 d9 C : Int,
    (∀ (A : Option Addr) (c : Nat) (w : World), Hid (RdI w A xs) → Calls Try.prog 49 #[.slice A xs.length c] w fun e w' => e = .returned (.tuple #[dv d0 d1 d2 d3 d4 d5 d6 d7 d8 d9, .int .i64 C]) ∧ Gr w w') ∧
    (∀ (A : Option Addr) (c : Nat) (w : World), Hid (RdI w A xs) → Calls Try.prog 51 #[.slice A xs.length c] w fun e w' => e = .returned (.tuple #[dv d0 d1 d2 d3 d4 d5 d6 d7 d8 d9, .int .i64 C]) ∧ Gr w w') := by
  cases h : rdB xs with
  | false => exact ⟨0, 0, 0, 0, 0, 0, 0, 0, 0, 0, 2, fun A c w X => sLast_no A c xs w X hn h, fun A c w X => iLast A _ c 0 0 0 0 0 0 0 0 0 0 2 w fun w' hg => ofR_D_no _ A c xs w' (hid (X.out.keep hg)) h⟩
  | true =>
    obtain ⟨d0, d1, d2, d3, d4, d5, d6, d7, d8, d9, hd⟩ := list10 (dgt_len xs)
    exact ⟨d0, d1, d2, d3, d4, d5, d6, d7, d8, d9, 0, fun A c w X => sLast_yes A c xs d0 d1 d2 d3 d4 d5 d6 d7 d8 d9 w X h hd, fun A c w X => iLast A _ c d0 d1 d2 d3 d4 d5 d6 d7 d8 d9 0 w fun w' hg => ofR_D_yes 110 A c xs d0 d1 d2 d3 d4 d5 d6 d7 d8 d9 w' (hid (X.out.keep hg)) h (fun _ => by kernel_rfl) fun w2 hg2 => iDig A c xs d0 d1 d2 d3 d4 d5 d6 d7 d8 d9 w2 (hid (X.out.keep (hg.trans hg2))) h hd⟩
set_option maxRecDepth 20000 in
set_option maxHeartbeats 1000000 in
theorem eqDig_any (d0 d1 d2 d3 d4 d5 d6 d7 d8 d9 : Int) (w : World) :
    Calls Try.prog 52 #[dv d0 d1 d2 d3 d4 d5 d6 d7 d8 d9, dv d0 d1 d2 d3 d4 d5 d6 d7 d8 d9] w fun e w' => e = .returned (.bool true) ∧ Gr w w' := by
  go_enter Try.func52, Try.ntmps52
  go_wp2_with fail
  go_loopw [5] (fun u wr => ∃ (k : Nat), u = .int .i64 (k : Int) ∧ k ≤ 10 ∧ Gr w wr ∧ wr.heap[w.heap.size]? = some (.cells (intA [d0, d1, d2, d3, d4, d5, d6, d7, d8, d9]) 81) ∧ wr.heap[w.heap.size + 1]? = some (.cells (intA [d0, d1, d2, d3, d4, d5, d6, d7, d8, d9]) 81)) (fun u _ => 10 - (intOf u).toNat)
  case atStart => exact ⟨0, rfl, by omega, ((Gr.refl _).al _).al _, (alloc2 (Gr.refl _)).1, (alloc2 (Gr.refl _)).2.1⟩
  case round =>
    obtain ⟨k, rfl, hk, hg, hy, hx⟩ := hrel
    have GR := hid hg; have Y := hid hy; have Z := hid hx
    clear hg hy hx
    by_cases hlt : k < 10
    · obtain ⟨p, hp⟩ : ∃ p, ([d0, d1, d2, d3, d4, d5, d6, d7, d8, d9] : List Int)[k]? = some p := ⟨_, List.getElem?_eq_getElem (by simpa using hlt)⟩
      have c1 := int_cell Y.out hp
      have c2 := int_cell Z.out hp
      clear hp
      go_wp2_with fail
      go_quiet (fail)
      go_wp2_with fail
      exact ⟨⟨k + 1, by simp, by omega, GR.out.trans (Gr.drewN _ _), Y.out, Z.out⟩, by simp [intOf]; omega⟩
    · have hke : k = 10 := by omega
      subst hke
      go_wp2_with fail
      go_ret
      exact ⟨rfl, GR.out⟩
end Go.Proofs.Ytmjcnagniphkeaa
