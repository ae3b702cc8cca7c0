/- WALKS: MarkAt and LeastCount, of the program and of the reference. -/
import Derived.Test.YtfkmlgndggnhaaaSkg
namespace Go.Proofs.Ytfkmlgndggnhaaa
open Go.RowKit Go.Sort

theorem sScT (a b : Int) (A : Option Addr) (c j : Nat) (xs : List (Int × Int)) (w : World) (X1 : Hid (w.heap[j]? = some (.cells #[.int .i64 a, .int .i64 b, .slice A xs.length c] 32))) (X : Hid (RdF w A xs)) (hn : xs.length ≤ 1048576) (h : sclB a b xs = true) :
    Calls Try.prog 49 #[.pointer (some ⟨j, 0, none⟩)] w fun e w' => e = .returned (.bool true) ∧ Gr w w' := (sScOk a b A c j xs w X1 X hn).mono fun _ _ ⟨he, hg⟩ => ⟨by rw [he, h], hg⟩
theorem sScF (a b : Int) (A : Option Addr) (c j : Nat) (xs : List (Int × Int)) (w : World) (X1 : Hid (w.heap[j]? = some (.cells #[.int .i64 a, .int .i64 b, .slice A xs.length c] 32))) (X : Hid (RdF w A xs)) (hn : xs.length ≤ 1048576) (h : sclB a b xs = false) :
    Calls Try.prog 49 #[.pointer (some ⟨j, 0, none⟩)] w fun e w' => e = .returned (.bool false) ∧ Gr w w' := (sScOk a b A c j xs w X1 X hn).mono fun _ _ ⟨he, hg⟩ => ⟨by rw [he, h], hg⟩
theorem iScT (a b : Int) (A : Option Addr) (c : Nat) (xs : List (Int × Int)) (w : World) (X : Hid (RdF w A xs)) (hn : xs.length ≤ 1048576) (h : sclB a b xs = true) :
    Calls Try.prog 18 #[scl a b A xs.length c] w fun e w' => e = .returned (.bool true) ∧ Gr w w' := (iScOk a b A c xs w X hn).mono fun _ _ ⟨he, hg⟩ => ⟨by rw [he, h], hg⟩
theorem iScF (a b : Int) (A : Option Addr) (c : Nat) (xs : List (Int × Int)) (w : World) (X : Hid (RdF w A xs)) (hn : xs.length ≤ 1048576) (h : sclB a b xs = false) :
    Calls Try.prog 18 #[scl a b A xs.length c] w fun e w' => e = .returned (.bool false) ∧ Gr w w' := (iScOk a b A c xs w X hn).mono fun _ _ ⟨he, hg⟩ => ⟨by rw [he, h], hg⟩
/-- What a valid scale is. -/
structure Scl (a b : Int) (xs : List (Int × Int)) : Prop where
  unit : okB a b = true
  pos : 0 < a
  lo : 2 ≤ xs.length
  hi : xs.length ≤ 60
  ok : ∀ (k : Nat) (p q : Int), xs[k]? = some (p, q) → okB p q = true
  mark : AllMk a b xs
  all : xs.all (fun x => okB x.1 x.2) = true
theorem scl_of {a b : Int} {xs : List (Int × Int)} (h : sclB a b xs = true) : Scl a b xs := by
  unfold sclB withinB at h
  simp only [Bool.and_eq_true, decide_eq_true_eq] at h
  obtain ⟨⟨h1, h2, _⟩, h3, h4⟩ := h
  obtain ⟨h5, h6⟩ := allE_split.1 h4
  obtain ⟨l1, l2⟩ := in_bd h3
  exact ⟨h1, h2, by omega, by omega, fun k p q hk => (h5 k p q hk).1, h6, all_of fun k p q hk => (h5 k p q hk).1⟩
set_option maxRecDepth 20000 in
set_option maxHeartbeats 400000 in
theorem sMarkAt_0 (a b k : Int) (A : Option Addr) (c : Nat) (xs : List (Int × Int)) (w : World) (X : Hid (RdF w A xs)) (hn : xs.length ≤ 1048576) (h : sclB a b xs = false) :
    Calls Try.prog 27 #[scl a b A xs.length c, .int .i64 k] w fun e w' => e = .returned (.tuple #[fr 0 0, .int .i64 1]) ∧ Gr w w' := by
  have h := hid h
  go_enter Try.func27, Try.ntmps27
  go_wp2_with fail
  refine (sScF a b A c _ xs _ (hid (alloc2 (Gr.refl _)).1) (hid (X.out.keep (((Gr.refl w).al _).al _))) hn h.out).mono ?_
  rintro e w1 ⟨rfl, hg1⟩
  obtain ⟨x1_0, x1_1, hz1, g1⟩ := alloc2 hg1
  obtain ⟨_, _, _⟩ := cells3 x1_0
  have _ := fz x1_0
  have _ := ltb x1_0
  obtain ⟨_, _⟩ := cells2 x1_1
  have _ := fz x1_1
  have _ := ltb x1_1
  have X1_0 := hid x1_0; clear x1_0
  have X1_1 := hid x1_1; clear x1_1
  have G1 := hid (g1)
  clear hg1 g1
  go_wp2
  refine bodyPost_ret (v := .tuple #[fr 0 0, .int .i64 1]) (by simp [results, Try.results27, go_sem, *]) rfl ⟨rfl, ?_⟩
  exact ((G1.out).setCell (by simp <;> omega) _).setCell (by simp <;> omega) _
set_option maxRecDepth 20000 in
set_option maxHeartbeats 400000 in
theorem sMarkAt_1 (a b k : Int) (A : Option Addr) (c : Nat) (xs : List (Int × Int)) (w : World) (X : Hid (RdF w A xs)) (hn : xs.length ≤ 1048576) (h : sclB a b xs = true) (hr : inB k 0 ((xs.length : Int) - 1) = false) :
    Calls Try.prog 27 #[scl a b A xs.length c, .int .i64 k] w fun e w' => e = .returned (.tuple #[fr 0 0, .int .i64 2]) ∧ Gr w w' := by
  have h := hid h; have hr := hid hr
  go_enter Try.func27, Try.ntmps27
  go_wp2_with fail
  refine (sScT a b A c _ xs _ (hid (alloc2 (Gr.refl _)).1) (hid (X.out.keep (((Gr.refl w).al _).al _))) hn h.out).mono ?_
  rintro e w1 ⟨rfl, hg1⟩
  obtain ⟨x1_0, x1_1, hz1, g1⟩ := alloc2 hg1
  obtain ⟨_, _, _⟩ := cells3 x1_0
  have _ := fz x1_0
  have _ := ltb x1_0
  obtain ⟨_, _⟩ := cells2 x1_1
  have _ := fz x1_1
  have _ := ltb x1_1
  have X1_0 := hid x1_0; clear x1_0
  have X1_1 := hid x1_1; clear x1_1
  have G1 := hid (g1)
  clear hg1 g1
  go_wp2_with fail
  refine (in_f _ _ _ _ hr.out).mono ?_
  rintro e w2 ⟨rfl, hg2⟩
  have x2_1 := hg2.keep X1_0.out
  have x2_2 := hg2.keep X1_1.out
  obtain ⟨_, _, _⟩ := cells3 x2_1
  have _ := fz x2_1
  have _ := ltb x2_1
  obtain ⟨_, _⟩ := cells2 x2_2
  have _ := fz x2_2
  have _ := ltb x2_2
  have X2_1 := hid x2_1; clear x2_1
  have X2_2 := hid x2_2; clear x2_2
  have G2 := hid (G1.out.trans hg2)
  clear hg2
  go_wp2
  refine bodyPost_ret (v := .tuple #[fr 0 0, .int .i64 2]) (by simp [results, Try.results27, go_sem, *]) rfl ⟨rfl, ?_⟩
  exact ((G2.out).setCell (by simp <;> omega) _).setCell (by simp <;> omega) _
set_option maxRecDepth 20000 in
set_option maxHeartbeats 400000 in
theorem sMarkAt_2 (a b : Int) (k : Nat) (A : Option Addr) (c : Nat) (xs : List (Int × Int)) (p q : Int) (w : World) (X : Hid (RdF w A xs)) (hn : xs.length ≤ 1048576) (h : sclB a b xs = true) (hk : xs[k]? = some (p, q)) :
    Calls Try.prog 27 #[scl a b A xs.length c, .int .i64 k] w fun e w' => e = .returned (.tuple #[fr (mkP a b k p q) (mkQ a b k p q), .int .i64 0]) ∧ Gr w w' := by
  have S := hid (scl_of h)
  have hlt := (List.getElem?_eq_some_iff.1 hk).1
  have hhi := S.out.hi
  have hr := hid (show inB k 0 ((xs.length : Int) - 1) = true by unfold inB; simp; omega)
  have HM := hid fun (w' : World) (j : Nat) (Z1 : Hid (w'.heap[j]? = some (.cells #[.int .i64 a, .int .i64 b, .slice A xs.length c] 32))) (Z : Hid (RdF w' A xs)) => smark_yes a b A c k j xs p q w' Z1 Z hk hn S.out.unit (ok_whole (by omega) (by omega)) (S.out.ok k p q hk) (S.out.mark k p q hk)
  have h := hid h
  clear hk
  go_enter Try.func27, Try.ntmps27
  go_wp2_with fail
  refine (sScT a b A c _ xs _ (hid (alloc2 (Gr.refl _)).1) (hid (X.out.keep (((Gr.refl w).al _).al _))) hn h.out).mono ?_
  rintro e w1 ⟨rfl, hg1⟩
  obtain ⟨x1_0, x1_1, hz1, g1⟩ := alloc2 hg1
  obtain ⟨_, _, _⟩ := cells3 x1_0
  have _ := fz x1_0
  have _ := ltb x1_0
  obtain ⟨_, _⟩ := cells2 x1_1
  have _ := fz x1_1
  have _ := ltb x1_1
  have X1_0 := hid x1_0; clear x1_0
  have X1_1 := hid x1_1; clear x1_1
  have G1 := hid (g1)
  clear hg1 g1
  go_wp2_with fail
  refine (in_t _ _ _ _ hr.out).mono ?_
  rintro e w2 ⟨rfl, hg2⟩
  have x2_1 := hg2.keep X1_0.out
  have x2_2 := hg2.keep X1_1.out
  obtain ⟨_, _, _⟩ := cells3 x2_1
  have _ := fz x2_1
  have _ := ltb x2_1
  obtain ⟨_, _⟩ := cells2 x2_2
  have _ := fz x2_2
  have _ := ltb x2_2
  have X2_1 := hid x2_1; clear x2_1
  have X2_2 := hid x2_2; clear x2_2
  have G2 := hid (G1.out.trans hg2)
  clear hg2
  go_wp2_with fail
  refine (HM.out _ _ (hid X2_1.out) (hid (X.out.keep G2.out))).mono ?_
  rintro e w3 ⟨rfl, hg3⟩
  have x3_1 := hg3.keep X2_1.out
  have x3_2 := hg3.keep X2_2.out
  obtain ⟨_, _, _⟩ := cells3 x3_1
  have _ := fz x3_1
  have _ := ltb x3_1
  obtain ⟨_, _⟩ := cells2 x3_2
  have _ := fz x3_2
  have _ := ltb x3_2
  have X3_1 := hid x3_1; clear x3_1
  have X3_2 := hid x3_2; clear x3_2
  have G3 := hid (G2.out.trans hg3)
  clear hg3
  go_wp2
  refine bodyPost_ret (v := .tuple #[fr (mkP a b k p q) (mkQ a b k p q), .int .i64 0]) (by simp [results, Try.results27, go_sem, *]) rfl ⟨rfl, ?_⟩
  exact ((G3.out).setCell (by simp <;> omega) _).setCell (by simp <;> omega) _
set_option maxRecDepth 20000 in
set_option maxHeartbeats 400000 in
theorem iMarkAt_0 (a b k : Int) (A : Option Addr) (c : Nat) (xs : List (Int × Int)) (w : World) (X : Hid (RdF w A xs)) (hn : xs.length ≤ 1048576) (h : sclB a b xs = false) :
    Calls Try.prog 28 #[scl a b A xs.length c, .int .i64 k] w fun e w' => e = .returned (.tuple #[fr 0 0, .int .i64 1]) ∧ Gr w w' := by
  have h := hid h
  go_enter Try.func28, Try.ntmps28
  go_wp2_with fail
  refine (iScF a b A c xs _ (hid (X.out.keep (((Gr.refl w).al _).al _))) hn h.out).mono ?_
  rintro e w1 ⟨rfl, hg1⟩
  obtain ⟨x1_0, x1_1, hz1, g1⟩ := alloc2 hg1
  obtain ⟨_, _, _⟩ := cells3 x1_0
  have _ := fz x1_0
  have _ := ltb x1_0
  obtain ⟨_, _⟩ := cells2 x1_1
  have _ := fz x1_1
  have _ := ltb x1_1
  have X1_0 := hid x1_0; clear x1_0
  have X1_1 := hid x1_1; clear x1_1
  have G1 := hid (g1)
  clear hg1 g1
  go_wp2
  refine bodyPost_ret (v := .tuple #[fr 0 0, .int .i64 1]) (by simp [results, Try.results28, go_sem, *]) rfl ⟨rfl, ?_⟩
  exact ((G1.out).setCell (by simp <;> omega) _).setCell (by simp <;> omega) _
set_option maxRecDepth 20000 in
set_option maxHeartbeats 400000 in
theorem iMarkAt_1 (a b k : Int) (A : Option Addr) (c : Nat) (xs : List (Int × Int)) (w : World) (X : Hid (RdF w A xs)) (hn : xs.length ≤ 1048576) (h : sclB a b xs = true) (hr : inB k 0 ((xs.length : Int) - 1) = false) :
    Calls Try.prog 28 #[scl a b A xs.length c, .int .i64 k] w fun e w' => e = .returned (.tuple #[fr 0 0, .int .i64 2]) ∧ Gr w w' := by
  have h := hid h
  by_cases h0 : k < 0
  · have hd : decide (k < 0) = true := by simpa using h0
    go_enter Try.func28, Try.ntmps28
    go_wp2_with fail
    refine (iScT a b A c xs _ (hid (X.out.keep (((Gr.refl w).al _).al _))) hn h.out).mono ?_
    rintro e w1 ⟨rfl, hg1⟩
    obtain ⟨x1_0, x1_1, hz1, g1⟩ := alloc2 hg1
    obtain ⟨_, _, _⟩ := cells3 x1_0
    have _ := fz x1_0
    have _ := ltb x1_0
    obtain ⟨_, _⟩ := cells2 x1_1
    have _ := fz x1_1
    have _ := ltb x1_1
    have X1_0 := hid x1_0; clear x1_0
    have X1_1 := hid x1_1; clear x1_1
    have G1 := hid (g1)
    clear hg1 g1
    go_wp2
    refine bodyPost_ret (v := .tuple #[fr 0 0, .int .i64 2]) (by simp [results, Try.results28, go_sem, *]) rfl ⟨rfl, ?_⟩
    exact ((G1.out).setCell (by simp <;> omega) _).setCell (by simp <;> omega) _
  · have hd : decide (k < 0) = false := by simpa using h0
    have hd2 : decide ((xs.length : Int) ≤ k) = true := by unfold inB at hr; simp at hr ⊢; omega
    go_enter Try.func28, Try.ntmps28
    go_wp2_with fail
    refine (iScT a b A c xs _ (hid (X.out.keep (((Gr.refl w).al _).al _))) hn h.out).mono ?_
    rintro e w1 ⟨rfl, hg1⟩
    obtain ⟨x1_0, x1_1, hz1, g1⟩ := alloc2 hg1
    obtain ⟨_, _, _⟩ := cells3 x1_0
    have _ := fz x1_0
    have _ := ltb x1_0
    obtain ⟨_, _⟩ := cells2 x1_1
    have _ := fz x1_1
    have _ := ltb x1_1
    have X1_0 := hid x1_0; clear x1_0
    have X1_1 := hid x1_1; clear x1_1
    have G1 := hid (g1)
    clear hg1 g1
    go_wp2
    refine bodyPost_ret (v := .tuple #[fr 0 0, .int .i64 2]) (by simp [results, Try.results28, go_sem, *]) rfl ⟨rfl, ?_⟩
    exact ((G1.out).setCell (by simp <;> omega) _).setCell (by simp <;> omega) _
set_option maxRecDepth 20000 in
set_option maxHeartbeats 400000 in
theorem iMarkAt_2 (a b : Int) (k : Nat) (A : Option Addr) (c : Nat) (xs : List (Int × Int)) (p q : Int) (w : World) (X : Hid (RdF w A xs)) (hn : xs.length ≤ 1048576) (h : sclB a b xs = true) (hk : xs[k]? = some (p, q)) :
    Calls Try.prog 28 #[scl a b A xs.length c, .int .i64 k] w fun e w' => e = .returned (.tuple #[fr (mkP a b k p q) (mkQ a b k p q), .int .i64 0]) ∧ Gr w w' := by
  have S := hid (scl_of h)
  have hlt := (List.getElem?_eq_some_iff.1 hk).1
  have hhi := S.out.hi
  have hd : decide ((k : Int) < 0) = false := by simp <;> omega
  have hd2 : decide ((xs.length : Int) ≤ k) = false := by simp; omega
  have HM := hid fun (w' : World) (Z : Hid (RdF w' A xs)) => imark_yes a b A c k xs p q w' Z hk hn S.out.unit (ok_whole (by omega) (by omega)) (S.out.ok k p q hk) (S.out.mark k p q hk)
  have h := hid h
  clear hk
  go_enter Try.func28, Try.ntmps28
  go_wp2_with fail
  refine (iScT a b A c xs _ (hid (X.out.keep (((Gr.refl w).al _).al _))) hn h.out).mono ?_
  rintro e w1 ⟨rfl, hg1⟩
  obtain ⟨x1_0, x1_1, hz1, g1⟩ := alloc2 hg1
  obtain ⟨_, _, _⟩ := cells3 x1_0
  have _ := fz x1_0
  have _ := ltb x1_0
  obtain ⟨_, _⟩ := cells2 x1_1
  have _ := fz x1_1
  have _ := ltb x1_1
  have X1_0 := hid x1_0; clear x1_0
  have X1_1 := hid x1_1; clear x1_1
  have G1 := hid (g1)
  clear hg1 g1
  go_wp2_with fail
  refine (HM.out _ (hid (X.out.keep G1.out))).mono ?_
  rintro e w2 ⟨rfl, hg2⟩
  have x2_1 := hg2.keep X1_0.out
  have x2_2 := hg2.keep X1_1.out
  obtain ⟨_, _, _⟩ := cells3 x2_1
  have _ := fz x2_1
  have _ := ltb x2_1
  obtain ⟨_, _⟩ := cells2 x2_2
  have _ := fz x2_2
  have _ := ltb x2_2
  have X2_1 := hid x2_1; clear x2_1
  have X2_2 := hid x2_2; clear x2_2
  have G2 := hid (G1.out.trans hg2)
  clear hg2
  go_wp2
  refine bodyPost_ret (v := .tuple #[fr (mkP a b k p q) (mkQ a b k p q), .int .i64 0]) (by simp [results, Try.results28, go_sem, *]) rfl ⟨rfl, ?_⟩
  exact ((G2.out).setCell (by simp <;> omega) _).setCell (by simp <;> omega) _
theorem bothMarkAt (a b : Int) (xs : List (Int × Int)) (k : Int) (hn : xs.length ≤ 1048576) : ∃ R0 R1 R2 : Int,
    (∀ (A : Option Addr) (c : Nat) (w : World), Hid (RdF w A xs) → Calls Try.prog 27 #[scl a b A xs.length c, .int .i64 k] w fun x w' => x = .returned (.tuple #[fr R0 R1, .int .i64 R2]) ∧ Gr w w') ∧
    (∀ (A : Option Addr) (c : Nat) (w : World), Hid (RdF w A xs) → Calls Try.prog 28 #[scl a b A xs.length c, .int .i64 k] w fun x w' => x = .returned (.tuple #[fr R0 R1, .int .i64 R2]) ∧ Gr w w') := by
  cases h : sclB a b xs with
  | false => exact ⟨0, 0, 1, fun A c w X => sMarkAt_0 a b k A c xs w X hn h, fun A c w X => iMarkAt_0 a b k A c xs w X hn h⟩
  | true =>
    cases hr : inB k 0 ((xs.length : Int) - 1) with
    | false => exact ⟨0, 0, 2, fun A c w X => sMarkAt_1 a b k A c xs w X hn h hr, fun A c w X => iMarkAt_1 a b k A c xs w X hn h hr⟩
    | true =>
      obtain ⟨l1, l2⟩ := in_bd hr
      obtain ⟨m, rfl⟩ := Int.eq_ofNat_of_zero_le l1
      obtain ⟨⟨p, q⟩, hpq⟩ : ∃ pq, xs[m]? = some pq := ⟨xs[m]'(by omega), List.getElem?_eq_getElem _⟩
      exact ⟨_, _, 0, fun A c w X => sMarkAt_2 a b m A c xs p q w X hn h hpq, fun A c w X => iMarkAt_2 a b m A c xs p q w X hn h hpq⟩
end Go.Proofs.Ytfkmlgndggnhaaa
