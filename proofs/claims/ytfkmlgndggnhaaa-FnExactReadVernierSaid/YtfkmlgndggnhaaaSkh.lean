/- WALKS: MarkAt and LeastCount, of the program and of the reference. -/
import Derived.Test.YtfkmlgndggnhaaaSkf
import Derived.Test.YtfkmlgndggnhaaaW
import Derived.Test.YtfkmlgndggnhaaaH
import Derived.Test.YtfkmlgndggnhaaaFu
import Derived.Test.YtfkmlgndggnhaaaC1
namespace Go.Proofs.Ytfkmlgndggnhaaa
open Go.RowKit Go.Sort

theorem sScT (a b : Int) (A : Option Addr) (c j : Nat) (xs : List (Int × Int)) (w : World) (X1 : Hid (w.heap[j]? = some (.cells #[.int .i64 a, .int .i64 b, .slice A xs.length c] 32))) (X : Hid (RdF w A xs)) (hn : xs.length ≤ 1048576) (h : sclB a b xs = true) :
    Calls Try.prog 49 #[.pointer (some ⟨j, 0, none⟩)] w fun e w' => e = .returned (.bool true) ∧ Gr w w' := (sScOk a b A c j xs w X1 X hn).mono fun _ _ ⟨he, hg⟩ => ⟨by rw [he, h], hg⟩
theorem sScF (a b : Int) (A : Option Addr) (c j : Nat) (xs : List (Int × Int)) (w : World) (X1 : Hid (w.heap[j]? = some (.cells #[.int .i64 a, .int .i64 b, .slice A xs.length c] 32))) (X : Hid (RdF w A xs)) (hn : xs.length ≤ 1048576) (h : sclB a b xs = false) :
    Calls Try.prog 49 #[.pointer (some ⟨j, 0, none⟩)] w fun e w' => e = .returned (.bool false) ∧ Gr w w' := (sScOk a b A c j xs w X1 X hn).mono fun _ _ ⟨he, hg⟩ => ⟨by rw [he, h], hg⟩
theorem iScT (a b : Int) (A : Option Addr) (c : Nat) (xs : List (Int × Int)) (w : World) (X : Hid (RdF w A xs)) (hn : xs.length ≤ 1048576) (h : sclB a b xs = true) :
    Calls Try.prog 18 #[scl a b A xs.length c] w fun e w' => e = .returned (.bool true) ∧ Gr w w' := (iScOk a b A c xs w X hn).mono fun _ _ ⟨he, hg⟩ => ⟨by rw [he, h], hg⟩
theorem iScF (a b : Int) (A : Option Addr) (c : Nat) (xs : List (Int × Int)) (w : World) (X : Hid (RdF w A xs)) (hn : xs.length ≤ 1048576) (h : sclB a b xs = false) :
    Calls Try.prog 18 #[scl a b A xs.length c] w fun e w' => e = .returned (.bool false) ∧ Gr w w' := (iScOk a b A c xs w X hn).mono fun _ _ ⟨he, hg⟩ => ⟨by rw [he, h], hg⟩
/-- What a valid scale is. -/
structure Scl (a b : Int) (xs : List (Int × Int)) : Prop where
  unit : okB a b = true
  pos : 0 < a
  lo : 2 ≤ xs.length
  hi : xs.length ≤ 60
  ok : ∀ (k : Nat) (p q : Int), xs[k]? = some (p, q) → okB p q = true
  mark : AllMk a b xs
  all : xs.all (fun x => okB x.1 x.2) = true
theorem scl_of {a b : Int} {xs : List (Int × Int)} (h : sclB a b xs = true) : Scl a b xs := by
  unfold sclB withinB at h
  simp only [Bool.and_eq_true, decide_eq_true_eq] at h
  obtain ⟨⟨h1, h2, _⟩, h3, h4⟩ := h
  obtain ⟨h5, h6⟩ := allE_split.1 h4
  obtain ⟨l1, l2⟩ := in_bd h3
  exact ⟨h1, h2, by omega, by omega, fun k p q hk => (h5 k p q hk).1, h6, all_of fun k p q hk => (h5 k p q hk).1⟩
set_option maxRecDepth 20000 in
set_option maxHeartbeats 400000 in
theorem sMarkAt_0 (a b k : Int) (A : Option Addr) (c : Nat) (xs : List (Int × Int)) (w : World) (X : Hid (RdF w A xs)) (hn : xs.length ≤ 1048576) (h : sclB a b xs = false) :
    Calls Try.prog 27 #[scl a b A xs.length c, .int .i64 k] w fun e w' => e = .returned (.tuple #[fr 0 0, .int .i64 1]) ∧ Gr w w' := by
  have h := hid h
  go_enter Try.func27, Try.ntmps27
  go_wp2_with fail
  refine (sScF a b A c _ xs _ (hid (alloc2 (Gr.refl _)).1) (hid (X.out.keep (((Gr.refl w).al _).al _))) hn h.out).mono ?_
  rintro e w1 ⟨rfl, hg1⟩
  obtain ⟨x1_0, x1_1, hz1, g1⟩ := alloc2 hg1
  obtain ⟨_, _, _⟩ := cells3 x1_0
  have _ := fz x1_0
  have _ := ltb x1_0
  obtain ⟨_, _⟩ := cells2 x1_1
  have _ := fz x1_1
  have _ := ltb x1_1
  have X1_0 := hid x1_0; clear x1_0
  have X1_1 := hid x1_1; clear x1_1
  have G1 := hid (g1)
  clear hg1 g1
  go_wp2
  refine bodyPost_ret (v := .tuple #[fr 0 0, .int .i64 1]) (by simp [results, Try.results27, go_sem, *]) rfl ⟨rfl, ?_⟩
  exact ((G1.out).setCell (by simp <;> omega) _).setCell (by simp <;> omega) _
set_option maxRecDepth 20000 in
set_option maxHeartbeats 400000 in
theorem sMarkAt_1 (a b k : Int) (A : Option Addr) (c : Nat) (xs : List (Int × Int)) (w : World) (X : Hid (RdF w A xs)) (hn : xs.length ≤ 1048576) (h : sclB a b xs = true) (hr : inB k 0 ((xs.length : Int) - 1) = false) :
    Calls Try.prog 27 #[scl a b A xs.length c, .int .i64 k] w fun e w' => e = .returned (.tuple #[fr 0 0, .int .i64 2]) ∧ Gr w w' := by
  have h := hid h; have hr := hid hr
  go_enter Try.func27, Try.ntmps27
  go_wp2_with fail
  refine (sScT a b A c _ xs _ (hid (alloc2 (Gr.refl _)).1) (hid (X.out.keep (((Gr.refl w).al _).al _))) hn h.out).mono ?_
  rintro e w1 ⟨rfl, hg1⟩
  obtain ⟨x1_0, x1_1, hz1, g1⟩ := alloc2 hg1
  obtain ⟨_, _, _⟩ := cells3 x1_0
  have _ := fz x1_0
  have _ := ltb x1_0
  obtain ⟨_, _⟩ := cells2 x1_1
  have _ := fz x1_1
  have _ := ltb x1_1
  have X1_0 := hid x1_0; clear x1_0
  have X1_1 := hid x1_1; clear x1_1
  have G1 := hid (g1)
  clear hg1 g1
  go_wp2_with fail
  refine (in_f _ _ _ _ hr.out).mono ?_
  rintro e w2 ⟨rfl, hg2⟩
  have x2_1 := hg2.keep X1_0.out
  have x2_2 := hg2.keep X1_1.out
  obtain ⟨_, _, _⟩ := cells3 x2_1
  have _ := fz x2_1
  have _ := ltb x2_1
  obtain ⟨_, _⟩ := cells2 x2_2
  have _ := fz x2_2
  have _ := ltb x2_2
  have X2_1 := hid x2_1; clear x2_1
  have X2_2 := hid x2_2; clear x2_2
  have G2 := hid (G1.out.trans hg2)
  clear hg2
  go_wp2
  refine bodyPost_ret (v := .tuple #[fr 0 0, .int .i64 2]) (by simp [results, Try.results27, go_sem, *]) rfl ⟨rfl, ?_⟩
  exact ((G2.out).setCell (by simp <;> omega) _).setCell (by simp <;> omega) _
set_option maxRecDepth 20000 in
set_option maxHeartbeats 400000 in
theorem sMarkAt_2 (a b : Int) (k : Nat) (A : Option Addr) (c : Nat) (xs : List (Int × Int)) (p q : Int) (w : World) (X : Hid (RdF w A xs)) (hn : xs.length ≤ 1048576) (h : sclB a b xs = true) (hk : xs[k]? = some (p, q)) :
    Calls Try.prog 27 #[scl a b A xs.length c, .int .i64 k] w fun e w' => e = .returned (.tuple #[fr (mkP a b k p q) (mkQ a b k p q), .int .i64 0]) ∧ Gr w w' := by
  have S := hid (scl_of h)
  have hlt := (List.getElem?_eq_some_iff.1 hk).1
  have hhi := S.out.hi
  have hr := hid (show inB k 0 ((xs.length : Int) - 1) = true by unfold inB; simp; omega)
  have HM := hid fun (w' : World) (j : Nat) (Z1 : Hid (w'.heap[j]? = some (.cells #[.int .i64 a, .int .i64 b, .slice A xs.length c] 32))) (Z : Hid (RdF w' A xs)) => smark_yes a b A c k j xs p q w' Z1 Z hk hn S.out.unit (ok_whole (by omega) (by omega)) (S.out.ok k p q hk) (S.out.mark k p q hk)
  have h := hid h
  clear hk
  go_enter Try.func27, Try.ntmps27
  go_wp2_with fail
  refine (sScT a b A c _ xs _ (hid (alloc2 (Gr.refl _)).1) (hid (X.out.keep (((Gr.refl w).al _).al _))) hn h.out).mono ?_
  rintro e w1 ⟨rfl, hg1⟩
  obtain ⟨x1_0, x1_1, hz1, g1⟩ := alloc2 hg1
  obtain ⟨_, _, _⟩ := cells3 x1_0
  have _ := fz x1_0
  have _ := ltb x1_0
  obtain ⟨_, _⟩ := cells2 x1_1
  have _ := fz x1_1
  have _ := ltb x1_1
  have X1_0 := hid x1_0; clear x1_0
  have X1_1 := hid x1_1; clear x1_1
  have G1 := hid (g1)
  clear hg1 g1
  go_wp2_with fail
  refine (in_t _ _ _ _ hr.out).mono ?_
  rintro e w2 ⟨rfl, hg2⟩
  have x2_1 := hg2.keep X1_0.out
  have x2_2 := hg2.keep X1_1.out
  obtain ⟨_, _, _⟩ := cells3 x2_1
  have _ := fz x2_1
  have _ := ltb x2_1
  obtain ⟨_, _⟩ := cells2 x2_2
  have _ := fz x2_2
  have _ := ltb x2_2
  have X2_1 := hid x2_1; clear x2_1
  have X2_2 := hid x2_2; clear x2_2
  have G2 := hid (G1.out.trans hg2)
  clear hg2
  go_wp2_with fail
  refine (HM.out _ _ (hid X2_1.out) (hid (X.out.keep G2.out))).mono ?_
  rintro e w3 ⟨rfl, hg3⟩
  have x3_1 := hg3.keep X2_1.out
  have x3_2 := hg3.keep X2_2.out
  obtain ⟨_, _, _⟩ := cells3 x3_1
  have _ := fz x3_1
  have _ := ltb x3_1
  obtain ⟨_, _⟩ := cells2 x3_2
  have _ := fz x3_2
  have _ := ltb x3_2
  have X3_1 := hid x3_1; clear x3_1
  have X3_2 := hid x3_2; clear x3_2
  have G3 := hid (G2.out.trans hg3)
  clear hg3
  go_wp2
  refine bodyPost_ret (v := .tuple #[fr (mkP a b k p q) (mkQ a b k p q), .int .i64 0]) (by simp [results, Try.results27, go_sem, *]) rfl ⟨rfl, ?_⟩
  exact ((G3.out).setCell (by simp <;> omega) _).setCell (by simp <;> omega) _
set_option maxRecDepth 20000 in
set_option maxHeartbeats 400000 in
theorem iMarkAt_0 (a b k : Int) (A : Option Addr) (c : Nat) (xs : List (Int × Int)) (w : World) (X : Hid (RdF w A xs)) (hn : xs.length ≤ 1048576) (h : sclB a b xs = false) :
    Calls Try.prog 28 #[scl a b A xs.length c, .int .i64 k] w fun e w' => e = .returned (.tuple #[fr 0 0, .int .i64 1]) ∧ Gr w w' := by
  have h := hid h
  go_enter Try.func28, Try.ntmps28
  go_wp2_with fail
  refine (iScF a b A c xs _ (hid (X.out.keep (((Gr.refl w).al _).al _))) hn h.out).mono ?_
  rintro e w1 ⟨rfl, hg1⟩
  obtain ⟨x1_0, x1_1, hz1, g1⟩ := alloc2 hg1
  obtain ⟨_, _, _⟩ := cells3 x1_0
  have _ := fz x1_0
  have _ := ltb x1_0
  obtain ⟨_, _⟩ := cells2 x1_1
  have _ := fz x1_1
  have _ := ltb x1_1
  have X1_0 := hid x1_0; clear x1_0
  have X1_1 := hid x1_1; clear x1_1
  have G1 := hid (g1)
  clear hg1 g1
  go_wp2
  refine bodyPost_ret (v := .tuple #[fr 0 0, .int .i64 1]) (by simp [results, Try.results28, go_sem, *]) rfl ⟨rfl, ?_⟩
  exact ((G1.out).setCell (by simp <;> omega) _).setCell (by simp <;> omega) _
set_option maxRecDepth 20000 in
set_option maxHeartbeats 400000 in
theorem iMarkAt_1 (a b k : Int) (A : Option Addr) (c : Nat) (xs : List (Int × Int)) (w : World) (X : Hid (RdF w A xs)) (hn : xs.length ≤ 1048576) (h : sclB a b xs = true) (hr : inB k 0 ((xs.length : Int) - 1) = false) :
    Calls Try.prog 28 #[scl a b A xs.length c, .int .i64 k] w fun e w' => e = .returned (.tuple #[fr 0 0, .int .i64 2]) ∧ Gr w w' := by
  have h := hid h
  by_cases h0 : k < 0
  · have hd : decide (k < 0) = true := by simpa using h0
    go_enter Try.func28, Try.ntmps28
    go_wp2_with fail
    refine (iScT a b A c xs _ (hid (X.out.keep (((Gr.refl w).al _).al _))) hn h.out).mono ?_
    rintro e w1 ⟨rfl, hg1⟩
    obtain ⟨x1_0, x1_1, hz1, g1⟩ := alloc2 hg1
    obtain ⟨_, _, _⟩ := cells3 x1_0
    have _ := fz x1_0
    have _ := ltb x1_0
    obtain ⟨_, _⟩ := cells2 x1_1
    have _ := fz x1_1
    have _ := ltb x1_1
    have X1_0 := hid x1_0; clear x1_0
    have X1_1 := hid x1_1; clear x1_1
    have G1 := hid (g1)
    clear hg1 g1
    go_wp2
    refine bodyPost_ret (v := .tuple #[fr 0 0, .int .i64 2]) (by simp [results, Try.results28, go_sem, *]) rfl ⟨rfl, ?_⟩
    exact ((G1.out).setCell (by simp <;> omega) _).setCell (by simp <;> omega) _
  · have hd : decide (k < 0) = false := by simpa using h0
    have hd2 : decide ((xs.length : Int) ≤ k) = true := by unfold inB at hr; simp at hr ⊢; omega
    go_enter Try.func28, Try.ntmps28
    go_wp2_with fail
    refine (iScT a b A c xs _ (hid (X.out.keep (((Gr.refl w).al _).al _))) hn h.out).mono ?_
    rintro e w1 ⟨rfl, hg1⟩
    obtain ⟨x1_0, x1_1, hz1, g1⟩ := alloc2 hg1
    obtain ⟨_, _, _⟩ := cells3 x1_0
    have _ := fz x1_0
    have _ := ltb x1_0
    obtain ⟨_, _⟩ := cells2 x1_1
    have _ := fz x1_1
    have _ := ltb x1_1
    have X1_0 := hid x1_0; clear x1_0
    have X1_1 := hid x1_1; clear x1_1
    have G1 := hid (g1)
    clear hg1 g1
    go_wp2
    refine bodyPost_ret (v := .tuple #[fr 0 0, .int .i64 2]) (by simp [results, Try.results28, go_sem, *]) rfl ⟨rfl, ?_⟩
    exact ((G1.out).setCell (by simp <;> omega) _).setCell (by simp <;> omega) _
set_option maxRecDepth 20000 in
set_option maxHeartbeats 400000 in
theorem iMarkAt_2 (a b : Int) (k : Nat) (A : Option Addr) (c : Nat) (xs : List (Int × Int)) (p q : Int) (w : World) (X : Hid (RdF w A xs)) (hn : xs.length ≤ 1048576) (h : sclB a b xs = true) (hk : xs[k]? = some (p, q)) :
    Calls Try.prog 28 #[scl a b A xs.length c, .int .i64 k] w fun e w' => e = .returned (.tuple #[fr (mkP a b k p q) (mkQ a b k p q), .int .i64 0]) ∧ Gr w w' := by
  have S := hid (scl_of h)
  have hlt := (List.getElem?_eq_some_iff.1 hk).1
  have hhi := S.out.hi
  have hd : decide ((k : Int) < 0) = false := by simp <;> omega
  have hd2 : decide ((xs.length : Int) ≤ k) = false := by simp; omega
  have HM := hid fun (w' : World) (Z : Hid (RdF w' A xs)) => imark_yes a b A c k xs p q w' Z hk hn S.out.unit (ok_whole (by omega) (by omega)) (S.out.ok k p q hk) (S.out.mark k p q hk)
  have h := hid h
  clear hk
  go_enter Try.func28, Try.ntmps28
  go_wp2_with fail
  refine (iScT a b A c xs _ (hid (X.out.keep (((Gr.refl w).al _).al _))) hn h.out).mono ?_
  rintro e w1 ⟨rfl, hg1⟩
  obtain ⟨x1_0, x1_1, hz1, g1⟩ := alloc2 hg1
  obtain ⟨_, _, _⟩ := cells3 x1_0
  have _ := fz x1_0
  have _ := ltb x1_0
  obtain ⟨_, _⟩ := cells2 x1_1
  have _ := fz x1_1
  have _ := ltb x1_1
  have X1_0 := hid x1_0; clear x1_0
  have X1_1 := hid x1_1; clear x1_1
  have G1 := hid (g1)
  clear hg1 g1
  go_wp2_with fail
  refine (HM.out _ (hid (X.out.keep G1.out))).mono ?_
  rintro e w2 ⟨rfl, hg2⟩
  have x2_1 := hg2.keep X1_0.out
  have x2_2 := hg2.keep X1_1.out
  obtain ⟨_, _, _⟩ := cells3 x2_1
  have _ := fz x2_1
  have _ := ltb x2_1
  obtain ⟨_, _⟩ := cells2 x2_2
  have _ := fz x2_2
  have _ := ltb x2_2
  have X2_1 := hid x2_1; clear x2_1
  have X2_2 := hid x2_2; clear x2_2
  have G2 := hid (G1.out.trans hg2)
  clear hg2
  go_wp2
  refine bodyPost_ret (v := .tuple #[fr (mkP a b k p q) (mkQ a b k p q), .int .i64 0]) (by simp [results, Try.results28, go_sem, *]) rfl ⟨rfl, ?_⟩
  exact ((G2.out).setCell (by simp <;> omega) _).setCell (by simp <;> omega) _
theorem bothMarkAt (a b : Int) (xs : List (Int × Int)) (k : Int) (hn : xs.length ≤ 1048576) : ∃ R0 R1 R2 : Int,
    (∀ (A : Option Addr) (c : Nat) (w : World), Hid (RdF w A xs) → Calls Try.prog 27 #[scl a b A xs.length c, .int .i64 k] w fun x w' => x = .returned (.tuple #[fr R0 R1, .int .i64 R2]) ∧ Gr w w') ∧
    (∀ (A : Option Addr) (c : Nat) (w : World), Hid (RdF w A xs) → Calls Try.prog 28 #[scl a b A xs.length c, .int .i64 k] w fun x w' => x = .returned (.tuple #[fr R0 R1, .int .i64 R2]) ∧ Gr w w') := by
  cases h : sclB a b xs with
  | false => exact ⟨0, 0, 1, fun A c w X => sMarkAt_0 a b k A c xs w X hn h, fun A c w X => iMarkAt_0 a b k A c xs w X hn h⟩
  | true =>
    cases hr : inB k 0 ((xs.length : Int) - 1) with
    | false => exact ⟨0, 0, 2, fun A c w X => sMarkAt_1 a b k A c xs w X hn h hr, fun A c w X => iMarkAt_1 a b k A c xs w X hn h hr⟩
    | true =>
      obtain ⟨l1, l2⟩ := in_bd hr
      obtain ⟨m, rfl⟩ := Int.eq_ofNat_of_zero_le l1
      obtain ⟨⟨p, q⟩, hpq⟩ : ∃ pq, xs[m]? = some pq := ⟨xs[m]'(by omega), List.getElem?_eq_getElem _⟩
      exact ⟨_, _, 0, fun A c w X => sMarkAt_2 a b m A c xs p q w X hn h hpq, fun A c w X => iMarkAt_2 a b m A c xs p q w X hn h hpq⟩
end Go.Proofs.Ytfkmlgndggnhaaa
namespace Go.Proofs.Ytfkmlgndggnhaaa
open Go.RowKit Go.Sort

theorem absI_bd {p q : Int} (h : okB p q = true) : okB (absI p) q = true := by
  obtain ⟨b1, b2, b3, b4⟩ := okB_bd h
  rw [okB_iff] at h ⊢
  unfold Ok at h ⊢
  unfold absI
  obtain ⟨h1, h2, h3, h4, h5⟩ := h
  refine ⟨h1, h2, by omega, by omega, ?_⟩
  simpa [Int.gcd] using h5
set_option maxHeartbeats 400000 in
theorem ssize (p q : Int) (w : World) (h : okB p q = true) :
    Calls Try.prog 118 #[fr p q] w fun e w' => e = .returned (fr (absI p) q) ∧ Gr w w' := by
  obtain ⟨b1, b2, b3, b4⟩ := okB_bd h
  unfold absI
  clear h
  by_cases h : p < 0
  · have e : ((p.natAbs : Nat) : Int) = -p := by omega
    rw [e]
    go_enter Try.func118, Try.ntmps118
    go_wp2_with fail
    refine (sneg _ _ _ b3 b4).mono ?_
    rintro e w1 ⟨rfl, hg1⟩
    obtain ⟨x1_0, x1_1, hz1, g1⟩ := alloc2 hg1
    obtain ⟨_, _⟩ := cells2 x1_0
    have _ := fz x1_0
    have _ := ltb x1_0
    obtain ⟨_, _⟩ := cells2 x1_1
    have _ := fz x1_1
    have _ := ltb x1_1
    have X1_0 := hid x1_0; clear x1_0
    have X1_1 := hid x1_1; clear x1_1
    have G1 := hid (g1)
    clear hg1 g1
    go_wp2
    refine bodyPost_ret (v := fr (-p) q) (by simp [results, Try.results118, go_sem, *]) rfl ⟨rfl, ?_⟩
    exact ((G1.out).setCell (by simp <;> omega) _).setCell (by simp <;> omega) _
  · have e : ((p.natAbs : Nat) : Int) = p := by omega
    rw [e]
    go_enter Try.func118, Try.ntmps118
    go_wp2_with fail
    refine bodyPost_ret (v := fr p q) (by simp [results, Try.results118, go_sem]) rfl ⟨rfl, (Gr.alloc _ _).al _⟩
theorem isize_gr (p q : Int) (w : World) (h : okB p q = true) :
    Calls Try.prog 107 #[fr p q] w fun e w' => e = .returned (fr (absI p) q) ∧ Gr w w' := by
  obtain ⟨b1, b2, b3, b4⟩ := okB_bd h
  exact isize p q w (by omega) (by omega)
/-- The greatest size from P / Q on. -/
def wst : List (Int × Int) → Int → Int → Int × Int
  | [], P, Q => (P, Q)
  | x :: r, P, Q => wst r (mxP P Q (absI x.1) x.2) (mxQ P Q (absI x.1) x.2)
theorem wst_step {xs : List (Int × Int)} {k : Nat} {p q P Q : Int} (h : xs[k]? = some (p, q)) :
    wst (xs.drop k) P Q = wst (xs.drop (k + 1)) (mxP P Q (absI p) q) (mxQ P Q (absI p) q) := by
  have hk : k < xs.length := (List.getElem?_eq_some_iff.1 h).1
  have e : xs[k] = (p, q) := (List.getElem?_eq_some_iff.1 h).2
  rw [List.drop_eq_getElem_cons hk, e]
  rfl
theorem wst_ok : ∀ (xs : List (Int × Int)) (P Q : Int), okB P Q = true → xs.all (fun x => okB x.1 x.2) = true → okB (wst xs P Q).1 (wst xs P Q).2 = true
  | [], P, Q, h, _ => h
  | x :: r, P, Q, h, hx => by
    simp only [List.all_cons, Bool.and_eq_true] at hx
    exact wst_ok r _ _ (ok_mx h (absI_bd hx.1)) hx.2
set_option maxRecDepth 20000 in
set_option maxHeartbeats 1000000 in
/-- impl.Scale.worst -/
theorem iworst (a b : Int) (A : Option Addr) (c : Nat) (xs : List (Int × Int)) (U V : Int) (w : World) (X : Hid (RdF w A xs)) (hn : xs.length ≤ 1048576) (hall : xs.all (fun x => okB x.1 x.2) = true) (hw : wst xs 0 1 = (U, V)) :
    Calls Try.prog 74 #[scl a b A xs.length c] w fun e w' => e = .returned (fr U V) ∧ Gr w w' := by
  have HR := hid hw; clear hw
  have HALL := hid hall; clear hall
  go_enter Try.func74, Try.ntmps74
  go_wp2_with fail
  refine (fit_ok 0 1 _ gt01 (by decide)).mono ?_
  rintro e w1 ⟨rfl, hg1⟩
  obtain ⟨x1_0, x1_1, hz1, g1⟩ := alloc2 hg1
  obtain ⟨_, _, _⟩ := cells3 x1_0
  have _ := fz x1_0
  have _ := ltb x1_0
  obtain ⟨_, _⟩ := cells2 x1_1
  have _ := fz x1_1
  have _ := ltb x1_1
  have X1_0 := hid x1_0; clear x1_0
  have X1_1 := hid x1_1; clear x1_1
  have G1 := hid (g1)
  clear hg1 g1
  go_wp2_with fail
  go_loopw [10] (fun u wr => ∃ (k : Nat) (P Q : Int), u = .int .i64 (k : Int) ∧ k ≤ xs.length ∧ Gr w wr ∧ wr.heap[w.heap.size + 1]? = some (.cells #[.int .i64 0, .int .i64 0] 29) ∧ wr.heap[w1.heap.size]? = some (.cells #[.int .i64 P, .int .i64 Q] 29) ∧ okB P Q = true ∧ wst (xs.drop k) P Q = (U, V)) (fun u _ => xs.length - (intOf u).toNat)
  case atStart => exact ⟨0, 0, 1, rfl, by omega, (G1.out).al _, ((Gr.refl _).al _).keep X1_1.out, (alloc1 (Gr.refl _)).1, ok01, HR.out⟩
  case round =>
    obtain ⟨k, P, Q, rfl, hk, g0, y2, y3, hok, hs⟩ := hrel
    have HX := hid (X.out.keep g0)
    have GW := hid g0; have Y2 := hid y2; have Y3 := hid y3; have HOK := hid hok
    clear g0 y2 y3 hok
    by_cases hlt : k < xs.length
    · obtain ⟨⟨p, q⟩, hpq⟩ : ∃ pq, xs[k]? = some pq := ⟨xs[k], List.getElem?_eq_getElem _⟩
      obtain ⟨ad, rfl, c1, c2⟩ := HX.out k p q hpq
      have hx := hid (all_get hpq HALL.out)
      rw [wst_step hpq] at hs
      obtain ⟨P2, eP⟩ : ∃ P2, mxP P Q (absI p) q = P2 := ⟨_, rfl⟩
      obtain ⟨Q2, eQ⟩ : ∃ Q2, mxQ P Q (absI p) q = Q2 := ⟨_, rfl⟩
      have AD : ∀ w, Calls Try.prog 119 #[fr P Q, fr (absI p) q] w fun e w' => e = .returned (fr P2 Q2) ∧ Gr w w' := fun w => eP ▸ eQ ▸ igreatest P Q (absI p) q w HOK.out (absI_bd hx.out)
      have HOK2 : okB P2 Q2 = true := eP ▸ eQ ▸ ok_mx HOK.out (absI_bd hx.out)
      rw [eP, eQ] at hs
      have AD := hid AD; have HOK2 := hid HOK2; have HS := hid hs
      clear eP eQ hs hpq
      obtain ⟨_, _⟩ := cells2 Y2.out
      have _ := fz Y2.out
      have _ := ltb Y2.out
      obtain ⟨_, _⟩ := cells2 Y3.out
      have _ := fz Y3.out
      have _ := ltb Y3.out
      go_wp2_with fail
      refine wp_reg0 4 (by kernel_rfl) (by kernel_rfl) ?_
      apply Exists.intro
      refine ⟨fun wb hb => ?_, ?_⟩
      · obtain ⟨_, _⟩ := hb.at2 (((Gr.refl _).al _).keep Y2.out)
        obtain ⟨_, _⟩ := hb.at2 (((Gr.refl _).al _).keep Y3.out)
        obtain ⟨_, _⟩ := hb.at2 (alloc1 (Gr.refl _)).1
        simp only [headOps, List.contains, List.elem, reduceIte, Bool.false_eq_true]
        repeat (first | go_big_quiet_step (first | (go_at_call 107; exact Calls.of_gr (isize_gr _ _ _ hx.out)) | (go_at_call 119; exact Calls.of_gr (AD.out _))) | quiet_step (fail))
        exact wpQuiet_nil rfl
      intro w6 hg6
      obtain ⟨x6_0, hz6, g6⟩ := alloc1 hg6
      have x6_1 := g6.keep Y2.out
      have x6_2 := g6.keep Y3.out
      obtain ⟨_, _⟩ := cells2 x6_1
      have _ := fz x6_1
      have _ := ltb x6_1
      obtain ⟨_, _⟩ := cells2 x6_2
      have _ := fz x6_2
      have _ := ltb x6_2
      obtain ⟨_, _⟩ := cells2 x6_0
      have _ := fz x6_0
      have _ := ltb x6_0
      have X6_1 := hid x6_1; clear x6_1
      have X6_2 := hid x6_2; clear x6_2
      have X6_0 := hid x6_0; clear x6_0
      have G6 := hid (GW.out.trans g6)
      clear hg6 g6
      go_wp2_with fail
      exact ⟨⟨k + 1, P2, Q2, by simp, by omega, (G6.out.setCell (by simp; omega) _).setCell (by simp; omega) _, set2_old X6_1.out (by omega), set2_new X6_2.out, HOK2.out, HS.out⟩, by simp [intOf]; omega⟩
    · have hke : xs.drop k = [] := List.drop_eq_nil_of_le (by omega)
      rw [hke] at hs
      have e1 : P = U := congrArg Prod.fst hs
      have e2 : Q = V := congrArg Prod.snd hs
      subst e1 e2
      clear hs hke
      obtain ⟨_, _⟩ := cells2 Y2.out
      have _ := fz Y2.out
      have _ := ltb Y2.out
      obtain ⟨_, _⟩ := cells2 Y3.out
      have _ := fz Y3.out
      have _ := ltb Y3.out
      go_wp2
      refine bodyPost_ret (v := fr P Q) (by simp [results, Try.results74, go_sem, *]) rfl ⟨rfl, ?_⟩
      exact ((GW.out).setCell (by simp <;> omega) _).setCell (by simp <;> omega) _
set_option maxRecDepth 20000 in
set_option maxHeartbeats 1000000 in
/-- spec.l02Worst -/
theorem sworst (a b : Int) (A : Option Addr) (c j : Nat) (xs : List (Int × Int)) (U V : Int) (w : World) (X1 : Hid (w.heap[j]? = some (.cells #[.int .i64 a, .int .i64 b, .slice A xs.length c] 32))) (X : Hid (RdF w A xs)) (hn : xs.length ≤ 1048576) (hall : xs.all (fun x => okB x.1 x.2) = true) (hw : wst xs 0 1 = (U, V)) :
    Calls Try.prog 73 #[.pointer (some ⟨j, 0, none⟩)] w fun e w' => e = .returned (fr U V) ∧ Gr w w' := by
  have HR := hid hw; clear hw
  have HALL := hid hall; clear hall
  go_enter Try.func73, Try.ntmps73
  obtain ⟨_, _, _⟩ := cells3 X1.out
  have _ := fz X1.out
  have _ := ltb X1.out
  go_wp2_with fail
  refine (swhole1 _ _).mono ?_
  rintro e w1 ⟨rfl, hg1⟩
  obtain ⟨x1_0, hz1, g1⟩ := alloc1 hg1
  have x1_1 := g1.keep X1.out
  obtain ⟨_, _⟩ := cells2 x1_0
  have _ := fz x1_0
  have _ := ltb x1_0
  obtain ⟨_, _, _⟩ := cells3 x1_1
  have _ := fz x1_1
  have _ := ltb x1_1
  have X1_0 := hid x1_0; clear x1_0
  have X1_1 := hid x1_1; clear x1_1
  have G1 := hid (g1)
  clear hg1 g1
  go_wp2_with fail
  go_loopw [4] (fun u wr => ∃ (k : Nat) (P Q : Int), u = .int .i64 (k : Int) ∧ k ≤ xs.length ∧ Gr w wr ∧ wr.heap[w.heap.size]? = some (.cells #[.int .i64 0, .int .i64 0] 29) ∧ wr.heap[w1.heap.size]? = some (.cells #[.int .i64 P, .int .i64 Q] 29) ∧ okB P Q = true ∧ wst (xs.drop k) P Q = (U, V)) (fun u _ => xs.length - (intOf u).toNat)
  case atStart => exact ⟨0, 0, 1, rfl, by omega, (G1.out).al _, ((Gr.refl _).al _).keep X1_0.out, (alloc1 (Gr.refl _)).1, ok01, HR.out⟩
  case round =>
    obtain ⟨k, P, Q, rfl, hk, g0, y2, y3, hok, hs⟩ := hrel
    have HX := hid (X.out.keep g0); have Y1 := hid (g0.keep X1.out)
    have hjl : j < w.heap.size := ltb X1.out
    have GW := hid g0; have Y2 := hid y2; have Y3 := hid y3; have HOK := hid hok
    clear g0 y2 y3 hok
    by_cases hlt : k < xs.length
    · obtain ⟨⟨p, q⟩, hpq⟩ : ∃ pq, xs[k]? = some pq := ⟨xs[k], List.getElem?_eq_getElem _⟩
      obtain ⟨ad, rfl, c1, c2⟩ := HX.out k p q hpq
      have C1 := hid c1; have C2 := hid c2
      have hx := hid (all_get hpq HALL.out)
      rw [wst_step hpq] at hs
      obtain ⟨P2, eP⟩ : ∃ P2, mxP P Q (absI p) q = P2 := ⟨_, rfl⟩
      obtain ⟨Q2, eQ⟩ : ∃ Q2, mxQ P Q (absI p) q = Q2 := ⟨_, rfl⟩
      have AD : ∀ w, Calls Try.prog 117 #[fr P Q, fr (absI p) q] w fun e w' => e = .returned (fr P2 Q2) ∧ Gr w w' := fun w => eP ▸ eQ ▸ smore P Q (absI p) q w HOK.out (absI_bd hx.out)
      have HOK2 : okB P2 Q2 = true := eP ▸ eQ ▸ ok_mx HOK.out (absI_bd hx.out)
      rw [eP, eQ] at hs
      have AD := hid AD; have HOK2 := hid HOK2; have HS := hid hs
      clear eP eQ hs hpq c1 c2
      obtain ⟨_, _⟩ := cells2 Y2.out
      have _ := fz Y2.out
      have _ := ltb Y2.out
      obtain ⟨_, _⟩ := cells2 Y3.out
      have _ := fz Y3.out
      have _ := ltb Y3.out
      obtain ⟨_, _, _⟩ := cells3 Y1.out
      have _ := fz Y1.out
      have _ := ltb Y1.out
      go_wp2_with fail
      refine wp_reg0 10 (by kernel_rfl) (by kernel_rfl) ?_
      apply Exists.intro
      refine ⟨fun wb hb => ?_, ?_⟩
      · obtain ⟨_, _⟩ := hb.at2 Y2.out
        obtain ⟨_, _⟩ := hb.at2 Y3.out
        obtain ⟨_, _, _⟩ := hb.at3 Y1.out
        have _ := hb.atF C1.out; have _ := hb.atF C2.out
        simp only [headOps, List.contains, List.elem, reduceIte, Bool.false_eq_true]
        repeat (first | go_big_quiet_step (first | (go_at_call 118; exact Calls.of_gr (ssize _ _ _ hx.out)) | (go_at_call 117; exact Calls.of_gr (AD.out _))) | quiet_step (fail))
        exact wpQuiet_nil rfl
      intro w6 hg6
      have x6_1 := hg6.keep Y2.out
      have x6_2 := hg6.keep Y3.out
      have x6_3 := hg6.keep Y1.out
      obtain ⟨_, _⟩ := cells2 x6_1
      have _ := fz x6_1
      have _ := ltb x6_1
      obtain ⟨_, _⟩ := cells2 x6_2
      have _ := fz x6_2
      have _ := ltb x6_2
      obtain ⟨_, _, _⟩ := cells3 x6_3
      have _ := fz x6_3
      have _ := ltb x6_3
      have X6_1 := hid x6_1; clear x6_1
      have X6_2 := hid x6_2; clear x6_2
      have X6_3 := hid x6_3; clear x6_3
      have G6 := hid (GW.out.trans hg6)
      clear hg6
      go_wp2_with fail
      exact ⟨⟨k + 1, P2, Q2, by simp, by omega, (G6.out.setCell (by simp; omega) _).setCell (by simp; omega) _, set2_old X6_1.out (by omega), set2_new X6_2.out, HOK2.out, HS.out⟩, by simp [intOf]; omega⟩
    · have hke : xs.drop k = [] := List.drop_eq_nil_of_le (by omega)
      rw [hke] at hs
      have e1 : P = U := congrArg Prod.fst hs
      have e2 : Q = V := congrArg Prod.snd hs
      subst e1 e2
      clear hs hke
      obtain ⟨_, _⟩ := cells2 Y2.out
      have _ := fz Y2.out
      have _ := ltb Y2.out
      obtain ⟨_, _⟩ := cells2 Y3.out
      have _ := fz Y3.out
      have _ := ltb Y3.out
      obtain ⟨_, _, _⟩ := cells3 Y1.out
      have _ := fz Y1.out
      have _ := ltb Y1.out
      go_wp2
      refine bodyPost_ret (v := fr P Q) (by simp [results, Try.results73, go_sem, *]) rfl ⟨rfl, ?_⟩
      exact ((GW.out).setCell (by simp <;> omega) _).setCell (by simp <;> omega) _
set_option maxRecDepth 20000 in
set_option maxHeartbeats 400000 in
theorem sWE_0 (a b : Int) (A : Option Addr) (c : Nat) (xs : List (Int × Int)) (w : World) (X : Hid (RdF w A xs)) (hn : xs.length ≤ 1048576) (h : sclB a b xs = false) :
    Calls Try.prog 30 #[scl a b A xs.length c] w fun e w' => e = .returned (.tuple #[fr 0 0, .int .i64 1]) ∧ Gr w w' := by
  have h := hid h
  go_enter Try.func30, Try.ntmps30
  go_wp2_with fail
  refine (sScF a b A c _ xs _ (hid (alloc2 (Gr.refl _)).1) (hid (X.out.keep (((Gr.refl w).al _).al _))) hn h.out).mono ?_
  rintro e w1 ⟨rfl, hg1⟩
  obtain ⟨x1_0, x1_1, hz1, g1⟩ := alloc2 hg1
  obtain ⟨_, _, _⟩ := cells3 x1_0
  have _ := fz x1_0
  have _ := ltb x1_0
  obtain ⟨_, _⟩ := cells2 x1_1
  have _ := fz x1_1
  have _ := ltb x1_1
  have X1_0 := hid x1_0; clear x1_0
  have X1_1 := hid x1_1; clear x1_1
  have G1 := hid (g1)
  clear hg1 g1
  go_wp2
  refine bodyPost_ret (v := .tuple #[fr 0 0, .int .i64 1]) (by simp [results, Try.results30, go_sem, *]) rfl ⟨rfl, ?_⟩
  exact ((G1.out).setCell (by simp <;> omega) _).setCell (by simp <;> omega) _
set_option maxRecDepth 20000 in
set_option maxHeartbeats 400000 in
theorem sWE_1 (a b : Int) (A : Option Addr) (c : Nat) (xs : List (Int × Int)) (U V : Int) (w : World) (X : Hid (RdF w A xs)) (hn : xs.length ≤ 1048576) (h : sclB a b xs = true) (hw : wst xs 0 1 = (U, V)) :
    Calls Try.prog 30 #[scl a b A xs.length c] w fun e w' => e = .returned (.tuple #[fr U V, .int .i64 0]) ∧ Gr w w' := by
  have S := hid (scl_of h)
  have h := hid h; have hw := hid hw
  go_enter Try.func30, Try.ntmps30
  go_wp2_with fail
  refine (sScT a b A c _ xs _ (hid (alloc2 (Gr.refl _)).1) (hid (X.out.keep (((Gr.refl w).al _).al _))) hn h.out).mono ?_
  rintro e w1 ⟨rfl, hg1⟩
  obtain ⟨x1_0, x1_1, hz1, g1⟩ := alloc2 hg1
  obtain ⟨_, _, _⟩ := cells3 x1_0
  have _ := fz x1_0
  have _ := ltb x1_0
  obtain ⟨_, _⟩ := cells2 x1_1
  have _ := fz x1_1
  have _ := ltb x1_1
  have X1_0 := hid x1_0; clear x1_0
  have X1_1 := hid x1_1; clear x1_1
  have G1 := hid (g1)
  clear hg1 g1
  go_wp2_with fail
  refine (sworst a b A c _ xs U V _ (hid X1_0.out) (hid (X.out.keep G1.out)) hn S.out.all hw.out).mono ?_
  rintro e w2 ⟨rfl, hg2⟩
  have x2_1 := hg2.keep X1_0.out
  have x2_2 := hg2.keep X1_1.out
  obtain ⟨_, _, _⟩ := cells3 x2_1
  have _ := fz x2_1
  have _ := ltb x2_1
  obtain ⟨_, _⟩ := cells2 x2_2
  have _ := fz x2_2
  have _ := ltb x2_2
  have X2_1 := hid x2_1; clear x2_1
  have X2_2 := hid x2_2; clear x2_2
  have G2 := hid (G1.out.trans hg2)
  clear hg2
  go_wp2
  refine bodyPost_ret (v := .tuple #[fr U V, .int .i64 0]) (by simp [results, Try.results30, go_sem, *]) rfl ⟨rfl, ?_⟩
  exact ((G2.out).setCell (by simp <;> omega) _).setCell (by simp <;> omega) _
set_option maxRecDepth 20000 in
set_option maxHeartbeats 400000 in
theorem iWE_0 (a b : Int) (A : Option Addr) (c : Nat) (xs : List (Int × Int)) (w : World) (X : Hid (RdF w A xs)) (hn : xs.length ≤ 1048576) (h : sclB a b xs = false) :
    Calls Try.prog 31 #[scl a b A xs.length c] w fun e w' => e = .returned (.tuple #[fr 0 0, .int .i64 1]) ∧ Gr w w' := by
  have h := hid h
  go_enter Try.func31, Try.ntmps31
  go_wp2_with fail
  refine (iScF a b A c xs _ (hid (X.out.keep (((Gr.refl w).al _).al _))) hn h.out).mono ?_
  rintro e w1 ⟨rfl, hg1⟩
  obtain ⟨x1_0, x1_1, hz1, g1⟩ := alloc2 hg1
  obtain ⟨_, _, _⟩ := cells3 x1_0
  have _ := fz x1_0
  have _ := ltb x1_0
  obtain ⟨_, _⟩ := cells2 x1_1
  have _ := fz x1_1
  have _ := ltb x1_1
  have X1_0 := hid x1_0; clear x1_0
  have X1_1 := hid x1_1; clear x1_1
  have G1 := hid (g1)
  clear hg1 g1
  go_wp2
  refine bodyPost_ret (v := .tuple #[fr 0 0, .int .i64 1]) (by simp [results, Try.results31, go_sem, *]) rfl ⟨rfl, ?_⟩
  exact ((G1.out).setCell (by simp <;> omega) _).setCell (by simp <;> omega) _
set_option maxRecDepth 20000 in
set_option maxHeartbeats 400000 in
theorem iWE_1 (a b : Int) (A : Option Addr) (c : Nat) (xs : List (Int × Int)) (U V : Int) (w : World) (X : Hid (RdF w A xs)) (hn : xs.length ≤ 1048576) (h : sclB a b xs = true) (hw : wst xs 0 1 = (U, V)) :
    Calls Try.prog 31 #[scl a b A xs.length c] w fun e w' => e = .returned (.tuple #[fr U V, .int .i64 0]) ∧ Gr w w' := by
  have S := hid (scl_of h)
  have h := hid h; have hw := hid hw
  go_enter Try.func31, Try.ntmps31
  go_wp2_with fail
  refine (iScT a b A c xs _ (hid (X.out.keep (((Gr.refl w).al _).al _))) hn h.out).mono ?_
  rintro e w1 ⟨rfl, hg1⟩
  obtain ⟨x1_0, x1_1, hz1, g1⟩ := alloc2 hg1
  obtain ⟨_, _, _⟩ := cells3 x1_0
  have _ := fz x1_0
  have _ := ltb x1_0
  obtain ⟨_, _⟩ := cells2 x1_1
  have _ := fz x1_1
  have _ := ltb x1_1
  have X1_0 := hid x1_0; clear x1_0
  have X1_1 := hid x1_1; clear x1_1
  have G1 := hid (g1)
  clear hg1 g1
  go_wp2_with fail
  refine (iworst a b A c xs U V _ (hid (X.out.keep G1.out)) hn S.out.all hw.out).mono ?_
  rintro e w2 ⟨rfl, hg2⟩
  have x2_1 := hg2.keep X1_0.out
  have x2_2 := hg2.keep X1_1.out
  obtain ⟨_, _, _⟩ := cells3 x2_1
  have _ := fz x2_1
  have _ := ltb x2_1
  obtain ⟨_, _⟩ := cells2 x2_2
  have _ := fz x2_2
  have _ := ltb x2_2
  have X2_1 := hid x2_1; clear x2_1
  have X2_2 := hid x2_2; clear x2_2
  have G2 := hid (G1.out.trans hg2)
  clear hg2
  go_wp2
  refine bodyPost_ret (v := .tuple #[fr U V, .int .i64 0]) (by simp [results, Try.results31, go_sem, *]) rfl ⟨rfl, ?_⟩
  exact ((G2.out).setCell (by simp <;> omega) _).setCell (by simp <;> omega) _
theorem bothWorstError (a b : Int) (xs : List (Int × Int)) (hn : xs.length ≤ 1048576) : ∃ R0 R1 R2 : Int,
    (∀ (A : Option Addr) (c : Nat) (w : World), Hid (RdF w A xs) → Calls Try.prog 30 #[scl a b A xs.length c] w fun x w' => x = .returned (.tuple #[fr R0 R1, .int .i64 R2]) ∧ Gr w w') ∧
    (∀ (A : Option Addr) (c : Nat) (w : World), Hid (RdF w A xs) → Calls Try.prog 31 #[scl a b A xs.length c] w fun x w' => x = .returned (.tuple #[fr R0 R1, .int .i64 R2]) ∧ Gr w w') := by
  cases h : sclB a b xs with
  | false => exact ⟨0, 0, 1, fun A c w X => sWE_0 a b A c xs w X hn h, fun A c w X => iWE_0 a b A c xs w X hn h⟩
  | true => exact ⟨(wst xs 0 1).1, (wst xs 0 1).2, 0, fun A c w X => sWE_1 a b A c xs _ _ w X hn h rfl, fun A c w X => iWE_1 a b A c xs _ _ w X hn h rfl⟩
end Go.Proofs.Ytfkmlgndggnhaaa
namespace Go.Proofs.Ytfkmlgndggnhaaa
open Go.RowKit Go.Sort

def lcB (a b n : Int) : Bool := okB (redP (a * 1) (b * n)) (redQ (a * 1) (b * n))
theorem vern_bd {n : Int} (h : inB n 2 40 = true) : okB n 1 = true ∧ n ≠ 0 := by
  obtain ⟨h1, h2⟩ := in_bd h
  exact ⟨ok_whole (by omega) (by omega), by omega⟩
theorem iVernGr (n : Int) (r : Bool) (w : World) : Calls Try.prog 82 #[vn n r] w fun e w' => e = .returned (.bool (inB n 2 40)) ∧ Gr w w' := iValidVernier n r w
set_option maxRecDepth 20000 in
set_option maxHeartbeats 400000 in
theorem sLC_0 (a b n : Int) (r : Bool) (A : Option Addr) (c : Nat) (xs : List (Int × Int)) (w : World) (X : Hid (RdF w A xs)) (hn : xs.length ≤ 1048576) (h : sclB a b xs = false) :
    Calls Try.prog 34 #[scl a b A xs.length c, vn n r] w fun e w' => e = .returned (.tuple #[fr 0 0, .int .i64 1]) ∧ Gr w w' := by
  have h := hid h
  go_enter Try.func34, Try.ntmps34
  go_wp2_with fail
  refine (sScF a b A c _ xs _ (hid (alloc3 (Gr.refl _)).1) (hid (X.out.keep ((((Gr.refl w).al _).al _).al _))) hn h.out).mono ?_
  rintro e w1 ⟨rfl, hg1⟩
  obtain ⟨x1_0, x1_1, x1_2, hz1, g1⟩ := alloc3 hg1
  obtain ⟨_, _, _⟩ := cells3 x1_0
  have _ := fz x1_0
  have _ := ltb x1_0
  obtain ⟨_, _⟩ := cells2 x1_1
  have _ := fz x1_1
  have _ := ltb x1_1
  obtain ⟨_, _⟩ := cells2 x1_2
  have _ := fz x1_2
  have _ := ltb x1_2
  have X1_0 := hid x1_0; clear x1_0
  have X1_1 := hid x1_1; clear x1_1
  have X1_2 := hid x1_2; clear x1_2
  have G1 := hid (g1)
  clear hg1 g1
  go_wp2
  refine bodyPost_ret (v := .tuple #[fr 0 0, .int .i64 1]) (by simp [results, Try.results34, go_sem, *]) rfl ⟨rfl, ?_⟩
  exact ((G1.out).setCell (by simp <;> omega) _).setCell (by simp <;> omega) _
set_option maxRecDepth 20000 in
set_option maxHeartbeats 400000 in
theorem sLC_1 (a b n : Int) (r : Bool) (A : Option Addr) (c : Nat) (xs : List (Int × Int)) (w : World) (X : Hid (RdF w A xs)) (hn : xs.length ≤ 1048576) (h : sclB a b xs = true) (hv : inB n 2 40 = false) :
    Calls Try.prog 34 #[scl a b A xs.length c, vn n r] w fun e w' => e = .returned (.tuple #[fr 0 0, .int .i64 1]) ∧ Gr w w' := by
  have h := hid h
  have HV := hid fun (w : World) (k : Nat) (X1 : Hid (w.heap[k]? = some (.cells #[.int .i64 n, .bool r] 53))) => sVernAt n r w k X1
  rw [hv] at HV
  clear hv
  go_enter Try.func34, Try.ntmps34
  go_wp2_with fail
  refine (sScT a b A c _ xs _ (hid (alloc3 (Gr.refl _)).1) (hid (X.out.keep ((((Gr.refl w).al _).al _).al _))) hn h.out).mono ?_
  rintro e w1 ⟨rfl, hg1⟩
  obtain ⟨x1_0, x1_1, x1_2, hz1, g1⟩ := alloc3 hg1
  obtain ⟨_, _, _⟩ := cells3 x1_0
  have _ := fz x1_0
  have _ := ltb x1_0
  obtain ⟨_, _⟩ := cells2 x1_1
  have _ := fz x1_1
  have _ := ltb x1_1
  obtain ⟨_, _⟩ := cells2 x1_2
  have _ := fz x1_2
  have _ := ltb x1_2
  have X1_0 := hid x1_0; clear x1_0
  have X1_1 := hid x1_1; clear x1_1
  have X1_2 := hid x1_2; clear x1_2
  have G1 := hid (g1)
  clear hg1 g1
  go_wp2_with fail
  refine (HV.out _ _ (hid X1_1.out)).mono ?_
  rintro e w2 ⟨rfl, hg2⟩
  have x2_1 := hg2.keep X1_0.out
  have x2_2 := hg2.keep X1_1.out
  have x2_3 := hg2.keep X1_2.out
  obtain ⟨_, _, _⟩ := cells3 x2_1
  have _ := fz x2_1
  have _ := ltb x2_1
  obtain ⟨_, _⟩ := cells2 x2_2
  have _ := fz x2_2
  have _ := ltb x2_2
  obtain ⟨_, _⟩ := cells2 x2_3
  have _ := fz x2_3
  have _ := ltb x2_3
  have X2_1 := hid x2_1; clear x2_1
  have X2_2 := hid x2_2; clear x2_2
  have X2_3 := hid x2_3; clear x2_3
  have G2 := hid (G1.out.trans hg2)
  clear hg2
  go_wp2
  refine bodyPost_ret (v := .tuple #[fr 0 0, .int .i64 1]) (by simp [results, Try.results34, go_sem, *]) rfl ⟨rfl, ?_⟩
  exact ((G2.out).setCell (by simp <;> omega) _).setCell (by simp <;> omega) _
set_option maxRecDepth 20000 in
set_option maxHeartbeats 400000 in
theorem sLC_2 (a b n P Q C : Int) (r : Bool) (A : Option Addr) (c : Nat) (xs : List (Int × Int)) (w : World) (X : Hid (RdF w A xs)) (hn : xs.length ≤ 1048576) (h : sclB a b xs = true) (hv : inB n 2 40 = true)
    (hd : ∀ w, Calls Try.prog 81 #[fr a b, fr n 1] w fun e w' => e = .returned (.tuple #[fr P Q, .int .i64 C]) ∧ Gr w w') :
    Calls Try.prog 34 #[scl a b A xs.length c, vn n r] w fun e w' => e = .returned (.tuple #[fr P Q, .int .i64 C]) ∧ Gr w w' := by
  have h := hid h; have HD := hid hd
  have HV := hid fun (w : World) (k : Nat) (X1 : Hid (w.heap[k]? = some (.cells #[.int .i64 n, .bool r] 53))) => sVernAt n r w k X1
  rw [hv] at HV
  clear hv hd
  go_enter Try.func34, Try.ntmps34
  go_wp2_with fail
  refine (sScT a b A c _ xs _ (hid (alloc3 (Gr.refl _)).1) (hid (X.out.keep ((((Gr.refl w).al _).al _).al _))) hn h.out).mono ?_
  rintro e w1 ⟨rfl, hg1⟩
  obtain ⟨x1_0, x1_1, x1_2, hz1, g1⟩ := alloc3 hg1
  obtain ⟨_, _, _⟩ := cells3 x1_0
  have _ := fz x1_0
  have _ := ltb x1_0
  obtain ⟨_, _⟩ := cells2 x1_1
  have _ := fz x1_1
  have _ := ltb x1_1
  obtain ⟨_, _⟩ := cells2 x1_2
  have _ := fz x1_2
  have _ := ltb x1_2
  have X1_0 := hid x1_0; clear x1_0
  have X1_1 := hid x1_1; clear x1_1
  have X1_2 := hid x1_2; clear x1_2
  have G1 := hid (g1)
  clear hg1 g1
  go_wp2_with fail
  refine (HV.out _ _ (hid X1_1.out)).mono ?_
  rintro e w2 ⟨rfl, hg2⟩
  have x2_1 := hg2.keep X1_0.out
  have x2_2 := hg2.keep X1_1.out
  have x2_3 := hg2.keep X1_2.out
  obtain ⟨_, _, _⟩ := cells3 x2_1
  have _ := fz x2_1
  have _ := ltb x2_1
  obtain ⟨_, _⟩ := cells2 x2_2
  have _ := fz x2_2
  have _ := ltb x2_2
  obtain ⟨_, _⟩ := cells2 x2_3
  have _ := fz x2_3
  have _ := ltb x2_3
  have X2_1 := hid x2_1; clear x2_1
  have X2_2 := hid x2_2; clear x2_2
  have X2_3 := hid x2_3; clear x2_3
  have G2 := hid (G1.out.trans hg2)
  clear hg2
  go_wp2_with fail
  refine wp_reg0 8 (by kernel_rfl) (by kernel_rfl) ?_
  apply Exists.intro
  refine ⟨fun wb hb => ?_, ?_⟩
  · obtain ⟨_, _, _⟩ := hb.at3 X2_1.out
    obtain ⟨_, _⟩ := hb.at2 X2_2.out
    obtain ⟨_, _⟩ := hb.at2 X2_3.out
    simp only [headOps, List.contains, List.elem, reduceIte, Bool.false_eq_true]
    repeat (first | go_big_quiet_step (first | (go_at_call 65; exact Calls.of_gr (swhole1 _ _)) | (go_at_call 81; exact Calls.of_gr (HD.out _))) | quiet_step (fail))
    exact wpQuiet_nil rfl
  intro w3 hg3
  have x3_1 := hg3.keep X2_1.out
  have x3_2 := hg3.keep X2_2.out
  have x3_3 := hg3.keep X2_3.out
  obtain ⟨_, _, _⟩ := cells3 x3_1
  have _ := fz x3_1
  have _ := ltb x3_1
  obtain ⟨_, _⟩ := cells2 x3_2
  have _ := fz x3_2
  have _ := ltb x3_2
  obtain ⟨_, _⟩ := cells2 x3_3
  have _ := fz x3_3
  have _ := ltb x3_3
  have X3_1 := hid x3_1; clear x3_1
  have X3_2 := hid x3_2; clear x3_2
  have X3_3 := hid x3_3; clear x3_3
  have G3 := hid (G2.out.trans hg3)
  clear hg3
  go_wp2
  refine bodyPost_ret (v := .tuple #[fr P Q, .int .i64 C]) (by simp [results, Try.results34, go_sem, *]) rfl ⟨rfl, ?_⟩
  exact ((G3.out).setCell (by simp <;> omega) _).setCell (by simp <;> omega) _
set_option maxRecDepth 20000 in
set_option maxHeartbeats 400000 in
theorem iLC_0 (a b n : Int) (r : Bool) (A : Option Addr) (c : Nat) (xs : List (Int × Int)) (w : World) (X : Hid (RdF w A xs)) (hn : xs.length ≤ 1048576) (h : sclB a b xs = false) :
    Calls Try.prog 36 #[scl a b A xs.length c, vn n r] w fun e w' => e = .returned (.tuple #[fr 0 0, .int .i64 1]) ∧ Gr w w' := by
  have h := hid h
  go_enter Try.func36, Try.ntmps36
  go_wp2_with fail
  refine (iScF a b A c xs _ (hid (X.out.keep ((((Gr.refl w).al _).al _).al _))) hn h.out).mono ?_
  rintro e w1 ⟨rfl, hg1⟩
  obtain ⟨x1_0, x1_1, x1_2, hz1, g1⟩ := alloc3 hg1
  obtain ⟨_, _, _⟩ := cells3 x1_0
  have _ := fz x1_0
  have _ := ltb x1_0
  obtain ⟨_, _⟩ := cells2 x1_1
  have _ := fz x1_1
  have _ := ltb x1_1
  obtain ⟨_, _⟩ := cells2 x1_2
  have _ := fz x1_2
  have _ := ltb x1_2
  have X1_0 := hid x1_0; clear x1_0
  have X1_1 := hid x1_1; clear x1_1
  have X1_2 := hid x1_2; clear x1_2
  have G1 := hid (g1)
  clear hg1 g1
  go_wp2
  refine bodyPost_ret (v := .tuple #[fr 0 0, .int .i64 1]) (by simp [results, Try.results36, go_sem, *]) rfl ⟨rfl, ?_⟩
  exact ((G1.out).setCell (by simp <;> omega) _).setCell (by simp <;> omega) _
set_option maxRecDepth 20000 in
set_option maxHeartbeats 400000 in
theorem iLC_1 (a b n : Int) (r : Bool) (A : Option Addr) (c : Nat) (xs : List (Int × Int)) (w : World) (X : Hid (RdF w A xs)) (hn : xs.length ≤ 1048576) (h : sclB a b xs = true) (hv : inB n 2 40 = false) :
    Calls Try.prog 36 #[scl a b A xs.length c, vn n r] w fun e w' => e = .returned (.tuple #[fr 0 0, .int .i64 1]) ∧ Gr w w' := by
  have h := hid h
  have HV := hid fun (w : World) => iVernGr n r w
  rw [hv] at HV
  clear hv
  go_enter Try.func36, Try.ntmps36
  go_wp2_with fail
  refine (iScT a b A c xs _ (hid (X.out.keep ((((Gr.refl w).al _).al _).al _))) hn h.out).mono ?_
  rintro e w1 ⟨rfl, hg1⟩
  obtain ⟨x1_0, x1_1, x1_2, hz1, g1⟩ := alloc3 hg1
  obtain ⟨_, _, _⟩ := cells3 x1_0
  have _ := fz x1_0
  have _ := ltb x1_0
  obtain ⟨_, _⟩ := cells2 x1_1
  have _ := fz x1_1
  have _ := ltb x1_1
  obtain ⟨_, _⟩ := cells2 x1_2
  have _ := fz x1_2
  have _ := ltb x1_2
  have X1_0 := hid x1_0; clear x1_0
  have X1_1 := hid x1_1; clear x1_1
  have X1_2 := hid x1_2; clear x1_2
  have G1 := hid (g1)
  clear hg1 g1
  go_wp2_with fail
  refine (HV.out _).mono ?_
  rintro e w2 ⟨rfl, hg2⟩
  have x2_1 := hg2.keep X1_0.out
  have x2_2 := hg2.keep X1_1.out
  have x2_3 := hg2.keep X1_2.out
  obtain ⟨_, _, _⟩ := cells3 x2_1
  have _ := fz x2_1
  have _ := ltb x2_1
  obtain ⟨_, _⟩ := cells2 x2_2
  have _ := fz x2_2
  have _ := ltb x2_2
  obtain ⟨_, _⟩ := cells2 x2_3
  have _ := fz x2_3
  have _ := ltb x2_3
  have X2_1 := hid x2_1; clear x2_1
  have X2_2 := hid x2_2; clear x2_2
  have X2_3 := hid x2_3; clear x2_3
  have G2 := hid (G1.out.trans hg2)
  clear hg2
  go_wp2
  refine bodyPost_ret (v := .tuple #[fr 0 0, .int .i64 1]) (by simp [results, Try.results36, go_sem, *]) rfl ⟨rfl, ?_⟩
  exact ((G2.out).setCell (by simp <;> omega) _).setCell (by simp <;> omega) _
set_option maxRecDepth 20000 in
set_option maxHeartbeats 400000 in
theorem cLC_y (a b n : Int) (r : Bool) (S : Value) (k k2 : Nat) (w : World) (X1 : Hid (w.heap[k]? = some (.cells #[.int .i64 a, .int .i64 b, S] 32))) (X2 : Hid (w.heap[k2]? = some (.cells #[.int .i64 n, .bool r] 53))) (h1 : okB a b = true) (hn : okB n 1 = true) (hz : n ≠ 0) (g : lcB a b n = true) :
    Calls Try.prog 84 #[.pointer (some ⟨k, 0, none⟩), .pointer (some ⟨k2, 0, none⟩)] w fun e w' => e = .returned (fr (redP (a * 1) (b * n)) (redQ (a * 1) (b * n))) ∧ Gr w w' := by
  have HO := hid fun w => iow_ok a b n w h1 hn hz g
  clear g
  go_enter Try.func84, Try.ntmps84
  obtain ⟨_, _, _⟩ := cells3 X1.out
  have _ := fz X1.out
  have _ := ltb X1.out
  obtain ⟨_, _⟩ := cells2 X2.out
  have _ := fz X2.out
  have _ := ltb X2.out
  go_wp2_with fail
  refine (HO.out _).mono ?_
  rintro e w1 ⟨rfl, hg1⟩
  obtain ⟨x1_0, hz1, g1⟩ := alloc1 hg1
  have x1_1 := g1.keep X1.out
  have x1_2 := g1.keep X2.out
  obtain ⟨_, _⟩ := cells2 x1_0
  have _ := fz x1_0
  have _ := ltb x1_0
  obtain ⟨_, _, _⟩ := cells3 x1_1
  have _ := fz x1_1
  have _ := ltb x1_1
  obtain ⟨_, _⟩ := cells2 x1_2
  have _ := fz x1_2
  have _ := ltb x1_2
  have X1_0 := hid x1_0; clear x1_0
  have X1_1 := hid x1_1; clear x1_1
  have X1_2 := hid x1_2; clear x1_2
  have G1 := hid (g1)
  clear hg1 g1
  go_wp2
  refine bodyPost_ret (v := fr (redP (a * 1) (b * n)) (redQ (a * 1) (b * n))) (by simp [results, Try.results84, go_sem, *]) rfl ⟨rfl, ?_⟩
  exact ((G1.out).setCell (by simp <;> omega) _).setCell (by simp <;> omega) _
set_option maxRecDepth 20000 in
set_option maxHeartbeats 400000 in
theorem cLC_n (a b n : Int) (r : Bool) (S : Value) (k k2 : Nat) (w : World) (X1 : Hid (w.heap[k]? = some (.cells #[.int .i64 a, .int .i64 b, S] 32))) (X2 : Hid (w.heap[k2]? = some (.cells #[.int .i64 n, .bool r] 53))) (h1 : okB a b = true) (hn : okB n 1 = true) (hz : n ≠ 0) (g : lcB a b n = false) :
    Calls Try.prog 84 #[.pointer (some ⟨k, 0, none⟩), .pointer (some ⟨k2, 0, none⟩)] w fun e w' => (∃ x y, e = .panicked [{ v := .iface 125 (fr x y), recovered := false }]) ∧ Gr w w' := by
  have HO := hid fun w => iow_bad a b n w h1 hn hz g
  clear g
  go_enter Try.func84, Try.ntmps84
  obtain ⟨_, _, _⟩ := cells3 X1.out
  have _ := fz X1.out
  have _ := ltb X1.out
  obtain ⟨_, _⟩ := cells2 X2.out
  have _ := fz X2.out
  have _ := ltb X2.out
  go_wp2_with fail
  refine (HO.out _).mono ?_
  rintro e w1 ⟨⟨xp, yp, rfl⟩, hg1⟩
  obtain ⟨x1_0, hz1, g1⟩ := alloc1 hg1
  have x1_1 := g1.keep X1.out
  have x1_2 := g1.keep X2.out
  obtain ⟨_, _⟩ := cells2 x1_0
  have _ := fz x1_0
  have _ := ltb x1_0
  obtain ⟨_, _, _⟩ := cells3 x1_1
  have _ := fz x1_1
  have _ := ltb x1_1
  obtain ⟨_, _⟩ := cells2 x1_2
  have _ := fz x1_2
  have _ := ltb x1_2
  have X1_0 := hid x1_0; clear x1_0
  have X1_1 := hid x1_1; clear x1_1
  have X1_2 := hid x1_2; clear x1_2
  have G1 := hid (g1)
  clear hg1 g1
  exact ⟨rfl, ⟨xp, yp, rfl⟩, G1.out⟩
set_option maxRecDepth 20000 in
set_option maxHeartbeats 400000 in
theorem iLC_2 (a b n P Q C : Int) (r : Bool) (A : Option Addr) (c : Nat) (xs : List (Int × Int)) (w : World) (X : Hid (RdF w A xs)) (hn : xs.length ≤ 1048576) (h : sclB a b xs = true) (hv : inB n 2 40 = true)
    (ht : ∀ (w : World) (k k2 : Nat), Hid (w.heap[k]? = some (.cells #[.int .i64 a, .int .i64 b, .slice A xs.length c] 32)) → Hid (w.heap[k2]? = some (.cells #[.int .i64 n, .bool r] 53)) → Calls Try.prog 83 #[.func (.func 84) #[] #[.pointer (some ⟨k, 0, none⟩), .pointer (some ⟨k2, 0, none⟩)]] w fun e w' => e = .returned (.tuple #[fr P Q, .int .i64 C]) ∧ Gr w w') :
    Calls Try.prog 36 #[scl a b A xs.length c, vn n r] w fun e w' => e = .returned (.tuple #[fr P Q, .int .i64 C]) ∧ Gr w w' := by
  have h := hid h; have HT := hid ht
  have HV := hid fun (w : World) => iVernGr n r w
  rw [hv] at HV
  clear hv ht
  go_enter Try.func36, Try.ntmps36
  go_wp2_with fail
  refine (iScT a b A c xs _ (hid (X.out.keep ((((Gr.refl w).al _).al _).al _))) hn h.out).mono ?_
  rintro e w1 ⟨rfl, hg1⟩
  obtain ⟨x1_0, x1_1, x1_2, hz1, g1⟩ := alloc3 hg1
  obtain ⟨_, _, _⟩ := cells3 x1_0
  have _ := fz x1_0
  have _ := ltb x1_0
  obtain ⟨_, _⟩ := cells2 x1_1
  have _ := fz x1_1
  have _ := ltb x1_1
  obtain ⟨_, _⟩ := cells2 x1_2
  have _ := fz x1_2
  have _ := ltb x1_2
  have X1_0 := hid x1_0; clear x1_0
  have X1_1 := hid x1_1; clear x1_1
  have X1_2 := hid x1_2; clear x1_2
  have G1 := hid (g1)
  clear hg1 g1
  go_wp2_with fail
  refine (HV.out _).mono ?_
  rintro e w2 ⟨rfl, hg2⟩
  have x2_1 := hg2.keep X1_0.out
  have x2_2 := hg2.keep X1_1.out
  have x2_3 := hg2.keep X1_2.out
  obtain ⟨_, _, _⟩ := cells3 x2_1
  have _ := fz x2_1
  have _ := ltb x2_1
  obtain ⟨_, _⟩ := cells2 x2_2
  have _ := fz x2_2
  have _ := ltb x2_2
  obtain ⟨_, _⟩ := cells2 x2_3
  have _ := fz x2_3
  have _ := ltb x2_3
  have X2_1 := hid x2_1; clear x2_1
  have X2_2 := hid x2_2; clear x2_2
  have X2_3 := hid x2_3; clear x2_3
  have G2 := hid (G1.out.trans hg2)
  clear hg2
  go_wp2_with fail
  refine (HT.out _ _ _ (hid X2_1.out) (hid X2_2.out)).mono ?_
  rintro e w3 ⟨rfl, hg3⟩
  have x3_1 := hg3.keep X2_1.out
  have x3_2 := hg3.keep X2_2.out
  have x3_3 := hg3.keep X2_3.out
  obtain ⟨_, _, _⟩ := cells3 x3_1
  have _ := fz x3_1
  have _ := ltb x3_1
  obtain ⟨_, _⟩ := cells2 x3_2
  have _ := fz x3_2
  have _ := ltb x3_2
  obtain ⟨_, _⟩ := cells2 x3_3
  have _ := fz x3_3
  have _ := ltb x3_3
  have X3_1 := hid x3_1; clear x3_1
  have X3_2 := hid x3_2; clear x3_2
  have X3_3 := hid x3_3; clear x3_3
  have G3 := hid (G2.out.trans hg3)
  clear hg3
  go_wp2
  refine bodyPost_ret (v := .tuple #[fr P Q, .int .i64 C]) (by simp [results, Try.results36, go_sem, *]) rfl ⟨rfl, ?_⟩
  exact ((G3.out).setCell (by simp <;> omega) _).setCell (by simp <;> omega) _
theorem bothLeastCount (a b : Int) (xs : List (Int × Int)) (n : Int) (r : Bool) (hn : xs.length ≤ 1048576) : ∃ R0 R1 R2 : Int,
    (∀ (A : Option Addr) (c : Nat) (w : World), Hid (RdF w A xs) → Calls Try.prog 34 #[scl a b A xs.length c, vn n r] w fun x w' => x = .returned (.tuple #[fr R0 R1, .int .i64 R2]) ∧ Gr w w') ∧
    (∀ (A : Option Addr) (c : Nat) (w : World), Hid (RdF w A xs) → Calls Try.prog 36 #[scl a b A xs.length c, vn n r] w fun x w' => x = .returned (.tuple #[fr R0 R1, .int .i64 R2]) ∧ Gr w w') := by
  cases h : sclB a b xs with
  | false => exact ⟨0, 0, 1, fun A c w X => sLC_0 a b n r A c xs w X hn h, fun A c w X => iLC_0 a b n r A c xs w X hn h⟩
  | true =>
    cases hv : inB n 2 40 with
    | false => exact ⟨0, 0, 1, fun A c w X => sLC_1 a b n r A c xs w X hn h hv, fun A c w X => iLC_1 a b n r A c xs w X hn h hv⟩
    | true =>
      obtain ⟨v1, v2⟩ := vern_bd hv
      have S := scl_of h
      cases g : lcB a b n with
      | true =>
        exact ⟨_, _, 0, fun A c w X => sLC_2 a b n _ _ _ r A c xs w X hn h hv (fun w => sdiv_t a b n 1 w S.unit v1 v2 g),
          fun A c w X => iLC_2 a b n _ _ _ r A c xs w X hn h hv (fun w k k2 X1 X2 => told_ok_F _ _ _ _ w (fun _ => by kernel_rfl) (fun w' hg => cLC_y a b n r _ k k2 w' (hid (hg.keep X1.out)) (hid (hg.keep X2.out)) S.unit v1 v2 g))⟩
      | false =>
        exact ⟨0, 0, 3, fun A c w X => sLC_2 a b n _ _ _ r A c xs w X hn h hv (fun w => sdiv_f a b n 1 w S.unit v1 v2 g),
          fun A c w X => iLC_2 a b n _ _ _ r A c xs w X hn h hv (fun w k k2 X1 X2 => told_great_F _ _ w (fun _ => by kernel_rfl) (fun w' hg => cLC_n a b n r _ k k2 w' (hid (hg.keep X1.out)) (hid (hg.keep X2.out)) S.unit v1 v2 g))⟩
end Go.Proofs.Ytfkmlgndggnhaaa
