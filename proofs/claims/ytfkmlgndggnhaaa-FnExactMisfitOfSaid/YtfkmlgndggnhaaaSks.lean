/- WALKS: NearestMark, of the program and of the reference. -/
import Derived.Test.YtfkmlgndggnhaaaSkr
namespace Go.Proofs.Ytfkmlgndggnhaaa
open Go.RowKit Go.Sort

theorem pairs_get : ∀ (D : List (Int × Int)) (k : Nat) (p q : Int), D[k]? = some (p, q) → (flatL D)[k * 2]? = some (.int .i64 p) ∧ (flatL D)[k * 2 + 1]? = some (.int .i64 q)
  | [], k, p, q, h => by simp at h
  | x :: r, 0, p, q, h => by simp at h; subst h; simp [flatL]
  | x :: r, k + 1, p, q, h => by
    have := pairs_get r k p q (by simpa using h)
    have e : (k + 1) * 2 = k * 2 + 1 + 1 := by omega
    rw [e]
    simpa [flatL] using this
theorem RdF.of_own {w : World} {base : Nat} {e : TypeId} {v : Value} {D : List (Int × Int)} (h : w.ownsRow base e 2 v D.length (flatL D)) : ∃ A c, v = .slice A D.length c ∧ RdF w A D := by
  rcases h.2 with ⟨hv, h0⟩ | ⟨g, cap, cur, hv, _⟩
  · have : D = [] := List.length_eq_zero_iff.1 h0
    subst this
    exact ⟨none, 0, hv, RdF.nil⟩
  · refine ⟨_, _, hv, fun k p q hk => ⟨_, rfl, ?_, ?_⟩⟩
    · exact h.cells (g := g) (by rw [hv]; rfl) _ _ (pairs_get D k p q hk).1
    · have := h.cells (g := g) (by rw [hv]; rfl) _ _ (pairs_get D k p q hk).2
      rw [add_at] at this ⊢
      exact this
theorem dists_ok {x y : Int} {ms : List (Int × Int)} (h : AllD x y ms) : (dists x y ms).all (fun x => okB x.1 x.2) = true := by
  refine all_of fun k p q hk => ?_
  unfold dists at hk
  rw [List.getElem?_map] at hk
  obtain ⟨⟨u, v⟩, hu, he⟩ := Option.map_eq_some_iff.1 hk
  have h1 := h k u v hu
  simp only [Prod.mk.injEq] at he
  obtain ⟨rfl, rfl⟩ := he
  exact absI_bd h1
/-- A scale's nearest mark, told of its first mark's distance. -/
structure Near (a b x y : Int) (xs : List (Int × Int)) (R : Nat) (U V P0 Q0 : Int) : Prop where
  first : (dists x y (mks a b xs))[0]? = some (P0, Q0)
  fl : fl ((dists x y (mks a b xs)).drop 1) 1 0 P0 Q0 = (R, (U, V))
theorem near_of (a b x y : Int) (xs : List (Int × Int)) (h : 0 < xs.length) : ∃ R U V P0 Q0, Near a b x y xs R U V P0 Q0 := by
  obtain ⟨⟨P0, Q0⟩, h0⟩ : ∃ pq, (dists x y (mks a b xs))[0]? = some pq := ⟨_, List.getElem?_eq_getElem (by rw [dists_len, mks_len]; exact h)⟩
  exact ⟨_, _, _, P0, Q0, h0, rfl⟩

/-! The program -/
set_option maxRecDepth 20000 in
set_option maxHeartbeats 400000 in
theorem inm_fn (a b x y : Int) (A : Option Addr) (c j j2 : Nat) (xs : List (Int × Int)) (R : Nat) (U V P0 Q0 : Int) (N : Near a b x y xs R U V P0 Q0) (w : World) (X1 : Hid (w.heap[j]? = some (.cells #[.int .i64 a, .int .i64 b, .slice A xs.length c] 32))) (X2 : Hid (w.heap[j2]? = some (.cells #[.int .i64 x, .int .i64 y] 29)))
    (X : Hid (RdF w A xs)) (S : Scl a b xs) (hxy : okB x y = true) :
    Calls Try.prog 77 #[.pointer (some ⟨j, 0, none⟩), .pointer (some ⟨j2, 0, none⟩)] w fun e w' => ((AllD x y (mks a b xs) ∧ e = .returned (.int .i64 (R : Int))) ∨ (¬ AllD x y (mks a b xs) ∧ ∃ ch, e = .panicked ch ∧ TooGreat ch)) ∧ Gr w w' := by
  have HD := hid fun (w' : World) (Z : Hid (RdF w' A xs)) => idist a b x y A c xs (mks a b xs) rfl w' Z S.hi S.unit S.all hxy S.mark
  have HN := hid N
  have hlen : (dists x y (mks a b xs)).length = xs.length := by rw [dists_len, mks_len]
  have hhi := S.hi
  have HOK := hid fun h => dists_ok (x := x) (y := y) (ms := mks a b xs) h
  have HF := hid N.first; have HL := hid N.fl
  obtain ⟨Pr, hPr⟩ : ∃ Pr, AllD x y (mks a b xs) = Pr := ⟨_, rfl⟩
  obtain ⟨D, hD⟩ : ∃ D, dists x y (mks a b xs) = D := ⟨_, rfl⟩
  obtain ⟨ms, hms⟩ : ∃ ms, mks a b xs = ms := ⟨_, rfl⟩
  have hml : ms.length = xs.length := by rw [← hms, mks_len]
  unfold distPost at HD
  simp only [hPr, hD] at HD HOK HF HL hlen ⊢
  simp only [hms, hml] at HD
  clear S hxy N HN hPr hD hms
  go_enter Try.func77, Try.ntmps77
  obtain ⟨_, _, _⟩ := cells3 X1.out
  have _ := fz X1.out
  have _ := ltb X1.out
  obtain ⟨_, _⟩ := cells2 X2.out
  have _ := fz X2.out
  have _ := ltb X2.out
  go_wp2_with fail
  refine (HD.out _ X).mono ?_
  rintro e w1 ⟨hg, ⟨hD, v, rfl, own⟩ | ⟨hD, ch, rfl, ht⟩⟩
  · rw [← hlen] at own
    obtain ⟨A', c', rfl, hr⟩ := RdF.of_own own
    have HG := hid hg; have HR := hid hr; have HAD := hid hD
    clear hg hr hD own
    go_wp2_with fail
    have hF := ifirst A' c' D P0 Q0 R w1 HR (by omega) (HOK.out HAD.out) HF.out (by rw [HL.out])
    rw [hlen] at hF
    refine hF.mono ?_
    rintro e w2 ⟨rfl, hg2⟩
    have HG2 := hid (HG.out.trans hg2)
    have HAD2 := hid HAD.out
    clear hg2
    go_wp2
    go_ret
    exact ⟨.inl ⟨HAD2.out, rfl⟩, HG2.out⟩
  · exact ⟨rfl, .inr ⟨hD, ch, rfl, ht⟩, hg⟩
set_option maxRecDepth 20000 in
set_option maxHeartbeats 400000 in
theorem iNearestMark_0 (a b x y : Int) (A : Option Addr) (c : Nat) (xs : List (Int × Int)) (w : World) (X : Hid (RdF w A xs)) (hn : xs.length ≤ 1048576) (h : sclB a b xs = false) :
    Calls Try.prog 33 #[scl a b A xs.length c, fr x y] w fun e w' => e = .returned (.tuple #[.int .i64 0, .int .i64 1]) ∧ Gr w w' := by
  have h := hid h
  go_enter Try.func33, Try.ntmps33
  go_wp2_with fail
  refine (iScF a b A c xs _ (hid (X.out.keep (((Gr.refl w).al _).al _))) hn h.out).mono ?_
  rintro e w1 ⟨rfl, hg1⟩
  obtain ⟨x1_0, x1_1, hz1, g1⟩ := alloc2 hg1
  obtain ⟨_, _, _⟩ := cells3 x1_0
  have _ := fz x1_0
  have _ := ltb x1_0
  obtain ⟨_, _⟩ := cells2 x1_1
  have _ := fz x1_1
  have _ := ltb x1_1
  have X1_0 := hid x1_0; clear x1_0
  have X1_1 := hid x1_1; clear x1_1
  have G1 := hid (g1)
  clear hg1 g1
  go_wp2
  refine bodyPost_ret (v := .tuple #[.int .i64 0, .int .i64 1]) (by simp [results, Try.results33, go_sem, *]) rfl ⟨rfl, ?_⟩
  exact G1.out
set_option maxRecDepth 20000 in
set_option maxHeartbeats 400000 in
theorem iNearestMark_1 (a b x y : Int) (A : Option Addr) (c : Nat) (xs : List (Int × Int)) (w : World) (X : Hid (RdF w A xs)) (hn : xs.length ≤ 1048576) (h : sclB a b xs = true) (hk : okB x y = false) :
    Calls Try.prog 33 #[scl a b A xs.length c, fr x y] w fun e w' => e = .returned (.tuple #[.int .i64 0, .int .i64 1]) ∧ Gr w w' := by
  have h := hid h; have hk := hid hk
  go_enter Try.func33, Try.ntmps33
  go_wp2_with fail
  refine (iScT a b A c xs _ (hid (X.out.keep (((Gr.refl w).al _).al _))) hn h.out).mono ?_
  rintro e w1 ⟨rfl, hg1⟩
  obtain ⟨x1_0, x1_1, hz1, g1⟩ := alloc2 hg1
  obtain ⟨_, _, _⟩ := cells3 x1_0
  have _ := fz x1_0
  have _ := ltb x1_0
  obtain ⟨_, _⟩ := cells2 x1_1
  have _ := fz x1_1
  have _ := ltb x1_1
  have X1_0 := hid x1_0; clear x1_0
  have X1_1 := hid x1_1; clear x1_1
  have G1 := hid (g1)
  clear hg1 g1
  go_wp2_with fail
  refine (iok_f _ _ _ hk.out).mono ?_
  rintro e w2 ⟨rfl, hg2⟩
  have x2_1 := hg2.keep X1_0.out
  have x2_2 := hg2.keep X1_1.out
  obtain ⟨_, _, _⟩ := cells3 x2_1
  have _ := fz x2_1
  have _ := ltb x2_1
  obtain ⟨_, _⟩ := cells2 x2_2
  have _ := fz x2_2
  have _ := ltb x2_2
  have X2_1 := hid x2_1; clear x2_1
  have X2_2 := hid x2_2; clear x2_2
  have G2 := hid (G1.out.trans hg2)
  clear hg2
  go_wp2
  refine bodyPost_ret (v := .tuple #[.int .i64 0, .int .i64 1]) (by simp [results, Try.results33, go_sem, *]) rfl ⟨rfl, ?_⟩
  exact G2.out
set_option maxRecDepth 20000 in
set_option maxHeartbeats 400000 in
theorem iNearestMark_2 (a b x y : Int) (A : Option Addr) (c : Nat) (xs : List (Int × Int)) (Z C : Int) (w : World) (X : Hid (RdF w A xs)) (hn : xs.length ≤ 1048576) (h : sclB a b xs = true) (hk : okB x y = true)
    (hT : ∀ (w' : World) (j j2 : Nat), Hid (w'.heap[j]? = some (.cells #[.int .i64 a, .int .i64 b, .slice A xs.length c] 32)) → Hid (w'.heap[j2]? = some (.cells #[.int .i64 x, .int .i64 y] 29)) → Hid (RdF w' A xs) → Calls Try.prog 76 #[.func (.func 77) #[] #[.pointer (some ⟨j, 0, none⟩), .pointer (some ⟨j2, 0, none⟩)]] w' fun e w'' => e = .returned (.tuple #[.int .i64 Z, .int .i64 C]) ∧ Gr w' w'') :
    Calls Try.prog 33 #[scl a b A xs.length c, fr x y] w fun e w' => e = .returned (.tuple #[.int .i64 Z, .int .i64 C]) ∧ Gr w w' := by
  have h := hid h; have hk := hid hk; have HT := hid hT; clear hT
  go_enter Try.func33, Try.ntmps33
  go_wp2_with fail
  refine (iScT a b A c xs _ (hid (X.out.keep (((Gr.refl w).al _).al _))) hn h.out).mono ?_
  rintro e w1 ⟨rfl, hg1⟩
  obtain ⟨x1_0, x1_1, hz1, g1⟩ := alloc2 hg1
  obtain ⟨_, _, _⟩ := cells3 x1_0
  have _ := fz x1_0
  have _ := ltb x1_0
  obtain ⟨_, _⟩ := cells2 x1_1
  have _ := fz x1_1
  have _ := ltb x1_1
  have X1_0 := hid x1_0; clear x1_0
  have X1_1 := hid x1_1; clear x1_1
  have G1 := hid (g1)
  clear hg1 g1
  go_wp2_with fail
  refine (iok_t _ _ _ hk.out).mono ?_
  rintro e w2 ⟨rfl, hg2⟩
  have x2_1 := hg2.keep X1_0.out
  have x2_2 := hg2.keep X1_1.out
  obtain ⟨_, _, _⟩ := cells3 x2_1
  have _ := fz x2_1
  have _ := ltb x2_1
  obtain ⟨_, _⟩ := cells2 x2_2
  have _ := fz x2_2
  have _ := ltb x2_2
  have X2_1 := hid x2_1; clear x2_1
  have X2_2 := hid x2_2; clear x2_2
  have G2 := hid (G1.out.trans hg2)
  clear hg2
  go_wp2_with fail
  refine (HT.out _ _ _ (hid X2_1.out) (hid X2_2.out) (hid (X.out.keep G2.out))).mono ?_
  rintro e w3 ⟨rfl, hg3⟩
  have x3_1 := hg3.keep X2_1.out
  have x3_2 := hg3.keep X2_2.out
  obtain ⟨_, _, _⟩ := cells3 x3_1
  have _ := fz x3_1
  have _ := ltb x3_1
  obtain ⟨_, _⟩ := cells2 x3_2
  have _ := fz x3_2
  have _ := ltb x3_2
  have X3_1 := hid x3_1; clear x3_1
  have X3_2 := hid x3_2; clear x3_2
  have G3 := hid (G2.out.trans hg3)
  clear hg3
  go_wp2
  refine bodyPost_ret (v := .tuple #[.int .i64 Z, .int .i64 C]) (by simp [results, Try.results33, go_sem, *]) rfl ⟨rfl, ?_⟩
  exact G3.out

/-! The reference -/
set_option maxRecDepth 20000 in
set_option maxHeartbeats 400000 in
theorem sNearestMark_0 (a b x y : Int) (A : Option Addr) (c : Nat) (xs : List (Int × Int)) (w : World) (X : Hid (RdF w A xs)) (hn : xs.length ≤ 1048576) (h : sclB a b xs = false) :
    Calls Try.prog 32 #[scl a b A xs.length c, fr x y] w fun e w' => e = .returned (.tuple #[.int .i64 0, .int .i64 1]) ∧ Gr w w' := by
  have h := hid h
  go_enter Try.func32, Try.ntmps32
  go_wp2_with fail
  refine (sScF a b A c _ xs _ (hid (alloc2 (Gr.refl _)).1) (hid (X.out.keep (((Gr.refl w).al _).al _))) hn h.out).mono ?_
  rintro e w1 ⟨rfl, hg1⟩
  obtain ⟨x1_0, x1_1, hz1, g1⟩ := alloc2 hg1
  obtain ⟨_, _, _⟩ := cells3 x1_0
  have _ := fz x1_0
  have _ := ltb x1_0
  obtain ⟨_, _⟩ := cells2 x1_1
  have _ := fz x1_1
  have _ := ltb x1_1
  have X1_0 := hid x1_0; clear x1_0
  have X1_1 := hid x1_1; clear x1_1
  have G1 := hid (g1)
  clear hg1 g1
  go_wp2
  refine bodyPost_ret (v := .tuple #[.int .i64 0, .int .i64 1]) (by simp [results, Try.results32, go_sem, *]) rfl ⟨rfl, ?_⟩
  exact G1.out
set_option maxRecDepth 20000 in
set_option maxHeartbeats 400000 in
theorem sNearestMark_1 (a b x y : Int) (A : Option Addr) (c : Nat) (xs : List (Int × Int)) (w : World) (X : Hid (RdF w A xs)) (hn : xs.length ≤ 1048576) (h : sclB a b xs = true) (hk : okB x y = false) :
    Calls Try.prog 32 #[scl a b A xs.length c, fr x y] w fun e w' => e = .returned (.tuple #[.int .i64 0, .int .i64 1]) ∧ Gr w w' := by
  have h := hid h; have hk := hid hk
  go_enter Try.func32, Try.ntmps32
  go_wp2_with fail
  refine (sScT a b A c _ xs _ (hid (alloc2 (Gr.refl _)).1) (hid (X.out.keep (((Gr.refl w).al _).al _))) hn h.out).mono ?_
  rintro e w1 ⟨rfl, hg1⟩
  obtain ⟨x1_0, x1_1, hz1, g1⟩ := alloc2 hg1
  obtain ⟨_, _, _⟩ := cells3 x1_0
  have _ := fz x1_0
  have _ := ltb x1_0
  obtain ⟨_, _⟩ := cells2 x1_1
  have _ := fz x1_1
  have _ := ltb x1_1
  have X1_0 := hid x1_0; clear x1_0
  have X1_1 := hid x1_1; clear x1_1
  have G1 := hid (g1)
  clear hg1 g1
  go_wp2_with fail
  refine (sok_f _ _ _ hk.out).mono ?_
  rintro e w2 ⟨rfl, hg2⟩
  have x2_1 := hg2.keep X1_0.out
  have x2_2 := hg2.keep X1_1.out
  obtain ⟨_, _, _⟩ := cells3 x2_1
  have _ := fz x2_1
  have _ := ltb x2_1
  obtain ⟨_, _⟩ := cells2 x2_2
  have _ := fz x2_2
  have _ := ltb x2_2
  have X2_1 := hid x2_1; clear x2_1
  have X2_2 := hid x2_2; clear x2_2
  have G2 := hid (G1.out.trans hg2)
  clear hg2
  go_wp2
  refine bodyPost_ret (v := .tuple #[.int .i64 0, .int .i64 1]) (by simp [results, Try.results32, go_sem, *]) rfl ⟨rfl, ?_⟩
  exact G2.out
set_option maxRecDepth 20000 in
set_option maxHeartbeats 400000 in
theorem sNearestMark_2 (a b x y : Int) (A : Option Addr) (c : Nat) (xs : List (Int × Int)) (Z U V C : Int) (w : World) (X : Hid (RdF w A xs)) (hn : xs.length ≤ 1048576) (h : sclB a b xs = true) (hk : okB x y = true)
    (hT : ∀ (w' : World) (j : Nat), Hid (w'.heap[j]? = some (.cells #[.int .i64 a, .int .i64 b, .slice A xs.length c] 32)) → Hid (RdF w' A xs) → Calls Try.prog 75 #[.pointer (some ⟨j, 0, none⟩), fr x y] w' fun e w'' => e = .returned (.tuple #[.int .i64 Z, fr U V, .int .i64 C]) ∧ Gr w' w'') :
    Calls Try.prog 32 #[scl a b A xs.length c, fr x y] w fun e w' => e = .returned (.tuple #[.int .i64 Z, .int .i64 C]) ∧ Gr w w' := by
  have h := hid h; have hk := hid hk; have HT := hid hT; clear hT
  go_enter Try.func32, Try.ntmps32
  go_wp2_with fail
  refine (sScT a b A c _ xs _ (hid (alloc2 (Gr.refl _)).1) (hid (X.out.keep (((Gr.refl w).al _).al _))) hn h.out).mono ?_
  rintro e w1 ⟨rfl, hg1⟩
  obtain ⟨x1_0, x1_1, hz1, g1⟩ := alloc2 hg1
  obtain ⟨_, _, _⟩ := cells3 x1_0
  have _ := fz x1_0
  have _ := ltb x1_0
  obtain ⟨_, _⟩ := cells2 x1_1
  have _ := fz x1_1
  have _ := ltb x1_1
  have X1_0 := hid x1_0; clear x1_0
  have X1_1 := hid x1_1; clear x1_1
  have G1 := hid (g1)
  clear hg1 g1
  go_wp2_with fail
  refine (sok_t _ _ _ hk.out).mono ?_
  rintro e w2 ⟨rfl, hg2⟩
  have x2_1 := hg2.keep X1_0.out
  have x2_2 := hg2.keep X1_1.out
  obtain ⟨_, _, _⟩ := cells3 x2_1
  have _ := fz x2_1
  have _ := ltb x2_1
  obtain ⟨_, _⟩ := cells2 x2_2
  have _ := fz x2_2
  have _ := ltb x2_2
  have X2_1 := hid x2_1; clear x2_1
  have X2_2 := hid x2_2; clear x2_2
  have G2 := hid (G1.out.trans hg2)
  clear hg2
  go_wp2_with fail
  refine (HT.out _ _ (hid X2_1.out) (hid (X.out.keep G2.out))).mono ?_
  rintro e w3 ⟨rfl, hg3⟩
  have x3_1 := hg3.keep X2_1.out
  have x3_2 := hg3.keep X2_2.out
  obtain ⟨_, _, _⟩ := cells3 x3_1
  have _ := fz x3_1
  have _ := ltb x3_1
  obtain ⟨_, _⟩ := cells2 x3_2
  have _ := fz x3_2
  have _ := ltb x3_2
  have X3_1 := hid x3_1; clear x3_1
  have X3_2 := hid x3_2; clear x3_2
  have G3 := hid (G2.out.trans hg3)
  clear hg3
  go_wp2
  refine bodyPost_ret (v := .tuple #[.int .i64 Z, .int .i64 C]) (by simp [results, Try.results32, go_sem, *]) rfl ⟨rfl, ?_⟩
  exact (G3.out).al _
theorem bothNearestMark (a b : Int) (xs : List (Int × Int)) (x y : Int) (hn : xs.length ≤ 1048576) : ∃ R0 R1 : Int,
    (∀ (A : Option Addr) (c : Nat) (w : World), Hid (RdF w A xs) → Calls Try.prog 32 #[scl a b A xs.length c, fr x y] w fun x w' => x = .returned (.tuple #[.int .i64 R0, .int .i64 R1]) ∧ Gr w w') ∧
    (∀ (A : Option Addr) (c : Nat) (w : World), Hid (RdF w A xs) → Calls Try.prog 33 #[scl a b A xs.length c, fr x y] w fun x w' => x = .returned (.tuple #[.int .i64 R0, .int .i64 R1]) ∧ Gr w w') := by
  cases h : sclB a b xs with
  | false => exact ⟨0, 1, fun A c w X => sNearestMark_0 a b x y A c xs w X hn h, fun A c w X => iNearestMark_0 a b x y A c xs w X hn h⟩
  | true =>
    cases hk : okB x y with
    | false => exact ⟨0, 1, fun A c w X => sNearestMark_1 a b x y A c xs w X hn h hk, fun A c w X => iNearestMark_1 a b x y A c xs w X hn h hk⟩
    | true =>
      have S := scl_of h
      have h0 : 0 < xs.length := by have := S.lo; omega
      obtain ⟨R, U, V, P0, Q0, N⟩ := near_of a b x y xs h0
      by_cases hD : AllD x y (mks a b xs)
      · refine ⟨R, 0, fun A c w X => sNearestMark_2 a b x y A c xs R U V 0 w X hn h hk fun w' j X1 X' => (snear a b x y A c j xs _ rfl R U V P0 Q0 w' X1 X' S.hi h0 S.unit S.all hk S.mark N.first N.fl).mono ?_, fun A c w X => iNearestMark_2 a b x y A c xs R 0 w X hn h hk fun w' j j2 X1 X2 X' => told_ok_I _ _ _ w' (fun _ => by kernel_rfl) fun w2 hg2 => (inm_fn a b x y A c j j2 xs R U V P0 Q0 N w2 (hid (hg2.keep X1.out)) (hid (hg2.keep X2.out)) (hid (X'.out.keep hg2)) S hk).mono ?_⟩
        · rintro e w'' ⟨⟨_, rfl⟩ | ⟨hn', _⟩, hg⟩
          · exact ⟨rfl, hg⟩
          · exact absurd hD hn'
        · rintro e w'' ⟨⟨_, rfl⟩ | ⟨hn', _⟩, hg⟩
          · exact ⟨rfl, hg⟩
          · exact absurd hD hn'
      · refine ⟨0, 3, fun A c w X => sNearestMark_2 a b x y A c xs 0 0 0 3 w X hn h hk fun w' j X1 X' => (snear a b x y A c j xs _ rfl R U V P0 Q0 w' X1 X' S.hi h0 S.unit S.all hk S.mark N.first N.fl).mono ?_, fun A c w X => iNearestMark_2 a b x y A c xs 0 3 w X hn h hk fun w' j j2 X1 X2 X' => told_great_I _ _ w' (fun _ => by kernel_rfl) fun w2 hg2 => (inm_fn a b x y A c j j2 xs R U V P0 Q0 N w2 (hid (hg2.keep X1.out)) (hid (hg2.keep X2.out)) (hid (X'.out.keep hg2)) S hk).mono ?_⟩
        · rintro e w'' ⟨⟨hD', _⟩ | ⟨_, rfl⟩, hg⟩
          · exact absurd hD' hD
          · exact ⟨rfl, hg⟩
        · rintro e w'' ⟨⟨hD', _⟩ | ⟨_, ch, rfl, u, v, rfl⟩, hg⟩
          · exact absurd hD' hD
          · exact ⟨⟨u, v, rfl⟩, hg⟩
end Go.Proofs.Ytfkmlgndggnhaaa
