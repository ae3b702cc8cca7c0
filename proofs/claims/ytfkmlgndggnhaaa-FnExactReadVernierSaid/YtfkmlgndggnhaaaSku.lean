/- WALKS: LineThatFits, of the program and of the reference. -/
import Derived.Test.YtfkmlgndggnhaaaSkt
namespace Go.Proofs.Ytfkmlgndggnhaaa
open Go.RowKit Go.Sort

/-- The marks at the ends. -/
structure Ends (a b : Int) (xs : List (Int × Int)) (u0 v0 u1 v1 : Int) : Prop where
  i0 : ∀ (A : Option Addr) (c : Nat) (w : World), Hid (RdF w A xs) → Calls Try.prog 72 #[scl a b A xs.length c, .int .i64 0] w fun e w' => e = .returned (fr u0 v0) ∧ Gr w w'
  i1 : ∀ (A : Option Addr) (c : Nat) (w : World), Hid (RdF w A xs) → Calls Try.prog 72 #[scl a b A xs.length c, .int .i64 ((xs.length : Int) - 1)] w fun e w' => e = .returned (fr u1 v1) ∧ Gr w w'
  s0 : ∀ (A : Option Addr) (c j : Nat) (w : World), Hid (w.heap[j]? = some (.cells #[.int .i64 a, .int .i64 b, .slice A xs.length c] 32)) → Hid (RdF w A xs) → Calls Try.prog 71 #[.pointer (some ⟨j, 0, none⟩), .int .i64 0] w fun e w' => e = .returned (.tuple #[fr u0 v0, .int .i64 0]) ∧ Gr w w'
  s1 : ∀ (A : Option Addr) (c j : Nat) (w : World), Hid (w.heap[j]? = some (.cells #[.int .i64 a, .int .i64 b, .slice A xs.length c] 32)) → Hid (RdF w A xs) → Calls Try.prog 71 #[.pointer (some ⟨j, 0, none⟩), .int .i64 ((xs.length : Int) - 1)] w fun e w' => e = .returned (.tuple #[fr u1 v1, .int .i64 0]) ∧ Gr w w'
  ok0 : okB u0 v0 = true
  ok1 : okB u1 v1 = true
theorem ends_of {a b : Int} {xs : List (Int × Int)} (S : Scl a b xs) : ∃ u0 v0 u1 v1, Ends a b xs u0 v0 u1 v1 := by
  have hlo := S.lo; have hhi := S.hi
  obtain ⟨⟨p, q⟩, h0⟩ : ∃ pq, xs[0]? = some pq := ⟨xs[0]'(by omega), List.getElem?_eq_getElem _⟩
  obtain ⟨⟨p', q'⟩, h1⟩ : ∃ pq, xs[xs.length - 1]? = some pq := ⟨xs[xs.length - 1]'(by omega), List.getElem?_eq_getElem _⟩
  have e : ((xs.length - 1 : Nat) : Int) = (xs.length : Int) - 1 := by omega
  refine ⟨mkP a b ((0 : Nat) : Int) p q, mkQ a b ((0 : Nat) : Int) p q, mkP a b ((xs.length - 1 : Nat) : Int) p' q', mkQ a b ((xs.length - 1 : Nat) : Int) p' q', ?_, ?_, ?_, ?_, ?_, ?_⟩
  · exact fun A c w X => imark_yes a b A c 0 xs p q w X h0 (by omega) S.unit (ok_whole (by omega) (by omega)) (S.ok 0 p q h0) (S.mark 0 p q h0)
  · exact fun A c w X => e ▸ imark_yes a b A c (xs.length - 1) xs p' q' w X h1 (by omega) S.unit (ok_whole (by omega) (by omega)) (S.ok _ p' q' h1) (S.mark _ p' q' h1)
  · exact fun A c j w X1 X => smark_yes a b A c 0 j xs p q w X1 X h0 (by omega) S.unit (ok_whole (by omega) (by omega)) (S.ok 0 p q h0) (S.mark 0 p q h0)
  · exact fun A c j w X1 X => e ▸ smark_yes a b A c (xs.length - 1) j xs p' q' w X1 X h1 (by omega) S.unit (ok_whole (by omega) (by omega)) (S.ok _ p' q' h1) (S.mark _ p' q' h1)
  · exact mks_ok S.mark (mks_get h0)
  · exact mks_ok S.mark (mks_get h1)

/-! Where a vernier may be read: the program -/

set_option maxRecDepth 20000 in
set_option maxHeartbeats 1000000 in
theorem cchk (B : Bool) (P Q : Int) (k1 k2 k3 : Nat) (a b n x y : Int) (r : Bool) (A : Option Addr) (c : Nat) (xs : List (Int × Int)) (w : World) (n1 : 2 ≤ n) (n2 : n ≤ 40) (X1 : Hid (w.heap[k1]? = some (.cells #[.int .i64 a, .int .i64 b, .slice A xs.length c] 32))) (X2 : Hid (w.heap[k2]? = some (.cells #[.int .i64 n, .bool r] 53))) (X3 : Hid (w.heap[k3]? = some (.cells #[.int .i64 x, .int .i64 y] 29)))
    (hf : ∀ w', Gr w w' → Calls Try.prog 89 #[vn n r, scl a b A xs.length c, fr x y, .int .i64 (n - 1)] w' (ResI B P Q w')) :
    Calls Try.prog 128 #[.pointer (some ⟨k2, 0, none⟩), .pointer (some ⟨k1, 0, none⟩), .pointer (some ⟨k3, 0, none⟩)] w (ResI B P Q w) := by
  have HF := hid hf; clear hf
  cases B with
  | true =>
    refine Calls.mono (R := fun e w' => e = .returned (fr P Q) ∧ Gr w w') ?_ fun e w' ⟨h, hg⟩ => ⟨fun _ => h, fun h => (by cases h), hg⟩
    have HF2 := hid fun w' (hg : Gr w w') => (HF.out w' hg).mono (R' := fun e w'' => e = .returned (fr P Q) ∧ Gr w' w'') fun e w'' h => ⟨h.1 rfl, h.2.2⟩
    clear HF
    go_enter Try.func128, Try.ntmps128
    obtain ⟨_, _, _⟩ := cells3 X1.out
    have _ := fz X1.out
    have _ := ltb X1.out
    obtain ⟨_, _⟩ := cells2 X2.out
    have _ := fz X2.out
    have _ := ltb X2.out
    obtain ⟨_, _⟩ := cells2 X3.out
    have _ := fz X3.out
    have _ := ltb X3.out
    go_wp2_with fail
    refine (HF2.out _ ((Gr.refl _).al _)).mono ?_
    rintro e w1 ⟨rfl, hg1⟩
    obtain ⟨x1_0, hz1, g1⟩ := alloc1 hg1
    have x1_1 := g1.keep X1.out
    have x1_2 := g1.keep X2.out
    have x1_3 := g1.keep X3.out
    obtain ⟨_, _⟩ := cells2 x1_0
    have _ := fz x1_0
    have _ := ltb x1_0
    obtain ⟨_, _, _⟩ := cells3 x1_1
    have _ := fz x1_1
    have _ := ltb x1_1
    obtain ⟨_, _⟩ := cells2 x1_2
    have _ := fz x1_2
    have _ := ltb x1_2
    obtain ⟨_, _⟩ := cells2 x1_3
    have _ := fz x1_3
    have _ := ltb x1_3
    have X1_0 := hid x1_0; clear x1_0
    have X1_1 := hid x1_1; clear x1_1
    have X1_2 := hid x1_2; clear x1_2
    have X1_3 := hid x1_3; clear x1_3
    have G1 := hid (g1)
    clear hg1 g1
    go_wp2
    refine bodyPost_ret (v := fr P Q) (by simp [results, Try.results128, go_sem, *]) rfl ⟨rfl, ?_⟩
    exact ((G1.out).setCell (by simp <;> omega) _).setCell (by simp <;> omega) _
  | false =>
    refine Calls.mono (R := fun e w' => (∃ x y, e = .panicked [{ v := .iface 125 (fr x y), recovered := false }]) ∧ Gr w w') ?_ fun e w' ⟨h, hg⟩ => ⟨fun h => (by cases h), fun _ => h, hg⟩
    have HF2 := hid fun w' (hg : Gr w w') => (HF.out w' hg).mono (R' := fun e w'' => (∃ x y, e = .panicked [{ v := .iface 125 (fr x y), recovered := false }]) ∧ Gr w' w'') fun e w'' h => ⟨h.2.1 rfl, h.2.2⟩
    clear HF
    go_enter Try.func128, Try.ntmps128
    obtain ⟨_, _, _⟩ := cells3 X1.out
    have _ := fz X1.out
    have _ := ltb X1.out
    obtain ⟨_, _⟩ := cells2 X2.out
    have _ := fz X2.out
    have _ := ltb X2.out
    obtain ⟨_, _⟩ := cells2 X3.out
    have _ := fz X3.out
    have _ := ltb X3.out
    go_wp2_with fail
    refine (HF2.out _ ((Gr.refl _).al _)).mono ?_
    rintro e w1 ⟨⟨xp, yp, rfl⟩, hg1⟩
    obtain ⟨x1_0, hz1, g1⟩ := alloc1 hg1
    have x1_1 := g1.keep X1.out
    have x1_2 := g1.keep X2.out
    have x1_3 := g1.keep X3.out
    obtain ⟨_, _⟩ := cells2 x1_0
    have _ := fz x1_0
    have _ := ltb x1_0
    obtain ⟨_, _, _⟩ := cells3 x1_1
    have _ := fz x1_1
    have _ := ltb x1_1
    obtain ⟨_, _⟩ := cells2 x1_2
    have _ := fz x1_2
    have _ := ltb x1_2
    obtain ⟨_, _⟩ := cells2 x1_3
    have _ := fz x1_3
    have _ := ltb x1_3
    have X1_0 := hid x1_0; clear x1_0
    have X1_1 := hid x1_1; clear x1_1
    have X1_2 := hid x1_2; clear x1_2
    have X1_3 := hid x1_3; clear x1_3
    have G1 := hid (g1)
    clear hg1 g1
    exact ⟨rfl, ⟨xp, yp, rfl⟩, G1.out⟩

set_option maxRecDepth 20000 in
set_option maxHeartbeats 1000000 in
theorem ichk_0 (a b n x y : Int) (r : Bool) (A : Option Addr) (c : Nat) (xs : List (Int × Int)) (w : World) (X : Hid (RdF w A xs)) (hn : xs.length ≤ 1048576) (h : sclB a b xs = false) :
    Calls Try.prog 93 #[scl a b A xs.length c, vn n r, fr x y] w fun e w' => e = .returned (.int .i64 1) ∧ Gr w w' := by
  have h := hid h
  go_enter Try.func93, Try.ntmps93
  go_wp2_with fail
  refine (iScF a b A c xs _ (hid (X.out.keep ((((Gr.refl w).al _).al _).al _))) hn h.out).mono ?_
  rintro e w1 ⟨rfl, hg1⟩
  obtain ⟨x1_0, x1_1, x1_2, hz1, g1⟩ := alloc3 hg1
  obtain ⟨_, _, _⟩ := cells3 x1_0
  have _ := fz x1_0
  have _ := ltb x1_0
  obtain ⟨_, _⟩ := cells2 x1_1
  have _ := fz x1_1
  have _ := ltb x1_1
  obtain ⟨_, _⟩ := cells2 x1_2
  have _ := fz x1_2
  have _ := ltb x1_2
  have X1_0 := hid x1_0; clear x1_0
  have X1_1 := hid x1_1; clear x1_1
  have X1_2 := hid x1_2; clear x1_2
  have G1 := hid (g1)
  clear hg1 g1
  go_wp2
  refine bodyPost_ret (v := .int .i64 1) (by simp [results, Try.results93, go_sem, *]) rfl ⟨rfl, ?_⟩
  exact G1.out
set_option maxRecDepth 20000 in
set_option maxHeartbeats 1000000 in
theorem ichk_1 (a b n x y : Int) (r : Bool) (A : Option Addr) (c : Nat) (xs : List (Int × Int)) (w : World) (X : Hid (RdF w A xs)) (hn : xs.length ≤ 1048576) (h : sclB a b xs = true) (hv : inB n 2 40 = false) :
    Calls Try.prog 93 #[scl a b A xs.length c, vn n r, fr x y] w fun e w' => e = .returned (.int .i64 1) ∧ Gr w w' := by
  have h := hid h; have hv := hid hv
  go_enter Try.func93, Try.ntmps93
  go_wp2_with fail
  refine (iScT a b A c xs _ (hid (X.out.keep ((((Gr.refl w).al _).al _).al _))) hn h.out).mono ?_
  rintro e w1 ⟨rfl, hg1⟩
  obtain ⟨x1_0, x1_1, x1_2, hz1, g1⟩ := alloc3 hg1
  obtain ⟨_, _, _⟩ := cells3 x1_0
  have _ := fz x1_0
  have _ := ltb x1_0
  obtain ⟨_, _⟩ := cells2 x1_1
  have _ := fz x1_1
  have _ := ltb x1_1
  obtain ⟨_, _⟩ := cells2 x1_2
  have _ := fz x1_2
  have _ := ltb x1_2
  have X1_0 := hid x1_0; clear x1_0
  have X1_1 := hid x1_1; clear x1_1
  have X1_2 := hid x1_2; clear x1_2
  have G1 := hid (g1)
  clear hg1 g1
  go_wp2_with fail
  refine (iVernF n r _ hv.out).mono ?_
  rintro e w2 ⟨rfl, hg2⟩
  have x2_1 := hg2.keep X1_0.out
  have x2_2 := hg2.keep X1_1.out
  have x2_3 := hg2.keep X1_2.out
  obtain ⟨_, _, _⟩ := cells3 x2_1
  have _ := fz x2_1
  have _ := ltb x2_1
  obtain ⟨_, _⟩ := cells2 x2_2
  have _ := fz x2_2
  have _ := ltb x2_2
  obtain ⟨_, _⟩ := cells2 x2_3
  have _ := fz x2_3
  have _ := ltb x2_3
  have X2_1 := hid x2_1; clear x2_1
  have X2_2 := hid x2_2; clear x2_2
  have X2_3 := hid x2_3; clear x2_3
  have G2 := hid (G1.out.trans hg2)
  clear hg2
  go_wp2
  refine bodyPost_ret (v := .int .i64 1) (by simp [results, Try.results93, go_sem, *]) rfl ⟨rfl, ?_⟩
  exact G2.out
set_option maxRecDepth 20000 in
set_option maxHeartbeats 1000000 in
theorem ichk_2 (a b n x y : Int) (r : Bool) (A : Option Addr) (c : Nat) (xs : List (Int × Int)) (w : World) (X : Hid (RdF w A xs)) (hn : xs.length ≤ 1048576) (h : sclB a b xs = true) (hv : inB n 2 40 = true) (hx : okB x y = false) :
    Calls Try.prog 93 #[scl a b A xs.length c, vn n r, fr x y] w fun e w' => e = .returned (.int .i64 1) ∧ Gr w w' := by
  have h := hid h; have hv := hid hv; have hx := hid hx
  go_enter Try.func93, Try.ntmps93
  go_wp2_with fail
  refine (iScT a b A c xs _ (hid (X.out.keep ((((Gr.refl w).al _).al _).al _))) hn h.out).mono ?_
  rintro e w1 ⟨rfl, hg1⟩
  obtain ⟨x1_0, x1_1, x1_2, hz1, g1⟩ := alloc3 hg1
  obtain ⟨_, _, _⟩ := cells3 x1_0
  have _ := fz x1_0
  have _ := ltb x1_0
  obtain ⟨_, _⟩ := cells2 x1_1
  have _ := fz x1_1
  have _ := ltb x1_1
  obtain ⟨_, _⟩ := cells2 x1_2
  have _ := fz x1_2
  have _ := ltb x1_2
  have X1_0 := hid x1_0; clear x1_0
  have X1_1 := hid x1_1; clear x1_1
  have X1_2 := hid x1_2; clear x1_2
  have G1 := hid (g1)
  clear hg1 g1
  go_wp2_with fail
  refine (iVernT n r _ hv.out).mono ?_
  rintro e w2 ⟨rfl, hg2⟩
  have x2_1 := hg2.keep X1_0.out
  have x2_2 := hg2.keep X1_1.out
  have x2_3 := hg2.keep X1_2.out
  obtain ⟨_, _, _⟩ := cells3 x2_1
  have _ := fz x2_1
  have _ := ltb x2_1
  obtain ⟨_, _⟩ := cells2 x2_2
  have _ := fz x2_2
  have _ := ltb x2_2
  obtain ⟨_, _⟩ := cells2 x2_3
  have _ := fz x2_3
  have _ := ltb x2_3
  have X2_1 := hid x2_1; clear x2_1
  have X2_2 := hid x2_2; clear x2_2
  have X2_3 := hid x2_3; clear x2_3
  have G2 := hid (G1.out.trans hg2)
  clear hg2
  go_wp2_with fail
  refine (iok_f _ _ _ hx.out).mono ?_
  rintro e w3 ⟨rfl, hg3⟩
  have x3_1 := hg3.keep X2_1.out
  have x3_2 := hg3.keep X2_2.out
  have x3_3 := hg3.keep X2_3.out
  obtain ⟨_, _, _⟩ := cells3 x3_1
  have _ := fz x3_1
  have _ := ltb x3_1
  obtain ⟨_, _⟩ := cells2 x3_2
  have _ := fz x3_2
  have _ := ltb x3_2
  obtain ⟨_, _⟩ := cells2 x3_3
  have _ := fz x3_3
  have _ := ltb x3_3
  have X3_1 := hid x3_1; clear x3_1
  have X3_2 := hid x3_2; clear x3_2
  have X3_3 := hid x3_3; clear x3_3
  have G3 := hid (G2.out.trans hg3)
  clear hg3
  go_wp2
  refine bodyPost_ret (v := .int .i64 1) (by simp [results, Try.results93, go_sem, *]) rfl ⟨rfl, ?_⟩
  exact G3.out
set_option maxRecDepth 20000 in
set_option maxHeartbeats 1000000 in
theorem ichk_3 (a b n x y : Int) (r : Bool) (A : Option Addr) (c : Nat) (xs : List (Int × Int)) (u0 v0 u1 v1 : Int) (w : World) (X : Hid (RdF w A xs)) (h : askB a b xs n x y = true) (E : Ends a b xs u0 v0 u1 v1) (hc : cmpI x y u0 v0 < 0) :
    Calls Try.prog 93 #[scl a b A xs.length c, vn n r, fr x y] w fun e w' => e = .returned (.int .i64 2) ∧ Gr w w' := by
  have E := hid E
  obtain ⟨h, hv, hx⟩ := ask_of h
  have S := hid (scl_of h)
  have hhi := S.out.hi; have hlo := S.out.lo
  obtain ⟨n1, n2⟩ := in_bd hv
  have hc := show decide (cmpI x y u0 v0 < 0) = true by simpa using hc
  have h := hid h; have hv := hid hv; have hx := hid hx
  go_enter Try.func93, Try.ntmps93
  go_wp2_with fail
  refine (iScT a b A c xs _ (hid (X.out.keep ((((Gr.refl w).al _).al _).al _))) (by omega) h.out).mono ?_
  rintro e w1 ⟨rfl, hg1⟩
  obtain ⟨x1_0, x1_1, x1_2, hz1, g1⟩ := alloc3 hg1
  obtain ⟨_, _, _⟩ := cells3 x1_0
  have _ := fz x1_0
  have _ := ltb x1_0
  obtain ⟨_, _⟩ := cells2 x1_1
  have _ := fz x1_1
  have _ := ltb x1_1
  obtain ⟨_, _⟩ := cells2 x1_2
  have _ := fz x1_2
  have _ := ltb x1_2
  have X1_0 := hid x1_0; clear x1_0
  have X1_1 := hid x1_1; clear x1_1
  have X1_2 := hid x1_2; clear x1_2
  have G1 := hid (g1)
  clear hg1 g1
  go_wp2_with fail
  refine (iVernT n r _ hv.out).mono ?_
  rintro e w2 ⟨rfl, hg2⟩
  have x2_1 := hg2.keep X1_0.out
  have x2_2 := hg2.keep X1_1.out
  have x2_3 := hg2.keep X1_2.out
  obtain ⟨_, _, _⟩ := cells3 x2_1
  have _ := fz x2_1
  have _ := ltb x2_1
  obtain ⟨_, _⟩ := cells2 x2_2
  have _ := fz x2_2
  have _ := ltb x2_2
  obtain ⟨_, _⟩ := cells2 x2_3
  have _ := fz x2_3
  have _ := ltb x2_3
  have X2_1 := hid x2_1; clear x2_1
  have X2_2 := hid x2_2; clear x2_2
  have X2_3 := hid x2_3; clear x2_3
  have G2 := hid (G1.out.trans hg2)
  clear hg2
  go_wp2_with fail
  refine (iok_t _ _ _ hx.out).mono ?_
  rintro e w3 ⟨rfl, hg3⟩
  have x3_1 := hg3.keep X2_1.out
  have x3_2 := hg3.keep X2_2.out
  have x3_3 := hg3.keep X2_3.out
  obtain ⟨_, _, _⟩ := cells3 x3_1
  have _ := fz x3_1
  have _ := ltb x3_1
  obtain ⟨_, _⟩ := cells2 x3_2
  have _ := fz x3_2
  have _ := ltb x3_2
  obtain ⟨_, _⟩ := cells2 x3_3
  have _ := fz x3_3
  have _ := ltb x3_3
  have X3_1 := hid x3_1; clear x3_1
  have X3_2 := hid x3_2; clear x3_2
  have X3_3 := hid x3_3; clear x3_3
  have G3 := hid (G2.out.trans hg3)
  clear hg3
  go_wp2_with fail
  refine wp_reg0 4 (by kernel_rfl) (by kernel_rfl) ?_
  apply Exists.intro
  refine ⟨fun wb hb => ?_, ?_⟩
  · obtain ⟨_, _, _⟩ := hb.at3 X3_1.out
    obtain ⟨_, _⟩ := hb.at2 X3_2.out
    obtain ⟨_, _⟩ := hb.at2 X3_3.out
    simp only [headOps, List.contains, List.elem, reduceIte, Bool.false_eq_true]
    repeat (first | go_big_quiet_step (first | (go_at_call 72; exact Calls.of_gr (E.out.i0 A c _ (hid (X.out.keep ((G3.out.trans hb).trans ⟨⟨_, _⟩, rfl⟩))))) | (go_at_call 122; exact Calls.of_gr (iord _ _ _ _ _ hx.out E.out.ok0))) | quiet_step (fail))
    exact wpQuiet_nil rfl
  intro w4 hg4
  have x4_1 := hg4.keep X3_1.out
  have x4_2 := hg4.keep X3_2.out
  have x4_3 := hg4.keep X3_3.out
  obtain ⟨_, _, _⟩ := cells3 x4_1
  have _ := fz x4_1
  have _ := ltb x4_1
  obtain ⟨_, _⟩ := cells2 x4_2
  have _ := fz x4_2
  have _ := ltb x4_2
  obtain ⟨_, _⟩ := cells2 x4_3
  have _ := fz x4_3
  have _ := ltb x4_3
  have X4_1 := hid x4_1; clear x4_1
  have X4_2 := hid x4_2; clear x4_2
  have X4_3 := hid x4_3; clear x4_3
  have G4 := hid (G3.out.trans hg4)
  clear hg4
  go_wp2
  refine bodyPost_ret (v := .int .i64 2) (by simp [results, Try.results93, go_sem, *]) rfl ⟨rfl, ?_⟩
  exact G4.out
set_option maxRecDepth 20000 in
set_option maxHeartbeats 1000000 in
theorem ichk_4 (a b n x y : Int) (r : Bool) (A : Option Addr) (c : Nat) (xs : List (Int × Int)) (u0 v0 u1 v1 : Int) (w : World) (X : Hid (RdF w A xs)) (h : askB a b xs n x y = true) (E : Ends a b xs u0 v0 u1 v1) (hc : ¬ cmpI x y u0 v0 < 0) (B : Bool) (P Q : Int) (hl : ∀ w, Calls Try.prog 89 #[vn n r, scl a b A xs.length c, fr x y, .int .i64 (n - 1)] w (ResI B P Q w)) (hB : B = false) :
    Calls Try.prog 93 #[scl a b A xs.length c, vn n r, fr x y] w fun e w' => e = .returned (.int .i64 3) ∧ Gr w w' := by
  have E := hid E
  obtain ⟨h, hv, hx⟩ := ask_of h
  have S := hid (scl_of h)
  have hhi := S.out.hi; have hlo := S.out.lo
  obtain ⟨n1, n2⟩ := in_bd hv
  have hc := show decide (cmpI x y u0 v0 < 0) = false by simpa using hc
  have HT := hid fun (w1 : World) (hg : Gr w w1) (k1 k2 k3 : Nat) (X1 : Hid (w1.heap[k1]? = some (.cells #[.int .i64 a, .int .i64 b, .slice A xs.length c] 32))) (X2 : Hid (w1.heap[k2]? = some (.cells #[.int .i64 n, .bool r] 53))) (X3 : Hid (w1.heap[k3]? = some (.cells #[.int .i64 x, .int .i64 y] 29))) =>
    told_R 128 #[.pointer (some ⟨k2, 0, none⟩), .pointer (some ⟨k1, 0, none⟩), .pointer (some ⟨k3, 0, none⟩)] B P Q w1 (fun _ => by kernel_rfl) fun w2 hg2 => cchk B P Q k1 k2 k3 a b n x y r A c xs w2 n1 n2 (hid (hg2.keep X1.out)) (hid (hg2.keep X2.out)) (hid (hg2.keep X3.out)) fun w3 hg3 => hl w3
  subst hB
  unfold ResS at HT
  simp only [Bool.false_eq_true, reduceIte] at HT
  have h := hid h; have hv := hid hv; have hx := hid hx
  go_enter Try.func93, Try.ntmps93
  go_wp2_with fail
  refine (iScT a b A c xs _ (hid (X.out.keep ((((Gr.refl w).al _).al _).al _))) (by omega) h.out).mono ?_
  rintro e w1 ⟨rfl, hg1⟩
  obtain ⟨x1_0, x1_1, x1_2, hz1, g1⟩ := alloc3 hg1
  obtain ⟨_, _, _⟩ := cells3 x1_0
  have _ := fz x1_0
  have _ := ltb x1_0
  obtain ⟨_, _⟩ := cells2 x1_1
  have _ := fz x1_1
  have _ := ltb x1_1
  obtain ⟨_, _⟩ := cells2 x1_2
  have _ := fz x1_2
  have _ := ltb x1_2
  have X1_0 := hid x1_0; clear x1_0
  have X1_1 := hid x1_1; clear x1_1
  have X1_2 := hid x1_2; clear x1_2
  have G1 := hid (g1)
  clear hg1 g1
  go_wp2_with fail
  refine (iVernT n r _ hv.out).mono ?_
  rintro e w2 ⟨rfl, hg2⟩
  have x2_1 := hg2.keep X1_0.out
  have x2_2 := hg2.keep X1_1.out
  have x2_3 := hg2.keep X1_2.out
  obtain ⟨_, _, _⟩ := cells3 x2_1
  have _ := fz x2_1
  have _ := ltb x2_1
  obtain ⟨_, _⟩ := cells2 x2_2
  have _ := fz x2_2
  have _ := ltb x2_2
  obtain ⟨_, _⟩ := cells2 x2_3
  have _ := fz x2_3
  have _ := ltb x2_3
  have X2_1 := hid x2_1; clear x2_1
  have X2_2 := hid x2_2; clear x2_2
  have X2_3 := hid x2_3; clear x2_3
  have G2 := hid (G1.out.trans hg2)
  clear hg2
  go_wp2_with fail
  refine (iok_t _ _ _ hx.out).mono ?_
  rintro e w3 ⟨rfl, hg3⟩
  have x3_1 := hg3.keep X2_1.out
  have x3_2 := hg3.keep X2_2.out
  have x3_3 := hg3.keep X2_3.out
  obtain ⟨_, _, _⟩ := cells3 x3_1
  have _ := fz x3_1
  have _ := ltb x3_1
  obtain ⟨_, _⟩ := cells2 x3_2
  have _ := fz x3_2
  have _ := ltb x3_2
  obtain ⟨_, _⟩ := cells2 x3_3
  have _ := fz x3_3
  have _ := ltb x3_3
  have X3_1 := hid x3_1; clear x3_1
  have X3_2 := hid x3_2; clear x3_2
  have X3_3 := hid x3_3; clear x3_3
  have G3 := hid (G2.out.trans hg3)
  clear hg3
  go_wp2_with fail
  refine wp_reg0 4 (by kernel_rfl) (by kernel_rfl) ?_
  apply Exists.intro
  refine ⟨fun wb hb => ?_, ?_⟩
  · obtain ⟨_, _, _⟩ := hb.at3 X3_1.out
    obtain ⟨_, _⟩ := hb.at2 X3_2.out
    obtain ⟨_, _⟩ := hb.at2 X3_3.out
    simp only [headOps, List.contains, List.elem, reduceIte, Bool.false_eq_true]
    repeat (first | go_big_quiet_step (first | (go_at_call 72; exact Calls.of_gr (E.out.i0 A c _ (hid (X.out.keep ((G3.out.trans hb).trans ⟨⟨_, _⟩, rfl⟩))))) | (go_at_call 122; exact Calls.of_gr (iord _ _ _ _ _ hx.out E.out.ok0))) | quiet_step (fail))
    exact wpQuiet_nil rfl
  intro w4 hg4
  have x4_1 := hg4.keep X3_1.out
  have x4_2 := hg4.keep X3_2.out
  have x4_3 := hg4.keep X3_3.out
  obtain ⟨_, _, _⟩ := cells3 x4_1
  have _ := fz x4_1
  have _ := ltb x4_1
  obtain ⟨_, _⟩ := cells2 x4_2
  have _ := fz x4_2
  have _ := ltb x4_2
  obtain ⟨_, _⟩ := cells2 x4_3
  have _ := fz x4_3
  have _ := ltb x4_3
  have X4_1 := hid x4_1; clear x4_1
  have X4_2 := hid x4_2; clear x4_2
  have X4_3 := hid x4_3; clear x4_3
  have G4 := hid (G3.out.trans hg4)
  clear hg4
  go_wp2_with fail
  refine (HT.out _ G4.out _ _ _ (hid X4_1.out) (hid X4_2.out) (hid X4_3.out)).mono ?_
  rintro e w5 ⟨rfl, hg5⟩
  have x5_1 := hg5.keep X4_1.out
  have x5_2 := hg5.keep X4_2.out
  have x5_3 := hg5.keep X4_3.out
  obtain ⟨_, _, _⟩ := cells3 x5_1
  have _ := fz x5_1
  have _ := ltb x5_1
  obtain ⟨_, _⟩ := cells2 x5_2
  have _ := fz x5_2
  have _ := ltb x5_2
  obtain ⟨_, _⟩ := cells2 x5_3
  have _ := fz x5_3
  have _ := ltb x5_3
  have X5_1 := hid x5_1; clear x5_1
  have X5_2 := hid x5_2; clear x5_2
  have X5_3 := hid x5_3; clear x5_3
  have G5 := hid (G4.out.trans hg5)
  clear hg5
  go_wp2
  refine bodyPost_ret (v := .int .i64 3) (by simp [results, Try.results93, go_sem, *]) rfl ⟨rfl, ?_⟩
  exact (G5.out).al _
set_option maxRecDepth 20000 in
set_option maxHeartbeats 1000000 in
theorem ichk_5 (a b n x y : Int) (r : Bool) (A : Option Addr) (c : Nat) (xs : List (Int × Int)) (u0 v0 u1 v1 : Int) (w : World) (X : Hid (RdF w A xs)) (h : askB a b xs n x y = true) (E : Ends a b xs u0 v0 u1 v1) (hc : ¬ cmpI x y u0 v0 < 0) (B : Bool) (P Q : Int) (hl : ∀ w, Calls Try.prog 89 #[vn n r, scl a b A xs.length c, fr x y, .int .i64 (n - 1)] w (ResI B P Q w)) (hB : B = true) (hp : okB P Q = true) (hd : 0 < cmpI P Q u1 v1) :
    Calls Try.prog 93 #[scl a b A xs.length c, vn n r, fr x y] w fun e w' => e = .returned (.int .i64 2) ∧ Gr w w' := by
  have E := hid E
  obtain ⟨h, hv, hx⟩ := ask_of h
  have S := hid (scl_of h)
  have hhi := S.out.hi; have hlo := S.out.lo
  obtain ⟨n1, n2⟩ := in_bd hv
  have hc := show decide (cmpI x y u0 v0 < 0) = false by simpa using hc
  have hd := show decide (0 < cmpI P Q u1 v1) = true by simpa using hd
  have hp := hid hp
  have HT := hid fun (w1 : World) (hg : Gr w w1) (k1 k2 k3 : Nat) (X1 : Hid (w1.heap[k1]? = some (.cells #[.int .i64 a, .int .i64 b, .slice A xs.length c] 32))) (X2 : Hid (w1.heap[k2]? = some (.cells #[.int .i64 n, .bool r] 53))) (X3 : Hid (w1.heap[k3]? = some (.cells #[.int .i64 x, .int .i64 y] 29))) =>
    told_R 128 #[.pointer (some ⟨k2, 0, none⟩), .pointer (some ⟨k1, 0, none⟩), .pointer (some ⟨k3, 0, none⟩)] B P Q w1 (fun _ => by kernel_rfl) fun w2 hg2 => cchk B P Q k1 k2 k3 a b n x y r A c xs w2 n1 n2 (hid (hg2.keep X1.out)) (hid (hg2.keep X2.out)) (hid (hg2.keep X3.out)) fun w3 hg3 => hl w3
  subst hB
  unfold ResS at HT
  simp only [reduceIte] at HT
  have h := hid h; have hv := hid hv; have hx := hid hx
  go_enter Try.func93, Try.ntmps93
  go_wp2_with fail
  refine (iScT a b A c xs _ (hid (X.out.keep ((((Gr.refl w).al _).al _).al _))) (by omega) h.out).mono ?_
  rintro e w1 ⟨rfl, hg1⟩
  obtain ⟨x1_0, x1_1, x1_2, hz1, g1⟩ := alloc3 hg1
  obtain ⟨_, _, _⟩ := cells3 x1_0
  have _ := fz x1_0
  have _ := ltb x1_0
  obtain ⟨_, _⟩ := cells2 x1_1
  have _ := fz x1_1
  have _ := ltb x1_1
  obtain ⟨_, _⟩ := cells2 x1_2
  have _ := fz x1_2
  have _ := ltb x1_2
  have X1_0 := hid x1_0; clear x1_0
  have X1_1 := hid x1_1; clear x1_1
  have X1_2 := hid x1_2; clear x1_2
  have G1 := hid (g1)
  clear hg1 g1
  go_wp2_with fail
  refine (iVernT n r _ hv.out).mono ?_
  rintro e w2 ⟨rfl, hg2⟩
  have x2_1 := hg2.keep X1_0.out
  have x2_2 := hg2.keep X1_1.out
  have x2_3 := hg2.keep X1_2.out
  obtain ⟨_, _, _⟩ := cells3 x2_1
  have _ := fz x2_1
  have _ := ltb x2_1
  obtain ⟨_, _⟩ := cells2 x2_2
  have _ := fz x2_2
  have _ := ltb x2_2
  obtain ⟨_, _⟩ := cells2 x2_3
  have _ := fz x2_3
  have _ := ltb x2_3
  have X2_1 := hid x2_1; clear x2_1
  have X2_2 := hid x2_2; clear x2_2
  have X2_3 := hid x2_3; clear x2_3
  have G2 := hid (G1.out.trans hg2)
  clear hg2
  go_wp2_with fail
  refine (iok_t _ _ _ hx.out).mono ?_
  rintro e w3 ⟨rfl, hg3⟩
  have x3_1 := hg3.keep X2_1.out
  have x3_2 := hg3.keep X2_2.out
  have x3_3 := hg3.keep X2_3.out
  obtain ⟨_, _, _⟩ := cells3 x3_1
  have _ := fz x3_1
  have _ := ltb x3_1
  obtain ⟨_, _⟩ := cells2 x3_2
  have _ := fz x3_2
  have _ := ltb x3_2
  obtain ⟨_, _⟩ := cells2 x3_3
  have _ := fz x3_3
  have _ := ltb x3_3
  have X3_1 := hid x3_1; clear x3_1
  have X3_2 := hid x3_2; clear x3_2
  have X3_3 := hid x3_3; clear x3_3
  have G3 := hid (G2.out.trans hg3)
  clear hg3
  go_wp2_with fail
  refine wp_reg0 4 (by kernel_rfl) (by kernel_rfl) ?_
  apply Exists.intro
  refine ⟨fun wb hb => ?_, ?_⟩
  · obtain ⟨_, _, _⟩ := hb.at3 X3_1.out
    obtain ⟨_, _⟩ := hb.at2 X3_2.out
    obtain ⟨_, _⟩ := hb.at2 X3_3.out
    simp only [headOps, List.contains, List.elem, reduceIte, Bool.false_eq_true]
    repeat (first | go_big_quiet_step (first | (go_at_call 72; exact Calls.of_gr (E.out.i0 A c _ (hid (X.out.keep ((G3.out.trans hb).trans ⟨⟨_, _⟩, rfl⟩))))) | (go_at_call 122; exact Calls.of_gr (iord _ _ _ _ _ hx.out E.out.ok0))) | quiet_step (fail))
    exact wpQuiet_nil rfl
  intro w4 hg4
  have x4_1 := hg4.keep X3_1.out
  have x4_2 := hg4.keep X3_2.out
  have x4_3 := hg4.keep X3_3.out
  obtain ⟨_, _, _⟩ := cells3 x4_1
  have _ := fz x4_1
  have _ := ltb x4_1
  obtain ⟨_, _⟩ := cells2 x4_2
  have _ := fz x4_2
  have _ := ltb x4_2
  obtain ⟨_, _⟩ := cells2 x4_3
  have _ := fz x4_3
  have _ := ltb x4_3
  have X4_1 := hid x4_1; clear x4_1
  have X4_2 := hid x4_2; clear x4_2
  have X4_3 := hid x4_3; clear x4_3
  have G4 := hid (G3.out.trans hg4)
  clear hg4
  go_wp2_with fail
  refine (HT.out _ G4.out _ _ _ (hid X4_1.out) (hid X4_2.out) (hid X4_3.out)).mono ?_
  rintro e w5 ⟨rfl, hg5⟩
  have x5_1 := hg5.keep X4_1.out
  have x5_2 := hg5.keep X4_2.out
  have x5_3 := hg5.keep X4_3.out
  obtain ⟨_, _, _⟩ := cells3 x5_1
  have _ := fz x5_1
  have _ := ltb x5_1
  obtain ⟨_, _⟩ := cells2 x5_2
  have _ := fz x5_2
  have _ := ltb x5_2
  obtain ⟨_, _⟩ := cells2 x5_3
  have _ := fz x5_3
  have _ := ltb x5_3
  have X5_1 := hid x5_1; clear x5_1
  have X5_2 := hid x5_2; clear x5_2
  have X5_3 := hid x5_3; clear x5_3
  have G5 := hid (G4.out.trans hg5)
  clear hg5
  go_wp2_with fail
  refine wp_reg0 8 (by kernel_rfl) (by kernel_rfl) ?_
  apply Exists.intro
  refine ⟨fun wb hb => ?_, ?_⟩
  · obtain ⟨_, _, _⟩ := hb.at3 (((Gr.refl _).al _).keep X5_1.out)
    obtain ⟨_, _⟩ := hb.at2 (((Gr.refl _).al _).keep X5_2.out)
    obtain ⟨_, _⟩ := hb.at2 (((Gr.refl _).al _).keep X5_3.out)
    obtain ⟨_, _⟩ := hb.at2 (alloc1 (Gr.refl _)).1
    simp only [headOps, List.contains, List.elem, reduceIte, Bool.false_eq_true]
    repeat (first | go_big_quiet_step (first | (go_at_call 72; exact Calls.of_gr (E.out.i1 A c _ (hid (X.out.keep (((G5.out.al _).trans hb).trans ⟨⟨_, _⟩, rfl⟩))))) | (go_at_call 122; exact Calls.of_gr (iord _ _ _ _ _ hp.out E.out.ok1))) | quiet_step (fail))
    exact wpQuiet_nil rfl
  intro w6 hg6
  obtain ⟨x6_0, hz6, g6⟩ := alloc1 hg6
  have x6_1 := g6.keep X5_1.out
  have x6_2 := g6.keep X5_2.out
  have x6_3 := g6.keep X5_3.out
  obtain ⟨_, _, _⟩ := cells3 x6_1
  have _ := fz x6_1
  have _ := ltb x6_1
  obtain ⟨_, _⟩ := cells2 x6_2
  have _ := fz x6_2
  have _ := ltb x6_2
  obtain ⟨_, _⟩ := cells2 x6_3
  have _ := fz x6_3
  have _ := ltb x6_3
  obtain ⟨_, _⟩ := cells2 x6_0
  have _ := fz x6_0
  have _ := ltb x6_0
  have X6_1 := hid x6_1; clear x6_1
  have X6_2 := hid x6_2; clear x6_2
  have X6_3 := hid x6_3; clear x6_3
  have X6_0 := hid x6_0; clear x6_0
  have G6 := hid (G5.out.trans g6)
  clear hg6 g6
  go_wp2
  refine bodyPost_ret (v := .int .i64 2) (by simp [results, Try.results93, go_sem, *]) rfl ⟨rfl, ?_⟩
  exact G6.out
set_option maxRecDepth 20000 in
set_option maxHeartbeats 1000000 in
theorem ichk_6 (a b n x y : Int) (r : Bool) (A : Option Addr) (c : Nat) (xs : List (Int × Int)) (u0 v0 u1 v1 : Int) (w : World) (X : Hid (RdF w A xs)) (h : askB a b xs n x y = true) (E : Ends a b xs u0 v0 u1 v1) (hc : ¬ cmpI x y u0 v0 < 0) (B : Bool) (P Q : Int) (hl : ∀ w, Calls Try.prog 89 #[vn n r, scl a b A xs.length c, fr x y, .int .i64 (n - 1)] w (ResI B P Q w)) (hB : B = true) (hp : okB P Q = true) (hd : ¬ 0 < cmpI P Q u1 v1) :
    Calls Try.prog 93 #[scl a b A xs.length c, vn n r, fr x y] w fun e w' => e = .returned (.int .i64 0) ∧ Gr w w' := by
  have E := hid E
  obtain ⟨h, hv, hx⟩ := ask_of h
  have S := hid (scl_of h)
  have hhi := S.out.hi; have hlo := S.out.lo
  obtain ⟨n1, n2⟩ := in_bd hv
  have hc := show decide (cmpI x y u0 v0 < 0) = false by simpa using hc
  have hd := show decide (0 < cmpI P Q u1 v1) = false by simpa using hd
  have hp := hid hp
  have HT := hid fun (w1 : World) (hg : Gr w w1) (k1 k2 k3 : Nat) (X1 : Hid (w1.heap[k1]? = some (.cells #[.int .i64 a, .int .i64 b, .slice A xs.length c] 32))) (X2 : Hid (w1.heap[k2]? = some (.cells #[.int .i64 n, .bool r] 53))) (X3 : Hid (w1.heap[k3]? = some (.cells #[.int .i64 x, .int .i64 y] 29))) =>
    told_R 128 #[.pointer (some ⟨k2, 0, none⟩), .pointer (some ⟨k1, 0, none⟩), .pointer (some ⟨k3, 0, none⟩)] B P Q w1 (fun _ => by kernel_rfl) fun w2 hg2 => cchk B P Q k1 k2 k3 a b n x y r A c xs w2 n1 n2 (hid (hg2.keep X1.out)) (hid (hg2.keep X2.out)) (hid (hg2.keep X3.out)) fun w3 hg3 => hl w3
  subst hB
  unfold ResS at HT
  simp only [reduceIte] at HT
  have h := hid h; have hv := hid hv; have hx := hid hx
  go_enter Try.func93, Try.ntmps93
  go_wp2_with fail
  refine (iScT a b A c xs _ (hid (X.out.keep ((((Gr.refl w).al _).al _).al _))) (by omega) h.out).mono ?_
  rintro e w1 ⟨rfl, hg1⟩
  obtain ⟨x1_0, x1_1, x1_2, hz1, g1⟩ := alloc3 hg1
  obtain ⟨_, _, _⟩ := cells3 x1_0
  have _ := fz x1_0
  have _ := ltb x1_0
  obtain ⟨_, _⟩ := cells2 x1_1
  have _ := fz x1_1
  have _ := ltb x1_1
  obtain ⟨_, _⟩ := cells2 x1_2
  have _ := fz x1_2
  have _ := ltb x1_2
  have X1_0 := hid x1_0; clear x1_0
  have X1_1 := hid x1_1; clear x1_1
  have X1_2 := hid x1_2; clear x1_2
  have G1 := hid (g1)
  clear hg1 g1
  go_wp2_with fail
  refine (iVernT n r _ hv.out).mono ?_
  rintro e w2 ⟨rfl, hg2⟩
  have x2_1 := hg2.keep X1_0.out
  have x2_2 := hg2.keep X1_1.out
  have x2_3 := hg2.keep X1_2.out
  obtain ⟨_, _, _⟩ := cells3 x2_1
  have _ := fz x2_1
  have _ := ltb x2_1
  obtain ⟨_, _⟩ := cells2 x2_2
  have _ := fz x2_2
  have _ := ltb x2_2
  obtain ⟨_, _⟩ := cells2 x2_3
  have _ := fz x2_3
  have _ := ltb x2_3
  have X2_1 := hid x2_1; clear x2_1
  have X2_2 := hid x2_2; clear x2_2
  have X2_3 := hid x2_3; clear x2_3
  have G2 := hid (G1.out.trans hg2)
  clear hg2
  go_wp2_with fail
  refine (iok_t _ _ _ hx.out).mono ?_
  rintro e w3 ⟨rfl, hg3⟩
  have x3_1 := hg3.keep X2_1.out
  have x3_2 := hg3.keep X2_2.out
  have x3_3 := hg3.keep X2_3.out
  obtain ⟨_, _, _⟩ := cells3 x3_1
  have _ := fz x3_1
  have _ := ltb x3_1
  obtain ⟨_, _⟩ := cells2 x3_2
  have _ := fz x3_2
  have _ := ltb x3_2
  obtain ⟨_, _⟩ := cells2 x3_3
  have _ := fz x3_3
  have _ := ltb x3_3
  have X3_1 := hid x3_1; clear x3_1
  have X3_2 := hid x3_2; clear x3_2
  have X3_3 := hid x3_3; clear x3_3
  have G3 := hid (G2.out.trans hg3)
  clear hg3
  go_wp2_with fail
  refine wp_reg0 4 (by kernel_rfl) (by kernel_rfl) ?_
  apply Exists.intro
  refine ⟨fun wb hb => ?_, ?_⟩
  · obtain ⟨_, _, _⟩ := hb.at3 X3_1.out
    obtain ⟨_, _⟩ := hb.at2 X3_2.out
    obtain ⟨_, _⟩ := hb.at2 X3_3.out
    simp only [headOps, List.contains, List.elem, reduceIte, Bool.false_eq_true]
    repeat (first | go_big_quiet_step (first | (go_at_call 72; exact Calls.of_gr (E.out.i0 A c _ (hid (X.out.keep ((G3.out.trans hb).trans ⟨⟨_, _⟩, rfl⟩))))) | (go_at_call 122; exact Calls.of_gr (iord _ _ _ _ _ hx.out E.out.ok0))) | quiet_step (fail))
    exact wpQuiet_nil rfl
  intro w4 hg4
  have x4_1 := hg4.keep X3_1.out
  have x4_2 := hg4.keep X3_2.out
  have x4_3 := hg4.keep X3_3.out
  obtain ⟨_, _, _⟩ := cells3 x4_1
  have _ := fz x4_1
  have _ := ltb x4_1
  obtain ⟨_, _⟩ := cells2 x4_2
  have _ := fz x4_2
  have _ := ltb x4_2
  obtain ⟨_, _⟩ := cells2 x4_3
  have _ := fz x4_3
  have _ := ltb x4_3
  have X4_1 := hid x4_1; clear x4_1
  have X4_2 := hid x4_2; clear x4_2
  have X4_3 := hid x4_3; clear x4_3
  have G4 := hid (G3.out.trans hg4)
  clear hg4
  go_wp2_with fail
  refine (HT.out _ G4.out _ _ _ (hid X4_1.out) (hid X4_2.out) (hid X4_3.out)).mono ?_
  rintro e w5 ⟨rfl, hg5⟩
  have x5_1 := hg5.keep X4_1.out
  have x5_2 := hg5.keep X4_2.out
  have x5_3 := hg5.keep X4_3.out
  obtain ⟨_, _, _⟩ := cells3 x5_1
  have _ := fz x5_1
  have _ := ltb x5_1
  obtain ⟨_, _⟩ := cells2 x5_2
  have _ := fz x5_2
  have _ := ltb x5_2
  obtain ⟨_, _⟩ := cells2 x5_3
  have _ := fz x5_3
  have _ := ltb x5_3
  have X5_1 := hid x5_1; clear x5_1
  have X5_2 := hid x5_2; clear x5_2
  have X5_3 := hid x5_3; clear x5_3
  have G5 := hid (G4.out.trans hg5)
  clear hg5
  go_wp2_with fail
  refine wp_reg0 8 (by kernel_rfl) (by kernel_rfl) ?_
  apply Exists.intro
  refine ⟨fun wb hb => ?_, ?_⟩
  · obtain ⟨_, _, _⟩ := hb.at3 (((Gr.refl _).al _).keep X5_1.out)
    obtain ⟨_, _⟩ := hb.at2 (((Gr.refl _).al _).keep X5_2.out)
    obtain ⟨_, _⟩ := hb.at2 (((Gr.refl _).al _).keep X5_3.out)
    obtain ⟨_, _⟩ := hb.at2 (alloc1 (Gr.refl _)).1
    simp only [headOps, List.contains, List.elem, reduceIte, Bool.false_eq_true]
    repeat (first | go_big_quiet_step (first | (go_at_call 72; exact Calls.of_gr (E.out.i1 A c _ (hid (X.out.keep (((G5.out.al _).trans hb).trans ⟨⟨_, _⟩, rfl⟩))))) | (go_at_call 122; exact Calls.of_gr (iord _ _ _ _ _ hp.out E.out.ok1))) | quiet_step (fail))
    exact wpQuiet_nil rfl
  intro w6 hg6
  obtain ⟨x6_0, hz6, g6⟩ := alloc1 hg6
  have x6_1 := g6.keep X5_1.out
  have x6_2 := g6.keep X5_2.out
  have x6_3 := g6.keep X5_3.out
  obtain ⟨_, _, _⟩ := cells3 x6_1
  have _ := fz x6_1
  have _ := ltb x6_1
  obtain ⟨_, _⟩ := cells2 x6_2
  have _ := fz x6_2
  have _ := ltb x6_2
  obtain ⟨_, _⟩ := cells2 x6_3
  have _ := fz x6_3
  have _ := ltb x6_3
  obtain ⟨_, _⟩ := cells2 x6_0
  have _ := fz x6_0
  have _ := ltb x6_0
  have X6_1 := hid x6_1; clear x6_1
  have X6_2 := hid x6_2; clear x6_2
  have X6_3 := hid x6_3; clear x6_3
  have X6_0 := hid x6_0; clear x6_0
  have G6 := hid (G5.out.trans g6)
  clear hg6 g6
  go_wp2
  refine bodyPost_ret (v := .int .i64 0) (by simp [results, Try.results93, go_sem, *]) rfl ⟨rfl, ?_⟩
  exact G6.out

/-! The line that fits: the program -/
/-- The misfits of the first N lines. -/
def mfs (f : Nat → Bool × Int × Int) (N : Nat) : List (Int × Int) := (List.range N).map fun i => (f i).2
theorem mfs_len (f : Nat → Bool × Int × Int) (N : Nat) : (mfs f N).length = N := by simp [mfs]
theorem mfs_get {f : Nat → Bool × Int × Int} {N k : Nat} (h : k < N) : (mfs f N)[k]? = some ((f k).2.1, (f k).2.2) := by simp [mfs, h]
def AllF (f : Nat → Bool × Int × Int) (N : Nat) : Prop := ∀ i, i < N → (f i).1 = true
theorem own_formF {w : World} {base : Nat} {e : TypeId} {v : Value} {n : Nat} {xs : List Value} (h : w.ownsRow base e 2 v n xs) : ∃ A c, v = .slice A n c := by
  rcases h.2 with ⟨h1, rfl⟩ | ⟨g, cap, cur, h1, _⟩
  · exact ⟨none, 0, h1⟩
  · exact ⟨_, cap, h1⟩
abbrev headV (w : World) (n : Int) (r : Bool) (a b : Int) (A : Option Addr) (m c : Nat) (x y : Int) : World :=
  ((w.alloc (.cells #[.int .i64 n, .bool r] 53)).alloc (.cells #[.int .i64 a, .int .i64 b, .slice A m c] 32)).alloc (.cells #[.int .i64 x, .int .i64 y] 29)

set_option maxRecDepth 20000 in
set_option maxHeartbeats 1000000 in
theorem ilf (a b x y : Int) (r : Bool) (N : Nat) (A : Option Addr) (c : Nat) (xs : List (Int × Int)) (f : Nat → Bool × Int × Int) (R : Nat) (P0 Q0 : Int) (w : World) (X : Hid (RdF w A xs)) (n1 : 2 ≤ N) (n2 : N ≤ 40)
    (hm : ∀ (i : Nat), i < N → ∀ w, Hid (RdF w A xs) → Calls Try.prog 91 #[vn N r, scl a b A xs.length c, fr x y, .int .i64 i] w (ResI (f i).1 (f i).2.1 (f i).2.2 w))
    (hok : AllF f N → (mfs f N).all (fun x => okB x.1 x.2) = true) (h0 : (mfs f N)[0]? = some (P0, Q0)) (hr : (fl ((mfs f N).drop 1) 1 0 P0 Q0).1 = R) :
    Calls Try.prog 95 #[vn N r, scl a b A xs.length c, fr x y] w fun e w' => ((AllF f N ∧ e = .returned (.int .i64 (R : Int))) ∨ (¬ AllF f N ∧ ∃ ch, e = .panicked ch ∧ TooGreat ch)) ∧ Gr w w' := by
  have HM := hid hm; have HOK := hid hok; have H0 := hid h0; have HR := hid hr
  have HLEN := hid (mfs_len f N)
  have HGET := hid fun (k : Nat) (h : k < N) => mfs_get (f := f) h
  obtain ⟨L, hL⟩ : ∃ L, mfs f N = L := ⟨_, rfl⟩
  rw [hL] at HOK H0 HR HLEN HGET
  clear hm hok h0 hr hL
  obtain ⟨i0, hi, hz0, hz1, hz2⟩ : ∃ i, Try.prog.info? 29 = some i ∧ i.zero = some (fr 0 0) ∧ i.size = 2 ∧ i.bytes = 16 := ⟨_, rfl, rfl, rfl, rfl⟩
  have HI0 := hid hi
  clear hi
  go_enter Try.func95, Try.ntmps95
  go_wp2_with fail
  go_loopw [7, 11] (fun v u wr => ∃ (k : Nat) (A' : Option Addr) (c' : Nat), u = .int .i64 (k : Int) ∧ v = .slice A' k c' ∧ k ≤ N ∧ Gr (headV w N r a b A xs.length c x y) wr ∧ wr.ownsRow (w.heap.size + 3) 29 2 (.slice A' k c') k (flatL (L.take k)) ∧ AllF f k) (fun _ u _ => N - (intOf u).toNat)
  case atStart => exact ⟨0, _, _, rfl, rfl, by omega, Gr.refl _, ⟨by simp [flatL], .inl ⟨rfl, rfl⟩⟩, fun i h => by omega⟩
  case round =>
    obtain ⟨k, A', c', rfl, rfl, hk, hg, hown, hall⟩ := hrel
    have GA := hid hg; have OWN := hid hown; have HALL := hid hall
    obtain ⟨y0, y1, y2, _, hgw⟩ := alloc3 hg
    have Y0 := hid y0; have Y1 := hid y1; have Y2 := hid y2; have GW := hid hgw
    clear hg hown hall y0 y1 y2 hgw
    by_cases hlt : k < N
    · have HMK := hid fun w' (Z : Hid (RdF w' A xs)) => HM.out k hlt w' Z
      have hget := HGET.out k hlt
      obtain ⟨P, hP⟩ : ∃ P, (f k).2.1 = P := ⟨_, rfl⟩
      obtain ⟨Q, hQ⟩ : ∃ Q, (f k).2.2 = Q := ⟨_, rfl⟩
      rw [hP, hQ] at hget
      simp only [hP, hQ] at HMK
      have HG := hid hget
      clear hP hQ hget
      obtain ⟨_, _⟩ := cells2 Y0.out
      obtain ⟨_, _, _⟩ := cells3 Y1.out
      obtain ⟨_, _⟩ := cells2 Y2.out
      cases hB : (f k).1 with
      | true =>
        simp only [hB] at HMK
        have HB := hid hB
        clear hB
        go_wp2_with fail
        refine (HMK.out _ (hid (X.out.keep GW.out))).mono ?_
        rintro e w1 ⟨he, _, hg1⟩
        have he := he rfl
        subst he
        have GA1 := hid (GA.out.trans hg1); have OWN1 := hid (own_keep OWN.out hg1)
        have hs1 := (GA.out.trans hg1).size
        simp only [World.size_alloc] at hs1
        clear hg1
        go_wp2_with (at_builtin; refine wpList_append_gr rfl _ _ 30 rfl (w.heap.size + 3) 29 i0 (fr 0 0) 2 16 Try.underlying30 HI0.out hz0 hz1 hz2 rfl (by decide) _ k _ rfl (own_keep OWN1.out (Gr.alloc _ _)) ⟨w1.heap.size, 0, none⟩ 1 1 [.int .i64 P, .int .i64 Q] rfl rfl ?_ ?_ (by decide) ?_ ?_ ?_ ?_)
        · intro j u hj
          have hnew := (alloc1 (A := .cells #[.int .i64 P, .int .i64 Q] 29) (w := w1) (Gr.refl _)).1
          obtain ⟨n0, n1⟩ := cells2 hnew
          match j with
          | 0 => simp at hj; subst hj; exact n0
          | 1 => simp at hj; subst hj; exact n1
          | j + 2 => simp at hj
        · intro u hu
          simp at hu
          rcases hu with rfl | rfl <;> rfl
        · unfold maxLen; omega
        · omega
        · simp; omega
        · intro v' w2 own2 _ _ hgr
          obtain ⟨A2, c2, rfl⟩ := own_formF own2
          have GA2 := hid (hgr _ (GA1.out.al _) (by simp))
          have OWN2 := hid own2
          clear own2 hgr
          go_wp2_with fail
          refine ⟨⟨k + 1, A2, c2, by simp, by simp, by omega, GA2.out, ?_, fun i hi => ?_⟩, by simp [intOf]; omega⟩
          · rw [List.take_add_one, HG.out, Option.toList_some, flatL_append, flatL_one]
            exact OWN2.out
          · by_cases he : i = k
            · subst he; exact HB.out
            · exact HALL.out i (by omega)
      | false =>
        simp only [hB] at HMK
        have HN : Hid (¬ AllF f N) := hid fun h => by have := h k hlt; rw [hB] at this; cases this
        clear hB
        go_wp2_with fail
        refine (HMK.out _ (hid (X.out.keep GW.out))).mono ?_
        rintro e w1 ⟨_, he, hg1⟩
        obtain ⟨u, v, he⟩ := he rfl
        subst he
        exact ⟨rfl, .inr ⟨HN.out, _, rfl, u, v, rfl⟩, GW.out.trans hg1⟩
    · obtain rfl : k = N := by omega
      have hown := OWN.out
      rw [show L.take k = L by rw [List.take_of_length_le (by have := HLEN.out; omega)]] at hown
      have hr2 : RdF wr A' L := by
        rcases hown.2 with ⟨h1, h2⟩ | ⟨g, cap, cur, h1, _⟩
        · omega
        · injection h1 with h1
          subst h1
          intro j p q hj
          refine ⟨_, rfl, ?_, ?_⟩
          · exact hown.cells (g := g) (by rfl) _ _ (pairs_get L j p q hj).1
          · have := hown.cells (g := g) (by rfl) _ _ (pairs_get L j p q hj).2
            rw [add_at] at this ⊢
            exact this
      have hF := ifirst A' c' L P0 Q0 R wr (hid hr2) (by have := HLEN.out; omega) (HOK.out HALL.out) H0.out HR.out
      rw [HLEN.out] at hF
      have HF := hid hF
      clear hF hown hr2
      go_wp2_with fail
      refine HF.out.mono ?_
      rintro e w2 ⟨rfl, hg2⟩
      have HG2 := hid (GW.out.trans hg2)
      clear hg2
      go_wp2_with fail
      go_ret
      exact ⟨.inl ⟨HALL.out, rfl⟩, HG2.out⟩

/-! The line that fits: the reference -/

set_option maxRecDepth 20000 in
set_option maxHeartbeats 2000000 in
theorem sft_3 (a b x y : Int) (r : Bool) (N : Nat) (A : Option Addr) (c k1 k2 : Nat) (xs : List (Int × Int)) (u0 v0 u1 v1 : Int) (w : World) (X1 : Hid (w.heap[k1]? = some (.cells #[.int .i64 a, .int .i64 b, .slice A xs.length c] 32))) (X2 : Hid (w.heap[k2]? = some (.cells #[.int .i64 (N : Int), .bool r] 53))) (X : Hid (RdF w A xs)) (S : Scl a b xs) (n1 : 2 ≤ N) (n2 : N ≤ 40) (hx : okB x y = true) (E : Ends a b xs u0 v0 u1 v1) (hc : cmpI x y u0 v0 < 0) :
    Calls Try.prog 92 #[.pointer (some ⟨k1, 0, none⟩), .pointer (some ⟨k2, 0, none⟩), fr x y] w fun e w' => e = .returned (.tuple #[.int .i64 0, .int .i64 2]) ∧ Gr w w' := by
  have E := hid E; have hx := hid hx
  have hhi := S.hi; have hlo := S.lo; have _ := n1; have _ := n2
  have hc := show decide (cmpI x y u0 v0 < 0) = true by simpa using hc
  go_enter Try.func92, Try.ntmps92
  obtain ⟨_, _, _⟩ := cells3 X1.out
  have _ := fz X1.out
  have _ := ltb X1.out
  obtain ⟨_, _⟩ := cells2 X2.out
  have _ := fz X2.out
  have _ := ltb X2.out
  go_wp2_with fail
  refine (E.out.s0 A c _ _ (hid (((Gr.refl _).al _).keep X1.out)) (hid (X.out.keep ((Gr.refl w).al _)))).mono ?_
  rintro e w1 ⟨rfl, hg1⟩
  obtain ⟨x1_0, hz1, g1⟩ := alloc1 hg1
  have x1_1 := g1.keep X1.out
  have x1_2 := g1.keep X2.out
  obtain ⟨_, _⟩ := cells2 x1_0
  have _ := fz x1_0
  have _ := ltb x1_0
  obtain ⟨_, _, _⟩ := cells3 x1_1
  have _ := fz x1_1
  have _ := ltb x1_1
  obtain ⟨_, _⟩ := cells2 x1_2
  have _ := fz x1_2
  have _ := ltb x1_2
  have X1_0 := hid x1_0; clear x1_0
  have X1_1 := hid x1_1; clear x1_1
  have X1_2 := hid x1_2; clear x1_2
  have G1 := hid (g1)
  clear hg1 g1
  go_wp2_with fail
  refine (E.out.s1 A c _ _ (hid (((Gr.refl _).al _).keep X1_1.out)) (hid (X.out.keep (G1.out.al _)))).mono ?_
  rintro e w2 ⟨rfl, hg2⟩
  obtain ⟨x2_0, hz2, g2⟩ := alloc1 hg2
  have x2_1 := g2.keep X1_0.out
  have x2_2 := g2.keep X1_1.out
  have x2_3 := g2.keep X1_2.out
  obtain ⟨_, _⟩ := cells2 x2_1
  have _ := fz x2_1
  have _ := ltb x2_1
  obtain ⟨_, _, _⟩ := cells3 x2_2
  have _ := fz x2_2
  have _ := ltb x2_2
  obtain ⟨_, _⟩ := cells2 x2_3
  have _ := fz x2_3
  have _ := ltb x2_3
  obtain ⟨_, _⟩ := cells2 x2_0
  have _ := fz x2_0
  have _ := ltb x2_0
  have X2_1 := hid x2_1; clear x2_1
  have X2_2 := hid x2_2; clear x2_2
  have X2_3 := hid x2_3; clear x2_3
  have X2_0 := hid x2_0; clear x2_0
  have G2 := hid (G1.out.trans g2)
  clear hg2 g2
  go_wp2_with fail
  refine (scmp_ok x y u0 v0 _ hx.out E.out.ok0).mono ?_
  rintro e w3 ⟨rfl, hg3⟩
  obtain ⟨x3_0, hz3, g3⟩ := alloc1 hg3
  have x3_1 := g3.keep X2_1.out
  have x3_2 := g3.keep X2_2.out
  have x3_3 := g3.keep X2_3.out
  have x3_4 := g3.keep X2_0.out
  obtain ⟨_, _⟩ := cells2 x3_1
  have _ := fz x3_1
  have _ := ltb x3_1
  obtain ⟨_, _, _⟩ := cells3 x3_2
  have _ := fz x3_2
  have _ := ltb x3_2
  obtain ⟨_, _⟩ := cells2 x3_3
  have _ := fz x3_3
  have _ := ltb x3_3
  obtain ⟨_, _⟩ := cells2 x3_4
  have _ := fz x3_4
  have _ := ltb x3_4
  obtain ⟨_, _⟩ := cells2 x3_0
  have _ := fz x3_0
  have _ := ltb x3_0
  have X3_1 := hid x3_1; clear x3_1
  have X3_2 := hid x3_2; clear x3_2
  have X3_3 := hid x3_3; clear x3_3
  have X3_4 := hid x3_4; clear x3_4
  have X3_0 := hid x3_0; clear x3_0
  have G3 := hid (G2.out.trans g3)
  clear hg3 g3
  go_wp2
  refine bodyPost_ret (v := .tuple #[.int .i64 0, .int .i64 2]) (by simp [results, Try.results92, go_sem, *]) rfl ⟨rfl, ?_⟩
  exact G3.out
set_option maxRecDepth 20000 in
set_option maxHeartbeats 2000000 in
theorem sft_4 (a b x y : Int) (r : Bool) (N : Nat) (A : Option Addr) (c k1 k2 : Nat) (xs : List (Int × Int)) (u0 v0 u1 v1 : Int) (w : World) (X1 : Hid (w.heap[k1]? = some (.cells #[.int .i64 a, .int .i64 b, .slice A xs.length c] 32))) (X2 : Hid (w.heap[k2]? = some (.cells #[.int .i64 (N : Int), .bool r] 53))) (X : Hid (RdF w A xs)) (S : Scl a b xs) (n1 : 2 ≤ N) (n2 : N ≤ 40) (hx : okB x y = true) (E : Ends a b xs u0 v0 u1 v1) (hc : ¬ cmpI x y u0 v0 < 0) (hl : ∀ w', Gr w w' → Calls Try.prog 87 #[.pointer (some ⟨k1, 0, none⟩), .pointer (some ⟨k2, 0, none⟩), fr x y, .int .i64 ((N : Int) - 1)] w' fun e w'' => e = .returned (.tuple #[fr 0 0, .int .i64 3]) ∧ Gr w' w'') :
    Calls Try.prog 92 #[.pointer (some ⟨k1, 0, none⟩), .pointer (some ⟨k2, 0, none⟩), fr x y] w fun e w' => e = .returned (.tuple #[.int .i64 0, .int .i64 3]) ∧ Gr w w' := by
  have E := hid E; have hx := hid hx
  have hhi := S.hi; have hlo := S.lo; have _ := n1; have _ := n2
  have hc := show decide (cmpI x y u0 v0 < 0) = false by simpa using hc
  have HLN := hid hl; clear hl
  go_enter Try.func92, Try.ntmps92
  obtain ⟨_, _, _⟩ := cells3 X1.out
  have _ := fz X1.out
  have _ := ltb X1.out
  obtain ⟨_, _⟩ := cells2 X2.out
  have _ := fz X2.out
  have _ := ltb X2.out
  go_wp2_with fail
  refine (E.out.s0 A c _ _ (hid (((Gr.refl _).al _).keep X1.out)) (hid (X.out.keep ((Gr.refl w).al _)))).mono ?_
  rintro e w1 ⟨rfl, hg1⟩
  obtain ⟨x1_0, hz1, g1⟩ := alloc1 hg1
  have x1_1 := g1.keep X1.out
  have x1_2 := g1.keep X2.out
  obtain ⟨_, _⟩ := cells2 x1_0
  have _ := fz x1_0
  have _ := ltb x1_0
  obtain ⟨_, _, _⟩ := cells3 x1_1
  have _ := fz x1_1
  have _ := ltb x1_1
  obtain ⟨_, _⟩ := cells2 x1_2
  have _ := fz x1_2
  have _ := ltb x1_2
  have X1_0 := hid x1_0; clear x1_0
  have X1_1 := hid x1_1; clear x1_1
  have X1_2 := hid x1_2; clear x1_2
  have G1 := hid (g1)
  clear hg1 g1
  go_wp2_with fail
  refine (E.out.s1 A c _ _ (hid (((Gr.refl _).al _).keep X1_1.out)) (hid (X.out.keep (G1.out.al _)))).mono ?_
  rintro e w2 ⟨rfl, hg2⟩
  obtain ⟨x2_0, hz2, g2⟩ := alloc1 hg2
  have x2_1 := g2.keep X1_0.out
  have x2_2 := g2.keep X1_1.out
  have x2_3 := g2.keep X1_2.out
  obtain ⟨_, _⟩ := cells2 x2_1
  have _ := fz x2_1
  have _ := ltb x2_1
  obtain ⟨_, _, _⟩ := cells3 x2_2
  have _ := fz x2_2
  have _ := ltb x2_2
  obtain ⟨_, _⟩ := cells2 x2_3
  have _ := fz x2_3
  have _ := ltb x2_3
  obtain ⟨_, _⟩ := cells2 x2_0
  have _ := fz x2_0
  have _ := ltb x2_0
  have X2_1 := hid x2_1; clear x2_1
  have X2_2 := hid x2_2; clear x2_2
  have X2_3 := hid x2_3; clear x2_3
  have X2_0 := hid x2_0; clear x2_0
  have G2 := hid (G1.out.trans g2)
  clear hg2 g2
  go_wp2_with fail
  refine (scmp_ok x y u0 v0 _ hx.out E.out.ok0).mono ?_
  rintro e w3 ⟨rfl, hg3⟩
  obtain ⟨x3_0, hz3, g3⟩ := alloc1 hg3
  have x3_1 := g3.keep X2_1.out
  have x3_2 := g3.keep X2_2.out
  have x3_3 := g3.keep X2_3.out
  have x3_4 := g3.keep X2_0.out
  obtain ⟨_, _⟩ := cells2 x3_1
  have _ := fz x3_1
  have _ := ltb x3_1
  obtain ⟨_, _, _⟩ := cells3 x3_2
  have _ := fz x3_2
  have _ := ltb x3_2
  obtain ⟨_, _⟩ := cells2 x3_3
  have _ := fz x3_3
  have _ := ltb x3_3
  obtain ⟨_, _⟩ := cells2 x3_4
  have _ := fz x3_4
  have _ := ltb x3_4
  obtain ⟨_, _⟩ := cells2 x3_0
  have _ := fz x3_0
  have _ := ltb x3_0
  have X3_1 := hid x3_1; clear x3_1
  have X3_2 := hid x3_2; clear x3_2
  have X3_3 := hid x3_3; clear x3_3
  have X3_4 := hid x3_4; clear x3_4
  have X3_0 := hid x3_0; clear x3_0
  have G3 := hid (G2.out.trans g3)
  clear hg3 g3
  go_wp2_with fail
  refine wp_reg1s #[.int .i64 0, .int .i64 0] 14 12 12 13 49 (by kernel_rfl) (by kernel_rfl) rfl rfl (by simp) rfl rfl (by decide) (fun _ _ => by kernel_rfl) (by kernel_rfl) ?_
  apply Exists.intro; apply Exists.intro
  refine ⟨fun wb hb => ?_, ?_⟩
  · obtain ⟨_, _⟩ := hb.at2 X3_1.out
    obtain ⟨_, _, _⟩ := hb.at3 X3_2.out
    obtain ⟨_, _⟩ := hb.at2 X3_3.out
    obtain ⟨_, _⟩ := hb.at2 X3_4.out
    obtain ⟨_, _⟩ := hb.at2 X3_0.out
    simp only [headOps, List.contains, List.elem, Nat.reduceAdd, Nat.reduceBEq, reduceIte, Bool.false_eq_true, dumOp]
    repeat (first | go_big_quiet_step (first | (go_at_call 87; exact Calls.of_gr (HLN.out _ ((G3.out.trans hb).trans ⟨⟨_, _⟩, rfl⟩)))) | quiet_step (fail))
    exact wpQuiet_nil rfl
  refine ⟨rfl, ⟨rfl, by simp [Value.oneCell']⟩, fun w4 b4 hg4 _ xb4 => ?_⟩
  have x4_1 := hg4.keep X3_1.out
  have x4_2 := hg4.keep X3_2.out
  have x4_3 := hg4.keep X3_3.out
  have x4_4 := hg4.keep X3_4.out
  have x4_5 := hg4.keep X3_0.out
  obtain ⟨_, _⟩ := cells2 x4_1
  have _ := fz x4_1
  have _ := ltb x4_1
  obtain ⟨_, _, _⟩ := cells3 x4_2
  have _ := fz x4_2
  have _ := ltb x4_2
  obtain ⟨_, _⟩ := cells2 x4_3
  have _ := fz x4_3
  have _ := ltb x4_3
  obtain ⟨_, _⟩ := cells2 x4_4
  have _ := fz x4_4
  have _ := ltb x4_4
  obtain ⟨_, _⟩ := cells2 x4_5
  have _ := fz x4_5
  have _ := ltb x4_5
  obtain ⟨_, _⟩ := cells2 xb4
  have _ := fz xb4
  have _ := ltb xb4
  have X4_1 := hid x4_1; clear x4_1
  have X4_2 := hid x4_2; clear x4_2
  have X4_3 := hid x4_3; clear x4_3
  have X4_4 := hid x4_4; clear x4_4
  have X4_5 := hid x4_5; clear x4_5
  have Xb4 := hid xb4; clear xb4
  have G4 := hid (G3.out.trans hg4)
  clear hg4
  go_wp2
  refine bodyPost_ret (v := .tuple #[.int .i64 0, .int .i64 3]) (by simp [results, Try.results92, go_sem, *]) rfl ⟨rfl, ?_⟩
  exact G4.out
set_option maxRecDepth 20000 in
set_option maxHeartbeats 2000000 in
theorem sft_5 (a b x y : Int) (r : Bool) (N : Nat) (A : Option Addr) (c k1 k2 : Nat) (xs : List (Int × Int)) (u0 v0 u1 v1 : Int) (w : World) (X1 : Hid (w.heap[k1]? = some (.cells #[.int .i64 a, .int .i64 b, .slice A xs.length c] 32))) (X2 : Hid (w.heap[k2]? = some (.cells #[.int .i64 (N : Int), .bool r] 53))) (X : Hid (RdF w A xs)) (S : Scl a b xs) (n1 : 2 ≤ N) (n2 : N ≤ 40) (hx : okB x y = true) (E : Ends a b xs u0 v0 u1 v1) (hc : ¬ cmpI x y u0 v0 < 0) (P Q : Int) (hl : ∀ w', Gr w w' → Calls Try.prog 87 #[.pointer (some ⟨k1, 0, none⟩), .pointer (some ⟨k2, 0, none⟩), fr x y, .int .i64 ((N : Int) - 1)] w' fun e w'' => e = .returned (.tuple #[fr P Q, .int .i64 0]) ∧ Gr w' w'') (hp : okB P Q = true) (hd : 0 < cmpI P Q u1 v1) :
    Calls Try.prog 92 #[.pointer (some ⟨k1, 0, none⟩), .pointer (some ⟨k2, 0, none⟩), fr x y] w fun e w' => e = .returned (.tuple #[.int .i64 0, .int .i64 2]) ∧ Gr w w' := by
  have E := hid E; have hx := hid hx
  have hhi := S.hi; have hlo := S.lo; have _ := n1; have _ := n2
  have hc := show decide (cmpI x y u0 v0 < 0) = false by simpa using hc
  have hd := show decide (0 < cmpI P Q u1 v1) = true by simpa using hd
  have HLN := hid hl; clear hl
  go_enter Try.func92, Try.ntmps92
  obtain ⟨_, _, _⟩ := cells3 X1.out
  have _ := fz X1.out
  have _ := ltb X1.out
  obtain ⟨_, _⟩ := cells2 X2.out
  have _ := fz X2.out
  have _ := ltb X2.out
  go_wp2_with fail
  refine (E.out.s0 A c _ _ (hid (((Gr.refl _).al _).keep X1.out)) (hid (X.out.keep ((Gr.refl w).al _)))).mono ?_
  rintro e w1 ⟨rfl, hg1⟩
  obtain ⟨x1_0, hz1, g1⟩ := alloc1 hg1
  have x1_1 := g1.keep X1.out
  have x1_2 := g1.keep X2.out
  obtain ⟨_, _⟩ := cells2 x1_0
  have _ := fz x1_0
  have _ := ltb x1_0
  obtain ⟨_, _, _⟩ := cells3 x1_1
  have _ := fz x1_1
  have _ := ltb x1_1
  obtain ⟨_, _⟩ := cells2 x1_2
  have _ := fz x1_2
  have _ := ltb x1_2
  have X1_0 := hid x1_0; clear x1_0
  have X1_1 := hid x1_1; clear x1_1
  have X1_2 := hid x1_2; clear x1_2
  have G1 := hid (g1)
  clear hg1 g1
  go_wp2_with fail
  refine (E.out.s1 A c _ _ (hid (((Gr.refl _).al _).keep X1_1.out)) (hid (X.out.keep (G1.out.al _)))).mono ?_
  rintro e w2 ⟨rfl, hg2⟩
  obtain ⟨x2_0, hz2, g2⟩ := alloc1 hg2
  have x2_1 := g2.keep X1_0.out
  have x2_2 := g2.keep X1_1.out
  have x2_3 := g2.keep X1_2.out
  obtain ⟨_, _⟩ := cells2 x2_1
  have _ := fz x2_1
  have _ := ltb x2_1
  obtain ⟨_, _, _⟩ := cells3 x2_2
  have _ := fz x2_2
  have _ := ltb x2_2
  obtain ⟨_, _⟩ := cells2 x2_3
  have _ := fz x2_3
  have _ := ltb x2_3
  obtain ⟨_, _⟩ := cells2 x2_0
  have _ := fz x2_0
  have _ := ltb x2_0
  have X2_1 := hid x2_1; clear x2_1
  have X2_2 := hid x2_2; clear x2_2
  have X2_3 := hid x2_3; clear x2_3
  have X2_0 := hid x2_0; clear x2_0
  have G2 := hid (G1.out.trans g2)
  clear hg2 g2
  go_wp2_with fail
  refine (scmp_ok x y u0 v0 _ hx.out E.out.ok0).mono ?_
  rintro e w3 ⟨rfl, hg3⟩
  obtain ⟨x3_0, hz3, g3⟩ := alloc1 hg3
  have x3_1 := g3.keep X2_1.out
  have x3_2 := g3.keep X2_2.out
  have x3_3 := g3.keep X2_3.out
  have x3_4 := g3.keep X2_0.out
  obtain ⟨_, _⟩ := cells2 x3_1
  have _ := fz x3_1
  have _ := ltb x3_1
  obtain ⟨_, _, _⟩ := cells3 x3_2
  have _ := fz x3_2
  have _ := ltb x3_2
  obtain ⟨_, _⟩ := cells2 x3_3
  have _ := fz x3_3
  have _ := ltb x3_3
  obtain ⟨_, _⟩ := cells2 x3_4
  have _ := fz x3_4
  have _ := ltb x3_4
  obtain ⟨_, _⟩ := cells2 x3_0
  have _ := fz x3_0
  have _ := ltb x3_0
  have X3_1 := hid x3_1; clear x3_1
  have X3_2 := hid x3_2; clear x3_2
  have X3_3 := hid x3_3; clear x3_3
  have X3_4 := hid x3_4; clear x3_4
  have X3_0 := hid x3_0; clear x3_0
  have G3 := hid (G2.out.trans g3)
  clear hg3 g3
  go_wp2_with fail
  refine wp_reg1s #[.int .i64 0, .int .i64 0] 14 12 12 13 49 (by kernel_rfl) (by kernel_rfl) rfl rfl (by simp) rfl rfl (by decide) (fun _ _ => by kernel_rfl) (by kernel_rfl) ?_
  apply Exists.intro; apply Exists.intro
  refine ⟨fun wb hb => ?_, ?_⟩
  · obtain ⟨_, _⟩ := hb.at2 X3_1.out
    obtain ⟨_, _, _⟩ := hb.at3 X3_2.out
    obtain ⟨_, _⟩ := hb.at2 X3_3.out
    obtain ⟨_, _⟩ := hb.at2 X3_4.out
    obtain ⟨_, _⟩ := hb.at2 X3_0.out
    simp only [headOps, List.contains, List.elem, Nat.reduceAdd, Nat.reduceBEq, reduceIte, Bool.false_eq_true, dumOp]
    repeat (first | go_big_quiet_step (first | (go_at_call 87; exact Calls.of_gr (HLN.out _ ((G3.out.trans hb).trans ⟨⟨_, _⟩, rfl⟩)))) | quiet_step (fail))
    exact wpQuiet_nil rfl
  refine ⟨rfl, ⟨rfl, by simp [Value.oneCell']⟩, fun w4 b4 hg4 _ xb4 => ?_⟩
  have x4_1 := hg4.keep X3_1.out
  have x4_2 := hg4.keep X3_2.out
  have x4_3 := hg4.keep X3_3.out
  have x4_4 := hg4.keep X3_4.out
  have x4_5 := hg4.keep X3_0.out
  obtain ⟨_, _⟩ := cells2 x4_1
  have _ := fz x4_1
  have _ := ltb x4_1
  obtain ⟨_, _, _⟩ := cells3 x4_2
  have _ := fz x4_2
  have _ := ltb x4_2
  obtain ⟨_, _⟩ := cells2 x4_3
  have _ := fz x4_3
  have _ := ltb x4_3
  obtain ⟨_, _⟩ := cells2 x4_4
  have _ := fz x4_4
  have _ := ltb x4_4
  obtain ⟨_, _⟩ := cells2 x4_5
  have _ := fz x4_5
  have _ := ltb x4_5
  obtain ⟨_, _⟩ := cells2 xb4
  have _ := fz xb4
  have _ := ltb xb4
  have X4_1 := hid x4_1; clear x4_1
  have X4_2 := hid x4_2; clear x4_2
  have X4_3 := hid x4_3; clear x4_3
  have X4_4 := hid x4_4; clear x4_4
  have X4_5 := hid x4_5; clear x4_5
  have Xb4 := hid xb4; clear xb4
  have G4 := hid (G3.out.trans hg4)
  clear hg4
  go_wp2_with fail
  refine (scmp_ok P Q u1 v1 _ hp E.out.ok1).mono ?_
  rintro e w5 ⟨rfl, hg5⟩
  have x5_1 := hg5.keep X4_1.out
  have x5_2 := hg5.keep X4_2.out
  have x5_3 := hg5.keep X4_3.out
  have x5_4 := hg5.keep X4_4.out
  have x5_5 := hg5.keep X4_5.out
  have x5_6 := hg5.keep Xb4.out
  obtain ⟨_, _⟩ := cells2 x5_1
  have _ := fz x5_1
  have _ := ltb x5_1
  obtain ⟨_, _, _⟩ := cells3 x5_2
  have _ := fz x5_2
  have _ := ltb x5_2
  obtain ⟨_, _⟩ := cells2 x5_3
  have _ := fz x5_3
  have _ := ltb x5_3
  obtain ⟨_, _⟩ := cells2 x5_4
  have _ := fz x5_4
  have _ := ltb x5_4
  obtain ⟨_, _⟩ := cells2 x5_5
  have _ := fz x5_5
  have _ := ltb x5_5
  obtain ⟨_, _⟩ := cells2 x5_6
  have _ := fz x5_6
  have _ := ltb x5_6
  have X5_1 := hid x5_1; clear x5_1
  have X5_2 := hid x5_2; clear x5_2
  have X5_3 := hid x5_3; clear x5_3
  have X5_4 := hid x5_4; clear x5_4
  have X5_5 := hid x5_5; clear x5_5
  have X5_6 := hid x5_6; clear x5_6
  have G5 := hid (G4.out.trans hg5)
  clear hg5
  go_wp2
  refine bodyPost_ret (v := .tuple #[.int .i64 0, .int .i64 2]) (by simp [results, Try.results92, go_sem, *]) rfl ⟨rfl, ?_⟩
  exact G5.out
set_option maxRecDepth 20000 in
set_option maxHeartbeats 2000000 in
theorem sft_6 (a b x y : Int) (r : Bool) (N : Nat) (A : Option Addr) (c k1 k2 : Nat) (xs : List (Int × Int)) (u0 v0 u1 v1 : Int) (w : World) (X1 : Hid (w.heap[k1]? = some (.cells #[.int .i64 a, .int .i64 b, .slice A xs.length c] 32))) (X2 : Hid (w.heap[k2]? = some (.cells #[.int .i64 (N : Int), .bool r] 53))) (X : Hid (RdF w A xs)) (S : Scl a b xs) (n1 : 2 ≤ N) (n2 : N ≤ 40) (hx : okB x y = true) (E : Ends a b xs u0 v0 u1 v1) (hc : ¬ cmpI x y u0 v0 < 0) (P Q : Int) (hl : ∀ w', Gr w w' → Calls Try.prog 87 #[.pointer (some ⟨k1, 0, none⟩), .pointer (some ⟨k2, 0, none⟩), fr x y, .int .i64 ((N : Int) - 1)] w' fun e w'' => e = .returned (.tuple #[fr P Q, .int .i64 0]) ∧ Gr w' w'') (hp : okB P Q = true) (hd : ¬ 0 < cmpI P Q u1 v1) (f : Nat → Bool × Int × Int) (R : Nat) (U V P0 Q0 : Int)
    (hm : ∀ (i : Nat), i < N → ∀ w', Gr w w' → Calls Try.prog 90 #[.pointer (some ⟨k1, 0, none⟩), .pointer (some ⟨k2, 0, none⟩), fr x y, .int .i64 i] w' (ResS (f i).1 (f i).2.1 (f i).2.2 w'))
    (hok : ∀ i, i < N → (f i).1 = true → okB (f i).2.1 (f i).2.2 = true) (h0 : (mfs f N)[0]? = some (P0, Q0)) (hr : fl ((mfs f N).drop 1) 1 0 P0 Q0 = (R, (U, V))) :
    Calls Try.prog 92 #[.pointer (some ⟨k1, 0, none⟩), .pointer (some ⟨k2, 0, none⟩), fr x y] w fun e w' => ((AllF f N ∧ e = .returned (.tuple #[.int .i64 (R : Int), .int .i64 0])) ∨ (¬ AllF f N ∧ e = .returned (.tuple #[.int .i64 0, .int .i64 3]))) ∧ Gr w w' := by
  have E := hid E; have hx := hid hx
  have hhi := S.hi; have hlo := S.lo; have _ := n1; have _ := n2
  have hc := show decide (cmpI x y u0 v0 < 0) = false by simpa using hc
  have hd := show decide (0 < cmpI P Q u1 v1) = false by simpa using hd
  have HLN := hid hl; clear hl
  have HM := hid hm; have HOK := hid hok; have H0 := hid h0; have HR := hid hr
  have HLEN := hid (mfs_len f N)
  have HGET := hid fun (k : Nat) (h : k < N) => mfs_get (f := f) h
  obtain ⟨L, hL⟩ : ∃ L, mfs f N = L := ⟨_, rfl⟩
  rw [hL] at H0 HR HLEN HGET
  clear hm hok h0 hr hL
  have hk1 : k1 < w.heap.size := ltb X1.out
  have hk2 : k2 < w.heap.size := ltb X2.out
  go_enter Try.func92, Try.ntmps92
  obtain ⟨_, _, _⟩ := cells3 X1.out
  have _ := fz X1.out
  have _ := ltb X1.out
  obtain ⟨_, _⟩ := cells2 X2.out
  have _ := fz X2.out
  have _ := ltb X2.out
  go_wp2_with fail
  refine (E.out.s0 A c _ _ (hid (((Gr.refl _).al _).keep X1.out)) (hid (X.out.keep ((Gr.refl w).al _)))).mono ?_
  rintro e w1 ⟨rfl, hg1⟩
  obtain ⟨x1_0, hz1, g1⟩ := alloc1 hg1
  have x1_1 := g1.keep X1.out
  have x1_2 := g1.keep X2.out
  obtain ⟨_, _⟩ := cells2 x1_0
  have _ := fz x1_0
  have _ := ltb x1_0
  obtain ⟨_, _, _⟩ := cells3 x1_1
  have _ := fz x1_1
  have _ := ltb x1_1
  obtain ⟨_, _⟩ := cells2 x1_2
  have _ := fz x1_2
  have _ := ltb x1_2
  have X1_0 := hid x1_0; clear x1_0
  have X1_1 := hid x1_1; clear x1_1
  have X1_2 := hid x1_2; clear x1_2
  have G1 := hid (g1)
  clear hg1 g1
  go_wp2_with fail
  refine (E.out.s1 A c _ _ (hid (((Gr.refl _).al _).keep X1_1.out)) (hid (X.out.keep (G1.out.al _)))).mono ?_
  rintro e w2 ⟨rfl, hg2⟩
  obtain ⟨x2_0, hz2, g2⟩ := alloc1 hg2
  have x2_1 := g2.keep X1_0.out
  have x2_2 := g2.keep X1_1.out
  have x2_3 := g2.keep X1_2.out
  obtain ⟨_, _⟩ := cells2 x2_1
  have _ := fz x2_1
  have _ := ltb x2_1
  obtain ⟨_, _, _⟩ := cells3 x2_2
  have _ := fz x2_2
  have _ := ltb x2_2
  obtain ⟨_, _⟩ := cells2 x2_3
  have _ := fz x2_3
  have _ := ltb x2_3
  obtain ⟨_, _⟩ := cells2 x2_0
  have _ := fz x2_0
  have _ := ltb x2_0
  have X2_1 := hid x2_1; clear x2_1
  have X2_2 := hid x2_2; clear x2_2
  have X2_3 := hid x2_3; clear x2_3
  have X2_0 := hid x2_0; clear x2_0
  have G2 := hid (G1.out.trans g2)
  clear hg2 g2
  go_wp2_with fail
  refine (scmp_ok x y u0 v0 _ hx.out E.out.ok0).mono ?_
  rintro e w3 ⟨rfl, hg3⟩
  obtain ⟨x3_0, hz3, g3⟩ := alloc1 hg3
  have x3_1 := g3.keep X2_1.out
  have x3_2 := g3.keep X2_2.out
  have x3_3 := g3.keep X2_3.out
  have x3_4 := g3.keep X2_0.out
  obtain ⟨_, _⟩ := cells2 x3_1
  have _ := fz x3_1
  have _ := ltb x3_1
  obtain ⟨_, _, _⟩ := cells3 x3_2
  have _ := fz x3_2
  have _ := ltb x3_2
  obtain ⟨_, _⟩ := cells2 x3_3
  have _ := fz x3_3
  have _ := ltb x3_3
  obtain ⟨_, _⟩ := cells2 x3_4
  have _ := fz x3_4
  have _ := ltb x3_4
  obtain ⟨_, _⟩ := cells2 x3_0
  have _ := fz x3_0
  have _ := ltb x3_0
  have X3_1 := hid x3_1; clear x3_1
  have X3_2 := hid x3_2; clear x3_2
  have X3_3 := hid x3_3; clear x3_3
  have X3_4 := hid x3_4; clear x3_4
  have X3_0 := hid x3_0; clear x3_0
  have G3 := hid (G2.out.trans g3)
  clear hg3 g3
  go_wp2_with fail
  refine wp_reg1s #[.int .i64 0, .int .i64 0] 14 12 12 13 49 (by kernel_rfl) (by kernel_rfl) rfl rfl (by simp) rfl rfl (by decide) (fun _ _ => by kernel_rfl) (by kernel_rfl) ?_
  apply Exists.intro; apply Exists.intro
  refine ⟨fun wb hb => ?_, ?_⟩
  · obtain ⟨_, _⟩ := hb.at2 X3_1.out
    obtain ⟨_, _, _⟩ := hb.at3 X3_2.out
    obtain ⟨_, _⟩ := hb.at2 X3_3.out
    obtain ⟨_, _⟩ := hb.at2 X3_4.out
    obtain ⟨_, _⟩ := hb.at2 X3_0.out
    simp only [headOps, List.contains, List.elem, Nat.reduceAdd, Nat.reduceBEq, reduceIte, Bool.false_eq_true, dumOp]
    repeat (first | go_big_quiet_step (first | (go_at_call 87; exact Calls.of_gr (HLN.out _ ((G3.out.trans hb).trans ⟨⟨_, _⟩, rfl⟩)))) | quiet_step (fail))
    exact wpQuiet_nil rfl
  refine ⟨rfl, ⟨rfl, by simp [Value.oneCell']⟩, fun w4 b4 hg4 _ xb4 => ?_⟩
  have x4_1 := hg4.keep X3_1.out
  have x4_2 := hg4.keep X3_2.out
  have x4_3 := hg4.keep X3_3.out
  have x4_4 := hg4.keep X3_4.out
  have x4_5 := hg4.keep X3_0.out
  obtain ⟨_, _⟩ := cells2 x4_1
  have _ := fz x4_1
  have _ := ltb x4_1
  obtain ⟨_, _, _⟩ := cells3 x4_2
  have _ := fz x4_2
  have _ := ltb x4_2
  obtain ⟨_, _⟩ := cells2 x4_3
  have _ := fz x4_3
  have _ := ltb x4_3
  obtain ⟨_, _⟩ := cells2 x4_4
  have _ := fz x4_4
  have _ := ltb x4_4
  obtain ⟨_, _⟩ := cells2 x4_5
  have _ := fz x4_5
  have _ := ltb x4_5
  obtain ⟨_, _⟩ := cells2 xb4
  have _ := fz xb4
  have _ := ltb xb4
  have X4_1 := hid x4_1; clear x4_1
  have X4_2 := hid x4_2; clear x4_2
  have X4_3 := hid x4_3; clear x4_3
  have X4_4 := hid x4_4; clear x4_4
  have X4_5 := hid x4_5; clear x4_5
  have Xb4 := hid xb4; clear xb4
  have G4 := hid (G3.out.trans hg4)
  clear hg4
  go_wp2_with fail
  refine (scmp_ok P Q u1 v1 _ hp E.out.ok1).mono ?_
  rintro e w5 ⟨rfl, hg5⟩
  have x5_1 := hg5.keep X4_1.out
  have x5_2 := hg5.keep X4_2.out
  have x5_3 := hg5.keep X4_3.out
  have x5_4 := hg5.keep X4_4.out
  have x5_5 := hg5.keep X4_5.out
  have x5_6 := hg5.keep Xb4.out
  obtain ⟨_, _⟩ := cells2 x5_1
  have _ := fz x5_1
  have _ := ltb x5_1
  obtain ⟨_, _, _⟩ := cells3 x5_2
  have _ := fz x5_2
  have _ := ltb x5_2
  obtain ⟨_, _⟩ := cells2 x5_3
  have _ := fz x5_3
  have _ := ltb x5_3
  obtain ⟨_, _⟩ := cells2 x5_4
  have _ := fz x5_4
  have _ := ltb x5_4
  obtain ⟨_, _⟩ := cells2 x5_5
  have _ := fz x5_5
  have _ := ltb x5_5
  obtain ⟨_, _⟩ := cells2 x5_6
  have _ := fz x5_6
  have _ := ltb x5_6
  have X5_1 := hid x5_1; clear x5_1
  have X5_2 := hid x5_2; clear x5_2
  have X5_3 := hid x5_3; clear x5_3
  have X5_4 := hid x5_4; clear x5_4
  have X5_5 := hid x5_5; clear x5_5
  have X5_6 := hid x5_6; clear x5_6
  have G5 := hid (G4.out.trans hg5)
  clear hg5
  go_wp2_with fail
  go_loopw [14, 16] (fun v u wr => ∃ (k t : Nat) (P Q : Int), v = .int .i64 (t : Int) ∧ u = .int .i64 (k : Int) ∧ k ≤ N ∧ Gr w wr ∧ wr.heap[w.heap.size]? = some (.cells #[.int .i64 x, .int .i64 y] 29) ∧ wr.heap[w5.heap.size]? = some (.cells #[.int .i64 P, .int .i64 Q] 29) ∧ AllF f k ∧ NearRel L k t P Q (R, (U, V))) (fun _ u _ => N - (intOf u).toNat)
  case atStart => exact ⟨0, 0, 0, 0, rfl, rfl, by omega, G5.out.al _, ((Gr.refl _).al _).keep X5_1.out, (alloc1 (Gr.refl _)).1, fun i h => by omega, .inl rfl⟩
  case round =>
    obtain ⟨k, t, P, Q, rfl, rfl, hk, g0, y3, y4, hall, hs⟩ := hrel
    have Y1 := hid (g0.keep X1.out); have Y2 := hid (g0.keep X2.out)
    have GW := hid g0; have Y3 := hid y3; have Y4 := hid y4; have HALL := hid hall; have HS := hid hs
    have hw5 : w.heap.size < w5.heap.size := ltb X5_1.out
    clear g0 y3 y4 hall hs
    by_cases hlt : k < N
    · have HMK := hid (HM.out k hlt)
      have hget := HGET.out k hlt
      have hokk := HOK.out k hlt
      obtain ⟨P2, hP⟩ : ∃ P, (f k).2.1 = P := ⟨_, rfl⟩
      obtain ⟨Q2, hQ⟩ : ∃ Q, (f k).2.2 = Q := ⟨_, rfl⟩
      rw [hP, hQ] at hget hokk
      unfold ResS at HMK
      simp only [hP, hQ] at HMK
      have HDG := hid hget
      clear hP hQ hget
      cases hB : (f k).1 with
      | false =>
        simp only [hB, Bool.false_eq_true, reduceIte] at HMK
        have HN : Hid (¬ AllF f N) := hid fun h => by have := h k hlt; rw [hB] at this; cases this
        clear hB hokk
        obtain ⟨_, _, _⟩ := cells3 Y1.out
        have _ := fz Y1.out
        have _ := ltb Y1.out
        obtain ⟨_, _⟩ := cells2 Y2.out
        have _ := fz Y2.out
        have _ := ltb Y2.out
        obtain ⟨_, _⟩ := cells2 Y3.out
        have _ := fz Y3.out
        have _ := ltb Y3.out
        obtain ⟨_, _⟩ := cells2 Y4.out
        have _ := fz Y4.out
        have _ := ltb Y4.out
        go_wp2_with fail
        refine (HMK.out _ GW.out).mono ?_
        rintro e w1 ⟨rfl, hg1⟩
        have x1_1 := hg1.keep Y1.out
        have x1_2 := hg1.keep Y2.out
        have x1_3 := hg1.keep Y3.out
        have x1_4 := hg1.keep Y4.out
        obtain ⟨_, _, _⟩ := cells3 x1_1
        have _ := fz x1_1
        have _ := ltb x1_1
        obtain ⟨_, _⟩ := cells2 x1_2
        have _ := fz x1_2
        have _ := ltb x1_2
        obtain ⟨_, _⟩ := cells2 x1_3
        have _ := fz x1_3
        have _ := ltb x1_3
        obtain ⟨_, _⟩ := cells2 x1_4
        have _ := fz x1_4
        have _ := ltb x1_4
        have X1_1 := hid x1_1; clear x1_1
        have X1_2 := hid x1_2; clear x1_2
        have X1_3 := hid x1_3; clear x1_3
        have X1_4 := hid x1_4; clear x1_4
        have G1 := hid (GW.out.trans hg1)
        clear hg1
        go_wp2_with fail
        refine bodyPost_ret (v := .tuple #[.int .i64 0, .int .i64 3]) (by simp [results, Try.results92, go_sem, *]) rfl ⟨.inr ⟨HN.out, rfl⟩, ?_⟩
        exact G1.out.al _
      | true =>
        simp only [hB, reduceIte] at HMK
        have HOK2 := hid (hokk hB)
        have HALL2 : Hid (AllF f (k + 1)) := hid fun i hi => by
          by_cases he : i = k
          · subst he; exact hB
          · exact HALL.out i (by omega)
        clear hB hokk
        by_cases hk0 : k = 0
        · subst hk0
          have HN1 : Hid (NearRel L 1 0 P2 Q2 (R, (U, V))) := hid (.inr ⟨HOK2.out, by have := H0.out; rw [HDG.out] at this; cases this; exact HR.out⟩)
          obtain ⟨_, _, _⟩ := cells3 Y1.out
          have _ := fz Y1.out
          have _ := ltb Y1.out
          obtain ⟨_, _⟩ := cells2 Y2.out
          have _ := fz Y2.out
          have _ := ltb Y2.out
          obtain ⟨_, _⟩ := cells2 Y3.out
          have _ := fz Y3.out
          have _ := ltb Y3.out
          obtain ⟨_, _⟩ := cells2 Y4.out
          have _ := fz Y4.out
          have _ := ltb Y4.out
          go_wp2_with fail
          refine (HMK.out _ GW.out).mono ?_
          rintro e w1 ⟨rfl, hg1⟩
          have x1_1 := hg1.keep Y1.out
          have x1_2 := hg1.keep Y2.out
          have x1_3 := hg1.keep Y3.out
          have x1_4 := hg1.keep Y4.out
          obtain ⟨_, _, _⟩ := cells3 x1_1
          have _ := fz x1_1
          have _ := ltb x1_1
          obtain ⟨_, _⟩ := cells2 x1_2
          have _ := fz x1_2
          have _ := ltb x1_2
          obtain ⟨_, _⟩ := cells2 x1_3
          have _ := fz x1_3
          have _ := ltb x1_3
          obtain ⟨_, _⟩ := cells2 x1_4
          have _ := fz x1_4
          have _ := ltb x1_4
          have X1_1 := hid x1_1; clear x1_1
          have X1_2 := hid x1_2; clear x1_2
          have X1_3 := hid x1_3; clear x1_3
          have X1_4 := hid x1_4; clear x1_4
          have G1 := hid (GW.out.trans hg1)
          clear hg1
          go_wp2_with fail
          exact ⟨⟨1, 0, P2, Q2, rfl, rfl, by omega, ((G1.out.setCell (show w.heap.size ≤ w5.heap.size by omega) _).setCell (show w.heap.size ≤ w5.heap.size by omega) _).al _, ((Gr.refl _).al _).keep (set2_old X1_3.out (by omega)), ((Gr.refl _).al _).keep (set2_new X1_4.out), HALL2.out, HN1.out⟩, by simp [intOf]; omega⟩
        · have hkb : ((k : Int) == 0) = false := by simp; omega
          obtain ⟨hokpq, hs⟩ : okB P Q = true ∧ fl (L.drop k) k t P Q = (R, (U, V)) := HS.out.resolve_left hk0
          rw [fl_step HDG.out] at hs
          have HOKPQ := hid hokpq; clear hokpq
          by_cases hc : cmpI P2 Q2 P Q < 0
          · rw [if_pos hc] at hs
            have HN1 : Hid (NearRel L (k + 1) k P2 Q2 (R, (U, V))) := hid (.inr ⟨HOK2.out, hs⟩)
            have hcd : decide (cmpI P2 Q2 P Q < 0) = true := by simpa using hc
            have HCD := hid hcd
            clear hs hc hcd
            obtain ⟨_, _, _⟩ := cells3 Y1.out
            have _ := fz Y1.out
            have _ := ltb Y1.out
            obtain ⟨_, _⟩ := cells2 Y2.out
            have _ := fz Y2.out
            have _ := ltb Y2.out
            obtain ⟨_, _⟩ := cells2 Y3.out
            have _ := fz Y3.out
            have _ := ltb Y3.out
            obtain ⟨_, _⟩ := cells2 Y4.out
            have _ := fz Y4.out
            have _ := ltb Y4.out
            go_wp2_with fail
            refine (HMK.out _ GW.out).mono ?_
            rintro e w1 ⟨rfl, hg1⟩
            have x1_1 := hg1.keep Y1.out
            have x1_2 := hg1.keep Y2.out
            have x1_3 := hg1.keep Y3.out
            have x1_4 := hg1.keep Y4.out
            obtain ⟨_, _, _⟩ := cells3 x1_1
            have _ := fz x1_1
            have _ := ltb x1_1
            obtain ⟨_, _⟩ := cells2 x1_2
            have _ := fz x1_2
            have _ := ltb x1_2
            obtain ⟨_, _⟩ := cells2 x1_3
            have _ := fz x1_3
            have _ := ltb x1_3
            obtain ⟨_, _⟩ := cells2 x1_4
            have _ := fz x1_4
            have _ := ltb x1_4
            have X1_1 := hid x1_1; clear x1_1
            have X1_2 := hid x1_2; clear x1_2
            have X1_3 := hid x1_3; clear x1_3
            have X1_4 := hid x1_4; clear x1_4
            have G1 := hid (GW.out.trans hg1)
            clear hg1
            go_wp2_with fail
            refine (scmp_ok P2 Q2 P Q _ HOK2.out HOKPQ.out).mono ?_
            rintro e w4 ⟨rfl, hg4⟩
            obtain ⟨z5, hz4, hg5⟩ := alloc1 hg4
            have z3 := hg4.keep (((Gr.refl _).al _).keep X1_3.out)
            have z4 := hg4.keep (((Gr.refl _).al _).keep X1_4.out)
            obtain ⟨_, _⟩ := cells2 z5
            obtain ⟨_, _⟩ := cells2 z4
            have _ := fz z4
            have _ := ltb z4
            have _ := HCD.out
            have Z3 := hid z3; have Z4 := hid z4
            have HG4 := hid (G1.out.trans hg5)
            clear z3 z4 z5 hg4 hg5
            go_wp2_with fail
            exact ⟨⟨k + 1, k, P2, Q2, by simp, by simp, by omega, (HG4.out.setCell (by simp <;> omega) _).setCell (by simp <;> omega) _, set2_old Z3.out (by omega), set2_new Z4.out, HALL2.out, HN1.out⟩, by simp [intOf]; omega⟩
          · rw [if_neg hc] at hs
            have HN1 : Hid (NearRel L (k + 1) t P Q (R, (U, V))) := hid (.inr ⟨HOKPQ.out, hs⟩)
            have hcd : decide (cmpI P2 Q2 P Q < 0) = false := by simpa using hc
            have HCD := hid hcd
            clear hs hc hcd
            obtain ⟨_, _, _⟩ := cells3 Y1.out
            have _ := fz Y1.out
            have _ := ltb Y1.out
            obtain ⟨_, _⟩ := cells2 Y2.out
            have _ := fz Y2.out
            have _ := ltb Y2.out
            obtain ⟨_, _⟩ := cells2 Y3.out
            have _ := fz Y3.out
            have _ := ltb Y3.out
            obtain ⟨_, _⟩ := cells2 Y4.out
            have _ := fz Y4.out
            have _ := ltb Y4.out
            go_wp2_with fail
            refine (HMK.out _ GW.out).mono ?_
            rintro e w1 ⟨rfl, hg1⟩
            have x1_1 := hg1.keep Y1.out
            have x1_2 := hg1.keep Y2.out
            have x1_3 := hg1.keep Y3.out
            have x1_4 := hg1.keep Y4.out
            obtain ⟨_, _, _⟩ := cells3 x1_1
            have _ := fz x1_1
            have _ := ltb x1_1
            obtain ⟨_, _⟩ := cells2 x1_2
            have _ := fz x1_2
            have _ := ltb x1_2
            obtain ⟨_, _⟩ := cells2 x1_3
            have _ := fz x1_3
            have _ := ltb x1_3
            obtain ⟨_, _⟩ := cells2 x1_4
            have _ := fz x1_4
            have _ := ltb x1_4
            have X1_1 := hid x1_1; clear x1_1
            have X1_2 := hid x1_2; clear x1_2
            have X1_3 := hid x1_3; clear x1_3
            have X1_4 := hid x1_4; clear x1_4
            have G1 := hid (GW.out.trans hg1)
            clear hg1
            go_wp2_with fail
            refine (scmp_ok P2 Q2 P Q _ HOK2.out HOKPQ.out).mono ?_
            rintro e w4 ⟨rfl, hg4⟩
            obtain ⟨z5, hz4, hg5⟩ := alloc1 hg4
            have z3 := hg4.keep (((Gr.refl _).al _).keep X1_3.out)
            have z4 := hg4.keep (((Gr.refl _).al _).keep X1_4.out)
            obtain ⟨_, _⟩ := cells2 z5
            obtain ⟨_, _⟩ := cells2 z4
            have _ := fz z4
            have _ := ltb z4
            have _ := HCD.out
            have Z3 := hid z3; have Z4 := hid z4
            have HG4 := hid (G1.out.trans hg5)
            clear z3 z4 z5 hg4 hg5
            go_wp2_with fail
            exact ⟨⟨k + 1, t, P, Q, by simp, by simp, by omega, HG4.out, Z3.out, Z4.out, HALL2.out, HN1.out⟩, by simp [intOf]; omega⟩
    · obtain rfl : k = N := by omega
      obtain ⟨_, hs⟩ : okB P Q = true ∧ fl (L.drop k) k t P Q = (R, (U, V)) := HS.out.resolve_left (by omega)
      rw [List.drop_eq_nil_of_le (by have := HLEN.out; omega)] at hs
      simp only [fl, Prod.mk.injEq] at hs
      obtain ⟨rfl, rfl, rfl⟩ := hs
      obtain ⟨_, _, _⟩ := cells3 Y1.out
      have _ := fz Y1.out
      have _ := ltb Y1.out
      obtain ⟨_, _⟩ := cells2 Y2.out
      have _ := fz Y2.out
      have _ := ltb Y2.out
      obtain ⟨_, _⟩ := cells2 Y3.out
      have _ := fz Y3.out
      have _ := ltb Y3.out
      obtain ⟨_, _⟩ := cells2 Y4.out
      have _ := fz Y4.out
      have _ := ltb Y4.out
      go_wp2_with fail
      refine bodyPost_ret (v := .tuple #[.int .i64 (t : Int), .int .i64 0]) (by simp [results, Try.results92, go_sem, *]) rfl ⟨.inl ⟨HALL.out, rfl⟩, ?_⟩
      exact GW.out
end Go.Proofs.Ytfkmlgndggnhaaa
namespace Go.Proofs.Ytfkmlgndggnhaaa
open Go.RowKit Go.Sort

/-! LineThatFits -/

set_option maxRecDepth 20000 in
set_option maxHeartbeats 400000 in
theorem sLTF_0 (a b n x y : Int) (r : Bool) (A : Option Addr) (c : Nat) (xs : List (Int × Int)) (w : World) (X : Hid (RdF w A xs)) (hn : xs.length ≤ 1048576) (h : askB a b xs n x y = false) :
    Calls Try.prog 41 #[scl a b A xs.length c, vn n r, fr x y] w fun e w' => e = .returned (.tuple #[.int .i64 0, .int .i64 1]) ∧ Gr w w' := by
  have h' := hid h
  clear h
  go_enter Try.func41, Try.ntmps41
  go_wp2_with fail
  refine (saskF a b n x y r A c xs _ _ _ (hid (alloc3 (Gr.refl _)).1) (hid (alloc3 (Gr.refl _)).2.1) (hid (X.out.keep ((((Gr.refl w).al _).al _).al _))) hn h'.out).mono ?_
  rintro e w1 ⟨rfl, hg1⟩
  obtain ⟨x1_0, x1_1, x1_2, hz1, g1⟩ := alloc3 hg1
  obtain ⟨_, _, _⟩ := cells3 x1_0
  have _ := fz x1_0
  have _ := ltb x1_0
  obtain ⟨_, _⟩ := cells2 x1_1
  have _ := fz x1_1
  have _ := ltb x1_1
  obtain ⟨_, _⟩ := cells2 x1_2
  have _ := fz x1_2
  have _ := ltb x1_2
  have X1_0 := hid x1_0; clear x1_0
  have X1_1 := hid x1_1; clear x1_1
  have X1_2 := hid x1_2; clear x1_2
  have G1 := hid (g1)
  clear hg1 g1
  go_wp2
  refine bodyPost_ret (v := .tuple #[.int .i64 0, .int .i64 1]) (by simp [results, Try.results41, go_sem, *]) rfl ⟨rfl, ?_⟩
  exact G1.out
set_option maxRecDepth 20000 in
set_option maxHeartbeats 400000 in
theorem sLTF_1 (Z C : Int) (a b n x y : Int) (r : Bool) (A : Option Addr) (c : Nat) (xs : List (Int × Int)) (w : World) (X : Hid (RdF w A xs)) (hn : xs.length ≤ 1048576) (h : askB a b xs n x y = true) (hl : ∀ (w : World) (j j2 : Nat), Hid (w.heap[j]? = some (.cells #[.int .i64 a, .int .i64 b, .slice A xs.length c] 32)) → Hid (w.heap[j2]? = some (.cells #[.int .i64 n, .bool r] 53)) → Hid (RdF w A xs) → Calls Try.prog 92 #[.pointer (some ⟨j, 0, none⟩), .pointer (some ⟨j2, 0, none⟩), fr x y] w fun e w' => e = .returned (.tuple #[.int .i64 Z, .int .i64 C]) ∧ Gr w w') :
    Calls Try.prog 41 #[scl a b A xs.length c, vn n r, fr x y] w fun e w' => e = .returned (.tuple #[.int .i64 Z, .int .i64 C]) ∧ Gr w w' := by
  have h' := hid h
  have HL := hid hl; clear hl
  clear h
  go_enter Try.func41, Try.ntmps41
  go_wp2_with fail
  refine (saskT a b n x y r A c xs _ _ _ (hid (alloc3 (Gr.refl _)).1) (hid (alloc3 (Gr.refl _)).2.1) (hid (X.out.keep ((((Gr.refl w).al _).al _).al _))) hn h'.out).mono ?_
  rintro e w1 ⟨rfl, hg1⟩
  obtain ⟨x1_0, x1_1, x1_2, hz1, g1⟩ := alloc3 hg1
  obtain ⟨_, _, _⟩ := cells3 x1_0
  have _ := fz x1_0
  have _ := ltb x1_0
  obtain ⟨_, _⟩ := cells2 x1_1
  have _ := fz x1_1
  have _ := ltb x1_1
  obtain ⟨_, _⟩ := cells2 x1_2
  have _ := fz x1_2
  have _ := ltb x1_2
  have X1_0 := hid x1_0; clear x1_0
  have X1_1 := hid x1_1; clear x1_1
  have X1_2 := hid x1_2; clear x1_2
  have G1 := hid (g1)
  clear hg1 g1
  go_wp2_with fail
  refine (HL.out _ _ _ (hid X1_0.out) (hid X1_1.out) (hid (X.out.keep G1.out))).mono ?_
  rintro e w2 ⟨rfl, hg2⟩
  have x2_1 := hg2.keep X1_0.out
  have x2_2 := hg2.keep X1_1.out
  have x2_3 := hg2.keep X1_2.out
  obtain ⟨_, _, _⟩ := cells3 x2_1
  have _ := fz x2_1
  have _ := ltb x2_1
  obtain ⟨_, _⟩ := cells2 x2_2
  have _ := fz x2_2
  have _ := ltb x2_2
  obtain ⟨_, _⟩ := cells2 x2_3
  have _ := fz x2_3
  have _ := ltb x2_3
  have X2_1 := hid x2_1; clear x2_1
  have X2_2 := hid x2_2; clear x2_2
  have X2_3 := hid x2_3; clear x2_3
  have G2 := hid (G1.out.trans hg2)
  clear hg2
  go_wp2
  refine bodyPost_ret (v := .tuple #[.int .i64 Z, .int .i64 C]) (by simp [results, Try.results41, go_sem, *]) rfl ⟨rfl, ?_⟩
  exact G2.out
set_option maxRecDepth 20000 in
set_option maxHeartbeats 400000 in
theorem iLTF_0 (C : Int) (a b n x y : Int) (r : Bool) (A : Option Addr) (c : Nat) (xs : List (Int × Int)) (w : World) (X : Hid (RdF w A xs)) (h : ∀ w, Hid (RdF w A xs) → Calls Try.prog 93 #[scl a b A xs.length c, vn n r, fr x y] w fun e w' => e = .returned (.int .i64 C) ∧ Gr w w') (hC : (C == 0) = false) :
    Calls Try.prog 42 #[scl a b A xs.length c, vn n r, fr x y] w fun e w' => e = .returned (.tuple #[.int .i64 0, .int .i64 C]) ∧ Gr w w' := by
  have h' := hid h
  clear h
  go_enter Try.func42, Try.ntmps42
  go_wp2_with fail
  refine (h'.out _ (hid (X.out.keep ((((Gr.refl w).al _).al _).al _)))).mono ?_
  rintro e w1 ⟨rfl, hg1⟩
  obtain ⟨x1_0, x1_1, x1_2, hz1, g1⟩ := alloc3 hg1
  obtain ⟨_, _, _⟩ := cells3 x1_0
  have _ := fz x1_0
  have _ := ltb x1_0
  obtain ⟨_, _⟩ := cells2 x1_1
  have _ := fz x1_1
  have _ := ltb x1_1
  obtain ⟨_, _⟩ := cells2 x1_2
  have _ := fz x1_2
  have _ := ltb x1_2
  have X1_0 := hid x1_0; clear x1_0
  have X1_1 := hid x1_1; clear x1_1
  have X1_2 := hid x1_2; clear x1_2
  have G1 := hid (g1)
  clear hg1 g1
  go_wp2
  refine bodyPost_ret (v := .tuple #[.int .i64 0, .int .i64 C]) (by simp [results, Try.results42, go_sem, *]) rfl ⟨rfl, ?_⟩
  exact G1.out
set_option maxRecDepth 20000 in
set_option maxHeartbeats 400000 in
theorem iLTF_1 (Z C : Int) (a b n x y : Int) (r : Bool) (A : Option Addr) (c : Nat) (xs : List (Int × Int)) (w : World) (X : Hid (RdF w A xs)) (h : ∀ w, Hid (RdF w A xs) → Calls Try.prog 93 #[scl a b A xs.length c, vn n r, fr x y] w fun e w' => e = .returned (.int .i64 0) ∧ Gr w w')
    (hT : ∀ (w' : World) (j j2 j3 : Nat), Hid (w'.heap[j]? = some (.cells #[.int .i64 a, .int .i64 b, .slice A xs.length c] 32)) → Hid (w'.heap[j2]? = some (.cells #[.int .i64 n, .bool r] 53)) → Hid (w'.heap[j3]? = some (.cells #[.int .i64 x, .int .i64 y] 29)) → Hid (RdF w' A xs) → Calls Try.prog 76 #[.func (.func 94) #[] #[.pointer (some ⟨j2, 0, none⟩), .pointer (some ⟨j, 0, none⟩), .pointer (some ⟨j3, 0, none⟩)]] w' fun e w'' => e = .returned (.tuple #[.int .i64 Z, .int .i64 C]) ∧ Gr w' w'') :
    Calls Try.prog 42 #[scl a b A xs.length c, vn n r, fr x y] w fun e w' => e = .returned (.tuple #[.int .i64 Z, .int .i64 C]) ∧ Gr w w' := by
  have h' := hid h; have HT := hid hT
  clear h hT
  go_enter Try.func42, Try.ntmps42
  go_wp2_with fail
  refine (h'.out _ (hid (X.out.keep ((((Gr.refl w).al _).al _).al _)))).mono ?_
  rintro e w1 ⟨rfl, hg1⟩
  obtain ⟨x1_0, x1_1, x1_2, hz1, g1⟩ := alloc3 hg1
  obtain ⟨_, _, _⟩ := cells3 x1_0
  have _ := fz x1_0
  have _ := ltb x1_0
  obtain ⟨_, _⟩ := cells2 x1_1
  have _ := fz x1_1
  have _ := ltb x1_1
  obtain ⟨_, _⟩ := cells2 x1_2
  have _ := fz x1_2
  have _ := ltb x1_2
  have X1_0 := hid x1_0; clear x1_0
  have X1_1 := hid x1_1; clear x1_1
  have X1_2 := hid x1_2; clear x1_2
  have G1 := hid (g1)
  clear hg1 g1
  go_wp2_with fail
  refine (HT.out _ _ _ _ (hid X1_0.out) (hid X1_1.out) (hid X1_2.out) (hid (X.out.keep G1.out))).mono ?_
  rintro e w2 ⟨rfl, hg2⟩
  have x2_1 := hg2.keep X1_0.out
  have x2_2 := hg2.keep X1_1.out
  have x2_3 := hg2.keep X1_2.out
  obtain ⟨_, _, _⟩ := cells3 x2_1
  have _ := fz x2_1
  have _ := ltb x2_1
  obtain ⟨_, _⟩ := cells2 x2_2
  have _ := fz x2_2
  have _ := ltb x2_2
  obtain ⟨_, _⟩ := cells2 x2_3
  have _ := fz x2_3
  have _ := ltb x2_3
  have X2_1 := hid x2_1; clear x2_1
  have X2_2 := hid x2_2; clear x2_2
  have X2_3 := hid x2_3; clear x2_3
  have G2 := hid (G1.out.trans hg2)
  clear hg2
  go_wp2
  refine bodyPost_ret (v := .tuple #[.int .i64 Z, .int .i64 C]) (by simp [results, Try.results42, go_sem, *]) rfl ⟨rfl, ?_⟩
  exact G2.out
set_option maxRecDepth 20000 in
set_option maxHeartbeats 400000 in
theorem cltf (a b n x y : Int) (r : Bool) (A : Option Addr) (c : Nat) (xs : List (Int × Int)) (w : World) (k1 k2 k3 : Nat) (X1 : Hid (w.heap[k1]? = some (.cells #[.int .i64 a, .int .i64 b, .slice A xs.length c] 32))) (X2 : Hid (w.heap[k2]? = some (.cells #[.int .i64 n, .bool r] 53))) (X3 : Hid (w.heap[k3]? = some (.cells #[.int .i64 x, .int .i64 y] 29))) (X : Hid (RdF w A xs)) (R : Int) (Pr : Prop)
    (h : ∀ w, Hid (RdF w A xs) → Calls Try.prog 95 #[vn n r, scl a b A xs.length c, fr x y] w fun e w' => ((Pr ∧ e = .returned (.int .i64 R)) ∨ (¬ Pr ∧ ∃ ch, e = .panicked ch ∧ TooGreat ch)) ∧ Gr w w') :
    Calls Try.prog 94 #[.pointer (some ⟨k2, 0, none⟩), .pointer (some ⟨k1, 0, none⟩), .pointer (some ⟨k3, 0, none⟩)] w fun e w' => ((Pr ∧ e = .returned (.int .i64 R)) ∨ (¬ Pr ∧ ∃ ch, e = .panicked ch ∧ TooGreat ch)) ∧ Gr w w' := by
  have H := hid h; clear h
  go_enter Try.func94, Try.ntmps94
  obtain ⟨_, _, _⟩ := cells3 X1.out
  have _ := fz X1.out
  have _ := ltb X1.out
  obtain ⟨_, _⟩ := cells2 X2.out
  have _ := fz X2.out
  have _ := ltb X2.out
  obtain ⟨_, _⟩ := cells2 X3.out
  have _ := fz X3.out
  have _ := ltb X3.out
  go_wp2_with fail
  refine (H.out _ X).mono ?_
  rintro e w1 ⟨⟨hD, rfl⟩ | ⟨hD, ch, rfl, ht⟩, hg⟩
  · have HD := hid hD; have HG := hid hg
    clear hD hg
    go_wp2_with fail
    go_ret
    exact ⟨.inl ⟨HD.out, rfl⟩, HG.out⟩
  · exact ⟨rfl, .inr ⟨hD, ch, rfl, ht⟩, hg⟩
/-- All that is told of the misfits of a vernier's lines. -/
structure Fits (a b x y : Int) (r : Bool) (N : Nat) (xs : List (Int × Int)) (f : Nat → Bool × Int × Int) (R : Nat) (U V P0 Q0 : Int) : Prop where
  mis : ∀ i, i < N → Mis a b N (stp N r i) x y xs (f i).1 (f i).2.1 (f i).2.2
  first : (mfs f N)[0]? = some (P0, Q0)
  fl : fl ((mfs f N).drop 1) 1 0 P0 Q0 = (R, (U, V))
theorem lineFits_of (a b x y : Int) (r : Bool) (N : Nat) (xs : List (Int × Int)) (h : 0 < xs.length) (h2 : 2 ≤ N) : ∃ f R U V P0 Q0, Fits a b x y r N xs f R U V P0 Q0 := by
  have key : ∀ i : Nat, ∃ z : Bool × Int × Int, Mis a b N (stp N r i) x y xs z.1 z.2.1 z.2.2 := fun i => by
    obtain ⟨B, P, Q, M⟩ := mis_of a b N (stp N r i) x y xs h
    exact ⟨(B, P, Q), M⟩
  obtain ⟨f, hf⟩ := Classical.axiomOfChoice key
  obtain ⟨⟨P0, Q0⟩, h0⟩ : ∃ pq, (mfs f N)[0]? = some pq := ⟨_, mfs_get (by omega)⟩
  exact ⟨f, _, _, _, P0, Q0, fun i _ => hf i, h0, rfl⟩
theorem Fits.ok {a b x y : Int} {r : Bool} {N : Nat} {xs : List (Int × Int)} {f : Nat → Bool × Int × Int} {R : Nat} {U V P0 Q0 : Int} (F : Fits a b x y r N xs f R U V P0 Q0) (i : Nat) (hi : i < N) (h : (f i).1 = true) : okB (f i).2.1 (f i).2.2 = true := by
  have := F.mis i hi
  rw [h] at this
  exact this.ok
theorem Fits.all {a b x y : Int} {r : Bool} {N : Nat} {xs : List (Int × Int)} {f : Nat → Bool × Int × Int} {R : Nat} {U V P0 Q0 : Int} (F : Fits a b x y r N xs f R U V P0 Q0) (h : AllF f N) : (mfs f N).all (fun x => okB x.1 x.2) = true := by
  refine all_of fun k p q hk => ?_
  have hlt : k < N := by have := (List.getElem?_eq_some_iff.1 hk).1; rw [mfs_len] at this; exact this
  rw [mfs_get hlt] at hk
  cases hk
  exact F.ok k hlt (h k hlt)
theorem Fits.impl {a b x y : Int} {r : Bool} {N : Nat} {xs : List (Int × Int)} {f : Nat → Bool × Int × Int} {R : Nat} {U V P0 Q0 : Int} (F : Fits a b x y r N xs f R U V P0 Q0) (S : Scl a b xs) (n1 : 2 ≤ N) (n2 : N ≤ 40) (hx : okB x y = true) (A : Option Addr) (c : Nat) (w : World) (X : Hid (RdF w A xs)) :
    Calls Try.prog 95 #[vn N r, scl a b A xs.length c, fr x y] w fun e w' => ((AllF f N ∧ e = .returned (.int .i64 (R : Int))) ∨ (¬ AllF f N ∧ ∃ ch, e = .panicked ch ∧ TooGreat ch)) ∧ Gr w w' :=
  ilf a b x y r N A c xs f R P0 Q0 w X n1 n2 (fun i hi w X => imisfit a b N i x y r A c xs _ _ _ w X S (by omega) (by omega) (by omega) (by omega) hx (F.mis i hi)) F.all F.first (by rw [F.fl])
theorem bothLineThatFits (a b : Int) (xs : List (Int × Int)) (n : Int) (r : Bool) (x y : Int) (hn : xs.length ≤ 1048576) : ∃ R0 R1 : Int,
    (∀ (A : Option Addr) (c : Nat) (w : World), Hid (RdF w A xs) → Calls Try.prog 41 #[scl a b A xs.length c, vn n r, fr x y] w fun x w' => x = .returned (.tuple #[.int .i64 R0, .int .i64 R1]) ∧ Gr w w') ∧
    (∀ (A : Option Addr) (c : Nat) (w : World), Hid (RdF w A xs) → Calls Try.prog 42 #[scl a b A xs.length c, vn n r, fr x y] w fun x w' => x = .returned (.tuple #[.int .i64 R0, .int .i64 R1]) ∧ Gr w w') := by
  cases h : askB a b xs n x y with
  | false =>
    refine ⟨0, 1, fun A c w X => sLTF_0 a b n x y r A c xs w X hn h, fun A c w X => iLTF_0 1 a b n x y r A c xs w X (fun w X => ?_) rfl⟩
    cases h1 : sclB a b xs with
    | false => exact ichk_0 a b n x y r A c xs w X hn h1
    | true =>
      cases h2 : inB n 2 40 with
      | false => exact ichk_1 a b n x y r A c xs w X hn h1 h2
      | true =>
        have h3 : okB x y = false := by
          unfold askB at h
          rw [h1, h2] at h
          simpa using h
        exact ichk_2 a b n x y r A c xs w X hn h1 h2 h3
  | true =>
    obtain ⟨hs, hv, hx⟩ := ask_of h
    have S := scl_of hs
    obtain ⟨n1, n2⟩ := in_bd hv
    have h0 : 0 < xs.length := by have := S.lo; omega
    obtain ⟨u0, v0, u1, v1, E⟩ := ends_of S
    obtain ⟨N, rfl⟩ := Int.eq_ofNat_of_zero_le (show 0 ≤ n by omega)
    have hl := fun (A : Option Addr) (c : Nat) w => iline a b N (N - 1) x y r A xs.length c w n1 n2 (by omega) (by omega) S.unit hx
    have hls := fun (A : Option Addr) (c k1 k2 : Nat) w X1 X2 => sline a b N (N - 1) x y r k1 k2 (.slice A xs.length c) w X1 X2 n1 n2 (by omega) (by omega) S.unit hx
    by_cases hc : cmpI x y u0 v0 < 0
    · exact ⟨0, 2, fun A c w X => sLTF_1 0 2 a b N x y r A c xs w X hn h fun w j j2 X1 X2 X => sft_3 a b x y r N A c j j2 xs u0 v0 u1 v1 w X1 X2 X S (by omega) (by omega) hx E hc,
        fun A c w X => iLTF_0 2 a b N x y r A c xs w X (fun w X => ichk_3 a b N x y r A c xs u0 v0 u1 v1 w X h E hc) rfl⟩
    · cases hB : lnB a b N (stp N r (N - 1)) x y with
      | false =>
        refine ⟨0, 3, fun A c w X => sLTF_1 0 3 a b N x y r A c xs w X hn h fun w j j2 X1 X2 X => sft_4 a b x y r N A c j j2 xs u0 v0 u1 v1 w X1 X2 X S (by omega) (by omega) hx E hc fun w' hg => ?_,
          fun A c w X => iLTF_0 3 a b N x y r A c xs w X (fun w X => ichk_4 a b N x y r A c xs u0 v0 u1 v1 w X h E hc false _ _ (fun w => hB ▸ hl A c w) rfl) rfl⟩
        have := hls A c j j2 w' (hid (hg.keep X1.out)) (hid (hg.keep X2.out))
        rw [hB] at this
        exact this
      | true =>
        have hp := lnB_ok hB
        have hlt := fun (A : Option Addr) (c : Nat) w => hB ▸ hl A c w
        have hlst := fun (A : Option Addr) (c k1 k2 : Nat) w X1 X2 => by
          have := hls A c k1 k2 w X1 X2
          rw [hB] at this
          exact this
        obtain ⟨P, hP⟩ : ∃ P, lnP a b N (stp N r (N - 1)) x y = P := ⟨_, rfl⟩
        obtain ⟨Q, hQ⟩ : ∃ Q, lnQ a b N (stp N r (N - 1)) x y = Q := ⟨_, rfl⟩
        rw [hP, hQ] at hp hlt hlst
        by_cases hd : 0 < cmpI P Q u1 v1
        · exact ⟨0, 2, fun A c w X => sLTF_1 0 2 a b N x y r A c xs w X hn h fun w j j2 X1 X2 X => sft_5 a b x y r N A c j j2 xs u0 v0 u1 v1 w X1 X2 X S (by omega) (by omega) hx E hc P Q (fun w' hg => hlst A c j j2 w' (hid (hg.keep X1.out)) (hid (hg.keep X2.out))) hp hd,
            fun A c w X => iLTF_0 2 a b N x y r A c xs w X (fun w X => ichk_5 a b N x y r A c xs u0 v0 u1 v1 w X h E hc true P Q (hlt A c) rfl hp hd) rfl⟩
        · obtain ⟨f, R, U, V, P0, Q0, F⟩ := lineFits_of a b x y r N xs h0 (by omega)
          have hck := fun (A : Option Addr) (c : Nat) w X => ichk_6 a b N x y r A c xs u0 v0 u1 v1 w X h E hc true P Q (hlt A c) rfl hp hd
          have hsf := fun (A : Option Addr) (c j j2 : Nat) w X1 X2 X => sft_6 a b x y r N A c j j2 xs u0 v0 u1 v1 w X1 X2 X S (by omega) (by omega) hx E hc P Q (fun w' hg => hlst A c j j2 w' (hid (hg.keep X1.out)) (hid (hg.keep X2.out))) hp hd f R U V P0 Q0
            (fun i hi w' hg => smisfit a b N i x y r A c j j2 xs _ _ _ w' (hid (hg.keep X1.out)) (hid (hg.keep X2.out)) (hid (X.out.keep hg)) S n1 n2 (by omega) (by omega) hx (F.mis i hi)) F.ok F.first F.fl
          by_cases hA : AllF f N
          · refine ⟨R, 0, fun A c w X => sLTF_1 R 0 a b N x y r A c xs w X hn h fun w j j2 X1 X2 X => (hsf A c j j2 w X1 X2 X).mono ?_, fun A c w X => iLTF_1 R 0 a b N x y r A c xs w X (hck A c) fun w' j j2 j3 X1 X2 X3 X => told_ok_I _ _ _ w' (fun _ => by kernel_rfl) fun w2 hg2 => (cltf a b N x y r A c xs w2 j j2 j3 (hid (hg2.keep X1.out)) (hid (hg2.keep X2.out)) (hid (hg2.keep X3.out)) (hid (X.out.keep hg2)) R _ (F.impl S (by omega) (by omega) hx A c)).mono ?_⟩
            · rintro e w'' ⟨⟨_, rfl⟩ | ⟨hn', _⟩, hg⟩
              · exact ⟨rfl, hg⟩
              · exact absurd hA hn'
            · rintro e w'' ⟨⟨_, rfl⟩ | ⟨hn', _⟩, hg⟩
              · exact ⟨rfl, hg⟩
              · exact absurd hA hn'
          · refine ⟨0, 3, fun A c w X => sLTF_1 0 3 a b N x y r A c xs w X hn h fun w j j2 X1 X2 X => (hsf A c j j2 w X1 X2 X).mono ?_, fun A c w X => iLTF_1 0 3 a b N x y r A c xs w X (hck A c) fun w' j j2 j3 X1 X2 X3 X => told_great_I _ _ w' (fun _ => by kernel_rfl) fun w2 hg2 => (cltf a b N x y r A c xs w2 j j2 j3 (hid (hg2.keep X1.out)) (hid (hg2.keep X2.out)) (hid (hg2.keep X3.out)) (hid (X.out.keep hg2)) R _ (F.impl S (by omega) (by omega) hx A c)).mono ?_⟩
            · rintro e w'' ⟨⟨hD', _⟩ | ⟨_, rfl⟩, hg⟩
              · exact absurd hD' hA
              · exact ⟨rfl, hg⟩
            · rintro e w'' ⟨⟨hD', _⟩ | ⟨_, ch, rfl, u, v, rfl⟩, hg⟩
              · exact absurd hD' hA
              · exact ⟨⟨u, v, rfl⟩, hg⟩
end Go.Proofs.Ytfkmlgndggnhaaa
