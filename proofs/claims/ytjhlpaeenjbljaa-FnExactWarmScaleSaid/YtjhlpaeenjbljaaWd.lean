/- WALKS: WarmScale: the program. -/
import Derived.Test.YtjhlpaeenjbljaaWc
namespace Go.Proofs.Ytjhlpaeenjbljaa
open Go.RowKit Go.Sort

theorem okTen : okB 1 10 = true := by decide
theorem worder (s t : Int) (w : World) (h : okB s t = true) : Calls Try.prog 66 #[fr (absI s) t, fr 1 10] w fun e w' => (∃ v : Int, e = .returned (.int .i64 v) ∧ (0 < v ↔ t < absI s * 10)) ∧ Gr w w' :=
  (iord (absI s) t 1 10 w (absI_bd h) okTen).mono fun e w' ⟨he, hg⟩ => ⟨⟨_, he, by
    unfold cmpI
    rw [Int.one_mul]
    by_cases h1 : absI s * 10 < t
    · rw [if_pos h1]; constructor <;> intro h <;> omega
    · rw [if_neg h1]
      by_cases h2 : t < absI s * 10
      · rw [if_pos h2]; constructor <;> intro h <;> omega
      · rw [if_neg h2]; constructor <;> intro h <;> omega⟩, hg⟩
set_option maxRecDepth 20000 in
set_option maxHeartbeats 400000 in
theorem iWS_0 (a b s t : Int) (A : Option Addr) (c : Nat) (xs : List (Int × Int)) (w : World) (X : Hid (RdF w A xs)) (hn : xs.length ≤ 1048576) (h : sclB a b xs = false) :
    Calls Try.prog 21 #[scl a b A xs.length c, fr s t] w fun e w' => e = .returned (.tuple #[scl 0 0 none 0 0, .int .i64 1]) ∧ Gr w w' := by
  have h := hid h
  go_enter Try.func21, Try.ntmps21
  go_wp2_with fail
  refine (iScF a b A c xs _ (hid (X.out.keep ((((Gr.refl w).al _).al _).al _))) hn h.out).mono ?_
  rintro e w1 ⟨rfl, hg1⟩
  obtain ⟨x1_0, x1_1, x1_2, hz1, g1⟩ := alloc3 hg1
  obtain ⟨_, _, _⟩ := cells3 x1_0
  have _ := fz x1_0
  have _ := ltb x1_0
  obtain ⟨_, _⟩ := cells2 x1_1
  have _ := fz x1_1
  have _ := ltb x1_1
  obtain ⟨_, _, _⟩ := cells3 x1_2
  have _ := fz x1_2
  have _ := ltb x1_2
  have X1_0 := hid x1_0; clear x1_0
  have X1_1 := hid x1_1; clear x1_1
  have X1_2 := hid x1_2; clear x1_2
  have G1 := hid (g1)
  clear hg1 g1
  go_wp2
  refine bodyPost_ret (v := .tuple #[scl 0 0 none 0 0, .int .i64 1]) (by simp [results, Try.results21, go_sem, *]) rfl ⟨rfl, ?_⟩
  exact (((G1.out).setCell (by simp <;> omega) _).setCell (by simp <;> omega) _).setCell (by simp <;> omega) _
set_option maxRecDepth 20000 in
set_option maxHeartbeats 400000 in
theorem iWS_1 (a b s t : Int) (A : Option Addr) (c : Nat) (xs : List (Int × Int)) (w : World) (X : Hid (RdF w A xs)) (hn : xs.length ≤ 1048576) (h : sclB a b xs = true) (h2 : okB s t = false) :
    Calls Try.prog 21 #[scl a b A xs.length c, fr s t] w fun e w' => e = .returned (.tuple #[scl 0 0 none 0 0, .int .i64 1]) ∧ Gr w w' := by
  have h := hid h; have h2 := hid h2
  go_enter Try.func21, Try.ntmps21
  go_wp2_with fail
  refine (iScT a b A c xs _ (hid (X.out.keep ((((Gr.refl w).al _).al _).al _))) hn h.out).mono ?_
  rintro e w1 ⟨rfl, hg1⟩
  obtain ⟨x1_0, x1_1, x1_2, hz1, g1⟩ := alloc3 hg1
  obtain ⟨_, _, _⟩ := cells3 x1_0
  have _ := fz x1_0
  have _ := ltb x1_0
  obtain ⟨_, _⟩ := cells2 x1_1
  have _ := fz x1_1
  have _ := ltb x1_1
  obtain ⟨_, _, _⟩ := cells3 x1_2
  have _ := fz x1_2
  have _ := ltb x1_2
  have X1_0 := hid x1_0; clear x1_0
  have X1_1 := hid x1_1; clear x1_1
  have X1_2 := hid x1_2; clear x1_2
  have G1 := hid (g1)
  clear hg1 g1
  go_wp2_with fail
  refine (iok_f _ _ _ h2.out).mono ?_
  rintro e w2 ⟨rfl, hg2⟩
  have x2_1 := hg2.keep X1_0.out
  have x2_2 := hg2.keep X1_1.out
  have x2_3 := hg2.keep X1_2.out
  obtain ⟨_, _, _⟩ := cells3 x2_1
  have _ := fz x2_1
  have _ := ltb x2_1
  obtain ⟨_, _⟩ := cells2 x2_2
  have _ := fz x2_2
  have _ := ltb x2_2
  obtain ⟨_, _, _⟩ := cells3 x2_3
  have _ := fz x2_3
  have _ := ltb x2_3
  have X2_1 := hid x2_1; clear x2_1
  have X2_2 := hid x2_2; clear x2_2
  have X2_3 := hid x2_3; clear x2_3
  have G2 := hid (G1.out.trans hg2)
  clear hg2
  go_wp2
  refine bodyPost_ret (v := .tuple #[scl 0 0 none 0 0, .int .i64 1]) (by simp [results, Try.results21, go_sem, *]) rfl ⟨rfl, ?_⟩
  exact (((G2.out).setCell (by simp <;> omega) _).setCell (by simp <;> omega) _).setCell (by simp <;> omega) _
set_option maxRecDepth 20000 in
set_option maxHeartbeats 400000 in
theorem iWS_2 (a b s t : Int) (A : Option Addr) (c : Nat) (xs : List (Int × Int)) (w : World) (X : Hid (RdF w A xs)) (hn : xs.length ≤ 1048576) (h : sclB a b xs = true) (h2 : okB s t = true) (h3 : t < absI s * 10) :
    Calls Try.prog 21 #[scl a b A xs.length c, fr s t] w fun e w' => e = .returned (.tuple #[scl 0 0 none 0 0, .int .i64 2]) ∧ Gr w w' := by
  have h := hid h; have h2 := hid h2; have h3 := hid h3
  go_enter Try.func21, Try.ntmps21
  go_wp2_with fail
  refine (iScT a b A c xs _ (hid (X.out.keep ((((Gr.refl w).al _).al _).al _))) hn h.out).mono ?_
  rintro e w1 ⟨rfl, hg1⟩
  obtain ⟨x1_0, x1_1, x1_2, hz1, g1⟩ := alloc3 hg1
  obtain ⟨_, _, _⟩ := cells3 x1_0
  have _ := fz x1_0
  have _ := ltb x1_0
  obtain ⟨_, _⟩ := cells2 x1_1
  have _ := fz x1_1
  have _ := ltb x1_1
  obtain ⟨_, _, _⟩ := cells3 x1_2
  have _ := fz x1_2
  have _ := ltb x1_2
  have X1_0 := hid x1_0; clear x1_0
  have X1_1 := hid x1_1; clear x1_1
  have X1_2 := hid x1_2; clear x1_2
  have G1 := hid (g1)
  clear hg1 g1
  go_wp2_with fail
  refine (iok_t _ _ _ h2.out).mono ?_
  rintro e w2 ⟨rfl, hg2⟩
  have x2_1 := hg2.keep X1_0.out
  have x2_2 := hg2.keep X1_1.out
  have x2_3 := hg2.keep X1_2.out
  obtain ⟨_, _, _⟩ := cells3 x2_1
  have _ := fz x2_1
  have _ := ltb x2_1
  obtain ⟨_, _⟩ := cells2 x2_2
  have _ := fz x2_2
  have _ := ltb x2_2
  obtain ⟨_, _, _⟩ := cells3 x2_3
  have _ := fz x2_3
  have _ := ltb x2_3
  have X2_1 := hid x2_1; clear x2_1
  have X2_2 := hid x2_2; clear x2_2
  have X2_3 := hid x2_3; clear x2_3
  have G2 := hid (G1.out.trans hg2)
  clear hg2
  go_wp2_with fail
  refine (isize_gr _ _ _ h2.out).mono ?_
  rintro e w3 ⟨rfl, hg3⟩
  have x3_1 := hg3.keep X2_1.out
  have x3_2 := hg3.keep X2_2.out
  have x3_3 := hg3.keep X2_3.out
  obtain ⟨_, _, _⟩ := cells3 x3_1
  have _ := fz x3_1
  have _ := ltb x3_1
  obtain ⟨_, _⟩ := cells2 x3_2
  have _ := fz x3_2
  have _ := ltb x3_2
  obtain ⟨_, _, _⟩ := cells3 x3_3
  have _ := fz x3_3
  have _ := ltb x3_3
  have X3_1 := hid x3_1; clear x3_1
  have X3_2 := hid x3_2; clear x3_2
  have X3_3 := hid x3_3; clear x3_3
  have G3 := hid (G2.out.trans hg3)
  clear hg3
  go_wp2_with fail
  refine (worder s t _ h2.out).mono ?_
  rintro e w4 ⟨⟨v, rfl, hv⟩, hg4⟩
  have hv0 : 0 < v := hv.2 h3.out
  have Y4 := hid (hg4.keep X3_3.out); have G4 := hid (G3.out.trans hg4)
  clear hv hg4
  obtain ⟨_, _, _⟩ := cells3 Y4.out
  have _ := fz Y4.out
  have _ := ltb Y4.out
  go_wp2_with fail
  refine bodyPost_ret (v := .tuple #[scl 0 0 none 0 0, .int .i64 2]) (by simp [results, Try.results21, go_sem, *]) rfl ⟨rfl, ?_⟩
  exact ((G4.out.setCell (by simp; omega) _).setCell (by simp; omega) _).setCell (by simp; omega) _
set_option maxRecDepth 20000 in
set_option maxHeartbeats 1000000 in
theorem iWS_3 (a b s t : Int) (A : Option Addr) (c : Nat) (xs : List (Int × Int)) (w : World) (X : Hid (RdF w A xs)) (hn : xs.length ≤ 1048576) (h : sclB a b xs = true) (h2 : okB s t = true) (h3 : ¬ t < absI s * 10)
    (hp : ∀ w' k1 k2, Hid (w'.heap[k1]? = some (.cells #[.int .i64 s, .int .i64 t] 24)) → Hid (w'.heap[k2]? = some (.cells #[.int .i64 a, .int .i64 b, .slice A xs.length c] 27)) → Hid (RdF w' A xs) → Calls Try.prog 68 #[.pointer (some ⟨k1, 0, none⟩), .pointer (some ⟨k2, 0, none⟩)] w' fun e w'' => (∃ x y, e = .panicked [{ v := .iface 138 (fr x y), recovered := false }]) ∧ Gr w' w'') :
    Calls Try.prog 21 #[scl a b A xs.length c, fr s t] w fun e w' => e = .returned (.tuple #[scl 0 0 none 0 0, .int .i64 3]) ∧ Gr w w' := by
  have h := hid h; have h2 := hid h2; have h3 := hid h3; have HP := hid hp; clear hp
  go_enter Try.func21, Try.ntmps21
  go_wp2_with fail
  refine (iScT a b A c xs _ (hid (X.out.keep ((((Gr.refl w).al _).al _).al _))) hn h.out).mono ?_
  rintro e w1 ⟨rfl, hg1⟩
  obtain ⟨x1_0, x1_1, x1_2, hz1, g1⟩ := alloc3 hg1
  obtain ⟨_, _, _⟩ := cells3 x1_0
  have _ := fz x1_0
  have _ := ltb x1_0
  obtain ⟨_, _⟩ := cells2 x1_1
  have _ := fz x1_1
  have _ := ltb x1_1
  obtain ⟨_, _, _⟩ := cells3 x1_2
  have _ := fz x1_2
  have _ := ltb x1_2
  have X1_0 := hid x1_0; clear x1_0
  have X1_1 := hid x1_1; clear x1_1
  have X1_2 := hid x1_2; clear x1_2
  have G1 := hid (g1)
  clear hg1 g1
  go_wp2_with fail
  refine (iok_t _ _ _ h2.out).mono ?_
  rintro e w2 ⟨rfl, hg2⟩
  have x2_1 := hg2.keep X1_0.out
  have x2_2 := hg2.keep X1_1.out
  have x2_3 := hg2.keep X1_2.out
  obtain ⟨_, _, _⟩ := cells3 x2_1
  have _ := fz x2_1
  have _ := ltb x2_1
  obtain ⟨_, _⟩ := cells2 x2_2
  have _ := fz x2_2
  have _ := ltb x2_2
  obtain ⟨_, _, _⟩ := cells3 x2_3
  have _ := fz x2_3
  have _ := ltb x2_3
  have X2_1 := hid x2_1; clear x2_1
  have X2_2 := hid x2_2; clear x2_2
  have X2_3 := hid x2_3; clear x2_3
  have G2 := hid (G1.out.trans hg2)
  clear hg2
  go_wp2_with fail
  refine (isize_gr _ _ _ h2.out).mono ?_
  rintro e w3 ⟨rfl, hg3⟩
  have x3_1 := hg3.keep X2_1.out
  have x3_2 := hg3.keep X2_2.out
  have x3_3 := hg3.keep X2_3.out
  obtain ⟨_, _, _⟩ := cells3 x3_1
  have _ := fz x3_1
  have _ := ltb x3_1
  obtain ⟨_, _⟩ := cells2 x3_2
  have _ := fz x3_2
  have _ := ltb x3_2
  obtain ⟨_, _, _⟩ := cells3 x3_3
  have _ := fz x3_3
  have _ := ltb x3_3
  have X3_1 := hid x3_1; clear x3_1
  have X3_2 := hid x3_2; clear x3_2
  have X3_3 := hid x3_3; clear x3_3
  have G3 := hid (G2.out.trans hg3)
  clear hg3
  go_wp2_with fail
  refine (worder s t _ h2.out).mono ?_
  rintro e w4 ⟨⟨v, rfl, hv⟩, hg4⟩
  have hv0 : ¬ 0 < v := fun hh => by have := hv.1 hh; have := h3.out; omega
  have Y1 := hid (hg4.keep X3_1.out); have Y2 := hid (hg4.keep X3_2.out); have Y4 := hid (hg4.keep X3_3.out); have G4 := hid (G3.out.trans hg4)
  clear hv hg4
  go_wp2_with fail
  refine (toldS_great 68 #[.pointer (some ⟨w.heap.size + 1, 0, none⟩), .pointer (some ⟨w.heap.size, 0, none⟩)] _ (fun _ => by kernel_rfl) fun w' hg' => HP.out w' _ _ (hid (hg'.keep Y2.out)) (hid (hg'.keep Y1.out)) (hid (X.out.keep (G4.out.trans hg')))).mono ?_
  rintro e w5 ⟨rfl, hg5⟩
  have G5 := hid (G4.out.trans hg5)
  have Y5 := hid (hg5.keep Y4.out)
  clear hg5
  obtain ⟨_, _, _⟩ := cells3 Y5.out
  have _ := fz Y5.out
  have _ := ltb Y5.out
  go_wp2_with fail
  refine bodyPost_ret (v := .tuple #[scl 0 0 none 0 0, .int .i64 3]) (by simp [results, Try.results21, go_sem, *]) rfl ?_
  exact ⟨rfl, (((G5.out.setCell (by simp; omega) _).setCell (by simp; omega) _).setCell (by simp; omega) _).al _⟩
set_option maxRecDepth 20000 in
set_option maxHeartbeats 2000000 in
theorem iWS_4 (a b s t P Q : Int) (A : Option Addr) (c : Nat) (xs zs : List (Int × Int)) (w : World) (X : Hid (RdF w A xs)) (hn : xs.length ≤ 1048576) (hz : zs.length ≤ 1048576) (h : sclB a b xs = true) (h2 : okB s t = true) (h3 : ¬ t < absI s * 10)
    (hp : ∀ w' k1 k2, Hid (w'.heap[k1]? = some (.cells #[.int .i64 s, .int .i64 t] 24)) → Hid (w'.heap[k2]? = some (.cells #[.int .i64 a, .int .i64 b, .slice A xs.length c] 27)) → Hid (RdF w' A xs) → Calls Try.prog 68 #[.pointer (some ⟨k1, 0, none⟩), .pointer (some ⟨k2, 0, none⟩)] w' fun e w'' => ∃ A' c', e = .returned (scl P Q A' zs.length c') ∧ (∀ ad, A' = some ad → w'.heap.size ≤ ad.block ∧ ad.block < w''.heap.size) ∧ OwnW w'' A' zs ∧ Gr w' w'') :
    Calls Try.prog 21 #[scl a b A xs.length c, fr s t] w fun e w' => (sclB P Q zs = true ∧ GivesW w w' e P Q zs 0) ∨ (sclB P Q zs = false ∧ GivesW w w' e 0 0 [] 3) := by
  have h := hid h; have h2 := hid h2; have h3 := hid h3; have HP := hid hp; clear hp
  have HOT := hid fun (A' : Option Addr) (c' : Nat) (w' : World) (Z : Hid (RdF w' A' zs)) (hs : sclB P Q zs = true) => iOr_t 3 P Q A' c' zs w' Z hz hs
  have HOF := hid fun (A' : Option Addr) (c' : Nat) (w' : World) (Z : Hid (RdF w' A' zs)) (hs : sclB P Q zs = false) => iOr_f 3 P Q A' c' zs w' Z hz hs
  go_enter Try.func21, Try.ntmps21
  go_wp2_with fail
  refine (iScT a b A c xs _ (hid (X.out.keep ((((Gr.refl w).al _).al _).al _))) hn h.out).mono ?_
  rintro e w1 ⟨rfl, hg1⟩
  obtain ⟨x1_0, x1_1, x1_2, hz1, g1⟩ := alloc3 hg1
  obtain ⟨_, _, _⟩ := cells3 x1_0
  have _ := fz x1_0
  have _ := ltb x1_0
  obtain ⟨_, _⟩ := cells2 x1_1
  have _ := fz x1_1
  have _ := ltb x1_1
  obtain ⟨_, _, _⟩ := cells3 x1_2
  have _ := fz x1_2
  have _ := ltb x1_2
  have X1_0 := hid x1_0; clear x1_0
  have X1_1 := hid x1_1; clear x1_1
  have X1_2 := hid x1_2; clear x1_2
  have G1 := hid (g1)
  clear hg1 g1
  go_wp2_with fail
  refine (iok_t _ _ _ h2.out).mono ?_
  rintro e w2 ⟨rfl, hg2⟩
  have x2_1 := hg2.keep X1_0.out
  have x2_2 := hg2.keep X1_1.out
  have x2_3 := hg2.keep X1_2.out
  obtain ⟨_, _, _⟩ := cells3 x2_1
  have _ := fz x2_1
  have _ := ltb x2_1
  obtain ⟨_, _⟩ := cells2 x2_2
  have _ := fz x2_2
  have _ := ltb x2_2
  obtain ⟨_, _, _⟩ := cells3 x2_3
  have _ := fz x2_3
  have _ := ltb x2_3
  have X2_1 := hid x2_1; clear x2_1
  have X2_2 := hid x2_2; clear x2_2
  have X2_3 := hid x2_3; clear x2_3
  have G2 := hid (G1.out.trans hg2)
  clear hg2
  go_wp2_with fail
  refine (isize_gr _ _ _ h2.out).mono ?_
  rintro e w3 ⟨rfl, hg3⟩
  have x3_1 := hg3.keep X2_1.out
  have x3_2 := hg3.keep X2_2.out
  have x3_3 := hg3.keep X2_3.out
  obtain ⟨_, _, _⟩ := cells3 x3_1
  have _ := fz x3_1
  have _ := ltb x3_1
  obtain ⟨_, _⟩ := cells2 x3_2
  have _ := fz x3_2
  have _ := ltb x3_2
  obtain ⟨_, _, _⟩ := cells3 x3_3
  have _ := fz x3_3
  have _ := ltb x3_3
  have X3_1 := hid x3_1; clear x3_1
  have X3_2 := hid x3_2; clear x3_2
  have X3_3 := hid x3_3; clear x3_3
  have G3 := hid (G2.out.trans hg3)
  clear hg3
  go_wp2_with fail
  refine (worder s t _ h2.out).mono ?_
  rintro e w4 ⟨⟨v, rfl, hv⟩, hg4⟩
  have hv0 : ¬ 0 < v := fun hh => by have := hv.1 hh; have := h3.out; omega
  have Y1 := hid (hg4.keep X3_1.out); have Y2 := hid (hg4.keep X3_2.out); have Y4 := hid (hg4.keep X3_3.out); have G4 := hid (G3.out.trans hg4)
  have hb4 : w.heap.size + 1 + 1 < w4.heap.size := ltb (hg4.keep X3_3.out)
  have HB4 := hid hb4
  clear hv hg4 hb4
  go_wp2_with fail
  refine (toldW_ok 68 #[.pointer (some ⟨w.heap.size + 1, 0, none⟩), .pointer (some ⟨w.heap.size, 0, none⟩)] P Q zs _ (fun _ => by kernel_rfl) fun w' hg' => HP.out w' _ _ (hid (hg'.keep Y2.out)) (hid (hg'.keep Y1.out)) (hid (X.out.keep (G4.out.trans hg')))).mono ?_
  rintro e w5 ⟨A', c', rfl, hbd, own, hg5⟩
  have OWN := hid own; have HB := hid hbd; have G5 := hid (G4.out.trans hg5)
  have Y5 := hid (hg5.keep Y4.out)
  have OWN5 := hid (own.keep ((Gr.refl w5).al (.cells #[.int .i64 P, .int .i64 Q, .slice A' zs.length c'] 27)))
  have RO := hid OWN5.out.rd
  have Y6 := hid (((Gr.refl w5).al (.cells #[.int .i64 P, .int .i64 Q, .slice A' zs.length c'] 27)).keep Y5.out)
  clear own hg5 hbd
  obtain ⟨_, _, _⟩ := cells3 Y5.out
  have _ := fz Y5.out
  have _ := ltb Y5.out
  cases hsc : sclB P Q zs with
  | true =>
    have HSC := hid hsc
    go_wp2_with fail
    refine (HOT.out _ _ _ RO HSC.out).mono ?_
    rintro e w7 ⟨rfl, hg7⟩
    have OWN7 := hid (OWN5.out.keep hg7); have Z7 := hid (hg7.keep Y6.out); have G7 := hid ((G5.out.al (.cells #[.int .i64 P, .int .i64 Q, .slice A' zs.length c'] 27)).trans hg7)
    have HZ7 := hid (show w5.heap.size < w7.heap.size by have := hg7.size; simp at this; omega)
    clear hg7 hsc
    obtain ⟨_, _, _⟩ := cells3 Z7.out
    have _ := fz Z7.out
    have _ := ltb Z7.out
    have hb4 := HB4.out
    go_wp2_with fail
    refine bodyPost_ret (v := .tuple #[scl P Q A' zs.length c', .int .i64 0]) (by simp [results, Try.results21, go_sem, *]) rfl ?_
    have hne : ∀ ad : Addr, A' = some ad → ad.block ≠ w.heap.size + 1 + 1 := fun ad he => by have := (HB.out ad he).1; omega
    exact .inl ⟨HSC.out, A', c', rfl, fun ad he => by have := HB.out ad he; have := HZ7.out; simp; omega, ((OWN7.out.set hne _).set hne _).set hne _, ((G7.out.setCell (by simp; omega) _).setCell (by simp; omega) _).setCell (by simp; omega) _⟩
  | false =>
    have HSC := hid hsc
    go_wp2_with fail
    refine (HOF.out _ _ _ RO HSC.out).mono ?_
    rintro e w7 ⟨rfl, hg7⟩
    have Z7 := hid (hg7.keep Y6.out); have G7 := hid ((G5.out.al (.cells #[.int .i64 P, .int .i64 Q, .slice A' zs.length c'] 27)).trans hg7)
    clear hg7 hsc
    obtain ⟨_, _, _⟩ := cells3 Z7.out
    have _ := fz Z7.out
    have _ := ltb Z7.out
    go_wp2_with fail
    refine bodyPost_ret (v := .tuple #[scl 0 0 none 0 0, .int .i64 3]) (by simp [results, Try.results21, go_sem, *]) rfl ?_
    exact .inr ⟨HSC.out, none, 0, rfl, fun ad he => (by cases he), .inl rfl, ((G7.out.setCell (by simp; omega) _).setCell (by simp; omega) _).setCell (by simp; omega) _⟩
end Go.Proofs.Ytjhlpaeenjbljaa
