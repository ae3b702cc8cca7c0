/- WALKS: MisfitOf, of the program and of the reference. -/
import Derived.Test.YtfkmlgndggnhaaaSkr
import Derived.Test.YtfkmlgndggnhaaaSkk
namespace Go.Proofs.Ytfkmlgndggnhaaa
open Go.RowKit Go.Sort

theorem fl_get (L : List (Int × Int)) : ∀ (m n b : Nat) (P Q : Int), L.length - n = m → L[b]? = some (P, Q) → L[(fl (L.drop n) n b P Q).1]? = some (fl (L.drop n) n b P Q).2 := by
  intro m
  induction m with
  | zero =>
    intro n b P Q hm hb
    rw [List.drop_eq_nil_of_le (by omega)]
    exact hb
  | succ m ih =>
    intro n b P Q hm hb
    obtain ⟨⟨p, q⟩, hpq⟩ : ∃ pq, L[n]? = some pq := ⟨L[n]'(by omega), List.getElem?_eq_getElem _⟩
    rw [fl_step hpq]
    split
    · exact ih (n + 1) n p q (by omega) hpq
    · exact ih (n + 1) b P Q (by omega) hb
theorem Near.get {a b x y : Int} {xs : List (Int × Int)} {R : Nat} {U V P0 Q0 : Int} (N : Near a b x y xs R U V P0 Q0) : (dists x y (mks a b xs))[R]? = some (U, V) := by
  have := fl_get (dists x y (mks a b xs)) _ 1 0 P0 Q0 rfl N.first
  rw [N.fl] at this
  exact this
/-- What a misfit is: B tells whether it can be told. -/
def Mis (a b n t x y : Int) (xs : List (Int × Int)) (B : Bool) (P Q : Int) : Prop :=
  (lnB a b n t x y = false ∧ B = false) ∨ (lnB a b n t x y = true ∧ ∃ (R : Nat) (U V P0 Q0 : Int), Near a b (lnP a b n t x y) (lnQ a b n t x y) xs R U V P0 Q0 ∧
    ((AllD (lnP a b n t x y) (lnQ a b n t x y) (mks a b xs) ∧ B = true ∧ P = U ∧ Q = V) ∨ (¬ AllD (lnP a b n t x y) (lnQ a b n t x y) (mks a b xs) ∧ B = false)))
theorem mis_of (a b n t x y : Int) (xs : List (Int × Int)) (h : 0 < xs.length) : ∃ B P Q, Mis a b n t x y xs B P Q := by
  cases hl : lnB a b n t x y with
  | false => exact ⟨false, 0, 0, .inl ⟨hl, rfl⟩⟩
  | true =>
    obtain ⟨R, U, V, P0, Q0, N⟩ := near_of a b (lnP a b n t x y) (lnQ a b n t x y) xs h
    by_cases hD : AllD (lnP a b n t x y) (lnQ a b n t x y) (mks a b xs)
    · exact ⟨true, U, V, .inr ⟨hl, R, U, V, P0, Q0, N, .inl ⟨hD, rfl, rfl, rfl⟩⟩⟩
    · exact ⟨false, 0, 0, .inr ⟨hl, R, U, V, P0, Q0, N, .inr ⟨hD, rfl⟩⟩⟩
theorem lnB_ok {a b n t x y : Int} (h : lnB a b n t x y = true) : okB (lnP a b n t x y) (lnQ a b n t x y) = true := by
  unfold lnB at h
  simp only [Bool.and_eq_true] at h
  exact h.2.2
theorem Mis.ok {a b n t x y : Int} {xs : List (Int × Int)} {P Q : Int} (h : Mis a b n t x y xs true P Q) : okB P Q = true := by
  rcases h with ⟨_, h⟩ | ⟨_, R, U, V, P0, Q0, N, ⟨hD, _, rfl, rfl⟩ | ⟨_, h⟩⟩
  · cases h
  · exact all_get N.get (dists_ok hD)
  · cases h

/-! The program -/
set_option maxRecDepth 20000 in
set_option maxHeartbeats 1000000 in
theorem imis_1 (a b n i x y : Int) (r : Bool) (A : Option Addr) (m c : Nat) (w : World) (hl : ∀ w, Calls Try.prog 89 #[vn n r, scl a b A m c, fr x y, .int .i64 i] w fun e w' => (∃ x y, e = .panicked [{ v := .iface 125 (fr x y), recovered := false }]) ∧ Gr w w') :
    Calls Try.prog 91 #[vn n r, scl a b A m c, fr x y, .int .i64 i] w fun e w' => (∃ x y, e = .panicked [{ v := .iface 125 (fr x y), recovered := false }]) ∧ Gr w w' := by
  have HL := hid hl; clear hl
  go_enter Try.func91, Try.ntmps91
  go_wp2_with fail
  refine wp_regP 5 [6, 7] (by kernel_rfl) (by kernel_rfl) rfl ?_
  apply Exists.intro
  refine ⟨89, #[vn n r, scl a b A m c, fr x y, .int .i64 i], fun wb hb => ?_, ?_⟩
  · obtain ⟨y0, y1, y2, y3, _, _⟩ := alloc4 (Gr.refl _)
    obtain ⟨_, _⟩ := hb.at2 y0
    obtain ⟨_, _, _⟩ := hb.at3 y1
    obtain ⟨_, _⟩ := hb.at2 y2
    obtain ⟨_, _⟩ := hb.at2 y3
    clear y0 y1 y2 y3
    simp only [headOps, List.contains, List.elem, List.length_cons, List.length_nil, Nat.zero_add, Nat.reduceAdd, Nat.reduceBEq, reduceIte, Bool.false_eq_true, dumOp]
    repeat (first | go_big_quiet_step (first | (fail)) | quiet_step (fail))
    exact wpQuiet_nil rfl
  refine ⟨fun w' => by kernel_rfl, fun w' hg' => (HL.out w').mono fun e w2 ⟨⟨x, y, he⟩, hg2⟩ => ⟨_, he, fun a' ha' => ⟨ha', ⟨x, y, rfl⟩, ((((((Gr.refl _).al _).al _).al _).al _).trans hg').trans hg2⟩⟩⟩
set_option maxRecDepth 20000 in
set_option maxHeartbeats 1000000 in
theorem imis_2 (a b n i x y p q : Int) (r : Bool) (A : Option Addr) (c : Nat) (xs : List (Int × Int)) (R : Nat) (U V P0 Q0 : Int) (N : Near a b p q xs R U V P0 Q0) (w : World) (X : Hid (RdF w A xs)) (S : Scl a b xs) (hpq : okB p q = true)
    (hl : ∀ w, Calls Try.prog 89 #[vn n r, scl a b A xs.length c, fr x y, .int .i64 i] w fun e w' => e = .returned (fr p q) ∧ Gr w w') :
    Calls Try.prog 91 #[vn n r, scl a b A xs.length c, fr x y, .int .i64 i] w fun e w' => ((AllD p q (mks a b xs) ∧ e = .returned (fr U V)) ∨ (¬ AllD p q (mks a b xs) ∧ ∃ ch, e = .panicked ch ∧ TooGreat ch)) ∧ Gr w w' := by
  have HL := hid hl; clear hl
  have HD := hid fun (w' : World) (Z : Hid (RdF w' A xs)) => idist a b p q A c xs (mks a b xs) rfl w' Z S.hi S.unit S.all hpq S.mark
  have hlen : (dists p q (mks a b xs)).length = xs.length := by rw [dists_len, mks_len]
  have hhi := S.hi
  have HOK := hid fun h => dists_ok (x := p) (y := q) (ms := mks a b xs) h
  have HF := hid N.first; have HFL := hid N.fl; have HGT := hid N.get
  obtain ⟨Pr, hPr⟩ : ∃ Pr, AllD p q (mks a b xs) = Pr := ⟨_, rfl⟩
  obtain ⟨D, hD⟩ : ∃ D, dists p q (mks a b xs) = D := ⟨_, rfl⟩
  obtain ⟨ms, hms⟩ : ∃ ms, mks a b xs = ms := ⟨_, rfl⟩
  have hml : ms.length = xs.length := by rw [← hms, mks_len]
  unfold distPost at HD
  simp only [hPr, hD] at HD HOK HF HFL HGT hlen ⊢
  simp only [hms, hml] at HD
  have HLEN := hid hlen
  clear S hpq N hPr hD hms hlen
  go_enter Try.func91, Try.ntmps91
  go_wp2_with fail
  refine wp_reg0 6 (by kernel_rfl) (by kernel_rfl) ?_
  apply Exists.intro
  refine ⟨fun wb hb => ?_, ?_⟩
  · obtain ⟨y0, y1, y2, y3, _, _⟩ := alloc4 (Gr.refl _)
    obtain ⟨_, _⟩ := hb.at2 y0
    obtain ⟨_, _, _⟩ := hb.at3 y1
    obtain ⟨_, _⟩ := hb.at2 y2
    obtain ⟨_, _⟩ := hb.at2 y3
    clear y0 y1 y2 y3
    simp only [headOps, List.contains, List.elem, reduceIte, Bool.false_eq_true]
    repeat (first | go_big_quiet_step (first | (go_at_call 89; exact Calls.of_gr (HL.out _))) | quiet_step (fail))
    exact wpQuiet_nil rfl
  intro w1 hg1
  obtain ⟨x1_0, x1_1, x1_2, x1_3, hz1, g1⟩ := alloc4 hg1
  obtain ⟨_, _⟩ := cells2 x1_0
  have _ := fz x1_0
  have _ := ltb x1_0
  obtain ⟨_, _, _⟩ := cells3 x1_1
  have _ := fz x1_1
  have _ := ltb x1_1
  obtain ⟨_, _⟩ := cells2 x1_2
  have _ := fz x1_2
  have _ := ltb x1_2
  obtain ⟨_, _⟩ := cells2 x1_3
  have _ := fz x1_3
  have _ := ltb x1_3
  have X1_0 := hid x1_0; clear x1_0
  have X1_1 := hid x1_1; clear x1_1
  have X1_2 := hid x1_2; clear x1_2
  have X1_3 := hid x1_3; clear x1_3
  have G1 := hid (g1)
  clear hg1 g1
  go_wp2_with fail
  refine (HD.out _ (hid (X.out.keep G1.out))).mono ?_
  rintro e w2 ⟨hg, ⟨hD, v, rfl, own⟩ | ⟨hD, ch, rfl, ht⟩⟩
  · rw [← HLEN.out] at own
    obtain ⟨A', c', rfl, hr⟩ := RdF.of_own own
    have HG := hid hg; have HR := hid hr; have HAD := hid hD
    clear hg hr hD own
    go_wp2_with fail
    refine (ifirst A' c' D P0 Q0 R _ HR (by have := HLEN.out; omega) (HOK.out HAD.out) HF.out (by rw [HFL.out])).mono ?_
    rintro e w3 ⟨rfl, hg3⟩
    obtain ⟨ad, rfl, c1, c2⟩ := (HR.out.keep hg3) R U V HGT.out
    have hR : R < D.length := (List.getElem?_eq_some_iff.1 HGT.out).1
    have z3 := hg3.keep (HG.out.keep X1_3.out)
    obtain ⟨_, _⟩ := cells2 z3
    have _ := fz z3
    have _ := ltb z3
    have HG3 := hid (G1.out.trans (HG.out.trans hg3))
    clear hg3 z3
    go_wp2_with fail
    refine bodyPost_ret (v := fr U V) (by simp [results, Try.results91, go_sem, *]) rfl ⟨.inl ⟨HAD.out, rfl⟩, ?_⟩
    exact (HG3.out.setCell (by simp <;> omega) _).setCell (by simp <;> omega) _
  · exact ⟨rfl, .inr ⟨hD, ch, rfl, ht⟩, G1.out.trans hg⟩
theorem imisfit (a b n i x y : Int) (r : Bool) (A : Option Addr) (c : Nat) (xs : List (Int × Int)) (B : Bool) (P Q : Int) (w : World) (X : Hid (RdF w A xs)) (S : Scl a b xs) (n1 : 2 ≤ n) (n2 : n ≤ 40) (i1 : 0 ≤ i) (i2 : i ≤ n) (hx : okB x y = true) (M : Mis a b n (stp n r i) x y xs B P Q) :
    Calls Try.prog 91 #[vn n r, scl a b A xs.length c, fr x y, .int .i64 i] w (ResI B P Q w) := by
  have hl := fun w => iline a b n i x y r A xs.length c w n1 n2 i1 i2 S.unit hx
  rcases M with ⟨h, rfl⟩ | ⟨h, R, U, V, P0, Q0, N, h2⟩
  · refine (imis_1 a b n i x y r A xs.length c w fun w => (hl w).mono fun e w' ⟨_, h2, h3⟩ => ⟨h2 h, h3⟩).mono fun e w' ⟨h1, h2⟩ => ⟨fun h => (by cases h), fun _ => h1, h2⟩
  · refine (imis_2 a b n i x y _ _ r A c xs R U V P0 Q0 N w X S (lnB_ok h) fun w => (hl w).mono fun e w' ⟨h1, _, h3⟩ => ⟨h1 h, h3⟩).mono ?_
    rintro e w' ⟨⟨hD, rfl⟩ | ⟨hD, ch, rfl, u, v, rfl⟩, hg⟩
    · rcases h2 with ⟨_, rfl, rfl, rfl⟩ | ⟨hD', _⟩
      · exact ⟨fun _ => rfl, fun h => (by cases h), hg⟩
      · exact absurd hD hD'
    · rcases h2 with ⟨hD', _⟩ | ⟨_, rfl⟩
      · exact absurd hD' hD
      · exact ⟨fun h => (by cases h), fun _ => ⟨u, v, rfl⟩, hg⟩

/-! The reference -/
set_option maxRecDepth 20000 in
set_option maxHeartbeats 1000000 in
theorem smis_1 (i x y : Int) (p1 p2 : Value) (w : World) (hl : Calls Try.prog 87 #[p1, p2, fr x y, .int .i64 i] ((w.alloc (.cells #[.int .i64 x, .int .i64 y] 29)).alloc (.cells #[.int .i64 0, .int .i64 0] 29)) fun e w' => e = .returned (.tuple #[fr 0 0, .int .i64 3]) ∧ Gr ((w.alloc (.cells #[.int .i64 x, .int .i64 y] 29)).alloc (.cells #[.int .i64 0, .int .i64 0] 29)) w') :
    Calls Try.prog 90 #[p1, p2, fr x y, .int .i64 i] w fun e w' => e = .returned (.tuple #[fr 0 0, .int .i64 3]) ∧ Gr w w' := by
  have HL := hid hl; clear hl
  go_enter Try.func90, Try.ntmps90
  go_wp2_with fail
  refine (HL.out).mono ?_
  rintro e w1 ⟨rfl, hg1⟩
  obtain ⟨x1_0, x1_1, hz1, g1⟩ := alloc2 hg1
  obtain ⟨_, _⟩ := cells2 x1_0
  have _ := fz x1_0
  have _ := ltb x1_0
  obtain ⟨_, _⟩ := cells2 x1_1
  have _ := fz x1_1
  have _ := ltb x1_1
  have X1_0 := hid x1_0; clear x1_0
  have X1_1 := hid x1_1; clear x1_1
  have G1 := hid (g1)
  clear hg1 g1
  go_wp2
  refine bodyPost_ret (v := .tuple #[fr 0 0, .int .i64 3]) (by simp [results, Try.results90, go_sem, *]) rfl ⟨rfl, ?_⟩
  exact (((G1.out).setCell (by simp <;> omega) _).setCell (by simp <;> omega) _).al _
set_option maxRecDepth 20000 in
set_option maxHeartbeats 1000000 in
theorem smis_2 (i x y p q Z P Q C : Int) (p1 p2 : Value) (w : World) (hl : ∀ w', Gr w w' → Calls Try.prog 87 #[p1, p2, fr x y, .int .i64 i] w' fun e w'' => e = .returned (.tuple #[fr p q, .int .i64 0]) ∧ Gr w' w'')
    (hn : ∀ w', Gr w w' → Calls Try.prog 75 #[p1, fr p q] w' fun e w'' => e = .returned (.tuple #[.int .i64 Z, fr P Q, .int .i64 C]) ∧ Gr w' w'') :
    Calls Try.prog 90 #[p1, p2, fr x y, .int .i64 i] w fun e w' => e = .returned (.tuple #[fr P Q, .int .i64 C]) ∧ Gr w w' := by
  have HL := hid hl; have HN := hid hn; clear hl hn
  go_enter Try.func90, Try.ntmps90
  go_wp2_with fail
  refine (HL.out _ (((Gr.refl w).al _).al _)).mono ?_
  rintro e w1 ⟨rfl, hg1⟩
  obtain ⟨x1_0, x1_1, hz1, g1⟩ := alloc2 hg1
  obtain ⟨_, _⟩ := cells2 x1_0
  have _ := fz x1_0
  have _ := ltb x1_0
  obtain ⟨_, _⟩ := cells2 x1_1
  have _ := fz x1_1
  have _ := ltb x1_1
  have X1_0 := hid x1_0; clear x1_0
  have X1_1 := hid x1_1; clear x1_1
  have G1 := hid (g1)
  clear hg1 g1
  go_wp2_with fail
  refine (HN.out _ (G1.out.al _)).mono ?_
  rintro e w2 ⟨rfl, hg2⟩
  obtain ⟨x2_0, hz2, g2⟩ := alloc1 hg2
  have x2_1 := g2.keep X1_0.out
  have x2_2 := g2.keep X1_1.out
  obtain ⟨_, _⟩ := cells2 x2_1
  have _ := fz x2_1
  have _ := ltb x2_1
  obtain ⟨_, _⟩ := cells2 x2_2
  have _ := fz x2_2
  have _ := ltb x2_2
  obtain ⟨_, _⟩ := cells2 x2_0
  have _ := fz x2_0
  have _ := ltb x2_0
  have X2_1 := hid x2_1; clear x2_1
  have X2_2 := hid x2_2; clear x2_2
  have X2_0 := hid x2_0; clear x2_0
  have G2 := hid (G1.out.trans g2)
  clear hg2 g2
  go_wp2
  refine bodyPost_ret (v := .tuple #[fr P Q, .int .i64 C]) (by simp [results, Try.results90, go_sem, *]) rfl ⟨rfl, ?_⟩
  exact (((G2.out).setCell (by simp <;> omega) _).setCell (by simp <;> omega) _).al _
theorem smisfit (a b n i x y : Int) (r : Bool) (A : Option Addr) (c j j2 : Nat) (xs : List (Int × Int)) (B : Bool) (P Q : Int) (w : World) (X1 : Hid (w.heap[j]? = some (.cells #[.int .i64 a, .int .i64 b, .slice A xs.length c] 32))) (X2 : Hid (w.heap[j2]? = some (.cells #[.int .i64 n, .bool r] 53)))
    (X : Hid (RdF w A xs)) (S : Scl a b xs) (n1 : 2 ≤ n) (n2 : n ≤ 40) (i1 : 0 ≤ i) (i2 : i ≤ n) (hx : okB x y = true) (M : Mis a b n (stp n r i) x y xs B P Q) :
    Calls Try.prog 90 #[.pointer (some ⟨j, 0, none⟩), .pointer (some ⟨j2, 0, none⟩), fr x y, .int .i64 i] w (ResS B P Q w) := by
  have hl := fun w' (hg : Gr w w') => sline a b n i x y r j j2 _ w' (hid (hg.keep X1.out)) (hid (hg.keep X2.out)) n1 n2 i1 i2 S.unit hx
  have h0 : 0 < xs.length := by have := S.lo; omega
  rcases M with ⟨h, rfl⟩ | ⟨h, R, U, V, P0, Q0, N, h2⟩
  · have := hl _ (((Gr.refl w).al (.cells #[.int .i64 x, .int .i64 y] 29)).al (.cells #[.int .i64 0, .int .i64 0] 29))
    rw [h] at this
    exact (smis_1 i x y _ _ w this).mono fun e w' h => h
  · have hn := fun w' (hg : Gr w w') => snear a b _ _ A c j xs _ rfl R U V P0 Q0 w' (hid (hg.keep X1.out)) (hid (X.out.keep hg)) S.hi h0 S.unit S.all (lnB_ok h) S.mark N.first N.fl
    have hl2 := fun w' (hg : Gr w w') => by have := hl w' hg; rw [h] at this; exact this
    rcases h2 with ⟨hD, rfl, rfl, rfl⟩ | ⟨hD, rfl⟩
    · exact (smis_2 i x y _ _ R P Q 0 _ _ w hl2 fun w' hg => (hn w' hg).mono fun e w'' ⟨h1, h2⟩ => ⟨h1.elim (fun h => h.2) (fun h => absurd hD h.1), h2⟩).mono fun e w' h => h
    · exact (smis_2 i x y _ _ 0 0 0 3 _ _ w hl2 fun w' hg => (hn w' hg).mono fun e w'' ⟨h1, h2⟩ => ⟨h1.elim (fun h => absurd h.1 hD) (fun h => h.2), h2⟩).mono fun e w' h => h
theorem bothMisfitOf (a b : Int) (xs : List (Int × Int)) (n : Int) (r : Bool) (x y i : Int) (hn : xs.length ≤ 1048576) : ∃ R0 R1 R2 : Int,
    (∀ (A : Option Addr) (c : Nat) (w : World), Hid (RdF w A xs) → Calls Try.prog 39 #[scl a b A xs.length c, vn n r, fr x y, .int .i64 i] w fun x w' => x = .returned (.tuple #[fr R0 R1, .int .i64 R2]) ∧ Gr w w') ∧
    (∀ (A : Option Addr) (c : Nat) (w : World), Hid (RdF w A xs) → Calls Try.prog 40 #[scl a b A xs.length c, vn n r, fr x y, .int .i64 i] w fun x w' => x = .returned (.tuple #[fr R0 R1, .int .i64 R2]) ∧ Gr w w') := by
  obtain ⟨B, P, Q, M⟩ : ∃ B P Q, askB a b xs n x y = true → Mis a b n (stp n r i) x y xs B P Q := by
    cases h : askB a b xs n x y with
    | false => exact ⟨false, 0, 0, fun h => by cases h⟩
    | true =>
      obtain ⟨B, P, Q, M⟩ := mis_of a b n (stp n r i) x y xs (by have := (scl_of (ask_of h).1).lo; omega)
      exact ⟨B, P, Q, fun _ => M⟩
  exact both_line a b xs n r x y i hn 91 39 40 90 B P Q
    (fun A c w X h => sMisfitOf_0 i a b n x y r A c xs w X hn h) (fun A c w X h hr => sMisfitOf_1 i a b n x y r A c xs w X hn h hr) (fun P Q C A c w X h hr hl => sMisfitOf_2 i P Q C a b n x y r A c xs w X hn h hr hl)
    (fun A c w j j2 h hr X1 X2 X => by
      obtain ⟨l1, l2⟩ := in_bd hr; obtain ⟨h1, h2, h3⟩ := ask_of h; obtain ⟨n1, n2⟩ := in_bd h2
      exact smisfit a b n i x y r A c j j2 xs B P Q w X1 X2 X (scl_of h1) n1 n2 l1 (by omega) h3 (M h))
    (fun P Q C A c w X ho => iMisfitOf P Q C i a b n x y r A c xs w X ho) (fun A c w => by kernel_rfl)
    (fun A c w h hr X => by
      obtain ⟨l1, l2⟩ := in_bd hr; obtain ⟨h1, h2, h3⟩ := ask_of h; obtain ⟨n1, n2⟩ := in_bd h2
      exact imisfit a b n i x y r A c xs B P Q w X (scl_of h1) n1 n2 l1 (by omega) h3 (M h))
end Go.Proofs.Ytfkmlgndggnhaaa
