/- WALKS: WarmScale: the reference where all is told, and both sides joined. -/
import Derived.Test.YtjhlpaeenjbljaaWe
namespace Go.Proofs.Ytjhlpaeenjbljaa
open Go.RowKit Go.Sort

set_option maxRecDepth 20000 in
set_option maxHeartbeats 4000000 in
theorem sWS_p (a b s t S T P Q : Int) (A : Option Addr) (c : Nat) (xs : List (Int × Int)) (w : World) (X : Hid (RdF w A xs)) (h : sclB a b xs = true) (h2 : okB s t = true) (h3 : ¬ t < 10 * absI s) (hST : okB S T = true)
    (hpl : ∀ w, Calls Try.prog 62 #[fr 1 1, fr s t] w fun e w' => e = .returned (.tuple #[fr S T, .int .i64 0]) ∧ Gr w w')
    (hmu : ∀ w, Calls Try.prog 63 #[fr a b, fr S T] w fun e w' => e = .returned (.tuple #[fr P Q, .int .i64 0]) ∧ Gr w w') :
    Calls Try.prog 19 #[scl a b A xs.length c, fr s t] w fun e w' => (AllW S T xs ∧ ((sclB P Q (wxL S T xs) = true ∧ GivesS w w' e P Q (wxL S T xs) 0) ∨ (sclB P Q (wxL S T xs) = false ∧ GivesS w w' e 0 0 [] 3))) ∨ (¬ AllW S T xs ∧ GivesS w w' e 0 0 [] 3) := by
  obtain ⟨i0, hi, iz0, iz1, iz2⟩ : ∃ i, Try.prog.info? 24 = some i ∧ i.zero = some (fr 0 0) ∧ i.size = 2 ∧ i.bytes = 16 := ⟨_, rfl, rfl, rfl, rfl⟩
  have hS := scl_of h
  have hl : xs.length ≤ 60 := hS.hi
  have hn : xs.length ≤ 1048576 := by omega
  have HX := hid hS.all; have HST := hid hST; have HPL := hid hpl; have HMU := hid hmu; have H2 := hid h2
  obtain ⟨ha0, ha1⟩ := absI_le h2
  have HLEN : Hid ((wxL S T xs).length = xs.length) := hid (wxL_len S T xs)
  have h := hid h
  clear hS h2 hpl hmu hST
  go_enter Try.func19, Try.ntmps19
  go_wp2_with fail
  refine (sScT a b A c _ xs _ (hid (alloc3 (Gr.refl _)).1) (hid (X.out.keep ((((Gr.refl w).al _).al _).al _))) hn h.out).mono ?_
  rintro e w1 ⟨rfl, hg1⟩
  obtain ⟨x1_0, x1_1, x1_2, hz1, g1⟩ := alloc3 hg1
  obtain ⟨_, _, _⟩ := cells3 x1_0
  have _ := fz x1_0
  have _ := ltb x1_0
  obtain ⟨_, _⟩ := cells2 x1_1
  have _ := fz x1_1
  have _ := ltb x1_1
  obtain ⟨_, _, _⟩ := cells3 x1_2
  have _ := fz x1_2
  have _ := ltb x1_2
  have X1_0 := hid x1_0; clear x1_0
  have X1_1 := hid x1_1; clear x1_1
  have X1_2 := hid x1_2; clear x1_2
  have G1 := hid (g1)
  clear hg1 g1
  go_wp2_with fail
  refine (sok_t _ _ _ H2.out).mono ?_
  rintro e w2 ⟨rfl, hg2⟩
  have x2_1 := hg2.keep X1_0.out
  have x2_2 := hg2.keep X1_1.out
  have x2_3 := hg2.keep X1_2.out
  obtain ⟨_, _, _⟩ := cells3 x2_1
  have _ := fz x2_1
  have _ := ltb x2_1
  obtain ⟨_, _⟩ := cells2 x2_2
  have _ := fz x2_2
  have _ := ltb x2_2
  obtain ⟨_, _, _⟩ := cells3 x2_3
  have _ := fz x2_3
  have _ := ltb x2_3
  have X2_1 := hid x2_1; clear x2_1
  have X2_2 := hid x2_2; clear x2_2
  have X2_3 := hid x2_3; clear x2_3
  have G2 := hid (G1.out.trans hg2)
  clear hg2
  go_wp2_with fail
  refine wp_reg0 6 (by kernel_rfl) (by kernel_rfl) ?_
  apply Exists.intro
  refine ⟨fun wb hb => ?_, ?_⟩
  · obtain ⟨_, _, _⟩ := hb.at3 X2_1.out
    obtain ⟨_, _⟩ := hb.at2 X2_2.out
    obtain ⟨_, _, _⟩ := hb.at3 X2_3.out
    simp only [headOps, List.contains, List.elem, reduceIte, Bool.false_eq_true]
    repeat (first | go_big_quiet_step (first | (go_at_call 61; exact Calls.of_gr (wabs s t _ H2.out))) | quiet_step (fail))
    exact wpQuiet_nil rfl
  intro w3 hg3
  have x3_1 := hg3.keep X2_1.out
  have x3_2 := hg3.keep X2_2.out
  have x3_3 := hg3.keep X2_3.out
  obtain ⟨_, _, _⟩ := cells3 x3_1
  have _ := fz x3_1
  have _ := ltb x3_1
  obtain ⟨_, _⟩ := cells2 x3_2
  have _ := fz x3_2
  have _ := ltb x3_2
  obtain ⟨_, _, _⟩ := cells3 x3_3
  have _ := fz x3_3
  have _ := ltb x3_3
  have X3_1 := hid x3_1; clear x3_1
  have X3_2 := hid x3_2; clear x3_2
  have X3_3 := hid x3_3; clear x3_3
  have G3 := hid (G2.out.trans hg3)
  clear hg3
  go_wp2_with fail
  refine wp_reg1s #[.int .i64 0, .int .i64 0] 8 6 6 7 34 (by kernel_rfl) (by kernel_rfl) rfl rfl (by simp) rfl rfl (by decide) (fun _ _ => by kernel_rfl) (by kernel_rfl) ?_
  apply Exists.intro; apply Exists.intro
  refine ⟨fun wb hb => ?_, ?_⟩
  · obtain ⟨_, _, _⟩ := hb.at3 X3_1.out
    obtain ⟨_, _⟩ := hb.at2 X3_2.out
    obtain ⟨_, _, _⟩ := hb.at3 X3_3.out
    simp only [headOps, List.contains, List.elem, Nat.reduceAdd, Nat.reduceBEq, reduceIte, Bool.false_eq_true, dumOp]
    repeat (first | go_big_quiet_step (first | (go_at_call 53; exact Calls.of_gr (swhole1 1 _)) | (go_at_call 62; exact Calls.of_gr (HPL.out _))) | quiet_step (fail))
    exact wpQuiet_nil rfl
  refine ⟨rfl, ⟨rfl, by simp [Value.oneCell']⟩, fun w4 b4 hg4 _ xb4 => ?_⟩
  have x4_1 := hg4.keep X3_1.out
  have x4_2 := hg4.keep X3_2.out
  have x4_3 := hg4.keep X3_3.out
  obtain ⟨_, _, _⟩ := cells3 x4_1
  have _ := fz x4_1
  have _ := ltb x4_1
  obtain ⟨_, _⟩ := cells2 x4_2
  have _ := fz x4_2
  have _ := ltb x4_2
  obtain ⟨_, _, _⟩ := cells3 x4_3
  have _ := fz x4_3
  have _ := ltb x4_3
  obtain ⟨_, _⟩ := cells2 xb4
  have _ := fz xb4
  have _ := ltb xb4
  have X4_1 := hid x4_1; clear x4_1
  have X4_2 := hid x4_2; clear x4_2
  have X4_3 := hid x4_3; clear x4_3
  have Xb4 := hid xb4; clear xb4
  have G4 := hid (G3.out.trans hg4)
  clear hg4
  go_wp2_with fail
  refine (HMU.out _).mono ?_
  rintro e w5 ⟨rfl, hg5⟩
  have ZS := hid (hg5.keep X4_1.out); have ZR := hid (hg5.keep X4_3.out); have ZB := hid (hg5.keep Xb4.out); have G5 := hid (G4.out.trans hg5)
  have hb2 : w.heap.size + 1 + 1 < w5.heap.size := ltb ZR.out
  have HB2 := hid hb2
  have yF := (alloc1 (w := w5) (A := .cells #[.int .i64 P, .int .i64 Q] 24) (Gr.refl _)).1
  obtain ⟨_, _⟩ := cells2 yF
  have _ := ltb yF
  clear hg5 yF hb2 X4_1 X4_2 X4_3 Xb4
  go_wp2_with fail
  go_loopw [11] (fun u wr => ∃ (k : Nat) (A' : Option Addr) (c' : Nat), u = .int .i64 (k : Int) ∧ k ≤ xs.length ∧ Gr w5 wr ∧ wr.heap[w5.heap.size + 1]? = some (.cells #[.int .i64 P, .int .i64 Q, .slice A' k c'] 27) ∧ wr.ownsRow w5.heap.size 24 2 (.slice A' k c') k (flatL ((wxL S T xs).take k)) ∧ (∀ (i : Nat) (p q : Int), i < k → xs[i]? = some (p, q) → wxB p q S T = true)) (fun u _ => xs.length - (intOf u).toNat)
  case atStart => exact ⟨0, none, 0, rfl, by omega, ((Gr.refl _).al _).al _, (alloc2 (Gr.refl _)).2.1, by simpa using own_nilF _ _, fun i p q h => by omega⟩
  case round =>
    obtain ⟨k, A', c', rfl, hk, hg, hsc, hown, hok⟩ := hrel
    have GW := hid hg; have OWN := hid hown; have HOK := hid hok; have Y8 := hid hsc
    have GV := hid (G5.out.trans hg)
    have Y3 := hid (hg.keep ZR.out); have YB := hid (hg.keep ZS.out); have YT := hid (hg.keep ZB.out)
    clear hg hown hok hsc
    by_cases hlt : k < xs.length
    · obtain ⟨⟨p, q⟩, hp⟩ : ∃ pq, xs[k]? = some pq := ⟨xs[k], List.getElem?_eq_getElem _⟩
      have HPQ := hid (allF_get HX.out hp)
      obtain ⟨ad, rfl, c1, c2⟩ := (X.out.keep GV.out) k p q hp
      have C1 := hid c1; have C2 := hid c2; have HP := hid hp
      clear c1 c2 hp
      cases hd : wxB p q S T with
      | true =>
        have HD := hid hd
        have hpl := fun w => wmul_t p q S T w HPQ.out HST.out HD.out
        have hsu := wxL_take (S := S) (T := T) HP.out
        obtain ⟨x, hx⟩ : ∃ x, wxP p q S T = x := ⟨_, rfl⟩
        obtain ⟨y, hy⟩ : ∃ y, wxQ p q S T = y := ⟨_, rfl⟩
        rw [hx, hy] at hpl hsu
        have HML := hid hpl; have HSU := hid hsu
        clear hd hpl hx hy hsu
        obtain ⟨_, _, _⟩ := cells3 Y8.out
        have _ := fz Y8.out
        have _ := ltb Y8.out
        obtain ⟨_, _, _⟩ := cells3 YB.out
        have _ := fz YB.out
        have _ := ltb YB.out
        obtain ⟨_, _⟩ := cells2 YT.out
        have _ := fz YT.out
        have _ := ltb YT.out
        go_wp2_with fail
        refine wp_reg1s #[.int .i64 0, .int .i64 0] 12 10 12 11 68 (by kernel_rfl) (by kernel_rfl) rfl rfl (by simp) rfl rfl (by decide) (fun _ _ => by kernel_rfl) (by kernel_rfl) ?_
        apply Exists.intro; apply Exists.intro
        refine ⟨fun wb hb => ?_, ?_⟩
        · obtain ⟨_, _, _⟩ := hb.at3 Y8.out
          obtain ⟨_, _, _⟩ := hb.at3 YB.out
          obtain ⟨_, _⟩ := hb.at2 YT.out
          have _ := hb.atF C1.out; have _ := hb.atF C2.out
          simp only [headOps, List.contains, List.elem, Nat.reduceAdd, Nat.reduceBEq, reduceIte, Bool.false_eq_true, dumOp]
          repeat (first | go_big_quiet_step (first | (go_at_call 63; exact Calls.of_gr (HML.out _))) | quiet_step (fail))
          exact wpQuiet_nil rfl
        refine ⟨rfl, ⟨rfl, by simp [Value.oneCell']⟩, fun w6 b6 hg6 _ xb6 => ?_⟩
        have OWN6 := hid (own_gr OWN.out (hg6.al (.cells #[.int .i64 x, .int .i64 y] 24)))
        have NEW := hid (one_newsF (w := w6.alloc (.cells #[.int .i64 x, .int .i64 y] 24)) (b := w6.heap.size) (alloc1 (Gr.refl _)).1)
        have G6 := hid ((GW.out.trans hg6).al (.cells #[.int .i64 x, .int .i64 y] 24))
        have Y6 := hid (hg6.keep Y8.out)
        have hsz := G6.out.size
        obtain ⟨_, _⟩ := cells2 xb6
        have _ := fz xb6
        have _ := ltb xb6
        obtain ⟨_, _, _⟩ := cells3 Y6.out
        have _ := ltb Y6.out
        have Z6 := hid (((Gr.refl w6).al (.cells #[.int .i64 x, .int .i64 y] 24)).keep Y6.out)
        have hne := own_ne OWN6.out Z6.out
        clear hg6 xb6 OWN
        go_wp2_with (at_builtin; refine (wpList_append_gr rfl _ _ 25 rfl w5.heap.size 24 i0 (fr 0 0) 2 16 Try.underlying25 hi iz0 iz1 iz2 rfl (by decide) _ k _ rfl OWN6.out ⟨w6.heap.size, 0, none⟩ 1 1 [.int .i64 x, .int .i64 y] rfl rfl NEW.out (by simp [Value.oneCell']) (by decide) (by unfold maxLen; omega) (by omega) hsz ?_))
        intro v' w7 own7 hgrow _ hgr
        obtain ⟨A2, c2, rfl⟩ := own_form own7
        rw [flatL_app, ← HSU.out] at own7
        have y7 := (hgrow.block (w5.heap.size + 1) (ltb Z6.out) (Ne.symm hne)).trans Z6.out
        have OWN7 := hid own7; have Y7 := hid y7
        have G7 := hid (hgr _ G6.out (Nat.le_refl _))
        obtain ⟨_, _, _⟩ := cells3 Y7.out
        have _ := fz Y7.out
        have _ := ltb Y7.out
        clear own7 y7 hgrow hgr OWN6 NEW hsz hne Y6 Z6
        go_wp2_with fail
        refine ⟨⟨k + 1, A2, c2, by simp, by omega, G7.out.setCell (by simp) _, by simpa using Joins.block_setCell (i := 2) Y7.out _, own_setS OWN7.out Y7.out _, fun i p' q' hi hp' => ?_⟩, by simp [intOf]; omega⟩
        by_cases hik : i = k
        · subst hik
          have e1 := HP.out.symm.trans hp'
          cases e1
          exact HD.out
        · exact HOK.out i p' q' (by omega) hp'
      | false =>
        have HD := hid hd
        have HML := hid fun w => wmul_f p q S T w HPQ.out HST.out HD.out
        have HNA : Hid (¬ AllW S T xs) := hid fun h => by have := h k p q HP.out; rw [HD.out] at this; cases this
        clear hd
        obtain ⟨_, _, _⟩ := cells3 Y8.out
        have _ := fz Y8.out
        have _ := ltb Y8.out
        obtain ⟨_, _, _⟩ := cells3 YB.out
        have _ := fz YB.out
        have _ := ltb YB.out
        obtain ⟨_, _⟩ := cells2 YT.out
        have _ := fz YT.out
        have _ := ltb YT.out
        go_wp2_with fail
        refine wp_reg1s #[.int .i64 0, .int .i64 0] 12 10 12 11 68 (by kernel_rfl) (by kernel_rfl) rfl rfl (by simp) rfl rfl (by decide) (fun _ _ => by kernel_rfl) (by kernel_rfl) ?_
        apply Exists.intro; apply Exists.intro
        refine ⟨fun wb hb => ?_, ?_⟩
        · obtain ⟨_, _, _⟩ := hb.at3 Y8.out
          obtain ⟨_, _, _⟩ := hb.at3 YB.out
          obtain ⟨_, _⟩ := hb.at2 YT.out
          have _ := hb.atF C1.out; have _ := hb.atF C2.out
          simp only [headOps, List.contains, List.elem, Nat.reduceAdd, Nat.reduceBEq, reduceIte, Bool.false_eq_true, dumOp]
          repeat (first | go_big_quiet_step (first | (go_at_call 63; exact Calls.of_gr (HML.out _))) | quiet_step (fail))
          exact wpQuiet_nil rfl
        refine ⟨rfl, ⟨rfl, by simp [Value.oneCell']⟩, fun w6 b6 hg6 _ xb6 => ?_⟩
        have G6 := hid (GV.out.trans hg6)
        have Y6 := hid (hg6.keep Y3.out)
        obtain ⟨_, _, _⟩ := cells3 Y6.out
        have _ := fz Y6.out
        have _ := ltb Y6.out
        clear hg6 xb6
        go_wp2_with fail
        refine bodyPost_ret (v := .tuple #[scl 0 0 none 0 0, .int .i64 3]) (by simp [results, Try.results19, go_sem, *]) rfl ?_
        exact .inr ⟨HNA.out, _, _, rfl, own_nilF _ _, ((G6.out.setCell (by simp <;> omega) _).setCell (by simp <;> omega) _).setCell (by simp <;> omega) _⟩
    · have hke : k = xs.length := by omega
      subst hke
      have htk : (wxL S T xs).take xs.length = wxL S T xs := by rw [← HLEN.out]; exact List.take_length
      rw [htk] at OWN
      have OWNL : Hid (wr.ownsRow w5.heap.size 24 2 (.slice A' (wxL S T xs).length c') (wxL S T xs).length (flatL (wxL S T xs))) := hid (by rw [HLEN.out]; exact OWN.out)
      have RO := hid (RdF.of_ownF OWNL.out)
      have HEF : Hid (AllW S T xs) := hid fun k p q hp => HOK.out k p q (List.getElem?_eq_some_iff.1 hp).1 hp
      have Y9 : Hid (wr.heap[w5.heap.size + 1]? = some (.cells #[.int .i64 P, .int .i64 Q, .slice A' (wxL S T xs).length c'] 27)) := hid (by rw [HLEN.out]; exact Y8.out)
      have hlen : (wxL S T xs).length ≤ 1048576 := by rw [HLEN.out]; exact hn
      have HL := hid hlen
      have hb2 := HB2.out
      clear htk hlen
      obtain ⟨_, _, _⟩ := cells3 Y8.out
      have _ := fz Y8.out
      have _ := ltb Y8.out
      obtain ⟨_, _, _⟩ := cells3 YB.out
      have _ := fz YB.out
      have _ := ltb YB.out
      cases hsc : sclB P Q (wxL S T xs) with
      | true =>
        have HSC := hid hsc
        go_wp2_with fail
        refine (sScT P Q A' c' _ (wxL S T xs) _ Y9 RO HL.out HSC.out).mono ?_
        rintro e w7 ⟨rfl, hg7⟩
        have OWN7 := hid (own_gr OWN.out hg7); have Y7 := hid (hg7.keep Y8.out); have Z7 := hid (hg7.keep Y3.out); have G7 := hid (GV.out.trans hg7)
        clear hg7 hsc
        obtain ⟨_, _, _⟩ := cells3 Y7.out
        have _ := ltb Y7.out
        obtain ⟨_, _, _⟩ := cells3 Z7.out
        have _ := fz Z7.out
        have _ := ltb Z7.out
        go_wp2_with fail
        refine bodyPost_ret (v := .tuple #[scl P Q A' xs.length c', .int .i64 0]) (by simp [results, Try.results19, go_sem, *]) rfl ?_
        exact .inl ⟨HEF.out, .inl ⟨HSC.out, A', c', by rw [HLEN.out], by rw [HLEN.out]; exact own_base (base' := w.heap.size) (own_low (own_low (own_low OWN7.out (by simpa using hb2) _) (by simpa using hb2) _) (by simpa using hb2) _) (by omega), ((G7.out.setCell (by simp <;> omega) _).setCell (by simp <;> omega) _).setCell (by simp <;> omega) _⟩⟩
      | false =>
        have HSC := hid hsc
        go_wp2_with fail
        refine (sScF P Q A' c' _ (wxL S T xs) _ Y9 RO HL.out HSC.out).mono ?_
        rintro e w7 ⟨rfl, hg7⟩
        have Z7 := hid (hg7.keep Y3.out); have G7 := hid (GV.out.trans hg7)
        clear hg7 hsc
        obtain ⟨_, _, _⟩ := cells3 Z7.out
        have _ := fz Z7.out
        have _ := ltb Z7.out
        go_wp2_with fail
        refine bodyPost_ret (v := .tuple #[scl 0 0 none 0 0, .int .i64 3]) (by simp [results, Try.results19, go_sem, *]) rfl ?_
        exact .inl ⟨HEF.out, .inr ⟨HSC.out, _, _, rfl, own_nilF _ _, ((G7.out.setCell (by simp <;> omega) _).setCell (by simp <;> omega) _).setCell (by simp <;> omega) _⟩⟩
theorem allW_cons {S T a b : Int} {xs : List (Int × Int)} : AllW S T ((a, b) :: xs) ↔ wxB a b S T = true ∧ AllW S T xs := by
  constructor
  · intro h
    exact ⟨h 0 a b rfl, fun k p q hk => h (k + 1) p q (by simpa using hk)⟩
  · rintro ⟨h1, h2⟩ k p q hk
    cases k with
    | zero => simp at hk; obtain ⟨rfl, rfl⟩ := hk; exact h1
    | succ k => exact h2 k p q (by simpa using hk)
theorem givesW0 {w w' : World} {e : Ending} {C : Int} (h : e = .returned (.tuple #[scl 0 0 none 0 0, .int .i64 C]) ∧ Gr w w') : GivesW w w' e 0 0 [] C := ⟨none, 0, h.1, fun ad he => (by cases he), .inl rfl, h.2⟩
theorem bothWarmScale (a b s t : Int) (xs : List (Int × Int)) (hn : xs.length ≤ 1048576) : ∃ (u v : Int) (zs : List (Int × Int)) (C : Int), zs.length ≤ 1048576 ∧
    (∀ (A : Option Addr) (c : Nat) (w : World), Hid (RdF w A xs) → Calls Try.prog 19 #[scl a b A xs.length c, fr s t] w fun e w' => GivesW w w' e u v zs C) ∧
    (∀ (A : Option Addr) (c : Nat) (w : World), Hid (RdF w A xs) → Calls Try.prog 21 #[scl a b A xs.length c, fr s t] w fun e w' => GivesW w w' e u v zs C) := by
  cases h1 : sclB a b xs with
  | false => exact ⟨0, 0, [], 1, by simp, fun A c w X => (sWS_0 a b s t A c xs w X hn h1).mono fun e w' h => givesW0 h, fun A c w X => (iWS_0 a b s t A c xs w X hn h1).mono fun e w' h => givesW0 h⟩
  | true =>
  cases h2 : okB s t with
  | false => exact ⟨0, 0, [], 1, by simp, fun A c w X => (sWS_1 a b s t A c xs w X hn h1 h2).mono fun e w' h => givesW0 h, fun A c w X => (iWS_1 a b s t A c xs w X hn h1 h2).mono fun e w' h => givesW0 h⟩
  | true =>
  by_cases h3 : t < absI s * 10
  · have h3' : t < 10 * absI s := by omega
    exact ⟨0, 0, [], 2, by simp, fun A c w X => (sWS_2 a b s t A c xs w X hn h1 h2 h3').mono fun e w' h => givesW0 h, fun A c w X => (iWS_2 a b s t A c xs w X hn h1 h2 h3).mono fun e w' h => givesW0 h⟩
  have h3' : ¬ t < 10 * absI s := by omega
  have S := scl_of h1
  have hab : okB a b = true := S.unit
  cases h4 : wsB s t with
  | false => exact ⟨0, 0, [], 3, by simp, fun A c w X => (sWS_3 a b s t A c xs w X hn h1 h2 h3' fun w => wadd_f s t w h2 h4).mono fun e w' h => givesW0 h,
      fun A c w X => (iWS_3 a b s t A c xs w X hn h1 h2 h3 fun w' k1 k2 Y1 Y2 _ => cwa_x a b s t A c k1 k2 xs w' _ _ Y1 Y2 fun w => wplus_f s t w h2 h4).mono fun e w' h => givesW0 h⟩
  | true =>
  have hip : ∀ (A : Option Addr) (c : Nat) (w' : World) (k1 k2 : Nat), Hid (w'.heap[k1]? = some (.cells #[.int .i64 s, .int .i64 t] 24)) → Hid (w'.heap[k2]? = some (.cells #[.int .i64 a, .int .i64 b, .slice A xs.length c] 27)) → Hid (RdF w' A xs) → _ := fun A c w' k1 k2 Y1 Y2 X => cwa_p a b s t (wsP s t) (wsQ s t) A c k1 k2 xs w' _ _ Y1 Y2 X (by have := S.lo; omega) (by have := S.hi; omega) hab S.ok h4 fun w => wplus_t s t w h2 h4
  have bad : ¬ AllW (wsP s t) (wsQ s t) ((a, b) :: xs) → ∀ (A : Option Addr) (c : Nat) (w : World), Hid (RdF w A xs) → Calls Try.prog 21 #[scl a b A xs.length c, fr s t] w fun e w' => GivesW w w' e 0 0 [] 3 := fun hna A c w X =>
    (iWS_3 a b s t A c xs w X hn h1 h2 h3 fun w' k1 k2 Y1 Y2 X' => (hip A c w' k1 k2 Y1 Y2 X').mono fun e w'' ⟨h, hg⟩ => h.elim (fun h => absurd h.1 hna) (fun h => ⟨h.2, hg⟩)).mono fun e w' h => givesW0 h
  cases h5 : wxB a b (wsP s t) (wsQ s t) with
  | false => exact ⟨0, 0, [], 3, by simp, fun A c w X => (sWS_u a b s t _ _ A c xs w X hn h1 h2 h3' (fun w => wadd_t s t w h2 h4) fun w => wmul_f a b _ _ w hab h4 h5).mono fun e w' h => givesW0 h,
      bad fun h => by rw [(allW_cons.1 h).1] at h5; cases h5⟩
  | true =>
  have hsp : ∀ (A : Option Addr) (c : Nat) (w : World), Hid (RdF w A xs) → _ := fun A c w X => sWS_p a b s t _ _ _ _ A c xs w X h1 h2 h3' h4 (fun w => wadd_t s t w h2 h4) fun w => wmul_t a b _ _ w hab h4 h5
  by_cases h6 : AllW (wsP s t) (wsQ s t) xs
  · have hal := allW_cons.2 ⟨h5, h6⟩
    have hi4 := fun (A : Option Addr) (c : Nat) (w : World) (X : Hid (RdF w A xs)) => iWS_4 a b s t (wxP a b (wsP s t) (wsQ s t)) (wxQ a b (wsP s t) (wsQ s t)) A c xs (wxL (wsP s t) (wsQ s t) xs) w X hn (by rw [wxL_len]; exact hn) h1 h2 h3 fun w' k1 k2 Y1 Y2 X' => (hip A c w' k1 k2 Y1 Y2 X').mono fun e w'' ⟨h, hg⟩ => h.elim (fun ⟨_, A', c', he, hb, ho⟩ => ⟨A', c', by rw [he, wxL_len], hb, ho, hg⟩) (fun h => absurd hal h.1)
    cases h7 : sclB (wxP a b (wsP s t) (wsQ s t)) (wxQ a b (wsP s t) (wsQ s t)) (wxL (wsP s t) (wsQ s t) xs) with
    | true =>
      exact ⟨_, _, wxL (wsP s t) (wsQ s t) xs, 0, by rw [wxL_len]; exact hn, fun A c w X => (hsp A c w X).mono fun e w' h => h.elim (fun h => h.2.elim (fun h => givesW_of h.2) (fun h => by rw [h7] at h; cases h.1)) (fun h => absurd h6 h.1),
        fun A c w X => (hi4 A c w X).mono fun e w' h => h.elim (fun h => h.2) (fun h => by rw [h7] at h; cases h.1)⟩
    | false =>
      exact ⟨0, 0, [], 3, by simp, fun A c w X => (hsp A c w X).mono fun e w' h => h.elim (fun h => h.2.elim (fun h => by rw [h7] at h; cases h.1) (fun h => givesW_of h.2)) (fun h => absurd h6 h.1),
        fun A c w X => (hi4 A c w X).mono fun e w' h => h.elim (fun h => by rw [h7] at h; cases h.1) (fun h => h.2)⟩
  · exact ⟨0, 0, [], 3, by simp, fun A c w X => (hsp A c w X).mono fun e w' h => h.elim (fun h => absurd h.1 h6) (fun h => givesW_of h.2), bad fun h => h6 (allW_cons.1 h).2⟩
end Go.Proofs.Ytjhlpaeenjbljaa
