/- WALKS: closing errors that are shared out evenly: the program, and both sides joined. -/
import Derived.Test.YteeadoglbkociaaSf
namespace Go.Proofs.Yteeadoglbkociaa
open Go.RowKit Go.Sort

set_option maxRecDepth 20000 in
set_option maxHeartbeats 400000 in
theorem iSE_0 (g : Nat) (xs : List (Int × Int)) (t0 t1 : Int) (w : World) (h2 : okB t0 t1 = false) :
    Calls Try.prog 41 #[sl g xs.length, fr t0 t1] w fun e w' => GivesF w w' e [] 1 := by
  have h2 := hid h2
  go_enter Try.func41, Try.ntmps41
  go_wp2_with fail
  refine (iok_f _ _ _ h2.out).mono ?_
  rintro e w1 ⟨rfl, hg1⟩
  obtain ⟨x1_0, x1_1, hz1, g1⟩ := alloc2 hg1
  have _ := cells1 x1_0
  have _ := fz x1_0
  have _ := ltb x1_0
  obtain ⟨_, _⟩ := cells2 x1_1
  have _ := fz x1_1
  have _ := ltb x1_1
  have X1_0 := hid x1_0; clear x1_0
  have X1_1 := hid x1_1; clear x1_1
  have G1 := hid (g1)
  clear hg1 g1
  go_wp2_with fail
  go_ret2
  exact ⟨_, _, rfl, own_nilF _ _, G1.out⟩
set_option maxRecDepth 20000 in
set_option maxHeartbeats 400000 in
theorem iSE_1 (g : Nat) (xs : List (Int × Int)) (t0 t1 c : Int) (T : TypeId) (w : World) (X : Hid (w.heap[g]? = some (.cells (flatA xs) T))) (hn : xs.length ≤ 1048576) (h2 : okB t0 t1 = true) (hc : lstC xs 1 = c) (h0 : (c == 0) = false) :
    Calls Try.prog 41 #[sl g xs.length, fr t0 t1] w fun e w' => GivesF w w' e [] c := by
  have h2 := hid h2
  have SL := hid fun (w : World) (X : Hid (w.heap[g]? = some (.cells (flatA xs) T))) => hc ▸ icheck g xs 1 w T X hn (by omega) (by omega)
  go_enter Try.func41, Try.ntmps41
  go_wp2_with fail
  refine (iok_t _ _ _ h2.out).mono ?_
  rintro e w1 ⟨rfl, hg1⟩
  obtain ⟨x1_0, x1_1, hz1, g1⟩ := alloc2 hg1
  have _ := cells1 x1_0
  have _ := fz x1_0
  have _ := ltb x1_0
  obtain ⟨_, _⟩ := cells2 x1_1
  have _ := fz x1_1
  have _ := ltb x1_1
  have X1_0 := hid x1_0; clear x1_0
  have X1_1 := hid x1_1; clear x1_1
  have G1 := hid (g1)
  clear hg1 g1
  go_wp2_with fail
  refine (SL.out _ (hid (G1.out.keep X.out))).mono ?_
  rintro e w2 ⟨rfl, hg2⟩
  have x2_1 := hg2.keep X1_0.out
  have x2_2 := hg2.keep X1_1.out
  have _ := cells1 x2_1
  have _ := fz x2_1
  have _ := ltb x2_1
  obtain ⟨_, _⟩ := cells2 x2_2
  have _ := fz x2_2
  have _ := ltb x2_2
  have X2_1 := hid x2_1; clear x2_1
  have X2_2 := hid x2_2; clear x2_2
  have G2 := hid (G1.out.trans hg2)
  clear hg2
  go_wp2_with fail
  go_ret2
  exact ⟨_, _, rfl, own_nilF _ _, G2.out⟩
set_option maxRecDepth 20000 in
set_option maxHeartbeats 400000 in
theorem iSE_2 (g : Nat) (xs : List (Int × Int)) (t0 t1 : Int) (T : TypeId) (w : World) (X : Hid (w.heap[g]? = some (.cells (flatA xs) T))) (hn : xs.length ≤ 1048576) (h2 : okB t0 t1 = true) (hc : lstC xs 1 = 0)
    (hF : ∀ (w' : World) (k1 k2 : Nat), Hid (w'.heap[k1]? = some (.cells #[sl g xs.length] 45)) → Hid (w'.heap[k2]? = some (.cells #[.int .i64 t0, .int .i64 t1] 25)) → Hid (w'.heap[g]? = some (.cells (flatA xs) T)) → Calls Try.prog 105 #[.pointer (some ⟨k1, 0, none⟩), .pointer (some ⟨k2, 0, none⟩)] w' fun e w'' => (∃ x y, e = .panicked [{ v := .iface 187 (fr x y), recovered := false }]) ∧ Gr w' w'') :
    Calls Try.prog 41 #[sl g xs.length, fr t0 t1] w fun e w' => GivesF w w' e [] 3 := by
  have h2 := hid h2; have HF := hid hF; clear hF
  have SL := hid fun (w : World) (X : Hid (w.heap[g]? = some (.cells (flatA xs) T))) => hc ▸ icheck g xs 1 w T X hn (by omega) (by omega)
  go_enter Try.func41, Try.ntmps41
  go_wp2_with fail
  refine (iok_t _ _ _ h2.out).mono ?_
  rintro e w1 ⟨rfl, hg1⟩
  obtain ⟨x1_0, x1_1, hz1, g1⟩ := alloc2 hg1
  have _ := cells1 x1_0
  have _ := fz x1_0
  have _ := ltb x1_0
  obtain ⟨_, _⟩ := cells2 x1_1
  have _ := fz x1_1
  have _ := ltb x1_1
  have X1_0 := hid x1_0; clear x1_0
  have X1_1 := hid x1_1; clear x1_1
  have G1 := hid (g1)
  clear hg1 g1
  go_wp2_with fail
  refine (SL.out _ (hid (G1.out.keep X.out))).mono ?_
  rintro e w2 ⟨rfl, hg2⟩
  have x2_1 := hg2.keep X1_0.out
  have x2_2 := hg2.keep X1_1.out
  have _ := cells1 x2_1
  have _ := fz x2_1
  have _ := ltb x2_1
  obtain ⟨_, _⟩ := cells2 x2_2
  have _ := fz x2_2
  have _ := ltb x2_2
  have X2_1 := hid x2_1; clear x2_1
  have X2_2 := hid x2_2; clear x2_2
  have G2 := hid (G1.out.trans hg2)
  clear hg2
  go_wp2_with fail
  refine (told_great_L 105 #[.pointer (some ⟨w.heap.size, 0, none⟩), .pointer (some ⟨w.heap.size + 1, 0, none⟩)] _ (fun _ => by kernel_rfl) fun w' hg' => HF.out w' _ _ (hid (hg'.keep X2_1.out)) (hid (hg'.keep X2_2.out)) (hid ((G2.out.trans hg').keep X.out))).mono ?_
  rintro e w3 ⟨rfl, hg3⟩
  have G3 := hid (G2.out.trans hg3)
  clear hg3
  go_wp2_with fail
  go_ret2
  exact ⟨_, _, rfl, own_nilF _ _, G3.out⟩
set_option maxRecDepth 20000 in
set_option maxHeartbeats 400000 in
theorem iSE_3 (g : Nat) (xs ys : List (Int × Int)) (t0 t1 : Int) (T : TypeId) (w : World) (X : Hid (w.heap[g]? = some (.cells (flatA xs) T))) (hn : xs.length ≤ 1048576) (h2 : okB t0 t1 = true) (hc : lstC xs 1 = 0)
    (hF : ∀ (w' : World) (k1 k2 : Nat), Hid (w'.heap[k1]? = some (.cells #[sl g xs.length] 45)) → Hid (w'.heap[k2]? = some (.cells #[.int .i64 t0, .int .i64 t1] 25)) → Hid (w'.heap[g]? = some (.cells (flatA xs) T)) → Calls Try.prog 105 #[.pointer (some ⟨k1, 0, none⟩), .pointer (some ⟨k2, 0, none⟩)] w' fun e w'' => (∃ A' c', e = .returned (.slice A' ys.length c') ∧ w''.ownsRow w'.heap.size 25 2 (.slice A' ys.length c') ys.length (flatL ys)) ∧ Gr w' w'') :
    Calls Try.prog 41 #[sl g xs.length, fr t0 t1] w fun e w' => GivesF w w' e ys 0 := by
  have h2 := hid h2; have HF := hid hF; clear hF
  have SL := hid fun (w : World) (X : Hid (w.heap[g]? = some (.cells (flatA xs) T))) => hc ▸ icheck g xs 1 w T X hn (by omega) (by omega)
  go_enter Try.func41, Try.ntmps41
  go_wp2_with fail
  refine (iok_t _ _ _ h2.out).mono ?_
  rintro e w1 ⟨rfl, hg1⟩
  obtain ⟨x1_0, x1_1, hz1, g1⟩ := alloc2 hg1
  have _ := cells1 x1_0
  have _ := fz x1_0
  have _ := ltb x1_0
  obtain ⟨_, _⟩ := cells2 x1_1
  have _ := fz x1_1
  have _ := ltb x1_1
  have X1_0 := hid x1_0; clear x1_0
  have X1_1 := hid x1_1; clear x1_1
  have G1 := hid (g1)
  clear hg1 g1
  go_wp2_with fail
  refine (SL.out _ (hid (G1.out.keep X.out))).mono ?_
  rintro e w2 ⟨rfl, hg2⟩
  have x2_1 := hg2.keep X1_0.out
  have x2_2 := hg2.keep X1_1.out
  have _ := cells1 x2_1
  have _ := fz x2_1
  have _ := ltb x2_1
  obtain ⟨_, _⟩ := cells2 x2_2
  have _ := fz x2_2
  have _ := ltb x2_2
  have X2_1 := hid x2_1; clear x2_1
  have X2_2 := hid x2_2; clear x2_2
  have G2 := hid (G1.out.trans hg2)
  clear hg2
  have hsz := G2.out.size
  go_wp2_with fail
  refine (told_ok_L 105 #[.pointer (some ⟨w.heap.size, 0, none⟩), .pointer (some ⟨w.heap.size + 1, 0, none⟩)] (fun v W => ∃ A' c', v = .slice A' ys.length c' ∧ W.ownsRow w2.heap.size 25 2 (.slice A' ys.length c') ys.length (flatL ys)) (fun v W b x ⟨A', c', e1, e2⟩ hb y => ⟨A', c', e1, ownF_set e2 hb y⟩) _ (fun _ => by kernel_rfl) fun w' hg' => (HF.out w' _ _ (hid (hg'.keep X2_1.out)) (hid (hg'.keep X2_2.out)) (hid ((G2.out.trans hg').keep X.out))).mono fun e w'' ⟨⟨A', c', e1, e2⟩, hg⟩ => ⟨_, e1, ⟨A', c', rfl, own_base e2 hg'.size⟩, hg⟩).mono ?_
  rintro e w3 ⟨v, rfl, ⟨A', c', rfl, own⟩, hg3⟩
  have OWN := hid own; have G3 := hid (G2.out.trans hg3)
  clear own hg3
  go_wp2_with fail
  go_ret2
  exact ⟨A', c', rfl, own_base OWN.out hsz, G3.out⟩
theorem sm_okE : ∀ (xs : List (Int × Int)) (P Q A B : Int), okB P Q = true → sm xs P Q = some (A, B) → okB A B = true
  | [], P, Q, A, B, h, hs => by
    have hs' : (P, Q) = (A, B) := Option.some.inj hs
    have e1 : P = A := congrArg Prod.fst hs'
    have e2 : Q = B := congrArg Prod.snd hs'
    subst e1 e2; exact h
  | (p, q) :: r, P, Q, A, B, h, hs => by
    unfold sm at hs
    by_cases hb : okB (redP (P*q+p*Q) (Q*q)) (redQ (P*q+p*Q) (Q*q)) = true
    · rw [if_pos hb] at hs; exact sm_okE r _ _ A B hb hs
    · rw [if_neg hb] at hs; cases hs
theorem lst1 (xs : List (Int × Int)) : lstC xs 1 = if allF xs = true then (if rng64 xs.length = true then 0 else 2) else 1 := by
  unfold lstC allF rng64 inB
  by_cases h : xs.all (fun x => okB x.1 x.2) = true
  · rw [if_pos h, if_pos h]
    by_cases h1 : (1 : Int) ≤ xs.length
    · by_cases h2 : (xs.length : Int) ≤ 64
      · rw [if_neg (by omega), if_pos (by simp [h1, h2])]
      · rw [if_pos (by omega), if_neg (by simp [h2])]
    · rw [if_pos (by omega), if_neg (by simp; omega)]
  · rw [if_neg h, if_neg h]
theorem pickF {w w' : World} {e : Ending} {p : Prop} {ys : List (Int × Int)} (h : (p ∧ GivesF w w' e ys 0) ∨ (¬ p ∧ GivesF w w' e [] 3)) : (p → GivesF w w' e ys 0) ∧ (¬ p → GivesF w w' e [] 3) :=
  ⟨fun hp => h.elim (fun h => h.2) (fun h => absurd hp h.1), fun hp => h.elim (fun h => absurd h.1 hp) (fun h => h.2)⟩
set_option maxHeartbeats 1000000 in
theorem bothShareEvenly (xs : List (Int × Int)) (t0 t1 : Int) (hn : xs.length ≤ 1048576) : ∃ (ys : List (Int × Int)) (C : Int), ys.length ≤ 1048576 ∧
    (∀ (g : Nat) (w : World), Hid (w.heap[g]? = some (.cells (flatA xs) 25)) → Calls Try.prog 39 #[sl g xs.length, fr t0 t1] w fun e w' => GivesF w w' e ys C) ∧
    (∀ (g : Nat) (w : World), Hid (w.heap[g]? = some (.cells (flatA xs) 25)) → Calls Try.prog 41 #[sl g xs.length, fr t0 t1] w fun e w' => GivesF w w' e ys C) := by
  have hl1 := lst1 xs
  cases h2 : okB t0 t1 with
  | false =>
    refine ⟨[], 1, by simp, fun g w X => ?_, fun g w X => iSE_0 g xs t0 t1 w h2⟩
    cases h : allF xs with
    | false => exact sSE_0 g xs t0 t1 _ w X hn h
    | true => exact sSE_1 g xs t0 t1 _ w X hn h h2
  | true =>
  cases h : allF xs with
  | false =>
    rw [if_neg (by rw [h]; exact Bool.false_ne_true)] at hl1
    exact ⟨[], 1, by simp, fun g w X => sSE_0 g xs t0 t1 _ w X hn h, fun g w X => iSE_1 g xs t0 t1 1 _ w X hn h2 hl1 rfl⟩
  | true =>
  rw [if_pos h] at hl1
  cases h3 : rng64 xs.length with
  | false =>
    rw [if_neg (by rw [h3]; exact Bool.false_ne_true)] at hl1
    exact ⟨[], 2, by simp, fun g w X => sSE_2 g xs t0 t1 _ w X hn h h2 h3, fun g w X => iSE_1 g xs t0 t1 2 _ w X hn h2 hl1 rfl⟩
  | true =>
  rw [if_pos h3] at hl1
  have hl : 0 < xs.length ∧ xs.length ≤ 64 := by unfold rng64 inB at h3; simp at h3; omega
  have hww : okB (xs.length : Int) 1 = true := ok_whole (by omega) (by omega)
  cases hsm : sm xs 0 1 with
  | none =>
    exact ⟨[], 3, by simp, fun g w X => sSE_3 g xs t0 t1 _ w X hn h h2 h3 fun w' Z => (ssum g xs w' _ Z hn h).mono fun e w'' hh => ⟨by rw [hh.1, hsm]; rfl, hh.2⟩,
      fun g w X => iSE_2 g xs t0 t1 _ w X hn h2 hl1 fun w' k1 k2 Z1 Z2 Z => cse_1 g k1 k2 xs t0 t1 _ w' Z1 Z2 fun w'' hg => isum_bad g xs w'' _ (hid (hg.keep Z.out)) hn h hsm⟩
  | some u =>
  obtain ⟨u0, u1⟩ := u
  have hss := fun (g : Nat) (w' : World) (Z : Hid (w'.heap[g]? = some (.cells (flatA xs) 25))) => (ssum g xs w' _ Z hn h).mono (R' := fun e w'' => e = .returned (.tuple #[fr u0 u1, .int .i64 0]) ∧ Gr w' w'') fun e w'' hh => ⟨by rw [hh.1, hsm]; rfl, hh.2⟩
  have his := fun (g : Nat) (w' : World) (Z : Hid (w'.heap[g]? = some (.cells (flatA xs) 25))) => isum_ok g xs u0 u1 w' _ Z hn h hsm
  have hu : okB u0 u1 = true := sm_okE xs 0 1 u0 u1 ok01 hsm
  cases hd : sbB u0 u1 t0 t1 with
  | false =>
    exact ⟨[], 3, by simp, fun g w X => sSE_4 g xs t0 t1 u0 u1 _ w X hn h h2 h3 (hss g) fun w => ssubv_f u0 u1 t0 t1 w hu h2 hd,
      fun g w X => iSE_2 g xs t0 t1 _ w X hn h2 hl1 fun w' k1 k2 Z1 Z2 Z => cse_2 g k1 k2 xs t0 t1 u0 u1 _ w' Z1 Z2 (fun w'' hg => his g w'' (hid (hg.keep Z.out))) fun w => minusv_f u0 u1 t0 t1 w hu h2 hd⟩
  | true =>
  have hsb := fun w => ssubv_t u0 u1 t0 t1 w hu h2 hd
  have hmn := fun w => minusv_t u0 u1 t0 t1 w hu h2 hd
  obtain ⟨d0, hd0⟩ : ∃ d, sbP u0 u1 t0 t1 = d := ⟨_, rfl⟩
  obtain ⟨d1, hd1⟩ : ∃ d, sbQ u0 u1 t0 t1 = d := ⟨_, rfl⟩
  have hdo : okB d0 d1 = true := by unfold sbB at hd; rwa [hd0, hd1] at hd
  rw [hd0, hd1] at hsb hmn
  cases he : okB (redP (d0 * 1) (d1 * (xs.length : Int))) (redQ (d0 * 1) (d1 * (xs.length : Int))) with
  | false =>
    exact ⟨[], 3, by simp, fun g w X => sSE_5 g xs t0 t1 u0 u1 d0 d1 _ w X hn h h2 h3 (hss g) hsb fun w => sdiv_f d0 d1 (xs.length : Int) 1 w hdo hww (by omega) he,
      fun g w X => iSE_2 g xs t0 t1 _ w X hn h2 hl1 fun w' k1 k2 Z1 Z2 Z => cse_3 g k1 k2 xs t0 t1 u0 u1 d0 d1 _ w' Z1 Z2 (fun w'' hg => his g w'' (hid (hg.keep Z.out))) hmn fun w => iow_bad d0 d1 (xs.length : Int) w hdo hww (by omega) he⟩
  | true =>
  have hdv := fun w => sdiv_t d0 d1 (xs.length : Int) 1 w hdo hww (by omega) he
  have how := fun w => iow_ok d0 d1 (xs.length : Int) w hdo hww (by omega) he
  obtain ⟨s, hs⟩ : ∃ s, redP (d0 * 1) (d1 * (xs.length : Int)) = s := ⟨_, rfl⟩
  obtain ⟨t, ht⟩ : ∃ t, redQ (d0 * 1) (d1 * (xs.length : Int)) = t := ⟨_, rfl⟩
  rw [hs, ht] at he hdv how
  have hsp := fun (g : Nat) (w : World) X => sSE_6 g xs t0 t1 u0 u1 d0 d1 s t _ w X hn h h2 h3 (hss g) hsb hdv he
  have hcl := fun (g : Nat) (w' : World) (k1 k2 : Nat) (Z1 : Hid (w'.heap[k1]? = some (.cells #[sl g xs.length] 45))) (Z2 : Hid (w'.heap[k2]? = some (.cells #[.int .i64 t0, .int .i64 t1] 25))) (Z : Hid (w'.heap[g]? = some (.cells (flatA xs) 25))) =>
    cse_4 g k1 k2 xs t0 t1 u0 u1 d0 d1 s t _ _ w' Z1 Z2 Z hl.1 hl.2 h he (fun w'' hg => his g w'' (hid (hg.keep Z.out))) hmn how
  by_cases hA : AllE s t xs
  · refine ⟨evs s t xs, 0, by rw [evs_len]; omega, fun g w X => (hsp g w X).mono fun e w' hh => (pickF hh).1 hA,
      fun g w X => iSE_3 g xs (evs s t xs) t0 t1 _ w X hn h2 hl1 fun w' k1 k2 Z1 Z2 Z => (hcl g w' k1 k2 Z1 Z2 Z).mono fun e w'' hh => ⟨?_, hh.2⟩⟩
    rcases hh.1 with ⟨_, A', c', e1, e2⟩ | ⟨hv, _⟩
    · exact ⟨A', c', by rw [evs_len]; exact e1, by rw [evs_len]; exact e2⟩
    · exact absurd hA hv
  · exact ⟨[], 3, by simp, fun g w X => (hsp g w X).mono fun e w' hh => (pickF hh).2 hA,
      fun g w X => iSE_2 g xs t0 t1 _ w X hn h2 hl1 fun w' k1 k2 Z1 Z2 Z => (hcl g w' k1 k2 Z1 Z2 Z).mono fun e w'' hh => ⟨hh.1.elim (fun hv => absurd hv.1 hA) (fun hv => hv.2), hh.2⟩⟩
end Go.Proofs.Yteeadoglbkociaa
