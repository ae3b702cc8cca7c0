/- SCALES: EvenScale of the reference; both sides joined. -/
import Derived.Test.YtjhlpaeenjbljaaEx
import Derived.Test.YtjhlpaeenjbljaaSa
import Derived.Test.YtjhlpaeenjbljaaEg
import Derived.Deep.RegionWith
import Derived.Deep.RegionLaw
namespace Go.Proofs.Ytjhlpaeenjbljaa
open Go.RowKit Go.Sort

theorem in_ev (n lo hi : Int) (r : Bool) (w : World) (h : inB n lo hi = r) : Calls Try.prog 52 #[.int .i64 n, .int .i64 lo, .int .i64 hi] w fun e w' => e = .returned (.bool r) ∧ Gr w w' :=
  (in_any n lo hi w).mono fun _ _ ⟨he, hw⟩ => ⟨by rw [he, h], hw ▸ Gr.refl _⟩
theorem repV_app (k : Nat) : flatL (repV k 0) ++ [.int .i64 0, .int .i64 1] = flatL (repV (k + 1) 0) := by
  rw [flatL_app]
  simp [repV, List.replicate_succ']
set_option maxRecDepth 20000 in
set_option maxHeartbeats 1000000 in
theorem sEven_0 (a b m : Int) (w : World) (h : okB a b = false) :
    Calls Try.prog 12 #[fr a b, .int .i64 m] w fun e w' => e = .returned (.tuple #[scl 0 0 none 0 0, .int .i64 1]) ∧ Gr w w' := by
  have h := hid h
  go_enter Try.func12, Try.ntmps12
  go_wp2_with fail
  refine (sok_f _ _ _ h.out).mono ?_
  rintro e w1 ⟨rfl, hg1⟩
  obtain ⟨x1_0, x1_1, hz1, g1⟩ := alloc2 hg1
  obtain ⟨_, _⟩ := cells2 x1_0
  have _ := fz x1_0
  have _ := ltb x1_0
  obtain ⟨_, _, _⟩ := cells3 x1_1
  have _ := fz x1_1
  have _ := ltb x1_1
  have X1_0 := hid x1_0; clear x1_0
  have X1_1 := hid x1_1; clear x1_1
  have G1 := hid (g1)
  clear hg1 g1
  go_wp2
  refine bodyPost_ret (v := .tuple #[scl 0 0 none 0 0, .int .i64 1]) (by simp [results, Try.results12, go_sem, *]) rfl ⟨rfl, ?_⟩
  exact (((G1.out).setCell (by simp <;> omega) _).setCell (by simp <;> omega) _).setCell (by simp <;> omega) _
set_option maxRecDepth 20000 in
set_option maxHeartbeats 1000000 in
theorem sEven_1 (a b m : Int) (w : World) (h : okB a b = true) (h2 : (withinB a b 1000 && inB m 2 60) = false) :
    Calls Try.prog 12 #[fr a b, .int .i64 m] w fun e w' => e = .returned (.tuple #[scl 0 0 none 0 0, .int .i64 2]) ∧ Gr w w' := by
  have HA := hid fun w => swithin a b 1000 w (by decide)
  have h := hid h
  cases h3 : withinB a b 1000 with
  | false =>
    rw [h3] at HA
    clear h2 h3
    go_enter Try.func12, Try.ntmps12
    go_wp2_with fail
    refine (sok_t _ _ _ h.out).mono ?_
    rintro e w1 ⟨rfl, hg1⟩
    obtain ⟨x1_0, x1_1, hz1, g1⟩ := alloc2 hg1
    obtain ⟨_, _⟩ := cells2 x1_0
    have _ := fz x1_0
    have _ := ltb x1_0
    obtain ⟨_, _, _⟩ := cells3 x1_1
    have _ := fz x1_1
    have _ := ltb x1_1
    have X1_0 := hid x1_0; clear x1_0
    have X1_1 := hid x1_1; clear x1_1
    have G1 := hid (g1)
    clear hg1 g1
    go_wp2_with fail
    refine (HA.out _).mono ?_
    rintro e w2 ⟨rfl, hg2⟩
    have x2_1 := hg2.keep X1_0.out
    have x2_2 := hg2.keep X1_1.out
    obtain ⟨_, _⟩ := cells2 x2_1
    have _ := fz x2_1
    have _ := ltb x2_1
    obtain ⟨_, _, _⟩ := cells3 x2_2
    have _ := fz x2_2
    have _ := ltb x2_2
    have X2_1 := hid x2_1; clear x2_1
    have X2_2 := hid x2_2; clear x2_2
    have G2 := hid (G1.out.trans hg2)
    clear hg2
    go_wp2
    refine bodyPost_ret (v := .tuple #[scl 0 0 none 0 0, .int .i64 2]) (by simp [results, Try.results12, go_sem, *]) rfl ⟨rfl, ?_⟩
    exact (((G2.out).setCell (by simp <;> omega) _).setCell (by simp <;> omega) _).setCell (by simp <;> omega) _
  | true =>
    rw [h3] at HA
    rw [h3, Bool.true_and] at h2
    have HC := hid fun w => in_ev m 2 60 false w h2
    clear h2 h3
    go_enter Try.func12, Try.ntmps12
    go_wp2_with fail
    refine (sok_t _ _ _ h.out).mono ?_
    rintro e w1 ⟨rfl, hg1⟩
    obtain ⟨x1_0, x1_1, hz1, g1⟩ := alloc2 hg1
    obtain ⟨_, _⟩ := cells2 x1_0
    have _ := fz x1_0
    have _ := ltb x1_0
    obtain ⟨_, _, _⟩ := cells3 x1_1
    have _ := fz x1_1
    have _ := ltb x1_1
    have X1_0 := hid x1_0; clear x1_0
    have X1_1 := hid x1_1; clear x1_1
    have G1 := hid (g1)
    clear hg1 g1
    go_wp2_with fail
    refine (HA.out _).mono ?_
    rintro e w2 ⟨rfl, hg2⟩
    have x2_1 := hg2.keep X1_0.out
    have x2_2 := hg2.keep X1_1.out
    obtain ⟨_, _⟩ := cells2 x2_1
    have _ := fz x2_1
    have _ := ltb x2_1
    obtain ⟨_, _, _⟩ := cells3 x2_2
    have _ := fz x2_2
    have _ := ltb x2_2
    have X2_1 := hid x2_1; clear x2_1
    have X2_2 := hid x2_2; clear x2_2
    have G2 := hid (G1.out.trans hg2)
    clear hg2
    go_wp2_with fail
    refine (HC.out _).mono ?_
    rintro e w3 ⟨rfl, hg3⟩
    have x3_1 := hg3.keep X2_1.out
    have x3_2 := hg3.keep X2_2.out
    obtain ⟨_, _⟩ := cells2 x3_1
    have _ := fz x3_1
    have _ := ltb x3_1
    obtain ⟨_, _, _⟩ := cells3 x3_2
    have _ := fz x3_2
    have _ := ltb x3_2
    have X3_1 := hid x3_1; clear x3_1
    have X3_2 := hid x3_2; clear x3_2
    have G3 := hid (G2.out.trans hg3)
    clear hg3
    go_wp2
    refine bodyPost_ret (v := .tuple #[scl 0 0 none 0 0, .int .i64 2]) (by simp [results, Try.results12, go_sem, *]) rfl ⟨rfl, ?_⟩
    exact (((G3.out).setCell (by simp <;> omega) _).setCell (by simp <;> omega) _).setCell (by simp <;> omega) _
set_option maxRecDepth 20000 in
set_option maxHeartbeats 4000000 in
theorem sEven_2 (a b : Int) (n : Nat) (w : World) (h1 : withinB a b 1000 = true) (h2 : inB (n : Int) 2 60 = true) :
    Calls Try.prog 12 #[fr a b, .int .i64 (n : Int)] w fun e w' => (sclB a b (repV n 0) = true ∧ GivesS w w' e a b (repV n 0) 0) ∨ (sclB a b (repV n 0) = false ∧ GivesS w w' e 0 0 [] 3) := by
  have HA := hid fun w => h1 ▸ swithin a b 1000 w (by decide)
  have HC := hid fun w => in_ev (n : Int) 2 60 true w h2
  have h := hid (show okB a b = true by unfold withinB at h1; rw [Bool.and_eq_true] at h1; exact h1.1)
  have hm : n ≤ 60 := by unfold inB at h2; simp at h2; omega
  clear h1 h2
  obtain ⟨i0, hi, iz0, iz1, iz2⟩ : ∃ i, Try.prog.info? 24 = some i ∧ i.zero = some (fr 0 0) ∧ i.size = 2 ∧ i.bytes = 16 := ⟨_, rfl, rfl, rfl, rfl⟩
  go_enter Try.func12, Try.ntmps12
  go_wp2_with fail
  refine (sok_t _ _ _ h.out).mono ?_
  rintro e w1 ⟨rfl, hg1⟩
  obtain ⟨x1_0, x1_1, hz1, g1⟩ := alloc2 hg1
  obtain ⟨_, _⟩ := cells2 x1_0
  have _ := fz x1_0
  have _ := ltb x1_0
  obtain ⟨_, _, _⟩ := cells3 x1_1
  have _ := fz x1_1
  have _ := ltb x1_1
  have X1_0 := hid x1_0; clear x1_0
  have X1_1 := hid x1_1; clear x1_1
  have G1 := hid (g1)
  clear hg1 g1
  go_wp2_with fail
  refine (HA.out _).mono ?_
  rintro e w2 ⟨rfl, hg2⟩
  have x2_1 := hg2.keep X1_0.out
  have x2_2 := hg2.keep X1_1.out
  obtain ⟨_, _⟩ := cells2 x2_1
  have _ := fz x2_1
  have _ := ltb x2_1
  obtain ⟨_, _, _⟩ := cells3 x2_2
  have _ := fz x2_2
  have _ := ltb x2_2
  have X2_1 := hid x2_1; clear x2_1
  have X2_2 := hid x2_2; clear x2_2
  have G2 := hid (G1.out.trans hg2)
  clear hg2
  go_wp2_with fail
  refine (HC.out _).mono ?_
  rintro e w3 ⟨rfl, hg3⟩
  have x3_1 := hg3.keep X2_1.out
  have x3_2 := hg3.keep X2_2.out
  obtain ⟨_, _⟩ := cells2 x3_1
  have _ := fz x3_1
  have _ := ltb x3_1
  obtain ⟨_, _, _⟩ := cells3 x3_2
  have _ := fz x3_2
  have _ := ltb x3_2
  have X3_1 := hid x3_1; clear x3_1
  have X3_2 := hid x3_2; clear x3_2
  have G3 := hid (G2.out.trans hg3)
  clear hg3
  have hb2 : w.heap.size + 1 < w3.heap.size := ltb X3_2.out
  go_wp2_with fail
  go_loopw [7] (fun u wr => ∃ (k : Nat) (A' : Option Addr) (c' : Nat), u = .int .i64 (k : Int) ∧ k ≤ n ∧ Gr w3 wr ∧ wr.heap[w3.heap.size]? = some (.cells #[.int .i64 a, .int .i64 b, .slice A' k c'] 27) ∧ wr.ownsRow w3.heap.size 24 2 (.slice A' k c') k (flatL (repV k 0))) (fun u _ => n - (intOf u).toNat)
  case atStart => exact ⟨0, none, 0, rfl, by omega, (Gr.refl _).al _, (alloc1 (w := w3) (A := .cells #[.int .i64 a, .int .i64 b, .slice none 0 0] 27) (Gr.refl _)).1, own_nilF _ _⟩
  case round =>
    obtain ⟨k, A', c', rfl, hk, hg, hsc, hown⟩ := hrel
    have GW := hid hg; have OWN := hid hown; have Y8 := hid hsc
    have GV := hid (G3.out.trans hg)
    have Y3 := hid (hg.keep X3_2.out)
    clear hg hown hsc
    by_cases hlt : k < n
    · obtain ⟨_, _, _⟩ := cells3 Y8.out
      have _ := fz Y8.out
      have _ := ltb Y8.out
      go_wp2_with fail
      clear GV Y3 hb2
      go_region_law (first
        | (refine (step_append_gr rfl (.tmp 29) (.tmp 31) 25 rfl w3.heap.size 24 i0 (fr 0 0) 2 16 Try.underlying25 hi iz0 iz1 iz2 rfl (by decide) _ k _ rfl OWN4.out ⟨w4.heap.size, 0, none⟩ 1 1 [.int .i64 0, .int .i64 1] rfl rfl NEW.out (by simp [Value.oneCell']) (by decide) (by unfold maxLen; omega) (by omega) hsz4 ?_); intro v' w5 own5 hgb _ hgr; obtain ⟨A2, c2, rfl⟩ := own_form own5; rw [repV_app] at own5; have y5 := (hgb.block w3.heap.size (ltb YA.out) (Ne.symm hne)).trans YA.out; have OWN5 := hid own5; have Y5 := hid y5; have G5 := hid (hgr _ GA.out (Nat.le_refl _)); obtain ⟨_, _, _⟩ := cells3 Y5.out; have _ := fz Y5.out; have _ := ltb Y5.out; clear own5 y5 hgb hgr hne hsz4)
        | (go_simp; go_wp2_with (go_at_call 53; refine (swhole1 0 _).mono ?_; rintro x w4 ⟨rfl, hg4⟩; have gd := (Gr.drew wr).trans hg4; have Y4 := hid (gd.keep Y8.out); have GA := hid ((GW.out.trans gd).al (.cells #[.int .i64 0, .int .i64 1] 24)); have OWN4 := hid (own_gr (own_gr OWN.out gd) ((Gr.refl w4).al (.cells #[.int .i64 0, .int .i64 1] 24))); have NEW := hid (one_newsF (w := w4.alloc (.cells #[.int .i64 0, .int .i64 1] 24)) (b := w4.heap.size) (alloc1 (Gr.refl _)).1); have hsz4 := GA.out.size; have YA := hid (((Gr.refl w4).al (.cells #[.int .i64 0, .int .i64 1] 24)).keep Y4.out); have hne := own_ne OWN4.out YA.out; obtain ⟨_, _, _⟩ := cells3 Y4.out; have _ := fz Y4.out; have _ := ltb Y4.out; clear hg4 gd)))
      all_goals
        go_wp2_with fail
        exact ⟨⟨k + 1, A2, c2, by simp, by omega, G5.out.setCell (by simp) _, by simpa using Joins.block_setCell (i := 2) Y5.out _, own_setS OWN5.out Y5.out _⟩, by simp [intOf]; omega⟩
    · have hke : k = n := by omega
      subst hke
      have HLEN : Hid ((repV k 0).length = k) := hid (by simp [repV_len])
      have OWNL : Hid (wr.ownsRow w3.heap.size 24 2 (.slice A' (repV k 0).length c') (repV k 0).length (flatL (repV k 0))) := hid (by rw [HLEN.out]; exact OWN.out)
      have RO := hid (RdF.of_ownF OWNL.out)
      have Y9 : Hid (wr.heap[w3.heap.size]? = some (.cells #[.int .i64 a, .int .i64 b, .slice A' (repV k 0).length c'] 27)) := hid (by rw [HLEN.out]; exact Y8.out)
      have HL : Hid ((repV k 0).length ≤ 1048576) := hid (by rw [HLEN.out]; omega)
      obtain ⟨_, _, _⟩ := cells3 Y3.out
      cases hsc : sclB a b (repV k 0) with
      | true =>
        have HSC := hid hsc
        clear hsc
        go_wp2_with fail
        refine (sScT a b A' c' _ (repV k 0) _ Y9 RO HL.out HSC.out).mono ?_
        rintro e w7 ⟨rfl, hg7⟩
        have OWN7 := hid (own_gr OWN.out hg7); have Y7 := hid (hg7.keep Y8.out); have Z7 := hid (hg7.keep Y3.out); have G7 := hid (GV.out.trans hg7)
        clear hg7
        obtain ⟨_, _, _⟩ := cells3 Y7.out
        have _ := ltb Y7.out
        obtain ⟨_, _, _⟩ := cells3 Z7.out
        have _ := fz Z7.out
        have _ := ltb Z7.out
        go_wp2_with fail
        refine bodyPost_ret (v := .tuple #[scl a b A' k c', .int .i64 0]) (by simp [results, Try.results12, go_sem, *]) rfl ?_
        exact .inl ⟨HSC.out, A', c', by rw [HLEN.out], by rw [HLEN.out]; exact own_base (base' := w.heap.size) (own_low (own_low (own_low OWN7.out (by simpa using hb2) _) (by simpa using hb2) _) (by simpa using hb2) _) (by omega), ((G7.out.setCell (by simp) _).setCell (by simp) _).setCell (by simp) _⟩
      | false =>
        have HSC := hid hsc
        clear hsc
        go_wp2_with fail
        refine (sScF a b A' c' _ (repV k 0) _ Y9 RO HL.out HSC.out).mono ?_
        rintro e w7 ⟨rfl, hg7⟩
        have Z7 := hid (hg7.keep Y3.out); have G7 := hid (GV.out.trans hg7)
        clear hg7
        obtain ⟨_, _, _⟩ := cells3 Z7.out
        have _ := fz Z7.out
        have _ := ltb Z7.out
        go_wp2_with fail
        refine bodyPost_ret (v := .tuple #[scl 0 0 none 0 0, .int .i64 3]) (by simp [results, Try.results12, go_sem, *]) rfl ?_
        exact .inr ⟨HSC.out, _, _, rfl, own_nilF _ _, ((G7.out.setCell (by simp) _).setCell (by simp) _).setCell (by simp) _⟩
theorem givesE {w w' : World} {e : Ending} {C : Int} (h : e = .returned (.tuple #[scl 0 0 none 0 0, .int .i64 C]) ∧ Gr w w') : GivesS w w' e 0 0 [] C := ⟨none, 0, h.1, own_nilF _ _, h.2⟩
theorem bothEvenScale (a b t0 : Int) : ∃ (u v : Int) (zs : List (Int × Int)) (C : Int), zs.length ≤ 1048576 ∧
    (∀ w : World, Calls Try.prog 12 #[fr a b, .int .i64 t0] w fun e w' => GivesS w w' e u v zs C) ∧
    (∀ w : World, Calls Try.prog 14 #[fr a b, .int .i64 t0] w fun e w' => GivesS w w' e u v zs C) := by
  cases h : okB a b with
  | false => exact ⟨0, 0, [], 1, by simp, fun w => (sEven_0 a b t0 w h).mono fun e w' h => givesE h, fun w => (iEven_0 a b t0 w h).mono fun e w' h => givesE h⟩
  | true =>
    cases h2 : (withinB a b 1000 && inB t0 2 60) with
    | false => exact ⟨0, 0, [], 2, by simp, fun w => (sEven_1 a b t0 w h h2).mono fun e w' h => givesE h, fun w => (iEven_1 a b t0 w h h2).mono fun e w' h => givesE h⟩
    | true =>
      rw [Bool.and_eq_true] at h2
      have hr : 2 ≤ t0 ∧ t0 ≤ 60 := by have h3 := h2.2; unfold inB at h3; simp at h3; exact h3
      obtain ⟨n, rfl⟩ : ∃ n : Nat, t0 = (n : Int) := ⟨t0.toNat, by omega⟩
      have hl : (repV n 0).length ≤ 1048576 := by rw [repV_len]; omega
      cases hs : sclB a b (repV n 0) with
      | true => exact ⟨a, b, repV n 0, 0, hl, fun w => (sEven_2 a b n w h2.1 h2.2).mono fun e w' h => h.elim (fun h => h.2) (fun h => by rw [hs] at h; cases h.1), fun w => (iEven_2 a b n w h2.1 h2.2).mono fun e w' h => h.elim (fun h => h.2) (fun h => by rw [hs] at h; cases h.1)⟩
      | false => exact ⟨0, 0, [], 3, by simp, fun w => (sEven_2 a b n w h2.1 h2.2).mono fun e w' h => h.elim (fun h => by rw [hs] at h; cases h.1) (fun h => h.2), fun w => (iEven_2 a b n w h2.1 h2.2).mono fun e w' h => h.elim (fun h => by rw [hs] at h; cases h.1) (fun h => h.2)⟩
end Go.Proofs.Ytjhlpaeenjbljaa
