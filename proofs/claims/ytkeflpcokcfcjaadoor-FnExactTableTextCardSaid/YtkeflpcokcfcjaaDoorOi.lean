/- Observations that are valid, of the program. -/
import Derived.Test.YtkeflpcokcfcjaaDoorOg
namespace Go.Proofs.YtkeflpcokcfcjaaDoor
open Go.RowKit Go.Sort

set_option maxRecDepth 20000 in
set_option maxHeartbeats 1000000 in
theorem iObs_1 (x : Obv) (w : World) (hx : wfE x = true) :
    Calls Tryd.prog 53 #[vO x, .int .i64 1] w fun e w' => e = .returned (.bool (obB x 1)) ∧ Gr w w' := by
  have hz := eqA6z x.c0 x.c1 x.c2 x.c3 x.c4 x.c5 (noB x) rfl
  unfold obB
  cases hn : noB x with
  | true =>
    rw [hn] at hz
    go_enter Tryd.func53, Tryd.ntmps53
    go_wp2_with fail
    go_ret
    exact ⟨ret_bool (by simp), Gr.alloc _ _⟩
  | false =>
    rw [hn] at hz
    cases hr : (coL x).all rgB with
    | false =>
      go_enter Tryd.func53, Tryd.ntmps53
      go_wp2_with (go_at_call 77; first | ((with_reducible refine (iContEm 75 rgB _ _ 6 ((coL x).drop 0) _ rfl (hid (box_co (alloc1 (Gr.refl _)).1 0)) (by omega) (wfE_drop hx 0) (fun _ _ => by kernel_rfl) iNoneE).mono ?_); rintro e w1 ⟨rfl, rfl⟩; rw [List.drop_zero, hr]))
      go_ret
      exact ⟨ret_bool (by simp), Gr.alloc _ _⟩
    | true =>
      cases ht : ((coL x).drop 1).all zB with
      | false =>
        go_enter Tryd.func53, Tryd.ntmps53
        go_wp2_with (go_at_call 77; first | ((with_reducible refine (iContEm 75 rgB _ _ 6 ((coL x).drop 0) _ rfl (hid (box_co (alloc1 (Gr.refl _)).1 0)) (by omega) (wfE_drop hx 0) (fun _ _ => by kernel_rfl) iNoneE).mono ?_); rintro e w1 ⟨rfl, rfl⟩; rw [List.drop_zero, hr]) | ((with_reducible refine (iContEm 76 zB _ _ 5 ((coL x).drop 1) _ rfl (hid (box_co (alloc1 (Gr.refl _)).1 1)) (by omega) (wfE_drop hx 1) (fun _ _ => by kernel_rfl) iUsedE).mono ?_); rintro e w1 ⟨rfl, rfl⟩; rw [ht]))
        go_ret
        exact ⟨ret_bool (by simp), Gr.alloc _ _⟩
      | true =>
        cases hk : okB x.p x.q with
        | false =>
          have HK := hid hk
          go_enter Tryd.func53, Tryd.ntmps53
          go_wp2_with (go_at_call 77; first | ((with_reducible refine (iContEm 75 rgB _ _ 6 ((coL x).drop 0) _ rfl (hid (box_co (alloc1 (Gr.refl _)).1 0)) (by omega) (wfE_drop hx 0) (fun _ _ => by kernel_rfl) iNoneE).mono ?_); rintro e w1 ⟨rfl, rfl⟩; rw [List.drop_zero, hr]) | ((with_reducible refine (iContEm 76 zB _ _ 5 ((coL x).drop 1) _ rfl (hid (box_co (alloc1 (Gr.refl _)).1 1)) (by omega) (wfE_drop hx 1) (fun _ _ => by kernel_rfl) iUsedE).mono ?_); rintro e w1 ⟨rfl, rfl⟩; rw [ht]))
          refine (iok_any _ _ _).mono ?_
          rintro e w1 ⟨rfl, hg⟩
          rw [HK.out]
          have G1 := hid (alloc1 hg).2.2
          clear hg hz
          go_wp2_with fail
          go_ret
          exact ⟨ret_bool (by simp), G1.out⟩
        | true =>
          have HK := hid hk
          unfold inB
          by_cases t1 : 1 ≤ x.t
          · by_cases t2 : x.t ≤ 100
            all_goals
              go_enter Tryd.func53, Tryd.ntmps53
              go_wp2_with (go_at_call 77; first | ((with_reducible refine (iContEm 75 rgB _ _ 6 ((coL x).drop 0) _ rfl (hid (box_co (alloc1 (Gr.refl _)).1 0)) (by omega) (wfE_drop hx 0) (fun _ _ => by kernel_rfl) iNoneE).mono ?_); rintro e w1 ⟨rfl, rfl⟩; rw [List.drop_zero, hr]) | ((with_reducible refine (iContEm 76 zB _ _ 5 ((coL x).drop 1) _ rfl (hid (box_co (alloc1 (Gr.refl _)).1 1)) (by omega) (wfE_drop hx 1) (fun _ _ => by kernel_rfl) iUsedE).mono ?_); rintro e w1 ⟨rfl, rfl⟩; rw [ht]))
              refine (iok_any _ _ _).mono ?_
              rintro e w1 ⟨rfl, hg⟩
              rw [HK.out]
              obtain ⟨x0, _, g1⟩ := alloc1 hg
              obtain ⟨_, _, _, _, _, _, _, _, _⟩ := cells9 x0
              have G1 := hid g1
              clear hg hz x0 g1
              go_wp2_with fail
              go_ret
              exact ⟨ret_bool (by simp [t1, t2]), G1.out⟩
          · have T1 := hid (show decide (1 ≤ x.t) = false by simpa using t1)
            go_enter Tryd.func53, Tryd.ntmps53
            go_wp2_with (go_at_call 77; first | ((with_reducible refine (iContEm 75 rgB _ _ 6 ((coL x).drop 0) _ rfl (hid (box_co (alloc1 (Gr.refl _)).1 0)) (by omega) (wfE_drop hx 0) (fun _ _ => by kernel_rfl) iNoneE).mono ?_); rintro e w1 ⟨rfl, rfl⟩; rw [List.drop_zero, hr]) | ((with_reducible refine (iContEm 76 zB _ _ 5 ((coL x).drop 1) _ rfl (hid (box_co (alloc1 (Gr.refl _)).1 1)) (by omega) (wfE_drop hx 1) (fun _ _ => by kernel_rfl) iUsedE).mono ?_); rintro e w1 ⟨rfl, rfl⟩; rw [ht]))
            refine (iok_any _ _ _).mono ?_
            rintro e w1 ⟨rfl, hg⟩
            rw [HK.out]
            obtain ⟨x0, _, g1⟩ := alloc1 hg
            obtain ⟨_, _, _, _, _, _, _, _, _⟩ := cells9 x0
            have G1 := hid g1
            clear hg hz x0 g1
            go_wp2_with fail
            go_ret
            exact ⟨ret_bool (by rw [T1.out]; simp), G1.out⟩
set_option maxRecDepth 20000 in
set_option maxHeartbeats 1000000 in
theorem iObs_2 (x : Obv) (w : World) (hx : wfE x = true) :
    Calls Tryd.prog 53 #[vO x, .int .i64 2] w fun e w' => e = .returned (.bool (obB x 2)) ∧ Gr w w' := by
  have hz := eqA6z x.c0 x.c1 x.c2 x.c3 x.c4 x.c5 (noB x) rfl
  unfold obB
  cases hn : noB x with
  | true =>
    rw [hn] at hz
    go_enter Tryd.func53, Tryd.ntmps53
    go_wp2_with fail
    go_ret
    exact ⟨ret_bool (by simp), Gr.alloc _ _⟩
  | false =>
    rw [hn] at hz
    cases hr : (coL x).all rgB with
    | false =>
      go_enter Tryd.func53, Tryd.ntmps53
      go_wp2_with (go_at_call 77; first | ((with_reducible refine (iContEm 75 rgB _ _ 6 ((coL x).drop 0) _ rfl (hid (box_co (alloc1 (Gr.refl _)).1 0)) (by omega) (wfE_drop hx 0) (fun _ _ => by kernel_rfl) iNoneE).mono ?_); rintro e w1 ⟨rfl, rfl⟩; rw [List.drop_zero, hr]))
      go_ret
      exact ⟨ret_bool (by simp), Gr.alloc _ _⟩
    | true =>
      cases ht : ((coL x).drop 2).all zB with
      | false =>
        go_enter Tryd.func53, Tryd.ntmps53
        go_wp2_with (go_at_call 77; first | ((with_reducible refine (iContEm 75 rgB _ _ 6 ((coL x).drop 0) _ rfl (hid (box_co (alloc1 (Gr.refl _)).1 0)) (by omega) (wfE_drop hx 0) (fun _ _ => by kernel_rfl) iNoneE).mono ?_); rintro e w1 ⟨rfl, rfl⟩; rw [List.drop_zero, hr]) | ((with_reducible refine (iContEm 76 zB _ _ 4 ((coL x).drop 2) _ rfl (hid (box_co (alloc1 (Gr.refl _)).1 2)) (by omega) (wfE_drop hx 2) (fun _ _ => by kernel_rfl) iUsedE).mono ?_); rintro e w1 ⟨rfl, rfl⟩; rw [ht]))
        go_ret
        exact ⟨ret_bool (by simp), Gr.alloc _ _⟩
      | true =>
        cases hk : okB x.p x.q with
        | false =>
          have HK := hid hk
          go_enter Tryd.func53, Tryd.ntmps53
          go_wp2_with (go_at_call 77; first | ((with_reducible refine (iContEm 75 rgB _ _ 6 ((coL x).drop 0) _ rfl (hid (box_co (alloc1 (Gr.refl _)).1 0)) (by omega) (wfE_drop hx 0) (fun _ _ => by kernel_rfl) iNoneE).mono ?_); rintro e w1 ⟨rfl, rfl⟩; rw [List.drop_zero, hr]) | ((with_reducible refine (iContEm 76 zB _ _ 4 ((coL x).drop 2) _ rfl (hid (box_co (alloc1 (Gr.refl _)).1 2)) (by omega) (wfE_drop hx 2) (fun _ _ => by kernel_rfl) iUsedE).mono ?_); rintro e w1 ⟨rfl, rfl⟩; rw [ht]))
          refine (iok_any _ _ _).mono ?_
          rintro e w1 ⟨rfl, hg⟩
          rw [HK.out]
          have G1 := hid (alloc1 hg).2.2
          clear hg hz
          go_wp2_with fail
          go_ret
          exact ⟨ret_bool (by simp), G1.out⟩
        | true =>
          have HK := hid hk
          unfold inB
          by_cases t1 : 1 ≤ x.t
          · by_cases t2 : x.t ≤ 100
            all_goals
              go_enter Tryd.func53, Tryd.ntmps53
              go_wp2_with (go_at_call 77; first | ((with_reducible refine (iContEm 75 rgB _ _ 6 ((coL x).drop 0) _ rfl (hid (box_co (alloc1 (Gr.refl _)).1 0)) (by omega) (wfE_drop hx 0) (fun _ _ => by kernel_rfl) iNoneE).mono ?_); rintro e w1 ⟨rfl, rfl⟩; rw [List.drop_zero, hr]) | ((with_reducible refine (iContEm 76 zB _ _ 4 ((coL x).drop 2) _ rfl (hid (box_co (alloc1 (Gr.refl _)).1 2)) (by omega) (wfE_drop hx 2) (fun _ _ => by kernel_rfl) iUsedE).mono ?_); rintro e w1 ⟨rfl, rfl⟩; rw [ht]))
              refine (iok_any _ _ _).mono ?_
              rintro e w1 ⟨rfl, hg⟩
              rw [HK.out]
              obtain ⟨x0, _, g1⟩ := alloc1 hg
              obtain ⟨_, _, _, _, _, _, _, _, _⟩ := cells9 x0
              have G1 := hid g1
              clear hg hz x0 g1
              go_wp2_with fail
              go_ret
              exact ⟨ret_bool (by simp [t1, t2]), G1.out⟩
          · have T1 := hid (show decide (1 ≤ x.t) = false by simpa using t1)
            go_enter Tryd.func53, Tryd.ntmps53
            go_wp2_with (go_at_call 77; first | ((with_reducible refine (iContEm 75 rgB _ _ 6 ((coL x).drop 0) _ rfl (hid (box_co (alloc1 (Gr.refl _)).1 0)) (by omega) (wfE_drop hx 0) (fun _ _ => by kernel_rfl) iNoneE).mono ?_); rintro e w1 ⟨rfl, rfl⟩; rw [List.drop_zero, hr]) | ((with_reducible refine (iContEm 76 zB _ _ 4 ((coL x).drop 2) _ rfl (hid (box_co (alloc1 (Gr.refl _)).1 2)) (by omega) (wfE_drop hx 2) (fun _ _ => by kernel_rfl) iUsedE).mono ?_); rintro e w1 ⟨rfl, rfl⟩; rw [ht]))
            refine (iok_any _ _ _).mono ?_
            rintro e w1 ⟨rfl, hg⟩
            rw [HK.out]
            obtain ⟨x0, _, g1⟩ := alloc1 hg
            obtain ⟨_, _, _, _, _, _, _, _, _⟩ := cells9 x0
            have G1 := hid g1
            clear hg hz x0 g1
            go_wp2_with fail
            go_ret
            exact ⟨ret_bool (by rw [T1.out]; simp), G1.out⟩
set_option maxRecDepth 20000 in
set_option maxHeartbeats 1000000 in
theorem iObs_3 (x : Obv) (w : World) (hx : wfE x = true) :
    Calls Tryd.prog 53 #[vO x, .int .i64 3] w fun e w' => e = .returned (.bool (obB x 3)) ∧ Gr w w' := by
  have hz := eqA6z x.c0 x.c1 x.c2 x.c3 x.c4 x.c5 (noB x) rfl
  unfold obB
  cases hn : noB x with
  | true =>
    rw [hn] at hz
    go_enter Tryd.func53, Tryd.ntmps53
    go_wp2_with fail
    go_ret
    exact ⟨ret_bool (by simp), Gr.alloc _ _⟩
  | false =>
    rw [hn] at hz
    cases hr : (coL x).all rgB with
    | false =>
      go_enter Tryd.func53, Tryd.ntmps53
      go_wp2_with (go_at_call 77; first | ((with_reducible refine (iContEm 75 rgB _ _ 6 ((coL x).drop 0) _ rfl (hid (box_co (alloc1 (Gr.refl _)).1 0)) (by omega) (wfE_drop hx 0) (fun _ _ => by kernel_rfl) iNoneE).mono ?_); rintro e w1 ⟨rfl, rfl⟩; rw [List.drop_zero, hr]))
      go_ret
      exact ⟨ret_bool (by simp), Gr.alloc _ _⟩
    | true =>
      cases ht : ((coL x).drop 3).all zB with
      | false =>
        go_enter Tryd.func53, Tryd.ntmps53
        go_wp2_with (go_at_call 77; first | ((with_reducible refine (iContEm 75 rgB _ _ 6 ((coL x).drop 0) _ rfl (hid (box_co (alloc1 (Gr.refl _)).1 0)) (by omega) (wfE_drop hx 0) (fun _ _ => by kernel_rfl) iNoneE).mono ?_); rintro e w1 ⟨rfl, rfl⟩; rw [List.drop_zero, hr]) | ((with_reducible refine (iContEm 76 zB _ _ 3 ((coL x).drop 3) _ rfl (hid (box_co (alloc1 (Gr.refl _)).1 3)) (by omega) (wfE_drop hx 3) (fun _ _ => by kernel_rfl) iUsedE).mono ?_); rintro e w1 ⟨rfl, rfl⟩; rw [ht]))
        go_ret
        exact ⟨ret_bool (by simp), Gr.alloc _ _⟩
      | true =>
        cases hk : okB x.p x.q with
        | false =>
          have HK := hid hk
          go_enter Tryd.func53, Tryd.ntmps53
          go_wp2_with (go_at_call 77; first | ((with_reducible refine (iContEm 75 rgB _ _ 6 ((coL x).drop 0) _ rfl (hid (box_co (alloc1 (Gr.refl _)).1 0)) (by omega) (wfE_drop hx 0) (fun _ _ => by kernel_rfl) iNoneE).mono ?_); rintro e w1 ⟨rfl, rfl⟩; rw [List.drop_zero, hr]) | ((with_reducible refine (iContEm 76 zB _ _ 3 ((coL x).drop 3) _ rfl (hid (box_co (alloc1 (Gr.refl _)).1 3)) (by omega) (wfE_drop hx 3) (fun _ _ => by kernel_rfl) iUsedE).mono ?_); rintro e w1 ⟨rfl, rfl⟩; rw [ht]))
          refine (iok_any _ _ _).mono ?_
          rintro e w1 ⟨rfl, hg⟩
          rw [HK.out]
          have G1 := hid (alloc1 hg).2.2
          clear hg hz
          go_wp2_with fail
          go_ret
          exact ⟨ret_bool (by simp), G1.out⟩
        | true =>
          have HK := hid hk
          unfold inB
          by_cases t1 : 1 ≤ x.t
          · by_cases t2 : x.t ≤ 100
            all_goals
              go_enter Tryd.func53, Tryd.ntmps53
              go_wp2_with (go_at_call 77; first | ((with_reducible refine (iContEm 75 rgB _ _ 6 ((coL x).drop 0) _ rfl (hid (box_co (alloc1 (Gr.refl _)).1 0)) (by omega) (wfE_drop hx 0) (fun _ _ => by kernel_rfl) iNoneE).mono ?_); rintro e w1 ⟨rfl, rfl⟩; rw [List.drop_zero, hr]) | ((with_reducible refine (iContEm 76 zB _ _ 3 ((coL x).drop 3) _ rfl (hid (box_co (alloc1 (Gr.refl _)).1 3)) (by omega) (wfE_drop hx 3) (fun _ _ => by kernel_rfl) iUsedE).mono ?_); rintro e w1 ⟨rfl, rfl⟩; rw [ht]))
              refine (iok_any _ _ _).mono ?_
              rintro e w1 ⟨rfl, hg⟩
              rw [HK.out]
              obtain ⟨x0, _, g1⟩ := alloc1 hg
              obtain ⟨_, _, _, _, _, _, _, _, _⟩ := cells9 x0
              have G1 := hid g1
              clear hg hz x0 g1
              go_wp2_with fail
              go_ret
              exact ⟨ret_bool (by simp [t1, t2]), G1.out⟩
          · have T1 := hid (show decide (1 ≤ x.t) = false by simpa using t1)
            go_enter Tryd.func53, Tryd.ntmps53
            go_wp2_with (go_at_call 77; first | ((with_reducible refine (iContEm 75 rgB _ _ 6 ((coL x).drop 0) _ rfl (hid (box_co (alloc1 (Gr.refl _)).1 0)) (by omega) (wfE_drop hx 0) (fun _ _ => by kernel_rfl) iNoneE).mono ?_); rintro e w1 ⟨rfl, rfl⟩; rw [List.drop_zero, hr]) | ((with_reducible refine (iContEm 76 zB _ _ 3 ((coL x).drop 3) _ rfl (hid (box_co (alloc1 (Gr.refl _)).1 3)) (by omega) (wfE_drop hx 3) (fun _ _ => by kernel_rfl) iUsedE).mono ?_); rintro e w1 ⟨rfl, rfl⟩; rw [ht]))
            refine (iok_any _ _ _).mono ?_
            rintro e w1 ⟨rfl, hg⟩
            rw [HK.out]
            obtain ⟨x0, _, g1⟩ := alloc1 hg
            obtain ⟨_, _, _, _, _, _, _, _, _⟩ := cells9 x0
            have G1 := hid g1
            clear hg hz x0 g1
            go_wp2_with fail
            go_ret
            exact ⟨ret_bool (by rw [T1.out]; simp), G1.out⟩
set_option maxRecDepth 20000 in
set_option maxHeartbeats 1000000 in
theorem iObs_4 (x : Obv) (w : World) (hx : wfE x = true) :
    Calls Tryd.prog 53 #[vO x, .int .i64 4] w fun e w' => e = .returned (.bool (obB x 4)) ∧ Gr w w' := by
  have hz := eqA6z x.c0 x.c1 x.c2 x.c3 x.c4 x.c5 (noB x) rfl
  unfold obB
  cases hn : noB x with
  | true =>
    rw [hn] at hz
    go_enter Tryd.func53, Tryd.ntmps53
    go_wp2_with fail
    go_ret
    exact ⟨ret_bool (by simp), Gr.alloc _ _⟩
  | false =>
    rw [hn] at hz
    cases hr : (coL x).all rgB with
    | false =>
      go_enter Tryd.func53, Tryd.ntmps53
      go_wp2_with (go_at_call 77; first | ((with_reducible refine (iContEm 75 rgB _ _ 6 ((coL x).drop 0) _ rfl (hid (box_co (alloc1 (Gr.refl _)).1 0)) (by omega) (wfE_drop hx 0) (fun _ _ => by kernel_rfl) iNoneE).mono ?_); rintro e w1 ⟨rfl, rfl⟩; rw [List.drop_zero, hr]))
      go_ret
      exact ⟨ret_bool (by simp), Gr.alloc _ _⟩
    | true =>
      cases ht : ((coL x).drop 4).all zB with
      | false =>
        go_enter Tryd.func53, Tryd.ntmps53
        go_wp2_with (go_at_call 77; first | ((with_reducible refine (iContEm 75 rgB _ _ 6 ((coL x).drop 0) _ rfl (hid (box_co (alloc1 (Gr.refl _)).1 0)) (by omega) (wfE_drop hx 0) (fun _ _ => by kernel_rfl) iNoneE).mono ?_); rintro e w1 ⟨rfl, rfl⟩; rw [List.drop_zero, hr]) | ((with_reducible refine (iContEm 76 zB _ _ 2 ((coL x).drop 4) _ rfl (hid (box_co (alloc1 (Gr.refl _)).1 4)) (by omega) (wfE_drop hx 4) (fun _ _ => by kernel_rfl) iUsedE).mono ?_); rintro e w1 ⟨rfl, rfl⟩; rw [ht]))
        go_ret
        exact ⟨ret_bool (by simp), Gr.alloc _ _⟩
      | true =>
        cases hk : okB x.p x.q with
        | false =>
          have HK := hid hk
          go_enter Tryd.func53, Tryd.ntmps53
          go_wp2_with (go_at_call 77; first | ((with_reducible refine (iContEm 75 rgB _ _ 6 ((coL x).drop 0) _ rfl (hid (box_co (alloc1 (Gr.refl _)).1 0)) (by omega) (wfE_drop hx 0) (fun _ _ => by kernel_rfl) iNoneE).mono ?_); rintro e w1 ⟨rfl, rfl⟩; rw [List.drop_zero, hr]) | ((with_reducible refine (iContEm 76 zB _ _ 2 ((coL x).drop 4) _ rfl (hid (box_co (alloc1 (Gr.refl _)).1 4)) (by omega) (wfE_drop hx 4) (fun _ _ => by kernel_rfl) iUsedE).mono ?_); rintro e w1 ⟨rfl, rfl⟩; rw [ht]))
          refine (iok_any _ _ _).mono ?_
          rintro e w1 ⟨rfl, hg⟩
          rw [HK.out]
          have G1 := hid (alloc1 hg).2.2
          clear hg hz
          go_wp2_with fail
          go_ret
          exact ⟨ret_bool (by simp), G1.out⟩
        | true =>
          have HK := hid hk
          unfold inB
          by_cases t1 : 1 ≤ x.t
          · by_cases t2 : x.t ≤ 100
            all_goals
              go_enter Tryd.func53, Tryd.ntmps53
              go_wp2_with (go_at_call 77; first | ((with_reducible refine (iContEm 75 rgB _ _ 6 ((coL x).drop 0) _ rfl (hid (box_co (alloc1 (Gr.refl _)).1 0)) (by omega) (wfE_drop hx 0) (fun _ _ => by kernel_rfl) iNoneE).mono ?_); rintro e w1 ⟨rfl, rfl⟩; rw [List.drop_zero, hr]) | ((with_reducible refine (iContEm 76 zB _ _ 2 ((coL x).drop 4) _ rfl (hid (box_co (alloc1 (Gr.refl _)).1 4)) (by omega) (wfE_drop hx 4) (fun _ _ => by kernel_rfl) iUsedE).mono ?_); rintro e w1 ⟨rfl, rfl⟩; rw [ht]))
              refine (iok_any _ _ _).mono ?_
              rintro e w1 ⟨rfl, hg⟩
              rw [HK.out]
              obtain ⟨x0, _, g1⟩ := alloc1 hg
              obtain ⟨_, _, _, _, _, _, _, _, _⟩ := cells9 x0
              have G1 := hid g1
              clear hg hz x0 g1
              go_wp2_with fail
              go_ret
              exact ⟨ret_bool (by simp [t1, t2]), G1.out⟩
          · have T1 := hid (show decide (1 ≤ x.t) = false by simpa using t1)
            go_enter Tryd.func53, Tryd.ntmps53
            go_wp2_with (go_at_call 77; first | ((with_reducible refine (iContEm 75 rgB _ _ 6 ((coL x).drop 0) _ rfl (hid (box_co (alloc1 (Gr.refl _)).1 0)) (by omega) (wfE_drop hx 0) (fun _ _ => by kernel_rfl) iNoneE).mono ?_); rintro e w1 ⟨rfl, rfl⟩; rw [List.drop_zero, hr]) | ((with_reducible refine (iContEm 76 zB _ _ 2 ((coL x).drop 4) _ rfl (hid (box_co (alloc1 (Gr.refl _)).1 4)) (by omega) (wfE_drop hx 4) (fun _ _ => by kernel_rfl) iUsedE).mono ?_); rintro e w1 ⟨rfl, rfl⟩; rw [ht]))
            refine (iok_any _ _ _).mono ?_
            rintro e w1 ⟨rfl, hg⟩
            rw [HK.out]
            obtain ⟨x0, _, g1⟩ := alloc1 hg
            obtain ⟨_, _, _, _, _, _, _, _, _⟩ := cells9 x0
            have G1 := hid g1
            clear hg hz x0 g1
            go_wp2_with fail
            go_ret
            exact ⟨ret_bool (by rw [T1.out]; simp), G1.out⟩
set_option maxRecDepth 20000 in
set_option maxHeartbeats 1000000 in
theorem iObs_5 (x : Obv) (w : World) (hx : wfE x = true) :
    Calls Tryd.prog 53 #[vO x, .int .i64 5] w fun e w' => e = .returned (.bool (obB x 5)) ∧ Gr w w' := by
  have hz := eqA6z x.c0 x.c1 x.c2 x.c3 x.c4 x.c5 (noB x) rfl
  unfold obB
  cases hn : noB x with
  | true =>
    rw [hn] at hz
    go_enter Tryd.func53, Tryd.ntmps53
    go_wp2_with fail
    go_ret
    exact ⟨ret_bool (by simp), Gr.alloc _ _⟩
  | false =>
    rw [hn] at hz
    cases hr : (coL x).all rgB with
    | false =>
      go_enter Tryd.func53, Tryd.ntmps53
      go_wp2_with (go_at_call 77; first | ((with_reducible refine (iContEm 75 rgB _ _ 6 ((coL x).drop 0) _ rfl (hid (box_co (alloc1 (Gr.refl _)).1 0)) (by omega) (wfE_drop hx 0) (fun _ _ => by kernel_rfl) iNoneE).mono ?_); rintro e w1 ⟨rfl, rfl⟩; rw [List.drop_zero, hr]))
      go_ret
      exact ⟨ret_bool (by simp), Gr.alloc _ _⟩
    | true =>
      cases ht : ((coL x).drop 5).all zB with
      | false =>
        go_enter Tryd.func53, Tryd.ntmps53
        go_wp2_with (go_at_call 77; first | ((with_reducible refine (iContEm 75 rgB _ _ 6 ((coL x).drop 0) _ rfl (hid (box_co (alloc1 (Gr.refl _)).1 0)) (by omega) (wfE_drop hx 0) (fun _ _ => by kernel_rfl) iNoneE).mono ?_); rintro e w1 ⟨rfl, rfl⟩; rw [List.drop_zero, hr]) | ((with_reducible refine (iContEm 76 zB _ _ 1 ((coL x).drop 5) _ rfl (hid (box_co (alloc1 (Gr.refl _)).1 5)) (by omega) (wfE_drop hx 5) (fun _ _ => by kernel_rfl) iUsedE).mono ?_); rintro e w1 ⟨rfl, rfl⟩; rw [ht]))
        go_ret
        exact ⟨ret_bool (by simp), Gr.alloc _ _⟩
      | true =>
        cases hk : okB x.p x.q with
        | false =>
          have HK := hid hk
          go_enter Tryd.func53, Tryd.ntmps53
          go_wp2_with (go_at_call 77; first | ((with_reducible refine (iContEm 75 rgB _ _ 6 ((coL x).drop 0) _ rfl (hid (box_co (alloc1 (Gr.refl _)).1 0)) (by omega) (wfE_drop hx 0) (fun _ _ => by kernel_rfl) iNoneE).mono ?_); rintro e w1 ⟨rfl, rfl⟩; rw [List.drop_zero, hr]) | ((with_reducible refine (iContEm 76 zB _ _ 1 ((coL x).drop 5) _ rfl (hid (box_co (alloc1 (Gr.refl _)).1 5)) (by omega) (wfE_drop hx 5) (fun _ _ => by kernel_rfl) iUsedE).mono ?_); rintro e w1 ⟨rfl, rfl⟩; rw [ht]))
          refine (iok_any _ _ _).mono ?_
          rintro e w1 ⟨rfl, hg⟩
          rw [HK.out]
          have G1 := hid (alloc1 hg).2.2
          clear hg hz
          go_wp2_with fail
          go_ret
          exact ⟨ret_bool (by simp), G1.out⟩
        | true =>
          have HK := hid hk
          unfold inB
          by_cases t1 : 1 ≤ x.t
          · by_cases t2 : x.t ≤ 100
            all_goals
              go_enter Tryd.func53, Tryd.ntmps53
              go_wp2_with (go_at_call 77; first | ((with_reducible refine (iContEm 75 rgB _ _ 6 ((coL x).drop 0) _ rfl (hid (box_co (alloc1 (Gr.refl _)).1 0)) (by omega) (wfE_drop hx 0) (fun _ _ => by kernel_rfl) iNoneE).mono ?_); rintro e w1 ⟨rfl, rfl⟩; rw [List.drop_zero, hr]) | ((with_reducible refine (iContEm 76 zB _ _ 1 ((coL x).drop 5) _ rfl (hid (box_co (alloc1 (Gr.refl _)).1 5)) (by omega) (wfE_drop hx 5) (fun _ _ => by kernel_rfl) iUsedE).mono ?_); rintro e w1 ⟨rfl, rfl⟩; rw [ht]))
              refine (iok_any _ _ _).mono ?_
              rintro e w1 ⟨rfl, hg⟩
              rw [HK.out]
              obtain ⟨x0, _, g1⟩ := alloc1 hg
              obtain ⟨_, _, _, _, _, _, _, _, _⟩ := cells9 x0
              have G1 := hid g1
              clear hg hz x0 g1
              go_wp2_with fail
              go_ret
              exact ⟨ret_bool (by simp [t1, t2]), G1.out⟩
          · have T1 := hid (show decide (1 ≤ x.t) = false by simpa using t1)
            go_enter Tryd.func53, Tryd.ntmps53
            go_wp2_with (go_at_call 77; first | ((with_reducible refine (iContEm 75 rgB _ _ 6 ((coL x).drop 0) _ rfl (hid (box_co (alloc1 (Gr.refl _)).1 0)) (by omega) (wfE_drop hx 0) (fun _ _ => by kernel_rfl) iNoneE).mono ?_); rintro e w1 ⟨rfl, rfl⟩; rw [List.drop_zero, hr]) | ((with_reducible refine (iContEm 76 zB _ _ 1 ((coL x).drop 5) _ rfl (hid (box_co (alloc1 (Gr.refl _)).1 5)) (by omega) (wfE_drop hx 5) (fun _ _ => by kernel_rfl) iUsedE).mono ?_); rintro e w1 ⟨rfl, rfl⟩; rw [ht]))
            refine (iok_any _ _ _).mono ?_
            rintro e w1 ⟨rfl, hg⟩
            rw [HK.out]
            obtain ⟨x0, _, g1⟩ := alloc1 hg
            obtain ⟨_, _, _, _, _, _, _, _, _⟩ := cells9 x0
            have G1 := hid g1
            clear hg hz x0 g1
            go_wp2_with fail
            go_ret
            exact ⟨ret_bool (by rw [T1.out]; simp), G1.out⟩
set_option maxRecDepth 20000 in
set_option maxHeartbeats 1000000 in
theorem iObs_6 (x : Obv) (w : World) (hx : wfE x = true) :
    Calls Tryd.prog 53 #[vO x, .int .i64 6] w fun e w' => e = .returned (.bool (obB x 6)) ∧ Gr w w' := by
  have hz := eqA6z x.c0 x.c1 x.c2 x.c3 x.c4 x.c5 (noB x) rfl
  unfold obB
  cases hn : noB x with
  | true =>
    rw [hn] at hz
    go_enter Tryd.func53, Tryd.ntmps53
    go_wp2_with fail
    go_ret
    exact ⟨ret_bool (by simp), Gr.alloc _ _⟩
  | false =>
    rw [hn] at hz
    cases hr : (coL x).all rgB with
    | false =>
      go_enter Tryd.func53, Tryd.ntmps53
      go_wp2_with (go_at_call 77; first | ((with_reducible refine (iContEm 75 rgB _ _ 6 ((coL x).drop 0) _ rfl (hid (box_co (alloc1 (Gr.refl _)).1 0)) (by omega) (wfE_drop hx 0) (fun _ _ => by kernel_rfl) iNoneE).mono ?_); rintro e w1 ⟨rfl, rfl⟩; rw [List.drop_zero, hr]))
      go_ret
      exact ⟨ret_bool (by simp), Gr.alloc _ _⟩
    | true =>
      cases ht : ((coL x).drop 6).all zB with
      | false =>
        go_enter Tryd.func53, Tryd.ntmps53
        go_wp2_with (go_at_call 77; first | ((with_reducible refine (iContEm 75 rgB _ _ 6 ((coL x).drop 0) _ rfl (hid (box_co (alloc1 (Gr.refl _)).1 0)) (by omega) (wfE_drop hx 0) (fun _ _ => by kernel_rfl) iNoneE).mono ?_); rintro e w1 ⟨rfl, rfl⟩; rw [List.drop_zero, hr]) | ((with_reducible refine (iContEm 76 zB _ _ 0 ((coL x).drop 6) _ rfl (hid (co_end _ _ _)) (by omega) (wfE_drop hx 6) (fun _ _ => by kernel_rfl) iUsedE).mono ?_); rintro e w1 ⟨rfl, rfl⟩; rw [ht]))
        go_ret
        exact ⟨ret_bool (by simp), Gr.alloc _ _⟩
      | true =>
        cases hk : okB x.p x.q with
        | false =>
          have HK := hid hk
          go_enter Tryd.func53, Tryd.ntmps53
          go_wp2_with (go_at_call 77; first | ((with_reducible refine (iContEm 75 rgB _ _ 6 ((coL x).drop 0) _ rfl (hid (box_co (alloc1 (Gr.refl _)).1 0)) (by omega) (wfE_drop hx 0) (fun _ _ => by kernel_rfl) iNoneE).mono ?_); rintro e w1 ⟨rfl, rfl⟩; rw [List.drop_zero, hr]) | ((with_reducible refine (iContEm 76 zB _ _ 0 ((coL x).drop 6) _ rfl (hid (co_end _ _ _)) (by omega) (wfE_drop hx 6) (fun _ _ => by kernel_rfl) iUsedE).mono ?_); rintro e w1 ⟨rfl, rfl⟩; rw [ht]))
          refine (iok_any _ _ _).mono ?_
          rintro e w1 ⟨rfl, hg⟩
          rw [HK.out]
          have G1 := hid (alloc1 hg).2.2
          clear hg hz
          go_wp2_with fail
          go_ret
          exact ⟨ret_bool (by simp), G1.out⟩
        | true =>
          have HK := hid hk
          unfold inB
          by_cases t1 : 1 ≤ x.t
          · by_cases t2 : x.t ≤ 100
            all_goals
              go_enter Tryd.func53, Tryd.ntmps53
              go_wp2_with (go_at_call 77; first | ((with_reducible refine (iContEm 75 rgB _ _ 6 ((coL x).drop 0) _ rfl (hid (box_co (alloc1 (Gr.refl _)).1 0)) (by omega) (wfE_drop hx 0) (fun _ _ => by kernel_rfl) iNoneE).mono ?_); rintro e w1 ⟨rfl, rfl⟩; rw [List.drop_zero, hr]) | ((with_reducible refine (iContEm 76 zB _ _ 0 ((coL x).drop 6) _ rfl (hid (co_end _ _ _)) (by omega) (wfE_drop hx 6) (fun _ _ => by kernel_rfl) iUsedE).mono ?_); rintro e w1 ⟨rfl, rfl⟩; rw [ht]))
              refine (iok_any _ _ _).mono ?_
              rintro e w1 ⟨rfl, hg⟩
              rw [HK.out]
              obtain ⟨x0, _, g1⟩ := alloc1 hg
              obtain ⟨_, _, _, _, _, _, _, _, _⟩ := cells9 x0
              have G1 := hid g1
              clear hg hz x0 g1
              go_wp2_with fail
              go_ret
              exact ⟨ret_bool (by simp [t1, t2]), G1.out⟩
          · have T1 := hid (show decide (1 ≤ x.t) = false by simpa using t1)
            go_enter Tryd.func53, Tryd.ntmps53
            go_wp2_with (go_at_call 77; first | ((with_reducible refine (iContEm 75 rgB _ _ 6 ((coL x).drop 0) _ rfl (hid (box_co (alloc1 (Gr.refl _)).1 0)) (by omega) (wfE_drop hx 0) (fun _ _ => by kernel_rfl) iNoneE).mono ?_); rintro e w1 ⟨rfl, rfl⟩; rw [List.drop_zero, hr]) | ((with_reducible refine (iContEm 76 zB _ _ 0 ((coL x).drop 6) _ rfl (hid (co_end _ _ _)) (by omega) (wfE_drop hx 6) (fun _ _ => by kernel_rfl) iUsedE).mono ?_); rintro e w1 ⟨rfl, rfl⟩; rw [ht]))
            refine (iok_any _ _ _).mono ?_
            rintro e w1 ⟨rfl, hg⟩
            rw [HK.out]
            obtain ⟨x0, _, g1⟩ := alloc1 hg
            obtain ⟨_, _, _, _, _, _, _, _, _⟩ := cells9 x0
            have G1 := hid g1
            clear hg hz x0 g1
            go_wp2_with fail
            go_ret
            exact ⟨ret_bool (by rw [T1.out]; simp), G1.out⟩
theorem iObsOk (x : Obv) (n : Nat) (n1 : 1 ≤ n) (n2 : n ≤ 6) (w : World) (hx : wfE x = true) :
    Calls Tryd.prog 53 #[vO x, .int .i64 (n : Int)] w fun e w' => e = .returned (.bool (obB x n)) ∧ Gr w w' := by
  rcases (show n = 1 ∨ n = 2 ∨ n = 3 ∨ n = 4 ∨ n = 5 ∨ n = 6 by omega) with rfl | rfl | rfl | rfl | rfl | rfl
  · exact iObs_1 x w hx
  · exact iObs_2 x w hx
  · exact iObs_3 x w hx
  · exact iObs_4 x w hx
  · exact iObs_5 x w hx
  · exact iObs_6 x w hx
end Go.Proofs.YtkeflpcokcfcjaaDoor
namespace Go.Proofs.YtkeflpcokcfcjaaDoor
open Go.RowKit Go.Sort

/-- What the reference asks of the coefficient with a number. -/
def coB (n k : Nat) (c : Int) : Bool := rgB c && (decide (k < n) || zB c)
def coAt (x : Obv) (k : Nat) : Int := (coL x).getD k 0
def coOk (x : Obv) (n : Nat) : Nat → Bool
  | 0 => true
  | k + 1 => coOk x n k && coB n k (coAt x k)
def coAny (x : Obv) : Nat → Bool
  | 0 => false
  | k + 1 => coAny x k || !zB (coAt x k)
theorem coAny_all (x : Obv) : coAny x 6 = !noB x := by
  simp [coAny, coAt, coL, noB, zB]
  cases (x.c0 == 0) <;> cases (x.c1 == 0) <;> cases (x.c2 == 0) <;> cases (x.c3 == 0) <;> cases (x.c4 == 0) <;> cases (x.c5 == 0) <;> rfl
theorem coOk_all (x : Obv) (n : Nat) (n1 : 1 ≤ n) (n2 : n ≤ 6) : coOk x n 6 = ((coL x).all rgB && ((coL x).drop n).all zB) := by
  rcases (show n = 1 ∨ n = 2 ∨ n = 3 ∨ n = 4 ∨ n = 5 ∨ n = 6 by omega) with rfl | rfl | rfl | rfl | rfl | rfl <;> simp [coOk, coB, coAt, coL] <;>
    cases rgB x.c0 <;> cases rgB x.c1 <;> cases rgB x.c2 <;> cases rgB x.c3 <;> cases rgB x.c4 <;> cases rgB x.c5 <;> simp [Bool.and_assoc]
theorem coOk_mono {x : Obv} {n k : Nat} (h : coOk x n k = false) : ∀ m, k ≤ m → coOk x n m = false
  | 0, hm => by have : k = 0 := by omega
                subst this; exact h
  | m + 1, hm => by
    by_cases e : k = m + 1
    · subst e; exact h
    · simp [coOk, coOk_mono h m (by omega)]
theorem obB_ref (x : Obv) (n : Nat) (n1 : 1 ≤ n) (n2 : n ≤ 6) : obB x n = ((coOk x n 6 && coAny x 6) && (okB x.p x.q && inB x.t 1 100)) := by
  rw [coOk_all x n n1 n2, coAny_all]
  unfold obB
  cases noB x <;> simp
theorem co_cell {w : World} {g o k : Nat} {x : Obv} (X : CelO w ⟨g, o, none⟩ x) (h : k < 6) : w.cell? ⟨g, o + k, none⟩ = some (.int .i8 (coAt x k)) := by
  obtain ⟨h0, h1, h2, h3, h4, h5, _, _, _⟩ := X.blk
  rcases (show k = 0 ∨ k = 1 ∨ k = 2 ∨ k = 3 ∨ k = 4 ∨ k = 5 by omega) with rfl | rfl | rfl | rfl | rfl | rfl <;> simp [coAt, coL] <;> assumption
theorem co_ok {x : Obv} {k : Nat} (h : wfE x = true) (hk : k < 6) : okE (coAt x k) = true := by
  unfold wfE at h
  rw [List.all_eq_true] at h
  refine h _ ?_
  unfold coAt
  rw [List.getD_eq_getElem?_getD, List.getElem?_eq_getElem (show k < (coL x).length from hk)]
  exact List.getElem_mem _
set_option maxRecDepth 20000 in
set_option maxHeartbeats 2000000 in
theorem sObsOk (x : Obv) (n g o : Nat) (w : World) (X : Hid (CelO w ⟨g, o, none⟩ x)) (n1 : 1 ≤ n) (n2 : n ≤ 6) (hx : wfE x = true) :
    Calls Tryd.prog 44 #[.pointer (some ⟨g, o, none⟩), .int .i64 (n : Int)] w fun e w' => e = .returned (.bool (obB x n)) ∧ Gr w w' := by
  rw [obB_ref x n n1 n2]
  obtain ⟨r, hr⟩ : ∃ r, ((coOk x n 6 && coAny x 6) && (okB x.p x.q && inB x.t 1 100)) = r := ⟨_, rfl⟩
  rw [hr]
  have HR := hid hr; have HX := hid hx
  clear hr hx
  go_enter Tryd.func44, Tryd.ntmps44
  go_wp2_with fail
  go_loopw [5, 6] (fun s u wr => ∃ (k : Nat), u = .int .i64 (k : Int) ∧ s = .bool (coAny x k) ∧ k ≤ 6 ∧ coOk x n k = true ∧ w = wr) (fun _ u _ => 6 - (intOf u).toNat)
  case atStart => exact ⟨0, rfl, rfl, by omega, rfl, rfl⟩
  case round =>
    obtain ⟨k, rfl, rfl, hk, hok, rfl⟩ := hrel
    have HOK := hid hok; clear hok
    by_cases hk6 : k < 6
    · obtain ⟨c, hcd⟩ : ∃ c, coAt x k = c := ⟨_, rfl⟩
      have hc := co_cell X.out hk6
      obtain ⟨b1, b2⟩ := okE_bd (co_ok HX.out hk6)
      rw [hcd] at hc b1 b2
      have hny : coAny x (k + 1) = (coAny x k || !zB c) := by rw [← hcd]; rfl
      have hst : coOk x n (k + 1) = (coOk x n k && coB n k c) := by rw [← hcd]; rfl
      have HNY := hid hny; have HST := hid hst
      clear hny hst hcd
      by_cases g1 : c < -3
      · have hbad : coOk x n (k + 1) = false := by rw [HST.out]; unfold coB rgB inB; simp; omega
        have HB := hid (coOk_mono hbad 6 (by omega)); clear hbad
        go_wp2_with fail
        go_ret
        exact ⟨ret_bool (by rw [← HR.out, HB.out]; rfl), Gr.refl _⟩
      · by_cases g2 : 3 < c
        · have hbad : coOk x n (k + 1) = false := by rw [HST.out]; unfold coB rgB inB; simp; omega
          have HB := hid (coOk_mono hbad 6 (by omega)); clear hbad
          go_wp2_with fail
          go_ret
          exact ⟨ret_bool (by rw [← HR.out, HB.out]; rfl), Gr.refl _⟩
        · have hrg : rgB c = true := by unfold rgB inB; simp; omega
          have HRG := hid hrg; clear hrg
          cases hz : (c == 0) with
          | true =>
            have hz2 : (c != 0) = false := by simpa using hz
            have HG : Hid (coOk x n (k + 1) = true) := hid (by rw [HST.out, HOK.out]; unfold coB; rw [HRG.out, show zB c = true from hz]; simp)
            have HN : Hid (coAny x (k + 1) = coAny x k) := hid (by rw [HNY.out, show zB c = true from hz]; simp)
            cases hany : coAny x k
            all_goals
              rw [hany] at HN
              have HA := hid hany; clear hany
              by_cases hkn : (n : Int) ≤ (k : Int)
              all_goals
                go_wp2_with fail
                exact ⟨⟨k + 1, by simp, by rw [HN.out], by omega, HG.out, by simp⟩, by simp [intOf]; omega⟩
          | false =>
            have hz2 : (c != 0) = true := by simpa using hz
            by_cases hkn : (n : Int) ≤ (k : Int)
            · have hbad : coOk x n (k + 1) = false := by rw [HST.out]; unfold coB; rw [show zB c = false from hz, show decide (k < n) = false by simp; omega]; simp
              have HB := hid (coOk_mono hbad 6 (by omega)); clear hbad
              go_wp2_with fail
              go_ret
              exact ⟨ret_bool (by rw [← HR.out, HB.out]; rfl), Gr.refl _⟩
            · have HG : Hid (coOk x n (k + 1) = true) := hid (by rw [HST.out, HOK.out]; unfold coB; rw [HRG.out, show decide (k < n) = true by simp; omega]; simp)
              have HN : Hid (coAny x (k + 1) = true) := hid (by rw [HNY.out, show zB c = false from hz]; simp)
              cases hany : coAny x k
              all_goals
                have HA := hid hany; clear hany
                go_wp2_with fail
                exact ⟨⟨k + 1, by simp, by rw [HN.out], by omega, HG.out, by simp⟩, by simp [intOf]; omega⟩
    · have hke : k = 6 := by omega
      subst hke
      obtain ⟨_, _, _, _, _, _, hp, hq, ht⟩ := X.out.blk
      have hR := HR.out
      rw [HOK.out] at hR
      have HR2 := hid hR; clear hR
      cases hany : coAny x 6 with
      | false =>
        rw [hany] at HR2
        go_wp2_with fail
        go_ret
        exact ⟨ret_bool (by rw [← HR2.out]; rfl), Gr.refl _⟩
      | true =>
        rw [hany] at HR2
        cases hk2 : okB x.p x.q with
        | false =>
          rw [hk2] at HR2
          have HK := hid hk2; clear hany hk2
          go_wp2_with fail
          refine (sok_any _ _ _).mono ?_
          rintro e w1 ⟨rfl, hg⟩
          rw [HK.out]
          have G1 := hid hg; clear hg
          go_wp2_with fail
          go_ret
          exact ⟨ret_bool (by rw [← HR2.out]; simp), G1.out⟩
        | true =>
          rw [hk2] at HR2
          have HK := hid hk2; clear hany hk2
          go_wp2_with fail
          refine (sok_any _ _ _).mono ?_
          rintro e w1 ⟨rfl, hg⟩
          rw [HK.out]
          obtain ⟨_, _, _, _, _, _, _, _, ht1⟩ := (X.out.keep hg).blk
          have G1 := hid hg; clear hg ht hp hq
          go_wp2_with (go_at_call 31; refine (in_any _ _ _ _).mono ?_; rintro e w2 ⟨rfl, rfl⟩)
          go_ret
          exact ⟨ret_bool (by rw [← HR2.out]; simp), G1.out⟩
end Go.Proofs.YtkeflpcokcfcjaaDoor
namespace Go.Proofs.YtkeflpcokcfcjaaDoor
open Go.RowKit Go.Sort

theorem allO_take {xs : List Obv} {k : Nat} {x : Obv} {f : Obv → Bool} (h : xs[k]? = some x) (ha : (xs.take k).all f = true) (hx : f x = true) : (xs.take (k + 1)).all f = true := by
  rw [List.take_add_one, h]
  simp only [Option.toList, List.all_append, ha, List.all_cons, hx, List.all_nil, Bool.and_self]
theorem allO_not {xs : List Obv} {k : Nat} {x : Obv} {f : Obv → Bool} (h : xs[k]? = some x) (hx : f x = false) : xs.all f = false := by
  rw [List.all_eq_false]
  exact ⟨x, List.mem_of_getElem? h, by simp [hx]⟩
theorem allO_get {xs : List Obv} {k : Nat} {x : Obv} {f : Obv → Bool} (h : xs[k]? = some x) (ha : xs.all f = true) : f x = true := by
  rw [List.all_eq_true] at ha
  exact ha x (List.mem_of_getElem? h)
theorem gr_inO {w wb : World} (hb : Gr w wb) {n : Nat} {os : Array Obj} : Gr w (grow (wb.drewN n) os) := hb.trans ⟨⟨n, os⟩, rfl⟩
set_option maxRecDepth 20000 in
set_option maxHeartbeats 1000000 in
theorem iIndexO (F : Nat) (cap : Array Value) (f : Obv → Bool) (A : Option Addr) (c : Nat) (xs : List Obv) (w : World) (X : Hid (RdO w A xs)) (hn : xs.length ≤ 1048576) (hw : xs.all wfE = true)
    (hen : ∀ x w, (callFunc F (#[vO x] ++ cap)).run Tryd.prog w = .ok (.enter F (#[vO x] ++ cap)) w) (hF : ∀ x w', Gr w w' → wfE x = true → Calls Tryd.prog F (#[vO x] ++ cap) w' fun e w'' => e = .returned (.bool (!f x)) ∧ Gr w' w'') :
    Calls Tryd.prog 74 #[.slice A xs.length c, .func (.func F) #[] cap] w fun e w' => (∃ r : Int, e = .returned (.int .i64 r) ∧ decide (0 ≤ r) = !xs.all f) ∧ Gr w w' := by
  have hno := hid fun (x : Obv) (w' : World) (hg : Gr w w') (hx : wfE x = true) (h : f x = false) => (hF x w' hg hx).mono (R' := fun e w'' => e = .returned (.bool true) ∧ Gr w' w'') fun e w' hh => ⟨by rw [hh.1, h]; rfl, hh.2⟩
  have hyes := hid fun (x : Obv) (w' : World) (hg : Gr w w') (hx : wfE x = true) (h : f x = true) => (hF x w' hg hx).mono (R' := fun e w'' => e = .returned (.bool false) ∧ Gr w' w'') fun e w' hh => ⟨by rw [hh.1, h]; rfl, hh.2⟩
  have HW := hid hw
  clear hF hw
  go_enter Tryd.func74, Tryd.ntmps74
  go_wp2_with fail
  go_loopw [8] (fun u wr => ∃ (k : Nat), u = .int .i64 (k : Int) ∧ k ≤ xs.length ∧ Gr w wr ∧ (xs.take k).all f = true) (fun u _ => xs.length - (intOf u).toNat)
  case atStart => exact ⟨0, rfl, by omega, Gr.refl _, rfl⟩
  case round =>
    obtain ⟨k, rfl, hk, g0, ha⟩ := hrel
    have GW := hid g0; have HA := hid ha; clear g0 ha
    by_cases hlt : k < xs.length
    · obtain ⟨x, hxk⟩ : ∃ x, xs[k]? = some x := ⟨xs[k], List.getElem?_eq_getElem _⟩
      obtain ⟨ad, rfl, c1⟩ := (X.out.keep GW.out) k x hxk
      obtain ⟨_, _, _, _, _, _, _, _, _⟩ := c1
      have hen' := hen x
      have HP := hid hxk; have HWX := hid (allO_get hxk HW.out); clear hxk hen
      cases hx : f x with
      | true =>
        have HX := hid hx; clear hx
        go_wp2_with fail
        refine (hyes.out x _ GW.out HWX.out HX.out).mono ?_
        rintro e w1 ⟨rfl, hg1⟩
        have G1 := hid (GW.out.trans hg1); clear hg1 hen'
        go_wp2_with fail
        exact ⟨⟨k + 1, by simp, by omega, G1.out, allO_take HP.out HA.out HX.out⟩, by simp [intOf]; omega⟩
      | false =>
        have HX := hid hx; clear hx
        go_wp2_with fail
        refine (hno.out x _ GW.out HWX.out HX.out).mono ?_
        rintro e w1 ⟨rfl, hg1⟩
        have G1 := hid (GW.out.trans hg1); clear hg1 hen'
        go_wp2
        go_ret
        exact ⟨⟨_, rfl, by rw [allO_not HP.out HX.out]; simp⟩, G1.out⟩
    · have hke : k = xs.length := by omega
      have hall : xs.all f = true := by
        have h := HA.out
        rwa [hke, List.take_length] at h
      have HALL := hid hall
      clear hke hall hen
      go_wp2
      go_ret
      exact ⟨⟨_, rfl, by rw [HALL.out]; simp⟩, GW.out⟩
set_option maxRecDepth 20000 in
set_option maxHeartbeats 400000 in
theorem iContO (F : Nat) (cap : Array Value) (f : Obv → Bool) (A : Option Addr) (c : Nat) (xs : List Obv) (w : World) (X : Hid (RdO w A xs)) (hn : xs.length ≤ 1048576) (hw : xs.all wfE = true)
    (hen : ∀ x w, (callFunc F (#[vO x] ++ cap)).run Tryd.prog w = .ok (.enter F (#[vO x] ++ cap)) w) (hF : ∀ x w', Gr w w' → wfE x = true → Calls Tryd.prog F (#[vO x] ++ cap) w' fun e w'' => e = .returned (.bool (!f x)) ∧ Gr w' w'') :
    Calls Tryd.prog 51 #[.slice A xs.length c, .func (.func F) #[] cap] w fun e w' => e = .returned (.bool (!xs.all f)) ∧ Gr w w' := by
  have HI := hid (iIndexO F cap f A c xs w X hn hw hen hF); clear hen hF hw
  go_enter Tryd.func51, Tryd.ntmps51
  go_wp2_with fail
  refine HI.out.mono ?_
  rintro e w1 ⟨⟨r, rfl, hr⟩, hg⟩
  have HR := hid hr; have HG := hid hg; clear hr hg
  go_wp2_with fail
  go_ret
  exact ⟨ret_bool (by rw [← HR.out]), HG.out⟩

/-! tables -/
def tblB (n : Int) (b : Bool) (p q : Int) (xs : List Obv) : Bool := inB n 1 6 && (decide (xs.length ≤ 24) && (okB p q && ((b || p == 0) && xs.all (fun x => obB x n.toNat))))
set_option maxHeartbeats 400000 in
theorem iUnk (n : Int) (w : World) : Calls Tryd.prog 49 #[.int .i64 n] w fun e w' => e = .returned (.bool (inB n 1 6)) ∧ w = w' := by
  unfold inB
  by_cases h1 : 1 ≤ n
  · go_enter Tryd.func49, Tryd.ntmps49
    go_wp2
    go_ret
    exact ⟨ret_bool (by simp [h1]), rfl⟩
  · have e : decide (1 ≤ n) = false := by simpa using h1
    rw [e]
    go_enter Tryd.func49, Tryd.ntmps49
    go_wp2
    go_ret
    exact ⟨ret_bool (by simp), rfl⟩
set_option maxRecDepth 20000 in
set_option maxHeartbeats 1000000 in
theorem iTbBad (n : Nat) (n1 : 1 ≤ n) (n2 : n ≤ 6) (A : Option Addr) (m c : Nat) (b : Bool) (p q : Int) (k : Nat) (T : TypeId) (x : Obv) (w : World) (XB : Hid (w.heap[k]? = some (.cells #[.int .i64 (n : Int), .slice A m c, .bool b, .int .i64 p, .int .i64 q] T))) (hx : wfE x = true) :
    Calls Tryd.prog 52 #[vO x, .pointer (some ⟨k, 0, none⟩)] w fun e w' => e = .returned (.bool (!obB x n)) ∧ Gr w w' := by
  have HX := hid hx; clear hx
  go_enter Tryd.func52, Tryd.ntmps52
  obtain ⟨_, _, _, _, _⟩ := cells5 XB.out
  have _ := fz XB.out
  have _ := ltb XB.out
  go_wp2_with fail
  refine (iObsOk x n n1 n2 _ HX.out).mono ?_
  rintro e w1 ⟨rfl, hg1⟩
  obtain ⟨x1_0, hz1, g1⟩ := alloc1 hg1
  have x1_1 := g1.keep XB.out
  obtain ⟨_, _, _, _, _, _, _, _, _⟩ := cells9 x1_0
  have _ := fz x1_0
  have _ := ltb x1_0
  obtain ⟨_, _, _, _, _⟩ := cells5 x1_1
  have _ := fz x1_1
  have _ := ltb x1_1
  have X1_0 := hid x1_0; clear x1_0
  have X1_1 := hid x1_1; clear x1_1
  have G1 := hid (g1)
  clear hg1 g1
  go_wp2
  go_ret
  exact ⟨rfl, G1.out⟩
set_option maxRecDepth 20000 in
set_option maxHeartbeats 1000000 in
theorem iTbOk (n : Int) (A : Option Addr) (c : Nat) (b : Bool) (p q : Int) (xs : List Obv) (w : World) (X : Hid (RdO w A xs)) (hn : xs.length ≤ 1048576) (hw : xs.all wfE = true) :
    Calls Tryd.prog 21 #[tbl n A xs.length c b p q] w fun e w' => e = .returned (.bool (tblB n b p q xs)) ∧ Gr w w' := by
  have HW := hid hw; clear hw
  unfold tblB
  cases h1 : inB n 1 6 with
  | false =>
    go_enter Tryd.func21, Tryd.ntmps21
    go_wp2_with (go_at_call 49; refine (iUnk _ _).mono ?_; rintro e w1 ⟨rfl, rfl⟩; rw [h1])
    go_ret
    exact ⟨ret_bool (by simp), Gr.alloc _ _⟩
  | true =>
    by_cases h2 : xs.length ≤ 24
    · cases h3 : okB p q with
      | false =>
        have H3 := hid h3
        go_enter Tryd.func21, Tryd.ntmps21
        go_wp2_with (go_at_call 49; refine (iUnk _ _).mono ?_; rintro e w1 ⟨rfl, rfl⟩; rw [h1])
        refine (iok_any _ _ _).mono ?_
        rintro e w1 ⟨rfl, hg⟩
        rw [H3.out]
        have G1 := hid (alloc1 hg).2.2
        clear hg
        go_wp2_with fail
        go_ret
        exact ⟨ret_bool (by simp), G1.out⟩
      | true =>
        have H3 := hid h3
        cases h4 : (b || p == 0) with
        | false =>
          obtain ⟨hb0, hp0⟩ := Bool.or_eq_false_iff.1 h4
          subst hb0
          have hp1 : (p != 0) = true := by simpa using hp0
          go_enter Tryd.func21, Tryd.ntmps21
          go_wp2_with (go_at_call 49; refine (iUnk _ _).mono ?_; rintro e w1 ⟨rfl, rfl⟩; rw [h1])
          refine (iok_any _ _ _).mono ?_
          rintro e w1 ⟨rfl, hg⟩
          rw [H3.out]
          obtain ⟨x0, _, g1⟩ := alloc1 hg
          obtain ⟨_, _, _, _, _⟩ := cells5 x0
          have G1 := hid g1
          clear hg g1 x0
          go_wp2_with fail
          go_ret
          exact ⟨ret_bool (by simp), G1.out⟩
        | true =>
          obtain ⟨m, rfl⟩ : ∃ m : Nat, n = (m : Int) := ⟨n.toNat, by unfold inB at h1; simp at h1; omega⟩
          obtain ⟨m1, m2⟩ : 1 ≤ m ∧ m ≤ 6 := by unfold inB at h1; simp at h1; omega
          have HC := hid fun (k : Nat) (T : TypeId) (w' : World) (hg : Gr w w') (XB : Hid (w'.heap[k]? = some (.cells #[.int .i64 (m : Int), .slice A xs.length c, .bool b, .int .i64 p, .int .i64 q] T))) => iContO 52 #[.pointer (some ⟨k, 0, none⟩)] (fun x => obB x m) A c xs w' (hid (X.out.keep hg)) hn HW.out (fun _ _ => by kernel_rfl) (fun x w'' hg' hx => iTbBad m m1 m2 A xs.length c b p q k T x w'' (hid (hg'.keep XB.out)) hx)
          cases b with
          | true =>
            go_enter Tryd.func21, Tryd.ntmps21
            go_wp2_with (go_at_call 49; refine (iUnk _ _).mono ?_; rintro e w1 ⟨rfl, rfl⟩; rw [h1])
            refine (iok_any _ _ _).mono ?_
            rintro e w1 ⟨rfl, hg⟩
            rw [H3.out]
            obtain ⟨x0, _, g1⟩ := alloc1 hg
            obtain ⟨_, _, _, _, _⟩ := cells5 x0
            have X0 := hid x0; have G1 := hid g1
            clear hg g1 x0
            go_wp2_with fail
            refine (HC.out _ _ _ G1.out X0).mono ?_
            rintro e w2 ⟨rfl, hg2⟩
            have G2 := hid (G1.out.trans hg2)
            clear hg2
            go_wp2_with fail
            go_ret
            exact ⟨ret_bool (by simp [h2]), G2.out⟩
          | false =>
            have hp1 : (p != 0) = false := by simpa using h4
            go_enter Tryd.func21, Tryd.ntmps21
            go_wp2_with (go_at_call 49; refine (iUnk _ _).mono ?_; rintro e w1 ⟨rfl, rfl⟩; rw [h1])
            refine (iok_any _ _ _).mono ?_
            rintro e w1 ⟨rfl, hg⟩
            rw [H3.out]
            obtain ⟨x0, _, g1⟩ := alloc1 hg
            obtain ⟨_, _, _, _, _⟩ := cells5 x0
            have X0 := hid x0; have G1 := hid g1
            clear hg g1 x0
            go_wp2_with fail
            refine (HC.out _ _ _ G1.out X0).mono ?_
            rintro e w2 ⟨rfl, hg2⟩
            have G2 := hid (G1.out.trans hg2)
            clear hg2
            go_wp2_with fail
            go_ret
            exact ⟨ret_bool (by simp [h2]), G2.out⟩
    · go_enter Tryd.func21, Tryd.ntmps21
      go_wp2_with (go_at_call 49; refine (iUnk _ _).mono ?_; rintro e w1 ⟨rfl, rfl⟩; rw [h1])
      go_ret
      exact ⟨ret_bool (by simp), Gr.alloc _ _⟩
end Go.Proofs.YtkeflpcokcfcjaaDoor
namespace Go.Proofs.YtkeflpcokcfcjaaDoor
open Go.RowKit Go.Sort

set_option maxRecDepth 20000 in
set_option maxHeartbeats 2000000 in
theorem sTbOk (k : Nat) (T : TypeId) (n : Int) (g c : Nat) (b : Bool) (p q : Int) (xs : List Obv) (w : World) (XB : Hid (w.heap[k]? = some (.cells #[.int .i64 n, .slice (some ⟨g, 0, none⟩) xs.length c, .bool b, .int .i64 p, .int .i64 q] T))) (X : Hid (RdO w (some ⟨g, 0, none⟩) xs)) (hn : xs.length ≤ 1048576) (hw : xs.all wfE = true) :
    Calls Tryd.prog 17 #[.pointer (some ⟨k, 0, none⟩)] w fun e w' => e = .returned (.bool (tblB n b p q xs)) ∧ Gr w w' := by
  have HW := hid hw; clear hw
  obtain ⟨_, _, _, _, _⟩ := cells5 XB.out
  unfold tblB
  cases h1 : inB n 1 6 with
  | false =>
    go_enter Tryd.func17, Tryd.ntmps17
    go_wp2_with (go_at_call 31; refine (in_any _ _ _ _).mono ?_; rintro e w1 ⟨rfl, rfl⟩; rw [h1])
    go_ret
    exact ⟨ret_bool (by simp), Gr.refl _⟩
  | true =>
    by_cases h2 : xs.length ≤ 24
    · cases h3 : okB p q with
      | false =>
        have H3 := hid h3
        go_enter Tryd.func17, Tryd.ntmps17
        go_wp2_with (go_at_call 31; refine (in_any _ _ _ _).mono ?_; rintro e w1 ⟨rfl, rfl⟩; rw [h1])
        refine (sok_any _ _ _).mono ?_
        rintro e w1 ⟨rfl, hg⟩
        rw [H3.out]
        have G1 := hid hg
        clear hg
        go_wp2_with fail
        go_ret
        exact ⟨ret_bool (by simp), G1.out⟩
      | true =>
        have H3 := hid h3
        cases h4 : (b || p == 0) with
        | false =>
          obtain ⟨hb0, hp0⟩ := Bool.or_eq_false_iff.1 h4
          subst hb0
          have hp1 : (p != 0) = true := by simpa using hp0
          go_enter Tryd.func17, Tryd.ntmps17
          go_wp2_with (go_at_call 31; refine (in_any _ _ _ _).mono ?_; rintro e w1 ⟨rfl, rfl⟩; rw [h1])
          refine (sok_any _ _ _).mono ?_
          rintro e w1 ⟨rfl, hg⟩
          rw [H3.out]
          obtain ⟨_, _, _, _, _⟩ := cells5 (hg.keep XB.out)
          have G1 := hid hg
          clear hg
          go_wp2_with fail
          go_ret
          exact ⟨ret_bool (by simp), G1.out⟩
        | true =>
          obtain ⟨m, rfl⟩ : ∃ m : Nat, n = (m : Int) := ⟨n.toNat, by unfold inB at h1; simp at h1; omega⟩
          obtain ⟨m1, m2⟩ : 1 ≤ m ∧ m ≤ 6 := by unfold inB at h1; simp at h1; omega
          cases b with
          | true =>
            
            go_enter Tryd.func17, Tryd.ntmps17
            go_wp2_with (go_at_call 31; refine (in_any _ _ _ _).mono ?_; rintro e w1 ⟨rfl, rfl⟩; rw [h1])
            refine (sok_any _ _ _).mono ?_
            rintro e w1 ⟨rfl, hg⟩
            rw [H3.out]
            obtain ⟨_, _, _, _, _⟩ := cells5 (hg.keep XB.out)
            have G1 := hid hg
            clear hg
            go_wp2_with fail
            go_loopw [3] (fun u wr => ∃ (j : Nat), u = .int .i64 (j : Int) ∧ j ≤ xs.length ∧ Gr w wr ∧ (xs.take j).all (fun x => obB x m) = true) (fun u _ => xs.length - (intOf u).toNat)
            case atStart => exact ⟨0, rfl, by omega, G1.out, rfl⟩
            case round =>
              obtain ⟨j, rfl, hj, g0, ha⟩ := hrel
              have GW := hid g0; have HA := hid ha; have YB := hid (g0.keep XB.out); clear g0 ha
              obtain ⟨_, _, _, _, _⟩ := cells5 YB.out
              by_cases hlt : j < xs.length
              · obtain ⟨x, hxk⟩ : ∃ x, xs[j]? = some x := ⟨xs[j], List.getElem?_eq_getElem _⟩
                obtain ⟨ad, he, c1⟩ := (X.out.keep GW.out) j x hxk
                cases he
                rw [add_at] at c1
                have C1 := hid c1
                have HP := hid hxk; have HWX := hid (allO_get hxk HW.out); clear hxk c1
                obtain ⟨v, hv⟩ : ∃ v, obB x m = v := ⟨_, rfl⟩
                have HS := hid fun (w' : World) (hg : Gr wr w') => sObsOk x m g (j * 9) w' (hid (C1.out.keep hg)) m1 m2 HWX.out
                rw [hv] at HS
                have HV := hid hv; clear hv
                go_wp2_with fail
                refine wp_reg0 11 (by kernel_rfl) (by kernel_rfl) ?_
                apply Exists.intro
                refine ⟨fun wb hb => ?_, ?_⟩
                · obtain ⟨_, _, _, _, _⟩ := hb.at5 YB.out
                  simp only [headOps, List.contains, List.elem, reduceIte, Bool.false_eq_true]
                  repeat (first | go_big_quiet_step (first | (go_at_call 44; exact Calls.of_gr (HS.out _ (gr_inO hb)))) | quiet_step (fail))
                  exact wpQuiet_nil rfl
                intro w2 hg2
                have G2 := hid (GW.out.trans hg2)
                clear hg2
                cases v with
                | true =>
                  go_wp2_with fail
                  exact ⟨⟨j + 1, by simp, by omega, G2.out, allO_take HP.out HA.out HV.out⟩, by simp [intOf]; omega⟩
                | false =>
                  go_wp2_with fail
                  go_ret
                  exact ⟨ret_bool (by rw [Int.toNat_natCast, allO_not (f := fun x => obB x m) HP.out HV.out]; simp), G2.out⟩
              · have hke : j = xs.length := by omega
                have hall : xs.all (fun x => obB x m) = true := by
                  have h := HA.out
                  rwa [hke, List.take_length] at h
                have HALL := hid hall
                clear hke hall
                go_wp2_with fail
                go_ret
                exact ⟨ret_bool (by rw [Int.toNat_natCast, HALL.out]; simp [h2]), GW.out⟩
          | false =>
            have hp1 : (p != 0) = false := by simpa using h4
            go_enter Tryd.func17, Tryd.ntmps17
            go_wp2_with (go_at_call 31; refine (in_any _ _ _ _).mono ?_; rintro e w1 ⟨rfl, rfl⟩; rw [h1])
            refine (sok_any _ _ _).mono ?_
            rintro e w1 ⟨rfl, hg⟩
            rw [H3.out]
            obtain ⟨_, _, _, _, _⟩ := cells5 (hg.keep XB.out)
            have G1 := hid hg
            clear hg
            go_wp2_with fail
            go_loopw [3] (fun u wr => ∃ (j : Nat), u = .int .i64 (j : Int) ∧ j ≤ xs.length ∧ Gr w wr ∧ (xs.take j).all (fun x => obB x m) = true) (fun u _ => xs.length - (intOf u).toNat)
            case atStart => exact ⟨0, rfl, by omega, G1.out, rfl⟩
            case round =>
              obtain ⟨j, rfl, hj, g0, ha⟩ := hrel
              have GW := hid g0; have HA := hid ha; have YB := hid (g0.keep XB.out); clear g0 ha
              obtain ⟨_, _, _, _, _⟩ := cells5 YB.out
              by_cases hlt : j < xs.length
              · obtain ⟨x, hxk⟩ : ∃ x, xs[j]? = some x := ⟨xs[j], List.getElem?_eq_getElem _⟩
                obtain ⟨ad, he, c1⟩ := (X.out.keep GW.out) j x hxk
                cases he
                rw [add_at] at c1
                have C1 := hid c1
                have HP := hid hxk; have HWX := hid (allO_get hxk HW.out); clear hxk c1
                obtain ⟨v, hv⟩ : ∃ v, obB x m = v := ⟨_, rfl⟩
                have HS := hid fun (w' : World) (hg : Gr wr w') => sObsOk x m g (j * 9) w' (hid (C1.out.keep hg)) m1 m2 HWX.out
                rw [hv] at HS
                have HV := hid hv; clear hv
                go_wp2_with fail
                refine wp_reg0 11 (by kernel_rfl) (by kernel_rfl) ?_
                apply Exists.intro
                refine ⟨fun wb hb => ?_, ?_⟩
                · obtain ⟨_, _, _, _, _⟩ := hb.at5 YB.out
                  simp only [headOps, List.contains, List.elem, reduceIte, Bool.false_eq_true]
                  repeat (first | go_big_quiet_step (first | (go_at_call 44; exact Calls.of_gr (HS.out _ (gr_inO hb)))) | quiet_step (fail))
                  exact wpQuiet_nil rfl
                intro w2 hg2
                have G2 := hid (GW.out.trans hg2)
                clear hg2
                cases v with
                | true =>
                  go_wp2_with fail
                  exact ⟨⟨j + 1, by simp, by omega, G2.out, allO_take HP.out HA.out HV.out⟩, by simp [intOf]; omega⟩
                | false =>
                  go_wp2_with fail
                  go_ret
                  exact ⟨ret_bool (by rw [Int.toNat_natCast, allO_not (f := fun x => obB x m) HP.out HV.out]; simp), G2.out⟩
              · have hke : j = xs.length := by omega
                have hall : xs.all (fun x => obB x m) = true := by
                  have h := HA.out
                  rwa [hke, List.take_length] at h
                have HALL := hid hall
                clear hke hall
                go_wp2_with fail
                go_ret
                exact ⟨ret_bool (by rw [Int.toNat_natCast, HALL.out]; simp [h2]), GW.out⟩
    · go_enter Tryd.func17, Tryd.ntmps17
      go_wp2_with (go_at_call 31; refine (in_any _ _ _ _).mono ?_; rintro e w1 ⟨rfl, rfl⟩; rw [h1])
      go_ret
      exact ⟨ret_bool (by simp), Gr.refl _⟩
theorem ob_ok {x : Obv} {n : Nat} (h : obB x n = true) : okB x.p x.q = true ∧ inB x.t 1 100 = true ∧ (coL x).all rgB = true := by
  unfold obB at h; simp only [Bool.and_eq_true] at h; exact ⟨h.2.1, h.2.2, h.1.2.1⟩
theorem co_rg {x : Obv} {n k : Nat} (h : obB x n = true) (hk : k < 6) : -3 ≤ coAt x k ∧ coAt x k ≤ 3 := by
  have h3 := (ob_ok h).2.2
  have : coAt x k ∈ coL x := by
    unfold coAt
    rw [List.getD_eq_getElem?_getD, List.getElem?_eq_getElem (show k < (coL x).length from hk)]
    exact List.getElem_mem _
  have := List.all_eq_true.1 h3 _ this
  unfold rgB inB at this
  simpa using this
theorem box_cell {w : World} {g k : Nat} {x : Obv} {T : TypeId} (h : w.heap[g]? = some (.cells #[.int .i8 x.c0, .int .i8 x.c1, .int .i8 x.c2, .int .i8 x.c3, .int .i8 x.c4, .int .i8 x.c5, .int .i64 x.p, .int .i64 x.q, .int .i64 x.t] T)) (hk : k < 6) : w.cell? ⟨g, k, none⟩ = some (.int .i8 (coAt x k)) := by
  obtain ⟨h0, h1, h2, h3, h4, h5, _, _, _⟩ := cells9 h
  rcases (show k = 0 ∨ k = 1 ∨ k = 2 ∨ k = 3 ∨ k = 4 ∨ k = 5 by omega) with rfl | rfl | rfl | rfl | rfl | rfl <;> simp [coAt, coL] <;> assumption
end Go.Proofs.YtkeflpcokcfcjaaDoor
