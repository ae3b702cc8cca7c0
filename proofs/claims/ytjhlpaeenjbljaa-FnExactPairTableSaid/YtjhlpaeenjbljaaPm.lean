/- PAIRS: the table of all pairs of intervals, of the program. -/
import Derived.Test.YtjhlpaeenjbljaaPt
namespace Go.Proofs.Ytjhlpaeenjbljaa
open Go.RowKit Go.Sort

theorem prRow_at {xs : List (Int × Int)} {i k : Nat} {r s p q : Int} (hik : i < k) (h : xs[i]? = some (r, s)) (h2 : xs[k]? = some (p, q)) : prRow xs i (k + 1 - 1 - i) = prRow xs i (k - 1 - i) ++ [pairO i k (sbP r s p q) (sbQ r s p q)] := by
  obtain ⟨j, rfl⟩ : ∃ j, k = i + 1 + j := ⟨k - (i + 1), by omega⟩
  rw [show i + 1 + j + 1 - 1 - i = j + 1 by omega, show i + 1 + j - 1 - i = j by omega]
  exact prRow_succ h h2
theorem ivs_ok {xs : List (Int × Int)} (h : AllV xs) : ∀ (k : Nat) (p q : Int), (ivs xs)[k]? = some (p, q) → okB p q = true := by
  intro k p q hk
  have hl : k < (ivs xs).length := (List.getElem?_eq_some_iff.1 hk).1
  rw [ivs_len] at hl
  have e0 : xs[k]? = some (xs[k].1, xs[k].2) := List.getElem?_eq_getElem _
  have e1 : xs[k + 1]? = some (xs[k + 1].1, xs[k + 1].2) := List.getElem?_eq_getElem _
  have hb := h k _ _ _ _ e0 e1
  unfold ivs at hk
  rw [List.getElem?_map, List.getElem?_range (by omega)] at hk
  simp only [Option.map_some, Option.some.injEq, ivAt, List.getD_eq_getElem?_getD, e0, e1, Option.getD_some, Prod.mk.injEq] at hk
  obtain ⟨rfl, rfl⟩ := hk
  exact hb
theorem own_neOx {W : World} {base b : Nat} {n : Nat} {T : TypeId} {v : Value} {xs : List Value} {cs : Array Value} (h : W.ownsRow base 104 9 v n xs) (hb : W.heap[b]? = some (.cells cs T)) (hT : T ≠ 104) : v.ownBlock ≠ some b := by
  rcases h.2 with ⟨rfl, _⟩ | ⟨g, cap, cur, rfl, _, h3, _⟩
  · simp [Value.ownBlock]
  · intro he
    have : g = b := by simpa [Value.ownBlock] using he
    subst this
    rw [hb] at h3
    injection h3 with e1
    injection e1 with _ e2
    exact hT e2
set_option maxRecDepth 20000 in
set_option maxHeartbeats 400000 in
theorem ipt_v (a b : Int) (A : Option Addr) (c : Nat) (xs : List (Int × Int)) (w : World) (X : Hid (RdF w A xs))
    (hv : ∀ w', Hid (RdF w' A xs) → Calls Try.prog 134 #[scl a b A xs.length c] w' fun e w'' => (∃ x y, e = .panicked [{ v := .iface 138 (fr x y), recovered := false }]) ∧ Gr w' w'') :
    Calls Try.prog 97 #[scl a b A xs.length c] w fun e w' => (∃ x y, e = .panicked [{ v := .iface 138 (fr x y), recovered := false }]) ∧ Gr w w' := by
  have HV := hid hv; clear hv
  go_enter Try.func97, Try.ntmps97
  go_wp2_with fail
  refine (HV.out _ (hid (X.out.keep (((Gr.refl w).al _).al _)))).mono ?_
  rintro e w1 ⟨⟨xp, yp, rfl⟩, hg1⟩
  obtain ⟨x1_0, x1_1, hz1, g1⟩ := alloc2 hg1
  obtain ⟨_, _, _⟩ := cells3 x1_0
  have _ := fz x1_0
  have _ := ltb x1_0
  obtain ⟨_, _, _, _, _⟩ := cells5 x1_1
  have _ := fz x1_1
  have _ := ltb x1_1
  have X1_0 := hid x1_0; clear x1_0
  have X1_1 := hid x1_1; clear x1_1
  have G1 := hid (g1)
  clear hg1 g1
  exact ⟨rfl, ⟨xp, yp, rfl⟩, G1.out⟩
set_option maxRecDepth 20000 in
set_option maxHeartbeats 400000 in
theorem ipt_s (a b : Int) (A : Option Addr) (c n : Nat) (xs vs : List (Int × Int)) (w : World) (X : Hid (RdF w A xs))
    (hv : ∀ w', Hid (RdF w' A xs) → Calls Try.prog 134 #[scl a b A xs.length c] w' fun e w'' => ∃ A' c', e = .returned (.slice A' n c') ∧ w''.ownsRow w'.heap.size 24 2 (.slice A' n c') n (flatL vs) ∧ Gr w' w'')
    (hs : ∀ (A' : Option Addr) (c' : Nat) w', Hid (RdF w' A' vs) → Calls Try.prog 135 #[.slice A' n c'] w' fun e w'' => (∃ x y, e = .panicked [{ v := .iface 138 (fr x y), recovered := false }]) ∧ Gr w' w'') :
    Calls Try.prog 97 #[scl a b A xs.length c] w fun e w' => (∃ x y, e = .panicked [{ v := .iface 138 (fr x y), recovered := false }]) ∧ Gr w w' := by
  have HV := hid hv; have HS := hid hs; clear hv hs
  go_enter Try.func97, Try.ntmps97
  go_wp2_with fail
  refine (HV.out _ (hid (X.out.keep (((Gr.refl w).al _).al _)))).mono ?_
  rintro e w1 ⟨A1, c1, rfl, own1, hg⟩
  obtain ⟨_, _, _, g1⟩ := alloc2 hg
  have G1 := hid g1; have RD := hid (RdF.of_ownF own1)
  clear own1 hg g1
  go_wp2_with fail
  refine (HS.out _ _ _ RD).mono ?_
  rintro e w2 ⟨⟨xp, yp, rfl⟩, hg2⟩
  exact ⟨rfl, ⟨xp, yp, rfl⟩, G1.out.trans hg2⟩
set_option maxRecDepth 20000 in
set_option maxHeartbeats 4000000 in
theorem ipt_p (a b : Int) (A : Option Addr) (c n : Nat) (xs vs : List (Int × Int)) (P Q : Int) (w : World) (X : Hid (RdF w A xs)) (hvn : vs.length = n) (hn6 : n ≤ 6) (hok : ∀ (k : Nat) (p q : Int), vs[k]? = some (p, q) → okB p q = true)
    (hv : ∀ w', Hid (RdF w' A xs) → Calls Try.prog 134 #[scl a b A xs.length c] w' fun e w'' => ∃ A' c', e = .returned (.slice A' n c') ∧ w''.ownsRow w'.heap.size 24 2 (.slice A' n c') n (flatL vs) ∧ Gr w' w'')
    (hs : ∀ (A' : Option Addr) (c' : Nat) w', Hid (RdF w' A' vs) → Calls Try.prog 135 #[.slice A' n c'] w' fun e w'' => e = .returned (fr P Q) ∧ Gr w' w'') :
    Calls Try.prog 97 #[scl a b A xs.length c] w fun e w' => ((AllPr vs ∧ ∃ A' c', e = .returned (tbl (n : Int) A' (prTab vs n).length c' true P Q) ∧ w'.ownsRow w.heap.size 104 9 (.slice A' (prTab vs n).length c') (prTab vs n).length (flO (prTab vs n))) ∨ (¬ AllPr vs ∧ ∃ x y, e = .panicked [{ v := .iface 138 (fr x y), recovered := false }])) ∧ Gr w w' := by
  obtain ⟨i0, hi, iz0, iz1, iz2⟩ : ∃ i, Try.prog.info? 104 = some i ∧ i.zero = some (vO zO) ∧ i.size = 9 ∧ i.bytes = 32 := ⟨_, rfl, rfl, rfl, rfl⟩
  have HV := hid hv; have HS := hid hs; have HOK := hid hok; have HVN := hid hvn; clear hv hs hok hvn
  go_enter Try.func97, Try.ntmps97
  go_wp2_with fail
  refine (HV.out _ (hid (X.out.keep (((Gr.refl w).al _).al _)))).mono ?_
  rintro e w1 ⟨A1, c1, rfl, own1, hg⟩
  obtain ⟨_, x1, _, g1⟩ := alloc2 hg
  have G1 := hid g1; have X1 := hid x1; have RD1 := hid (RdF.of_ownF own1)
  clear own1 hg g1 x1
  go_wp2_with fail
  refine (HS.out _ _ _ RD1).mono ?_
  rintro e w2 ⟨rfl, hg2⟩
  have G2 := hid (G1.out.trans hg2); have X2 := hid (hg2.keep X1.out); have RD2 := hid (RD1.out.keep hg2)
  have hw2 : w.heap.size + 1 < w2.heap.size := ltb (hg2.keep X1.out)
  have HW2 := hid hw2
  clear hg2 hw2 X1 RD1 HV HS X
  go_wp2_with fail
  go_loopw [17] (fun u wr => ∃ (i : Nat) (A' : Option Addr) (c' L : Nat), u = .int .i64 (i : Int) ∧ i ≤ n ∧ L = (prTab vs i).length ∧ Gr w2 wr ∧ wr.heap[w2.heap.size]? = some (.cells #[.int .i64 (n : Int), .slice A' L c', .bool true, .int .i64 P, .int .i64 Q] 50) ∧ wr.ownsRow w2.heap.size 104 9 (.slice A' L c') L (flO (prTab vs i)) ∧ (∀ (i' k : Nat) (r s p q : Int), i' < i → i' < k → vs[i']? = some (r, s) → vs[k]? = some (p, q) → sbB r s p q = true)) (fun u _ => n - (intOf u).toNat)
  case atStart => exact ⟨0, none, 0, 0, rfl, by omega, rfl, (Gr.refl _).al _, (alloc1 (Gr.refl _)).1, own_nilO _ _, fun i' k r s p q h => by omega⟩
  case round =>
    obtain ⟨i, A', c', L, rfl, hil, hL, hg, hsc, hown, hall⟩ := hrel
    have GW := hid hg; have OWN := hid hown; have YT := hid hsc; have HALL := hid hall; have HL := hid hL
    obtain ⟨W4, hW4⟩ : ∃ W4, W4 = wr := ⟨_, rfl⟩
    subst hW4
    clear hg hown hsc hall hL
    by_cases hlt : i < n
    · obtain ⟨⟨r, s⟩, h0⟩ : ∃ pq, vs[i]? = some pq := ⟨vs[i]'(by rw [HVN.out]; exact hlt), List.getElem?_eq_getElem _⟩
      obtain ⟨ad, rfl, c1, c2⟩ := (RD2.out.keep GW.out) i r s h0
      have H0 := hid h0; have HRS := hid (HOK.out _ _ _ h0)
      clear h0
      go_wp2_with fail
      go_loopw [7] (fun u wr => ∃ (k : Nat) (A' : Option Addr) (c' L : Nat), u = .int .i64 (k : Int) ∧ i < k ∧ k ≤ n ∧ L = (prTab vs i ++ prRow vs i (k - 1 - i)).length ∧ Gr w2 wr ∧ wr.heap[W4.heap.size]? = some (.cells #[.int .i64 r, .int .i64 s] 24) ∧ wr.heap[w2.heap.size]? = some (.cells #[.int .i64 (n : Int), .slice A' L c', .bool true, .int .i64 P, .int .i64 Q] 50) ∧ wr.ownsRow w2.heap.size 104 9 (.slice A' L c') L (flO (prTab vs i ++ prRow vs i (k - 1 - i))) ∧ (∀ (k' : Nat) (p q : Int), i < k' → k' < k → vs[k']? = some (p, q) → sbB r s p q = true)) (fun u _ => n - (intOf u).toNat)
      case atStart =>
        have e0 : prTab vs i ++ prRow vs i (i + 1 - 1 - i) = prTab vs i := by rw [show i + 1 - 1 - i = 0 by omega]; simp [prRow]
        refine ⟨i + 1, A', c', L, by simp, by omega, by omega, by rw [e0]; exact HL.out, GW.out.al _, (alloc1 (w := W4) (A := .cells #[.int .i64 r, .int .i64 s] 24) (Gr.refl _)).1, ((Gr.refl W4).al _).keep YT.out, by rw [e0]; exact own_gr OWN.out ((Gr.refl W4).al _), fun k' p q h1 h2 => by omega⟩
      case round =>
        obtain ⟨k, A2, c2', M, rfl, hik, hkn, hM, hg5, hye, hsc5, hown5, hin⟩ := hrel
        have GV := hid hg5; have YE := hid hye; have OWN5 := hid hown5; have Y5 := hid hsc5; have HIN := hid hin; have HM := hid hM
        have hlt4 := ltb YT.out
        clear hg5 hye hown5 hsc5 hin hM c1 c2
        by_cases hkl : k < n
        · obtain ⟨⟨p, q⟩, h1⟩ : ∃ pq, vs[k]? = some pq := ⟨vs[k]'(by rw [HVN.out]; exact hkl), List.getElem?_eq_getElem _⟩
          obtain ⟨ad2, e2, d1, d2⟩ := (RD2.out.keep GV.out) k p q h1
          cases e2
          have H1 := hid h1; have HPQ := hid (HOK.out _ _ _ h1); have D1 := hid d1; have D2 := hid d2
          clear h1 d1 d2
          cases hd : sbB r s p q with
          | true =>
            have HD := hid hd
            have hmn := fun w => minusv_t r s p q w HRS.out HPQ.out HD.out
            have htk := prRow_at hik H0.out H1.out
            have hML : M ≤ 42 := by rw [HM.out]; exact prTab_bd (by rw [HVN.out]; omega) (by rw [HVN.out]; exact hn6) (by omega)
            obtain ⟨x, hx⟩ : ∃ x, sbP r s p q = x := ⟨_, rfl⟩
            obtain ⟨y, hy⟩ : ∃ y, sbQ r s p q = y := ⟨_, rfl⟩
            rw [hx, hy] at hmn htk
            obtain ⟨o0, o1, o2, o3, o4, o5, ho⟩ : ∃ o0 o1 o2 o3 o4 o5, pairO i k x y = ⟨o0, o1, o2, o3, o4, o5, x, y, 1⟩ := ⟨_, _, _, _, _, _, rfl⟩
            have hpr := fun w => iPairO i k x y w (by omega) (.inl hik)
            rw [ho] at hpr htk
            have HT : Hid (prTab vs i ++ prRow vs i (k + 1 - 1 - i) = (prTab vs i ++ prRow vs i (k - 1 - i)) ++ [⟨o0, o1, o2, o3, o4, o5, x, y, 1⟩]) := hid (by rw [htk, List.append_assoc])
            have HMN := hid hmn; have HP := hid hpr
            clear hd hmn hpr hx hy ho htk
            obtain ⟨_, _, _, _, _⟩ := cells5 Y5.out
            obtain ⟨_, _⟩ := cells2 YE.out
            have _ := fz Y5.out
            have _ := ltb Y5.out
            have _ := ltb YE.out
            have _ := D1.out
            have _ := D2.out
            go_wp2_with fail
            go_region_law (first
              | (refine (step_append_gr rfl (.tmp 31) (.tmp 41) 48 rfl w2.heap.size 104 i0 (vO zO) 9 32 Try.underlying48 hi iz0 iz1 iz2 rfl (by decide) _ M _ rfl OWN7.out ⟨w7.heap.size, 0, none⟩ 1 1 (cO ⟨o0, o1, o2, o3, o4, o5, x, y, 1⟩) rfl rfl NEW.out (cO_one _) (by decide) (by unfold maxLen; omega) (by omega) hsz7 ?_); intro v' w8 own8 hgb _ hgr; obtain ⟨A3, c3, rfl⟩ := own_form own8; rw [flO_app, ← HT.out] at own8; have y8 := (hgb.block w2.heap.size (ltb YA.out) (Ne.symm hne)).trans YA.out; have OWN8 := hid own8; have Y8 := hid y8; have G8 := hid (hgr _ GA.out (Nat.le_refl _)); have YE8 := hid ((hgb.block W4.heap.size (ltb YB.out) (Ne.symm hne2)).trans YB.out); obtain ⟨_, _, _, _, _⟩ := cells5 Y8.out; have _ := fz Y8.out; have _ := ltb Y8.out; clear own8 y8 hgb hgr hne hne2 hsz7)
              | (go_simp; go_wp2_with (first | (go_at_call 137; refine (HMN.out _).mono ?_; rintro e6 w6 ⟨rfl, hg6⟩; have GD6 := hid ((Gr.drew wr).trans hg6); obtain ⟨_, _, _, _, _⟩ := cells5 (GD6.out.keep Y5.out); have _ := ltb (GD6.out.keep Y5.out); clear hg6) | (go_at_call 136; refine (HP.out _).mono ?_; rintro e7 w7 ⟨rfl, hg7⟩; have gd := GD6.out.trans hg7; have Y7 := hid (gd.keep Y5.out); have GA := hid ((GV.out.trans gd).al (.cells #[.int .i8 o0, .int .i8 o1, .int .i8 o2, .int .i8 o3, .int .i8 o4, .int .i8 o5, .int .i64 x, .int .i64 y, .int .i64 1] 104)); have OWN7 := hid (own_gr (own_gr OWN5.out gd) ((Gr.refl w7).al (.cells #[.int .i8 o0, .int .i8 o1, .int .i8 o2, .int .i8 o3, .int .i8 o4, .int .i8 o5, .int .i64 x, .int .i64 y, .int .i64 1] 104))); have NEW := hid (one_news9 (w := w7.alloc (.cells #[.int .i8 o0, .int .i8 o1, .int .i8 o2, .int .i8 o3, .int .i8 o4, .int .i8 o5, .int .i64 x, .int .i64 y, .int .i64 1] 104)) (b := w7.heap.size) (alloc1 (Gr.refl _)).1); have hsz7 := GA.out.size; have YA := hid (((Gr.refl w7).al (.cells #[.int .i8 o0, .int .i8 o1, .int .i8 o2, .int .i8 o3, .int .i8 o4, .int .i8 o5, .int .i64 x, .int .i64 y, .int .i64 1] 104)).keep Y7.out); have YB := hid (((Gr.refl w7).al (.cells #[.int .i8 o0, .int .i8 o1, .int .i8 o2, .int .i8 o3, .int .i8 o4, .int .i8 o5, .int .i64 x, .int .i64 y, .int .i64 1] 104)).keep (gd.keep YE.out)); have hne := own_neO OWN7.out YA.out; have hne2 := own_neOx OWN7.out YB.out (by decide); obtain ⟨_, _, _, _, _⟩ := cells5 Y7.out; have _ := fz Y7.out; have _ := ltb Y7.out; clear hg7 gd))))
            all_goals
              go_wp2_with fail
              refine ⟨⟨k + 1, A3, c3, M + 1, by simp, by omega, by omega, by rw [HT.out, List.length_append, ← HM.out]; rfl, G8.out.setCell (by simp) _, keepSet' YE8.out (by simp; omega), by simpa using Joins.block_setCell (i := 1) Y8.out _, own_setT OWN8.out Y8.out _, fun k' p' q' h1 h2 h3 => ?_⟩, by simp [intOf]; omega⟩
              by_cases hkk : k' = k
              · subst hkk
                have := H1.out.symm.trans h3
                cases this
                exact HD.out
              · exact HIN.out k' p' q' h1 (by omega) h3
          | false =>
            have HD := hid hd
            have HMN := hid fun w => minusv_f r s p q w HRS.out HPQ.out HD.out
            have HNA : Hid (¬ AllPr vs) := hid fun h => by have := h i k r s p q hik H0.out H1.out; rw [HD.out] at this; cases this
            clear hd
            obtain ⟨_, _, _, _, _⟩ := cells5 Y5.out
            have _ := fz Y5.out
            have _ := ltb Y5.out
            obtain ⟨_, _⟩ := cells2 YE.out
            have _ := fz YE.out
            have _ := ltb YE.out
            go_wp2_with fail
            refine wp_regC 9 [10, 11, 12, 13, 14] (by kernel_rfl) (by kernel_rfl) rfl ?_
            apply Exists.intro
            refine ⟨137, #[fr r s, fr p q], fun wb hb => ?_, ?_⟩
            · obtain ⟨_, _, _, _, _⟩ := hb.at5 Y5.out
              obtain ⟨_, _⟩ := hb.at2 YE.out
              have _ := hb.atF D1.out; have _ := hb.atF D2.out
              simp only [headOps, List.contains, List.elem, List.length_cons, List.length_nil, Nat.zero_add, Nat.reduceAdd, Nat.reduceBEq, reduceIte, Bool.false_eq_true, dumOp]
              repeat (first | go_big_quiet_step (first | (fail)) | quiet_step (fail))
              exact wpQuiet_nil rfl
            refine ⟨fun w' => by kernel_rfl, fun w' hg' => (HMN.out w').mono fun e w2 ⟨⟨x, y, he⟩, hg2⟩ => ⟨_, he, fun a' ha' => ⟨ha', .inr ⟨HNA.out, x, y, rfl⟩, ((G2.out.trans GV.out).trans hg').trans hg2⟩⟩⟩
        · have hke : k = n := by omega
          subst hke
          go_wp2_with fail
          refine ⟨⟨i + 1, A2, c2', M, by simp, by omega, by rw [prTab_succ, HVN.out]; exact HM.out, GV.out, Y5.out, by rw [prTab_succ, HVN.out]; exact OWN5.out, fun i' k' r' s' p' q' h1 h2 h3 h4 => ?_⟩, by simp [intOf]; omega⟩
          by_cases hii : i' = i
          · subst hii
            have := H0.out.symm.trans h3
            cases this
            exact HIN.out k' p' q' h2 (by have := (List.getElem?_eq_some_iff.1 h4).1; rw [HVN.out] at this; exact this) h4
          · exact HALL.out i' k' r' s' p' q' (by omega) h2 h3 h4
    · have hke : i = n := by omega
      subst hke
      have Z2 := hid (GW.out.keep X2.out)
      have hw2 := HW2.out
      obtain ⟨_, _, _, _, _⟩ := cells5 YT.out
      obtain ⟨_, _, _, _, _⟩ := cells5 Z2.out
      have _ := fz Z2.out
      have _ := ltb Z2.out
      have hh := OWN.out
      rw [HL.out] at hh
      go_wp2_with fail
      refine bodyPost_ret (v := tbl (i : Int) A' L c' true P Q) (by simp [results, Try.results97, go_sem, *]) rfl ?_
      refine ⟨.inl ⟨fun i' k r s p q h1 h2 h3 => HALL.out i' k r s p q (by have := (List.getElem?_eq_some_iff.1 h2).1; rw [HVN.out] at this; exact this) h1 h2 h3, A', c', by rw [HL.out], own_base (base' := w.heap.size) (own_low (own_low (own_low (own_low (own_low hh (by simpa using hw2) _) (by simpa using hw2) _) (by simpa using hw2) _) (by simpa using hw2) _) (by simpa using hw2) _) (by omega)⟩, ?_⟩
      exact ((((((G2.out.trans GW.out).setCell (by simp) _).setCell (by simp) _).setCell (by simp) _).setCell (by simp) _).setCell (by simp) _)
end Go.Proofs.Ytjhlpaeenjbljaa
