/- READERS: ValueFrom of the reference. -/
import Derived.Test.YtfpcbgfcachlgaaVw
namespace Go.Proofs.Ytfpcbgfcachlgaa
open Go.RowKit Go.Sort

set_option maxRecDepth 20000 in
set_option maxHeartbeats 1000000 in
theorem sVF_1 (g : Nat) (B : Option Addr) (c m d : Nat) (xs : List Rqv) (w : World) (X : Hid (RdRq w (some ⟨g, 0, none⟩) xs)) (hn : xs.length ≤ 1048576) (hw : xs.all wfR = true) (hr : xs.all okRd = false) :
    Calls Try.prog 40 #[.slice (some ⟨g, 0, none⟩) xs.length c, .slice B m d] w fun e w' => e = .returned (.tuple #[vN zN, .int .i64 1]) ∧ Gr w w' := by
  have HC := hid fun (w : World) (X : Hid (RdRq w (some ⟨g, 0, none⟩) xs)) => sVRs g c xs false w X hn hw hr
  clear hw hr
  go_enter Try.func40, Try.ntmps40
  go_wp2_with fail
  refine (HC.out _ (hid (X.out.keep ((Gr.refl w).al _)))).mono ?_
  rintro e w1 ⟨rfl, hg1⟩
  obtain ⟨x1_0, hz1, g1⟩ := alloc1 hg1
  obtain ⟨_, _, _, _⟩ := cells4 x1_0
  have _ := fz x1_0
  have _ := ltb x1_0
  have X1_0 := hid x1_0; clear x1_0
  have G1 := hid (g1)
  clear hg1 g1
  go_wp2
  refine bodyPost_ret (v := .tuple #[sp 0 0 0 0, .int .i64 1]) (by simp [results, Try.results40, go_sem, *]) rfl ⟨rfl, ?_⟩
  exact ((((G1.out).setCell (by simp <;> omega) _).setCell (by simp <;> omega) _).setCell (by simp <;> omega) _).setCell (by simp <;> omega) _
set_option maxRecDepth 20000 in
set_option maxHeartbeats 1000000 in
theorem sVF_2 (g : Nat) (B : Option Addr) (c d : Nat) (xs : List Rqv) (ns : List Int) (w : World) (X : Hid (RdRq w (some ⟨g, 0, none⟩) xs)) (Y : Hid (RdI w B ns)) (hn : xs.length ≤ 1048576) (hm : ns.length ≤ 1048576) (hw : xs.all wfR = true) (hr : xs.all okRd = true) (h : ¬ (xs.length ≤ 12 ∧ xs.length = ns.length ∧ rdB ns = true)) :
    Calls Try.prog 40 #[.slice (some ⟨g, 0, none⟩) xs.length c, .slice B ns.length d] w fun e w' => e = .returned (.tuple #[vN zN, .int .i64 2]) ∧ Gr w w' := by
  have HC := hid fun (w : World) (X : Hid (RdRq w (some ⟨g, 0, none⟩) xs)) => sVRs g c xs true w X hn hw hr
  have HB := hid fun (w : World) (Y : Hid (RdI w B ns)) => sRead B d ns w Y hm
  clear hw hr
  cases hb : rdB ns with
  | false =>
    have e2 : rdC ns = 2 := by unfold rdC; rw [hb]; rfl
    rw [e2] at HB
    clear h hb e2
    go_enter Try.func40, Try.ntmps40
    go_wp2_with fail
    refine (HC.out _ (hid (X.out.keep ((Gr.refl w).al _)))).mono ?_
    rintro e w1 ⟨rfl, hg1⟩
    obtain ⟨x1_0, hz1, g1⟩ := alloc1 hg1
    obtain ⟨_, _, _, _⟩ := cells4 x1_0
    have _ := fz x1_0
    have _ := ltb x1_0
    have X1_0 := hid x1_0; clear x1_0
    have G1 := hid (g1)
    clear hg1 g1
    go_wp2_with fail
    refine (HB.out _ (hid (Y.out.keep G1.out))).mono ?_
    rintro e w2 ⟨rfl, hg2⟩
    have x2_1 := hg2.keep X1_0.out
    obtain ⟨_, _, _, _⟩ := cells4 x2_1
    have _ := fz x2_1
    have _ := ltb x2_1
    have X2_1 := hid x2_1; clear x2_1
    have G2 := hid (G1.out.trans hg2)
    clear hg2
    go_wp2
    refine bodyPost_ret (v := .tuple #[sp 0 0 0 0, .int .i64 2]) (by simp [results, Try.results40, go_sem, *]) rfl ⟨rfl, ?_⟩
    exact ((((G2.out).setCell (by simp <;> omega) _).setCell (by simp <;> omega) _).setCell (by simp <;> omega) _).setCell (by simp <;> omega) _
  | true =>
    have e2 : rdC ns = 0 := by unfold rdC; rw [hb]; rfl
    rw [e2] at HB
    by_cases h2 : xs.length = ns.length
    · have h1 : ¬ xs.length ≤ 12 := fun h1 => h ⟨h1, h2, hb⟩
      rw [h2] at HC h1 ⊢
      clear h h2 hb e2 hn
      go_enter Try.func40, Try.ntmps40
      go_wp2_with fail
      refine (HC.out _ (hid (X.out.keep ((Gr.refl w).al _)))).mono ?_
      rintro e w1 ⟨rfl, hg1⟩
      obtain ⟨x1_0, hz1, g1⟩ := alloc1 hg1
      obtain ⟨_, _, _, _⟩ := cells4 x1_0
      have _ := fz x1_0
      have _ := ltb x1_0
      have X1_0 := hid x1_0; clear x1_0
      have G1 := hid (g1)
      clear hg1 g1
      go_wp2_with fail
      refine (HB.out _ (hid (Y.out.keep G1.out))).mono ?_
      rintro e w2 ⟨rfl, hg2⟩
      have x2_1 := hg2.keep X1_0.out
      obtain ⟨_, _, _, _⟩ := cells4 x2_1
      have _ := fz x2_1
      have _ := ltb x2_1
      have X2_1 := hid x2_1; clear x2_1
      have G2 := hid (G1.out.trans hg2)
      clear hg2
      go_wp2
      refine bodyPost_ret (v := .tuple #[sp 0 0 0 0, .int .i64 2]) (by simp [results, Try.results40, go_sem, *]) rfl ⟨rfl, ?_⟩
      exact ((((G2.out).setCell (by simp <;> omega) _).setCell (by simp <;> omega) _).setCell (by simp <;> omega) _).setCell (by simp <;> omega) _
    · have h2' : ¬ (xs.length : Int) = (ns.length : Int) := by omega
      clear h hb e2
      go_enter Try.func40, Try.ntmps40
      go_wp2_with fail
      refine (HC.out _ (hid (X.out.keep ((Gr.refl w).al _)))).mono ?_
      rintro e w1 ⟨rfl, hg1⟩
      obtain ⟨x1_0, hz1, g1⟩ := alloc1 hg1
      obtain ⟨_, _, _, _⟩ := cells4 x1_0
      have _ := fz x1_0
      have _ := ltb x1_0
      have X1_0 := hid x1_0; clear x1_0
      have G1 := hid (g1)
      clear hg1 g1
      go_wp2_with fail
      refine (HB.out _ (hid (Y.out.keep G1.out))).mono ?_
      rintro e w2 ⟨rfl, hg2⟩
      have x2_1 := hg2.keep X1_0.out
      obtain ⟨_, _, _, _⟩ := cells4 x2_1
      have _ := fz x2_1
      have _ := ltb x2_1
      have X2_1 := hid x2_1; clear x2_1
      have G2 := hid (G1.out.trans hg2)
      clear hg2
      go_wp2
      refine bodyPost_ret (v := .tuple #[sp 0 0 0 0, .int .i64 2]) (by simp [results, Try.results40, go_sem, *]) rfl ⟨rfl, ?_⟩
      exact ((((G2.out).setCell (by simp <;> omega) _).setCell (by simp <;> omega) _).setCell (by simp <;> omega) _).setCell (by simp <;> omega) _
theorem smeetS (s t : Spv) (r : Bool) (w : World) (h1 : okSp s = true) (h2 : okSp t = true) (h : okM s t = r) :
    Calls Try.prog 95 #[vN s, vN t] w fun e w' => e = .returned (.tuple #[vN (mtS s t), .bool r]) ∧ Gr w w' := by
  obtain ⟨a1, a2, _⟩ := spB_ok h1
  obtain ⟨b1, b2, _⟩ := spB_ok h2
  subst h
  exact smeet s.a s.b s.c s.d t.a t.b t.c t.d w a1 a2 b1 b2
set_option maxRecDepth 20000 in
set_option maxHeartbeats 2000000 in
theorem sVF_3 (g : Nat) (B : Option Addr) (c d : Nat) (xs : List Rqv) (ns : List Int) (w : World) (X : Hid (RdRq w (some ⟨g, 0, none⟩) xs)) (Y : Hid (RdI w B ns)) (h1 : xs.length ≤ 12) (h2 : xs.length = ns.length) (h3 : rdB ns = true) (hw : xs.all wfR = true) (hr : xs.all okRd = true) (hd : divs ns xs = false) :
    Calls Try.prog 40 #[.slice (some ⟨g, 0, none⟩) xs.length c, .slice B ns.length d] w fun e w' => e = .returned (.tuple #[vN zN, .int .i64 4]) ∧ Gr w w' := by
  obtain ⟨b1, b2, b3⟩ := rd_parts h3
  have HC := hid fun (w : World) (X : Hid (RdRq w (some ⟨g, 0, none⟩) xs)) => sVRs g c xs true w X (by omega) hw hr
  have HB := hid fun (w : World) (Y : Hid (RdI w B ns)) => sRead B d ns w Y (by omega)
  have e2 : rdC ns = 0 := by unfold rdC; rw [h3]; rfl
  rw [e2] at HB
  have HD := hid hd; have HR := hid hr; have H2 := hid h2
  obtain ⟨n, hn⟩ : ∃ n, xs.length = n := ⟨_, rfl⟩
  have HN := hid hn
  rw [← h2] at HB ⊢
  rw [hn] at HC HB h1 ⊢
  clear h2 h3 hw hr hd b1 b2 b3 e2 hn
  go_enter Try.func40, Try.ntmps40
  go_wp2_with fail
  refine (HC.out _ (hid (X.out.keep ((Gr.refl w).al _)))).mono ?_
  rintro e w1 ⟨rfl, hg1⟩
  obtain ⟨x1_0, hz1, g1⟩ := alloc1 hg1
  obtain ⟨_, _, _, _⟩ := cells4 x1_0
  have _ := fz x1_0
  have _ := ltb x1_0
  have X1_0 := hid x1_0; clear x1_0
  have G1 := hid (g1)
  clear hg1 g1
  go_wp2_with fail
  refine (HB.out _ (hid (Y.out.keep G1.out))).mono ?_
  rintro e w2 ⟨rfl, hg2⟩
  have x2_1 := hg2.keep X1_0.out
  obtain ⟨_, _, _, _⟩ := cells4 x2_1
  have _ := fz x2_1
  have _ := ltb x2_1
  have X2_1 := hid x2_1; clear x2_1
  have G2 := hid (G1.out.trans hg2)
  clear hg2
  go_wp2_with fail
  go_loopw [7] (fun u wr => ∃ (k : Nat), u = .int .i64 (k : Int) ∧ k ≤ n ∧ Gr w2 wr ∧ (∀ (j : Nat) (m : Int) (x : Rqv), j < k → ns[j]? = some m → xs[j]? = some x → divR m x = true)) (fun u _ => n - (intOf u).toNat)
  case atStart => exact ⟨0, rfl, by omega, Gr.refl _, fun j n x hj => by omega⟩
  case round =>
    obtain ⟨k, rfl, hk, hg, hdv⟩ := hrel
    have GW := hid hg; have DV := hid hdv
    have Z := hid (hg.keep X2_1.out)
    clear hg hdv
    by_cases hlt : k < n
    · obtain ⟨x, hp⟩ : ∃ x, xs[k]? = some x := ⟨xs[k]'(by rw [HN.out]; exact hlt), List.getElem?_eq_getElem _⟩
      obtain ⟨m, hq⟩ : ∃ m, ns[k]? = some m := ⟨ns[k]'(by rw [← H2.out, HN.out]; exact hlt), List.getElem?_eq_getElem _⟩
      obtain ⟨ad, he, c1⟩ := (X.out.keep (G2.out.trans GW.out)) k x hp
      obtain ⟨bd, rfl, c2⟩ := (Y.out.keep (G2.out.trans GW.out)) k m hq
      cases he
      rw [add_at] at c1
      obtain ⟨f0, f1, f2, f3⟩ := c1.blk
      obtain ⟨hu1, hu2, hu3, hu4⟩ := okRd_u (allRq_get hp HR.out)
      have hu0 : x.u ≠ 0 := by omega
      obtain ⟨r, hr⟩ : ∃ r, Int.tmod m x.u = r := ⟨_, rfl⟩
      have F2 := hid f2; have C2 := hid c2
      clear c1 c2 f0 f1 f2 f3
      by_cases hr0 : r = 0
      · have HD1 : Hid (divR m x = true) := hid (by unfold divR; rw [hr]; simpa using hr0)
        have DV2 : Hid (∀ (j : Nat) (m : Int) (x : Rqv), j < k + 1 → ns[j]? = some m → xs[j]? = some x → divR m x = true) := hid fun j m' y hj h1 h2 => by
          by_cases hjk : j = k
          · subst hjk
            rw [hq] at h1
            rw [hp] at h2
            cases h1; cases h2
            exact HD1.out
          · exact DV.out j m' y (by omega) h1 h2
        subst hr0
        clear hp hq
        go_wp2_with fail
        refine wp_reg0 11 (by kernel_rfl) (by kernel_rfl) ?_
        apply Exists.intro
        refine ⟨fun wb hb => ?_, ?_⟩
        · have _ := hb.atF C2.out; have _ := hb.atF F2.out
          simp only [headOps, List.contains, List.elem, reduceIte, Bool.false_eq_true]
          repeat (first | go_big_quiet_step (first | (fail)) | quiet_step (fail))
          exact wpQuiet_nil rfl
        intro w3 hg3
        have G3 := hid (GW.out.trans hg3)
        clear hg3
        go_wp2_with fail
        exact ⟨⟨k + 1, by simp, by omega, G3.out, DV2.out⟩, by simp [intOf]; omega⟩
      · clear hp hq
        go_wp2_with fail
        refine wp_reg0 11 (by kernel_rfl) (by kernel_rfl) ?_
        apply Exists.intro
        refine ⟨fun wb hb => ?_, ?_⟩
        · have _ := hb.atF C2.out; have _ := hb.atF F2.out
          simp only [headOps, List.contains, List.elem, reduceIte, Bool.false_eq_true]
          repeat (first | go_big_quiet_step (first | (fail)) | quiet_step (fail))
          exact wpQuiet_nil rfl
        intro w3 hg3
        have G3 := hid ((G2.out.trans GW.out).trans hg3)
        have Z3 := hid (hg3.keep Z.out)
        clear hg3
        obtain ⟨_, _, _, _⟩ := cells4 Z3.out
        have _ := fz Z3.out
        have _ := ltb Z3.out
        go_wp2_with fail
        refine bodyPost_ret (v := .tuple #[vN zN, .int .i64 4]) (by simp [results, Try.results40, go_sem, zN, *]) rfl ⟨rfl, ?_⟩
        exact ((((G3.out).setCell (by simp <;> omega) _).setCell (by simp <;> omega) _).setCell (by simp <;> omega) _).setCell (by simp <;> omega) _
    · have hke : k = n := by omega
      have hall : divs ns xs = true := divs_all ns xs H2.out.symm fun j m x h1 h2 => DV.out j m x (by rw [hke, ← HN.out]; exact (List.getElem?_eq_some_iff.1 h2).1) h1 h2
      rw [HD.out] at hall
      cases hall
set_option maxRecDepth 20000 in
set_option maxHeartbeats 2000000 in
theorem sVF_4 (g : Nat) (B : Option Addr) (c d : Nat) (xs : List Rqv) (ns : List Int) (w : World) (X : Hid (RdRq w (some ⟨g, 0, none⟩) xs)) (Y : Hid (RdI w B ns)) (h1 : xs.length ≤ 12) (h2 : xs.length = ns.length) (h3 : rdB ns = true) (hw : xs.all wfR = true) (hr : xs.all okRd = true) (hd : divs ns xs = true) (s0 : Spv) (R : Option Spv) (h0 : (spns ns xs)[0]? = some s0) (hR : metF s0 ((spns ns xs).drop 1) = R) :
    Calls Try.prog 40 #[.slice (some ⟨g, 0, none⟩) xs.length c, .slice B ns.length d] w fun e w' => e = .returned (.tuple #[vN (R.getD zN), .int .i64 (if R.isSome then 0 else 8)]) ∧ Gr w w' := by
  obtain ⟨C, hC⟩ : ∃ C, (if R.isSome = true then (0 : Int) else 8) = C := ⟨_, rfl⟩
  rw [hC]
  have HCC := hid hC; clear hC
  obtain ⟨b1, b2, b3⟩ := rd_parts h3
  have HC := hid fun (w : World) (X : Hid (RdRq w (some ⟨g, 0, none⟩) xs)) => sVRs g c xs true w X (by omega) hw hr
  have HB := hid fun (w : World) (Y : Hid (RdI w B ns)) => sRead B d ns w Y (by omega)
  have e2 : rdC ns = 0 := by unfold rdC; rw [h3]; rfl
  rw [e2] at HB
  have HD := hid hd; have HR := hid hr; have H2 := hid h2; have H0 := hid h0; have HRR := hid hR; have B1 := hid b1; have B3 := hid b3; have HOK := hid (spns_ok b3 hr); have HSL := hid (spns_len ns xs h2.symm)
  obtain ⟨n, hn⟩ : ∃ n, xs.length = n := ⟨_, rfl⟩
  have HN := hid hn
  rw [← h2] at HB ⊢
  rw [hn] at HC HB h1 ⊢
  clear h2 h3 hw hr hd b1 b2 b3 e2 hn h0 hR
  go_enter Try.func40, Try.ntmps40
  go_wp2_with fail
  refine (HC.out _ (hid (X.out.keep ((Gr.refl w).al _)))).mono ?_
  rintro e w1 ⟨rfl, hg1⟩
  obtain ⟨x1_0, hz1, g1⟩ := alloc1 hg1
  obtain ⟨_, _, _, _⟩ := cells4 x1_0
  have _ := fz x1_0
  have _ := ltb x1_0
  have X1_0 := hid x1_0; clear x1_0
  have G1 := hid (g1)
  clear hg1 g1
  go_wp2_with fail
  refine (HB.out _ (hid (Y.out.keep G1.out))).mono ?_
  rintro e w2 ⟨rfl, hg2⟩
  have x2_1 := hg2.keep X1_0.out
  obtain ⟨_, _, _, _⟩ := cells4 x2_1
  have _ := fz x2_1
  have _ := ltb x2_1
  have X2_1 := hid x2_1; clear x2_1
  have G2 := hid (G1.out.trans hg2)
  clear hg2
  go_wp2_with fail
  go_loopw [7] (fun u wr => ∃ (k : Nat), u = .int .i64 (k : Int) ∧ k ≤ n ∧ Gr w2 wr ∧ (∀ (j : Nat) (m : Int) (x : Rqv), j < k → ns[j]? = some m → xs[j]? = some x → divR m x = true)) (fun u _ => n - (intOf u).toNat)
  case atStart => exact ⟨0, rfl, by omega, Gr.refl _, fun j n x hj => by omega⟩
  case round =>
    obtain ⟨k, rfl, hk, hg, hdv⟩ := hrel
    have GW := hid hg; have DV := hid hdv
    have Z := hid (hg.keep X2_1.out)
    clear hg hdv
    by_cases hlt : k < n
    · obtain ⟨x, hp⟩ : ∃ x, xs[k]? = some x := ⟨xs[k]'(by rw [HN.out]; exact hlt), List.getElem?_eq_getElem _⟩
      obtain ⟨m, hq⟩ : ∃ m, ns[k]? = some m := ⟨ns[k]'(by rw [← H2.out, HN.out]; exact hlt), List.getElem?_eq_getElem _⟩
      obtain ⟨ad, he, c1⟩ := (X.out.keep (G2.out.trans GW.out)) k x hp
      obtain ⟨bd, rfl, c2⟩ := (Y.out.keep (G2.out.trans GW.out)) k m hq
      cases he
      rw [add_at] at c1
      obtain ⟨f0, f1, f2, f3⟩ := c1.blk
      obtain ⟨hu1, hu2, hu3, hu4⟩ := okRd_u (allRq_get hp HR.out)
      have hu0 : x.u ≠ 0 := by omega
      obtain ⟨r, hr⟩ : ∃ r, Int.tmod m x.u = r := ⟨_, rfl⟩
      have F2 := hid f2; have C2 := hid c2
      clear c1 c2 f0 f1 f2 f3
      by_cases hr0 : r = 0
      · have HD1 : Hid (divR m x = true) := hid (by unfold divR; rw [hr]; simpa using hr0)
        have DV2 : Hid (∀ (j : Nat) (m : Int) (x : Rqv), j < k + 1 → ns[j]? = some m → xs[j]? = some x → divR m x = true) := hid fun j m' y hj h1 h2 => by
          by_cases hjk : j = k
          · subst hjk
            rw [hq] at h1
            rw [hp] at h2
            cases h1; cases h2
            exact HD1.out
          · exact DV.out j m' y (by omega) h1 h2
        subst hr0
        clear hp hq
        go_wp2_with fail
        refine wp_reg0 11 (by kernel_rfl) (by kernel_rfl) ?_
        apply Exists.intro
        refine ⟨fun wb hb => ?_, ?_⟩
        · have _ := hb.atF C2.out; have _ := hb.atF F2.out
          simp only [headOps, List.contains, List.elem, reduceIte, Bool.false_eq_true]
          repeat (first | go_big_quiet_step (first | (fail)) | quiet_step (fail))
          exact wpQuiet_nil rfl
        intro w3 hg3
        have G3 := hid (GW.out.trans hg3)
        clear hg3
        go_wp2_with fail
        exact ⟨⟨k + 1, by simp, by omega, G3.out, DV2.out⟩, by simp [intOf]; omega⟩
      · have hF := divs_not ns xs k m x hq hp (by unfold divR; rw [hr]; simpa using hr0)
        rw [HD.out] at hF
        cases hF
    · have hke : n = k := by omega
      subst hke
      have GWW := hid (G2.out.trans GW.out)
      clear DV hk
      obtain ⟨x0, hx0⟩ : ∃ x, xs[0]? = some x := ⟨xs[0]'(by have := B1.out; have := H2.out; omega), List.getElem?_eq_getElem _⟩
      obtain ⟨m0, hm0⟩ : ∃ m, ns[0]? = some m := ⟨ns[0]'(by have := B1.out; omega), List.getElem?_eq_getElem _⟩
      have hs0 : s0 = spnS m0 x0 := Option.some.inj (H0.out.symm.trans (spns_get ns xs 0 m0 x0 hm0 hx0))
      have OK0 := hid (HOK.out 0 s0 H0.out)
      have hnn : 1 ≤ n := by have := B1.out; have := H2.out; have := HN.out; omega
      obtain ⟨ad, he, c1⟩ := (X.out.keep GWW.out) 0 x0 hx0
      obtain ⟨bd, rfl, c2⟩ := (Y.out.keep GWW.out) 0 m0 hm0
      cases he
      rw [add_at, Nat.zero_mul] at c1
      rw [show bd.add 0 = bd by unfold Addr.add; simp] at c2
      obtain ⟨hu1, hu2, hu3, hu4⟩ := okRd_u (allRq_get hx0 HR.out)
      obtain ⟨ho1, ho2⟩ := okR_bd (allI_get hm0 B3.out)
      have HS0 := hid fun (w : World) (C : Hid (CelRq w ⟨g, 0, none⟩ x0)) => (sSpanOf x0.nm x0.b x0.u x0.o m0 g 0 w C hu1 hu2 hu3 hu4 ho1 ho2).mono (R' := fun e w' => e = .returned (vN s0) ∧ Gr w w') fun e w' h => ⟨by rw [h.1, spnS_v, hs0], h.2⟩
      have C1 := hid c1; have C2 := hid c2
      clear hs0 hx0 hm0 c1 c2 hu1 hu2 hu3 hu4 ho1 ho2
      go_wp2_with fail
      refine wp_reg1 (b0 := .cells #[.int .i64 0, .int .i64 0, .int .i64 0, .int .i64 0] 85) 7 6 8 (by kernel_rfl) (by kernel_rfl) rfl rfl (by simp) (fun _ _ => by kernel_rfl) ?_
      apply Exists.intro
      refine ⟨fun wb hb => ?_, ?_⟩
      · have _ := hb.atF C2.out
        have C1b := hid (C1.out.keep hb)
        simp only [headOps, List.contains, List.elem, Nat.reduceAdd, Nat.reduceBEq, reduceIte, Bool.false_eq_true, dumOp]
        repeat (first | go_big_quiet_step (first | (go_at_call 89; exact Calls.of_gr (HS0.out _ (hid (CelRq.keep (w := wb) C1b.out ⟨⟨_, _⟩, rfl⟩))))) | quiet_step (fail))
        exact wpQuiet_nil rfl
      intro w3 b3 hg3 hb3 xb3
      have G3 := hid (GWW.out.trans hg3)
      have Z3 := hid (hg3.keep Z.out)
      have XB3 := hid xb3
      have hnz := hid (show w.heap.size < b3 from Nat.lt_of_lt_of_le (ltb Z.out) hb3)
      clear hg3 hb3 xb3
      obtain ⟨_, _, _, _⟩ := cells4 XB3.out
      have _ := fz XB3.out
      have _ := ltb XB3.out
      go_wp2_with fail
      go_loopw [9] (fun u wv => ∃ (k : Nat) (q : Spv), u = .int .i64 (k : Int) ∧ 1 ≤ k ∧ k ≤ n ∧ Gr w wv ∧ wv.heap[b3]? = some (.cells #[.int .i64 q.a, .int .i64 q.b, .int .i64 q.c, .int .i64 q.d] 85) ∧ wv.heap[w.heap.size]? = some (.cells #[.int .i64 0, .int .i64 0, .int .i64 0, .int .i64 0] 85) ∧ okSp q = true ∧ metF q ((spns ns xs).drop k) = R) (fun u _ => n - (intOf u).toNat)
      case atStart =>
        refine ⟨1, s0, rfl, by omega, hnn, ?_, ?_, ?_, OK0.out, HRR.out⟩
        · have hb0 : w.heap.size ≤ b3 := Nat.le_of_lt hnz.out
          exact ((((G3.out).setCell (by simp <;> omega) _).setCell (by simp <;> omega) _).setCell (by simp <;> omega) _).setCell (by simp <;> omega) _
        · have := Joins.block_setCell (i := 3) (Joins.block_setCell (i := 2) (Joins.block_setCell (i := 1) (Joins.block_setCell (i := 0) XB3.out (.int .i64 s0.a)) (.int .i64 s0.b)) (.int .i64 s0.c)) (.int .i64 s0.d)
          simpa using this
        · have hb0 := hnz.out
          repeat (refine keepSet' ?_ (by simp <;> omega))
          exact Z3.out
      case round =>
        obtain ⟨k, q, rfl, hk1, hk2, hg, hm, hz, hok, hf⟩ := hrel
        have GV := hid hg; have M := hid hm; have ZV := hid hz; have OK := hid hok; have F := hid hf
        clear hg hm hz hok hf
        have hb0 := hnz.out
        by_cases hlt : k < n
        · obtain ⟨x, hp⟩ : ∃ x, xs[k]? = some x := ⟨xs[k]'(by rw [HN.out]; exact hlt), List.getElem?_eq_getElem _⟩
          obtain ⟨m, hq⟩ : ∃ m, ns[k]? = some m := ⟨ns[k]'(by rw [← H2.out, HN.out]; exact hlt), List.getElem?_eq_getElem _⟩
          have hsk := spns_get ns xs k m x hq hp
          have OKX := hid (HOK.out k _ hsk)
          have hdr : (spns ns xs).drop k = spnS m x :: (spns ns xs).drop (k + 1) := by
            have hl : k < (spns ns xs).length := (List.getElem?_eq_some_iff.1 hsk).1
            rw [List.drop_eq_getElem_cons hl]
            congr 1
            rw [List.getElem?_eq_getElem hl] at hsk
            exact Option.some.inj hsk
          rw [hdr] at F
          obtain ⟨ad, he, c1⟩ := (X.out.keep GV.out) k x hp
          obtain ⟨bd2, he2, c2⟩ := (Y.out.keep GV.out) k m hq
          cases he; cases he2
          rw [add_at] at c1
          obtain ⟨hu1, hu2, hu3, hu4⟩ := okRd_u (allRq_get hp HR.out)
          obtain ⟨ho1, ho2⟩ := okR_bd (allI_get hq B3.out)
          obtain ⟨t, ht⟩ : ∃ t, spnS m x = t := ⟨_, rfl⟩
          have HSK := hid fun (w : World) (C : Hid (CelRq w ⟨g, k * 4, none⟩ x)) => (sSpanOf x.nm x.b x.u x.o m g (k * 4) w C hu1 hu2 hu3 hu4 ho1 ho2).mono (R' := fun e w' => e = .returned (vN t) ∧ Gr w w') fun e w' h => ⟨by rw [h.1, spnS_v, ht], h.2⟩
          rw [ht] at OKX F
          have C1 := hid c1; have C2 := hid c2
          clear hp hq hsk hdr c1 c2 hu1 hu2 hu3 hu4 ho1 ho2 ht
          have hlb : k < ns.length := by rw [← H2.out, HN.out]; exact hlt
          have hlx : k < xs.length := by rw [HN.out]; exact hlt
          obtain ⟨r, hr⟩ : ∃ r, okM q t = r := ⟨_, rfl⟩
          have HMT := hid fun (w : World) => smeetS q t r w OK.out OKX.out hr
          have HRO := hid hr
          obtain ⟨v, hv⟩ : ∃ v, mtS q t = v := ⟨_, rfl⟩
          have HV := hid hv
          rw [hv] at HMT
          clear hr hv
          go_wp2_with fail
          refine wp_reg1s #[.int .i64 0, .int .i64 0, .int .i64 0, .int .i64 0] 15 13 10 14 75 (by kernel_rfl) (by kernel_rfl) rfl rfl (by simp) rfl rfl (by decide) (fun _ _ => by kernel_rfl) (by kernel_rfl) ?_
          apply Exists.intro; apply Exists.intro
          refine ⟨fun wb hb => ?_, ?_⟩
          · have _ := hb.atF C2.out
            obtain ⟨_, _, _, _⟩ := hb.at4 M.out
            have C1b := hid (C1.out.keep hb)
            simp only [headOps, List.contains, List.elem, Nat.reduceAdd, Nat.reduceBEq, reduceIte, Bool.false_eq_true, dumOp]
            repeat (first | go_big_quiet_step (first | (go_at_call 89; exact Calls.of_gr (HSK.out _ (hid (CelRq.keep (w := wb) C1b.out ⟨⟨_, _⟩, rfl⟩)))) | (go_at_call 95; exact Calls.of_gr (HMT.out _))) | quiet_step (fail))
            exact wpQuiet_nil rfl
          refine ⟨rfl, ⟨rfl, by simp [Value.oneCell']⟩, fun w4 b4 hg4 _ xb4 => ?_⟩
          have G4 := hid (GV.out.trans hg4)
          have M4 := hid (hg4.keep M.out)
          have Z4 := hid (hg4.keep ZV.out)
          have XB4 := hid xb4
          clear hg4 xb4
          cases r with
          | true =>
            obtain ⟨_, _, _, _⟩ := cells4 M4.out
            have _ := fz M4.out
            have _ := ltb M4.out
            obtain ⟨_, _, _, _⟩ := cells4 XB4.out
            have OK2 : Hid (okSp v = true) := hid (by rw [← HV.out]; exact mtS_ok OK.out OKX.out HRO.out)
            have F2 : Hid (metF v ((spns ns xs).drop (k + 1)) = R) := hid (by have h := F.out; rw [← HV.out]; simpa [metF, HRO.out] using h)
            go_wp2_with fail
            refine ⟨⟨k + 1, v, by simp, by omega, by omega, ?_, ?_, ?_, OK2.out, F2.out⟩, by simp [intOf]; omega⟩
            · have hb1 : w.heap.size ≤ b3 := Nat.le_of_lt hnz.out
              exact ((((G4.out).setCell (by simp <;> omega) _).setCell (by simp <;> omega) _).setCell (by simp <;> omega) _).setCell (by simp <;> omega) _
            · have := Joins.block_setCell (i := 3) (Joins.block_setCell (i := 2) (Joins.block_setCell (i := 1) (Joins.block_setCell (i := 0) M4.out (.int .i64 v.a)) (.int .i64 v.b)) (.int .i64 v.c)) (.int .i64 v.d)
              simpa using this
            · have hb1 := hnz.out
              repeat (refine keepSet' ?_ (by simp <;> omega))
              exact Z4.out
          | false =>
            have F2 : Hid (R = none) := hid (by have h := F.out; simp [metF, HRO.out] at h; exact h.symm)
            obtain ⟨_, _, _, _⟩ := cells4 Z4.out
            have _ := fz Z4.out
            have _ := ltb Z4.out
            obtain rfl : 8 = C := by rw [← HCC.out, F2.out]; rfl
            go_wp2_with fail
            rw [F2.out]
            refine bodyPost_ret (v := .tuple #[vN zN, .int .i64 8]) (by simp [results, Try.results40, go_sem, zN, *]) rfl ⟨rfl, ?_⟩
            exact ((((G4.out).setCell (by simp <;> omega) _).setCell (by simp <;> omega) _).setCell (by simp <;> omega) _).setCell (by simp <;> omega) _
        · have hke : n = k := by omega
          subst hke
          have hd0 : (spns ns xs).drop n = [] := List.drop_eq_nil_of_le (by rw [HSL.out, HN.out]; exact Nat.le_refl _)
          rw [hd0] at F
          have F2 : Hid (R = some q) := hid (by have h := F.out; simp [metF] at h; exact h.symm)
          clear hd0
          obtain ⟨_, _, _, _⟩ := cells4 M.out
          obtain ⟨_, _, _, _⟩ := cells4 ZV.out
          have _ := fz ZV.out
          have _ := ltb ZV.out
          have _ := ltb M.out
          obtain rfl : 0 = C := by rw [← HCC.out, F2.out]; rfl
          go_wp2_with fail
          rw [F2.out]
          refine bodyPost_ret (v := .tuple #[vN q, .int .i64 0]) (by simp [results, Try.results40, go_sem, *]) rfl ⟨rfl, ?_⟩
          exact ((((GV.out).setCell (by simp <;> omega) _).setCell (by simp <;> omega) _).setCell (by simp <;> omega) _).setCell (by simp <;> omega) _
theorem bothValueFrom (xs : List Rqv) (ns : List Int) (hn : xs.length ≤ 1048576) (hm : ns.length ≤ 1048576) (hw : xs.all wfR = true) : ∃ (m : Spv) (C : Int),
    (∀ (g : Nat) (B : Option Addr) (c d : Nat) (w : World), Hid (RdRq w (some ⟨g, 0, none⟩) xs) → Hid (RdI w B ns) → Calls Try.prog 40 #[.slice (some ⟨g, 0, none⟩) xs.length c, .slice B ns.length d] w fun e w' => e = .returned (.tuple #[vN m, .int .i64 C]) ∧ Gr w w') ∧
    (∀ (g : Nat) (B : Option Addr) (c d : Nat) (w : World), Hid (RdRq w (some ⟨g, 0, none⟩) xs) → Hid (RdI w B ns) → Calls Try.prog 42 #[.slice (some ⟨g, 0, none⟩) xs.length c, .slice B ns.length d] w fun e w' => e = .returned (.tuple #[vN m, .int .i64 C]) ∧ Gr w w') := by
  cases hr : xs.all okRd with
  | false => exact ⟨zN, 1, fun g B c d w X Y => sVF_1 g B c _ d xs w X hn hw hr, fun g B c d w X Y => iVF_1 _ B c _ d xs w X hn hw hr⟩
  | true =>
    by_cases h : xs.length ≤ 12 ∧ xs.length = ns.length ∧ rdB ns = true
    · obtain ⟨h1, h2, h3⟩ := h
      cases hd : divs ns xs with
      | false => exact ⟨zN, 4, fun g B c d w X Y => sVF_3 g B c d xs ns w X Y h1 h2 h3 hw hr hd, fun g B c d w X Y => iVF_3 _ B c d xs ns w X Y h1 h2 h3 hw hr hd⟩
      | true =>
        obtain ⟨b1, b2, b3⟩ := rd_parts h3
        have hl := spns_len ns xs h2.symm
        obtain ⟨s0, r, hs⟩ : ∃ s0 r, spns ns xs = s0 :: r := by
          match hz : spns ns xs with
          | [] => rw [hz] at hl; simp at hl; omega
          | s0 :: r => exact ⟨s0, r, rfl⟩
        have h0 : (spns ns xs)[0]? = some s0 := by rw [hs]; rfl
        have ho := spns_ok b3 hr 0 s0 h0
        have he : metF s0 (spns ns xs) = metF s0 ((spns ns xs).drop 1) := by rw [hs]; exact metF_self ho r
        obtain ⟨R, hR⟩ : ∃ R, metF s0 (spns ns xs) = R := ⟨_, rfl⟩
        exact ⟨R.getD zN, if R.isSome then 0 else 8, fun g B c d w X Y => sVF_4 g B c d xs ns w X Y h1 h2 h3 hw hr hd s0 R h0 (by rw [← he, hR]), fun g B c d w X Y => iVF_4 _ B c d xs ns s0 R w X Y h1 h2 h3 hw hr hd h0 hR⟩
    · exact ⟨zN, 2, fun g B c d w X Y => sVF_2 g B c d xs ns w X Y hn hm hw hr h, fun g B c d w X Y => iVF_2 _ B c d xs ns w X Y hn hm hw hr h⟩
end Go.Proofs.Ytfpcbgfcachlgaa
