/- WALKS: HullOf, the program: the list of spans that is checked, the least span that has them all. -/
import Derived.Test.YtmjcnagniphkeaaSq
import Derived.Test.YtmjcnagniphkeaaW
import Derived.Deep.RegionWith
namespace Go.Proofs.Ytmjcnagniphkeaa
open Go.RowKit Go.Sort

abbrev okN (x : Spv) : Bool := spB x.a x.b x.c x.d
def lstN (xs : List Spv) (least : Int) : Int := if xs.all okN then (if 64 < (xs.length : Int) ∨ (xs.length : Int) < least then 2 else 0) else 1
theorem allN_take {xs : List Spv} {k : Nat} {x : Spv} (h : xs[k]? = some x) (ha : (xs.take k).all okN = true) (hx : okN x = true) : (xs.take (k + 1)).all okN = true := by
  rw [List.take_add_one, h]
  simp only [Option.toList_some, List.all_append, ha, List.all_cons, List.all_nil, hx, Bool.and_true]
theorem allN_not {xs : List Spv} {k : Nat} {x : Spv} (h : xs[k]? = some x) (hx : okN x = false) : xs.all okN = false := by
  cases ha : xs.all okN with
  | false => rfl
  | true =>
    have := List.all_eq_true.1 ha x (List.mem_of_getElem? h)
    rw [hx] at this; cases this
set_option maxRecDepth 20000 in
set_option maxHeartbeats 1000000 in
theorem icheckN (A : Option Addr) (c : Nat) (xs : List Spv) (least : Int) (w : World) (X : Hid (RdN w A xs)) (hn : xs.length ≤ 1048576) (_l1 : 0 ≤ least) (_l2 : least ≤ 1) :
    Calls Try.prog 74 #[.slice A xs.length c, .func (.func 75) #[] #[], .int .i64 least] w fun e w' => e = .returned (.int .i64 (lstN xs least)) ∧ Gr w w' := by
  obtain ⟨r, hr⟩ : ∃ r, lstN xs least = r := ⟨_, rfl⟩
  rw [hr]
  have HR := hid hr; clear hr
  go_enter Try.func74, Try.ntmps74
  go_wp2_with fail
  go_loopw [11] (fun u wr => ∃ (k : Nat), u = .int .i64 (k : Int) ∧ k ≤ xs.length ∧ Gr w wr ∧ (xs.take k).all okN = true) (fun u _ => xs.length - (intOf u).toNat)
  case atStart => exact ⟨0, rfl, by omega, Gr.refl _, rfl⟩
  case round =>
    obtain ⟨k, rfl, hk, g0, ha⟩ := hrel
    have GW := hid g0; have HA := hid ha; clear g0 ha
    by_cases hlt : k < xs.length
    · obtain ⟨⟨p, q, p', q'⟩, hx0⟩ : ∃ x, xs[k]? = some x := ⟨xs[k], List.getElem?_eq_getElem _⟩
      obtain ⟨ad, rfl, c1⟩ := (X.out.keep GW.out) k _ hx0
      obtain ⟨_, _, _, _⟩ := c1
      have HP := hid hx0; clear hx0
      cases hx : spB p q p' q' with
      | true =>
        have HX := hid hx; clear hx
        go_wp2_with fail
        refine (iSpan_t _ _ _ _ _ HX.out).mono ?_
        rintro e w1 ⟨rfl, hg1⟩
        obtain ⟨x1_0, hz1, g1⟩ := alloc1 hg1
        obtain ⟨_, _, _, _⟩ := cells4 x1_0
        have _ := fz x1_0
        have _ := ltb x1_0
        have X1_0 := hid x1_0; clear x1_0
        have G1 := hid (GW.out.trans g1)
        clear hg1 g1
        go_wp2_with fail
        exact ⟨⟨k + 1, by simp, by omega, G1.out, allN_take HP.out HA.out HX.out⟩, by simp [intOf]; omega⟩
      | false =>
        have HX := hid hx; clear hx
        go_wp2_with fail
        refine (iSpan_f _ _ _ _ _ HX.out).mono ?_
        rintro e w1 ⟨rfl, hg1⟩
        obtain ⟨x1_0, hz1, g1⟩ := alloc1 hg1
        obtain ⟨_, _, _, _⟩ := cells4 x1_0
        have _ := fz x1_0
        have _ := ltb x1_0
        have X1_0 := hid x1_0; clear x1_0
        have G1 := hid (GW.out.trans g1)
        clear hg1 g1
        go_wp2
        go_ret
        exact ⟨by rw [← HR.out]; unfold lstN; rw [allN_not HP.out HX.out]; rfl, G1.out⟩
    · have hke : k = xs.length := by omega
      have hall : xs.all okN = true := by
        have h := HA.out
        rw [hke] at h
        simpa using h
      clear hke
      have hr := HR.out
      unfold lstN at hr
      rw [if_pos hall] at hr
      by_cases h2 : (xs.length : Int) < least
      · rw [if_pos (.inr h2)] at hr
        have HR2 := hid hr; clear hr hall
        go_wp2
        go_ret
        exact ⟨by rw [← HR2.out]; rfl, GW.out⟩
      · by_cases h1 : 64 < (xs.length : Int)
        · rw [if_pos (.inl h1)] at hr
          have HR2 := hid hr; clear hr hall
          go_wp2
          go_ret
          exact ⟨by rw [← HR2.out]; rfl, GW.out⟩
        · rw [if_neg (fun h => h.elim h1 h2)] at hr
          have HR2 := hid hr; clear hr hall
          go_wp2
          go_ret
          exact ⟨by rw [← HR2.out]; rfl, GW.out⟩
/-- The hull of two spans, of several. -/
def hlS (m x : Spv) : Spv := ⟨mnP m.a m.b x.a x.b, mnQ m.a m.b x.a x.b, mxP m.c m.d x.c x.d, mxQ m.c m.d x.c x.d⟩
def halfN (x : Spv) : Prop := okB x.a x.b = true ∧ okB x.c x.d = true
theorem halfN_of {x : Spv} (h : okN x = true) : halfN x := ⟨(spB_ok h).1, (spB_ok h).2.1⟩
theorem hlS_ok {m x : Spv} (h1 : halfN m) (h2 : halfN x) : halfN (hlS m x) := ⟨ok_mn h1.1 h2.1, ok_mx h1.2 h2.2⟩
theorem cmpI_self (p q : Int) : cmpI p q p q = 0 := by unfold cmpI; simp
theorem hlS_self (x : Spv) : hlS x x = x := by
  unfold hlS mnP mnQ mxP mxQ
  simp [cmpI_self]
theorem foldN_take {f : Spv → Spv → Spv} {rs : List Spv} {j : Nat} {x x0 : Spv} (h : rs[j]? = some x) : (rs.take (j + 1)).foldl f x0 = f ((rs.take j).foldl f x0) x := by
  have hj : j < rs.length := (List.getElem?_eq_some_iff.1 h).1
  have hx : rs[j] = x := by rw [List.getElem?_eq_getElem hj] at h; exact Option.some.inj h
  rw [List.take_succ_eq_append_getElem hj, hx, List.foldl_append]
  rfl
theorem foldN_ok {x0 : Spv} : ∀ {rs : List Spv}, halfN x0 → (∀ x ∈ rs, halfN x) → halfN (rs.foldl hlS x0)
  | [], h, _ => h
  | y :: r, h, ha => foldN_ok (x0 := hlS x0 y) (rs := r) (hlS_ok h (ha y (List.mem_cons_self ..))) (fun x hx => ha x (List.mem_cons_of_mem _ hx))
theorem add_zeroN (a : Addr) : a.add 0 = a := by unfold Addr.add; simp
set_option maxRecDepth 20000 in
set_option maxHeartbeats 400000 in
theorem iHull_no (A : Option Addr) (c : Nat) (xs : List Spv) (w : World) (X : Hid (RdN w A xs)) (hn : xs.length ≤ 1048576) (C : Int) (hC : lstN xs 1 = C) (h0 : C ≠ 0) :
    Calls Try.prog 26 #[.slice A xs.length c] w fun e w' => e = .returned (.tuple #[sp 0 0 0 0, .int .i64 C]) ∧ Gr w w' := by
  have hz : (C == 0) = false := by simpa using h0
  have HL := hid fun (w' : World) (Z : Hid (RdN w' A xs)) => hC ▸ icheckN A c xs 1 w' Z hn (by omega) (by omega)
  clear hC
  go_enter Try.func26, Try.ntmps26
  go_wp2_with fail
  refine (HL.out _ (hid (X.out.keep ((Gr.refl w).al _)))).mono ?_
  rintro e w1 ⟨rfl, hg1⟩
  obtain ⟨x1_0, hz1, g1⟩ := alloc1 hg1
  obtain ⟨_, _, _, _⟩ := cells4 x1_0
  have _ := fz x1_0
  have _ := ltb x1_0
  have X1_0 := hid x1_0; clear x1_0
  have G1 := hid (g1)
  clear hg1 g1
  go_wp2
  refine bodyPost_ret (v := .tuple #[sp 0 0 0 0, .int .i64 C]) (by simp [results, Try.results26, go_sem, *]) rfl ⟨rfl, ?_⟩
  exact ((((G1.out).setCell (by simp <;> omega) _).setCell (by simp <;> omega) _).setCell (by simp <;> omega) _).setCell (by simp <;> omega) _
set_option maxRecDepth 20000 in
set_option maxHeartbeats 600000 in
theorem iHull_ok (A : Option Addr) (c : Nat) (x0 : Spv) (rs : List Spv) (w : World) (X : Hid (RdN w A (x0 :: rs))) (hn : (x0 :: rs).length ≤ 64) (hC : lstN (x0 :: rs) 1 = 0) (hok : ∀ x ∈ x0 :: rs, halfN x) :
    Calls Try.prog 26 #[.slice A (x0 :: rs).length c] w fun e w' => e = .returned (.tuple #[vN ((x0 :: rs).foldl hlS x0), .int .i64 0]) ∧ Gr w w' := by
  have HL := hid fun (w' : World) (Z : Hid (RdN w' A (x0 :: rs))) => hC ▸ icheckN A c (x0 :: rs) 1 w' Z (by omega) (by omega) (by omega)
  have HOK := hid hok
  have hx0 : (x0 :: rs)[0]? = some x0 := rfl
  obtain ⟨xs, hxs⟩ : ∃ xs, x0 :: rs = xs := ⟨_, rfl⟩
  rw [hxs] at X HL HOK hx0 hn ⊢
  have hpos : 0 < xs.length := by rw [← hxs]; simp
  clear hC hok hxs
  obtain ⟨ad, rfl, _⟩ := X.out 0 x0 hx0
  go_enter Try.func26, Try.ntmps26
  go_wp2_with fail
  refine (HL.out _ (hid (X.out.keep ((Gr.refl w).al _)))).mono ?_
  rintro e w1 ⟨rfl, hg1⟩
  obtain ⟨x1_0, hz1, g1⟩ := alloc1 hg1
  obtain ⟨_, _, _, _⟩ := cells4 x1_0
  have _ := fz x1_0
  have _ := ltb x1_0
  have X1_0 := hid x1_0; clear x1_0
  have G1 := hid (g1)
  clear hg1 g1
  obtain ⟨ad0, e0, f0⟩ := (X.out.keep G1.out) 0 x0 hx0
  cases e0
  rw [Nat.zero_mul, add_zeroN] at f0
  obtain ⟨_, _, _, _⟩ := f0
  go_wp2_with fail
  go_loopw [19] (fun u wr => ∃ (k : Nat), u = .int .i64 (k : Int) ∧ k ≤ xs.length ∧ Gr w1 wr ∧ wr.heap[w.heap.size]? = some (.cells #[.int .i64 0, .int .i64 0, .int .i64 0, .int .i64 0] 36) ∧ wr.heap[w1.heap.size]? = some (.cells #[.int .i64 ((xs.take k).foldl hlS x0).a, .int .i64 ((xs.take k).foldl hlS x0).b, .int .i64 ((xs.take k).foldl hlS x0).c, .int .i64 ((xs.take k).foldl hlS x0).d] 36) ∧ halfN ((xs.take k).foldl hlS x0)) (fun u _ => xs.length - (intOf u).toNat)
  case atStart => exact ⟨0, rfl, by omega, (Gr.refl _).al _, ((Gr.refl _).al _).keep X1_0.out, (alloc1 (Gr.refl _)).1, HOK.out x0 (List.mem_of_getElem? hx0)⟩
  case round =>
    obtain ⟨k, rfl, hk, hg, y0, y1, hm⟩ := hrel
    have GW := hid hg; have Y0 := hid y0
    obtain ⟨M, hM⟩ : ∃ M, (xs.take k).foldl hlS x0 = M := ⟨_, rfl⟩
    rw [hM] at y1 hm
    obtain ⟨a, b, a', b'⟩ := M
    have y1 : wr.heap[w1.heap.size]? = some (.cells #[.int .i64 a, .int .i64 b, .int .i64 a', .int .i64 b'] 36) := y1
    have Y1 := hid y1
    have HM : Hid (okB a b = true ∧ okB a' b' = true) := hid hm
    clear hg hm
    by_cases hlt : k < xs.length
    · obtain ⟨⟨p, q, r, s⟩, hk0⟩ : ∃ x, xs[k]? = some x := ⟨xs[k], List.getElem?_eq_getElem _⟩
      have hst := foldN_take (f := hlS) (x0 := x0) hk0
      rw [hM] at hst
      have HST := hid hst
      have HX : Hid (okB p q = true ∧ okB r s = true) := hid (HOK.out _ (List.mem_of_getElem? hk0))
      obtain ⟨ad2, e2, c1⟩ := (X.out.keep (G1.out.trans GW.out)) k _ hk0
      cases e2
      obtain ⟨_, _, _, _⟩ := c1
      clear hst hM hk0 y0 y1
      have ZB := hid (alloc1 (w := wr) (A := (.cells #[.int .i64 p, .int .i64 q, .int .i64 r, .int .i64 s] 36)) (Gr.refl _)).1
      have Y11 := hid (((Gr.refl wr).al (.cells #[.int .i64 p, .int .i64 q, .int .i64 r, .int .i64 s] 36)).keep Y1.out)
      go_wp2_with fail
      refine wp_reg0 11 (by kernel_rfl) (by kernel_rfl) ?_
      apply Exists.intro
      refine ⟨fun wb hb => ?_, ?_⟩
      · obtain ⟨_, _, _, _⟩ := hb.at4 ZB.out
        obtain ⟨_, _, _, _⟩ := hb.at4 Y11.out
        simp only [headOps, List.contains, List.elem, reduceIte, Bool.false_eq_true]
        repeat (first | go_big_quiet_step (first | (go_at_call 76; exact Calls.of_gr (ileast _ _ _ _ _ HM.out.1 HX.out.1)) | (go_at_call 77; exact Calls.of_gr (igreatest _ _ _ _ _ HM.out.2 HX.out.2))) | quiet_step (fail))
        exact wpQuiet_nil rfl
      intro w3 hg3
      have gd := ((Gr.refl wr).al (.cells #[.int .i64 p, .int .i64 q, .int .i64 r, .int .i64 s] 36)).trans hg3
      have G3 := hid (GW.out.trans gd); have Y03 := hid (gd.keep Y0.out); have Y13 := hid (gd.keep Y1.out)
      have _ := ltb Y13.out
      have _ := fz Y13.out
      obtain ⟨_, _, _, _⟩ := cells4 Y13.out
      have hne : w.heap.size ≠ w1.heap.size := by have := ltb X1_0.out; omega
      clear hg3 gd
      go_wp2_with fail
      exact ⟨⟨k + 1, by simp, by omega, (((G3.out.setCell (by simp) _).setCell (by simp) _).setCell (by simp) _).setCell (by simp) _, keepSet' (keepSet' (keepSet' (keepSet' Y03.out (by simpa using hne)) (by simpa using hne)) (by simpa using hne)) (by simpa using hne), by rw [HST.out]; simpa [hlS] using Joins.block_setCell (i := 3) (Joins.block_setCell (i := 2) (Joins.block_setCell (i := 1) (Joins.block_setCell (i := 0) Y13.out _) _) _) _, by rw [HST.out]; exact hlS_ok (m := ⟨a, b, a', b'⟩) (x := ⟨p, q, r, s⟩) HM.out HX.out⟩, by simp [intOf]; omega⟩
    · have hke : k = xs.length := by omega
      subst hke
      rw [List.take_length] at hM
      obtain ⟨_, _, _, _⟩ := cells4 Y0.out
      have _ := fz Y0.out
      have _ := ltb Y0.out
      obtain ⟨_, _, _, _⟩ := cells4 Y1.out
      have _ := ltb Y1.out
      clear y0 y1
      go_wp2_with fail
      refine bodyPost_ret (v := .tuple #[sp a b a' b', .int .i64 0]) (by simp [results, Try.results26, go_sem, *]) rfl ⟨rfl, ?_⟩
      have GV := G1.out.trans GW.out
      exact (((GV.setCell (by simp) _).setCell (by simp) _).setCell (by simp) _).setCell (by simp) _
end Go.Proofs.Ytmjcnagniphkeaa
