/- WALKS: MulSpans: the least and the greatest of several fractions (slices.MinFunc, slices.MaxFunc by the order of fractions). -/
import Derived.Test.YteopkbeokiomlaaFm
import Derived.Test.YteopkbeokiomlaaW
import Derived.Deep.RegionWith
namespace Go.Proofs.Yteopkbeokiomlaa
open Go.RowKit Go.Sort

def mnS (m x : Int × Int) : Int × Int := if cmpI x.1 x.2 m.1 m.2 < 0 then x else m
def mxS (m x : Int × Int) : Int × Int := if 0 < cmpI x.1 x.2 m.1 m.2 then x else m
theorem mnS_ok {m x : Int × Int} (h1 : okB m.1 m.2 = true) (h2 : okB x.1 x.2 = true) : okB (mnS m x).1 (mnS m x).2 = true := by
  unfold mnS; split <;> assumption
theorem mxS_ok {m x : Int × Int} (h1 : okB m.1 m.2 = true) (h2 : okB x.1 x.2 = true) : okB (mxS m x).1 (mxS m x).2 = true := by
  unfold mxS; split <;> assumption
theorem fold_take {f : Int × Int → Int × Int → Int × Int} {rs : List (Int × Int)} {j : Nat} {x x0 : Int × Int} (h : rs[j]? = some x) : (rs.take (j + 1)).foldl f x0 = f ((rs.take j).foldl f x0) x := by
  have hj : j < rs.length := (List.getElem?_eq_some_iff.1 h).1
  have hx : rs[j] = x := by rw [List.getElem?_eq_getElem hj] at h; exact Option.some.inj h
  rw [List.take_succ_eq_append_getElem hj, hx, List.foldl_append]
  rfl
theorem add_zeroF (a : Addr) : a.add 0 = a := by unfold Addr.add; simp
set_option maxRecDepth 20000 in
set_option maxHeartbeats 2000000 in
theorem iMinF (A : Option Addr) (c : Nat) (x0 : Int × Int) (rs : List (Int × Int)) (w : World) (X : Hid (RdF w A (x0 :: rs))) (hn : rs.length ≤ 1000) (hok : ∀ x ∈ x0 :: rs, okB x.1 x.2 = true) :
    Calls Try.prog 144 #[.slice A (rs.length + 1) c, .func (.func 105) #[] #[]] w fun e w' => e = .returned (fr (rs.foldl mnS x0).1 (rs.foldl mnS x0).2) ∧ Gr w w' := by
  have hen : ∀ p q r s w, (callFunc 105 #[fr p q, fr r s]).run Try.prog w = .ok (.enter 105 #[fr p q, fr r s]) w := fun p q r s w => by kernel_rfl
  obtain ⟨ad, rfl, _⟩ := X.out 0 x0.1 x0.2 rfl
  have HOK := hid hok
  obtain ⟨ad0, e0, f0, f1⟩ := (X.out.keep ((Gr.refl w).al (.cells #[.int .i64 0, .int .i64 0] 26))) 0 x0.1 x0.2 rfl
  cases e0
  rw [Nat.zero_mul, add_zeroF] at f0 f1
  have _ := World.block_lt_of_cell? _ _ f0
  clear hok
  go_enter Try.func144, Try.ntmps144
  go_wp2_with fail
  go_loopw [6] (fun u wr => ∃ (j : Nat), u = .int .i64 ((j : Int) + 1) ∧ j ≤ rs.length ∧ Gr w wr ∧ wr.heap[w.heap.size]? = some (.cells #[.int .i64 0, .int .i64 0] 26) ∧ wr.heap[w.heap.size + 1]? = some (.cells #[.int .i64 ((rs.take j).foldl mnS x0).1, .int .i64 ((rs.take j).foldl mnS x0).2] 26) ∧ okB ((rs.take j).foldl mnS x0).1 ((rs.take j).foldl mnS x0).2 = true) (fun u _ => rs.length + 1 - (intOf u).toNat)
  case atStart =>
    obtain ⟨y0, y1, _, _⟩ := alloc2 (w := w) (A := .cells #[.int .i64 0, .int .i64 0] 26) (B := .cells #[.int .i64 x0.1, .int .i64 x0.2] 26) (Gr.refl _)
    exact ⟨0, rfl, by omega, ((Gr.refl _).al _).al _, y0, y1, HOK.out x0 (List.mem_cons_self ..)⟩
  case round =>
    obtain ⟨j, rfl, hj, hg, y0, y1, hm⟩ := hrel
    have GW := hid hg; have Y0 := hid y0; have HM := hid hm
    obtain ⟨M, hM⟩ : ∃ M, (rs.take j).foldl mnS x0 = M := ⟨_, rfl⟩
    rw [hM] at y1 HM
    obtain ⟨p, q⟩ := M
    have y1 : wr.heap[w.heap.size + 1]? = some (.cells #[.int .i64 p, .int .i64 q] 26) := y1
    have HM : Hid (okB p q = true) := HM
    have Y1 := hid y1
    clear hg hm f0 f1
    by_cases hlt : j < rs.length
    · obtain ⟨⟨r, s⟩, h0⟩ : ∃ pq, rs[j]? = some pq := ⟨rs[j], List.getElem?_eq_getElem _⟩
      have hst := fold_take (f := mnS) (x0 := x0) h0
      rw [hM] at hst
      have HRS : Hid (okB r s = true) := hid (HOK.out (r, s) (List.mem_cons_of_mem _ (List.mem_of_getElem? h0)))
      obtain ⟨ad2, e2, c1, c2⟩ := (X.out.keep GW.out) (j + 1) r s (by simpa using h0)
      cases e2
      obtain ⟨_, _⟩ := cells2 y1
      have _ := fz y1
      have _ := ltb y1
      have H0 : Hid ((x0 :: rs)[j + 1]? = some (r, s)) := hid (by simpa using h0)
      clear y0 y1 hM h0
      by_cases hc : cmpI r s p q < 0
      · have hv : mnS (p, q) (r, s) = (r, s) := if_pos hc
        rw [hv] at hst
        have HST := hid hst
        clear hst hv
        go_wp2_with fail
        go_region_with (go_at_call 105; refine (iord _ _ _ _ _ HRS.out HM.out).mono ?_; rintro x w2 ⟨rfl, hg2⟩; have gd := (Gr.drew wr).trans hg2; have G2 := hid (GW.out.trans gd); have Y02 := hid (gd.keep Y0.out); have Y12 := hid (gd.keep Y1.out); obtain ⟨ad3, e3, _, _⟩ := (X.out.keep G2.out) (j + 1) r s H0.out; cases e3; obtain ⟨_, _⟩ := cells2 Y12.out; have _ := fz Y12.out; have _ := ltb Y12.out; clear hg2 gd)
        all_goals
          go_wp2_with fail
          exact ⟨⟨j + 1, by simp, by omega, (G2.out.setCell (by simp) _).setCell (by simp) _, keepSet' (keepSet' Y02.out (by simp)) (by simp), by rw [HST.out]; simpa using Joins.block_setCell (i := 1) (Joins.block_setCell (i := 0) Y12.out _) _, by rw [HST.out]; exact HRS.out⟩, by simp [intOf]; omega⟩
      · have hv : mnS (p, q) (r, s) = (p, q) := if_neg hc
        rw [hv] at hst
        have HST := hid hst
        clear hst hv
        go_wp2_with fail
        go_region_with (go_at_call 105; refine (iord _ _ _ _ _ HRS.out HM.out).mono ?_; rintro x w2 ⟨rfl, hg2⟩; have gd := (Gr.drew wr).trans hg2; have G2 := hid (GW.out.trans gd); have Y02 := hid (gd.keep Y0.out); have Y12 := hid (gd.keep Y1.out); obtain ⟨ad3, e3, _, _⟩ := (X.out.keep G2.out) (j + 1) r s H0.out; cases e3; obtain ⟨_, _⟩ := cells2 Y12.out; have _ := fz Y12.out; have _ := ltb Y12.out; clear hg2 gd)
        all_goals
          go_wp2_with fail
          exact ⟨⟨j + 1, by simp, by omega, G2.out, Y02.out, by rw [HST.out]; exact Y12.out, by rw [HST.out]; exact HM.out⟩, by simp [intOf]; omega⟩
    · have hke : j = rs.length := by omega
      subst hke
      rw [List.take_length] at hM
      obtain ⟨_, _⟩ := cells2 Y0.out
      obtain ⟨_, _⟩ := cells2 Y1.out
      have _ := fz Y0.out
      have _ := ltb Y0.out
      have _ := ltb Y1.out
      clear y0 y1
      go_wp2_with fail
      refine bodyPost_ret (v := fr p q) (by simp [results, Try.results144, go_sem, *]) rfl ⟨rfl, ?_⟩
      exact ((GW.out.setCell (by simp) _).setCell (by simp) _)
set_option maxRecDepth 20000 in
set_option maxHeartbeats 2000000 in
theorem iMaxF (A : Option Addr) (c : Nat) (x0 : Int × Int) (rs : List (Int × Int)) (w : World) (X : Hid (RdF w A (x0 :: rs))) (hn : rs.length ≤ 1000) (hok : ∀ x ∈ x0 :: rs, okB x.1 x.2 = true) :
    Calls Try.prog 145 #[.slice A (rs.length + 1) c, .func (.func 105) #[] #[]] w fun e w' => e = .returned (fr (rs.foldl mxS x0).1 (rs.foldl mxS x0).2) ∧ Gr w w' := by
  have hen : ∀ p q r s w, (callFunc 105 #[fr p q, fr r s]).run Try.prog w = .ok (.enter 105 #[fr p q, fr r s]) w := fun p q r s w => by kernel_rfl
  obtain ⟨ad, rfl, _⟩ := X.out 0 x0.1 x0.2 rfl
  have HOK := hid hok
  obtain ⟨ad0, e0, f0, f1⟩ := (X.out.keep ((Gr.refl w).al (.cells #[.int .i64 0, .int .i64 0] 26))) 0 x0.1 x0.2 rfl
  cases e0
  rw [Nat.zero_mul, add_zeroF] at f0 f1
  have _ := World.block_lt_of_cell? _ _ f0
  clear hok
  go_enter Try.func145, Try.ntmps145
  go_wp2_with fail
  go_loopw [6] (fun u wr => ∃ (j : Nat), u = .int .i64 ((j : Int) + 1) ∧ j ≤ rs.length ∧ Gr w wr ∧ wr.heap[w.heap.size]? = some (.cells #[.int .i64 0, .int .i64 0] 26) ∧ wr.heap[w.heap.size + 1]? = some (.cells #[.int .i64 ((rs.take j).foldl mxS x0).1, .int .i64 ((rs.take j).foldl mxS x0).2] 26) ∧ okB ((rs.take j).foldl mxS x0).1 ((rs.take j).foldl mxS x0).2 = true) (fun u _ => rs.length + 1 - (intOf u).toNat)
  case atStart =>
    obtain ⟨y0, y1, _, _⟩ := alloc2 (w := w) (A := .cells #[.int .i64 0, .int .i64 0] 26) (B := .cells #[.int .i64 x0.1, .int .i64 x0.2] 26) (Gr.refl _)
    exact ⟨0, rfl, by omega, ((Gr.refl _).al _).al _, y0, y1, HOK.out x0 (List.mem_cons_self ..)⟩
  case round =>
    obtain ⟨j, rfl, hj, hg, y0, y1, hm⟩ := hrel
    have GW := hid hg; have Y0 := hid y0; have HM := hid hm
    obtain ⟨M, hM⟩ : ∃ M, (rs.take j).foldl mxS x0 = M := ⟨_, rfl⟩
    rw [hM] at y1 HM
    obtain ⟨p, q⟩ := M
    have y1 : wr.heap[w.heap.size + 1]? = some (.cells #[.int .i64 p, .int .i64 q] 26) := y1
    have HM : Hid (okB p q = true) := HM
    have Y1 := hid y1
    clear hg hm f0 f1
    by_cases hlt : j < rs.length
    · obtain ⟨⟨r, s⟩, h0⟩ : ∃ pq, rs[j]? = some pq := ⟨rs[j], List.getElem?_eq_getElem _⟩
      have hst := fold_take (f := mxS) (x0 := x0) h0
      rw [hM] at hst
      have HRS : Hid (okB r s = true) := hid (HOK.out (r, s) (List.mem_cons_of_mem _ (List.mem_of_getElem? h0)))
      obtain ⟨ad2, e2, c1, c2⟩ := (X.out.keep GW.out) (j + 1) r s (by simpa using h0)
      cases e2
      obtain ⟨_, _⟩ := cells2 y1
      have _ := fz y1
      have _ := ltb y1
      have H0 : Hid ((x0 :: rs)[j + 1]? = some (r, s)) := hid (by simpa using h0)
      clear y0 y1 hM h0
      by_cases hc : 0 < cmpI r s p q
      · have hv : mxS (p, q) (r, s) = (r, s) := if_pos hc
        rw [hv] at hst
        have HST := hid hst
        clear hst hv
        go_wp2_with fail
        go_region_with (go_at_call 105; refine (iord _ _ _ _ _ HRS.out HM.out).mono ?_; rintro x w2 ⟨rfl, hg2⟩; have gd := (Gr.drew wr).trans hg2; have G2 := hid (GW.out.trans gd); have Y02 := hid (gd.keep Y0.out); have Y12 := hid (gd.keep Y1.out); obtain ⟨ad3, e3, _, _⟩ := (X.out.keep G2.out) (j + 1) r s H0.out; cases e3; obtain ⟨_, _⟩ := cells2 Y12.out; have _ := fz Y12.out; have _ := ltb Y12.out; clear hg2 gd)
        all_goals
          go_wp2_with fail
          exact ⟨⟨j + 1, by simp, by omega, (G2.out.setCell (by simp) _).setCell (by simp) _, keepSet' (keepSet' Y02.out (by simp)) (by simp), by rw [HST.out]; simpa using Joins.block_setCell (i := 1) (Joins.block_setCell (i := 0) Y12.out _) _, by rw [HST.out]; exact HRS.out⟩, by simp [intOf]; omega⟩
      · have hv : mxS (p, q) (r, s) = (p, q) := if_neg hc
        rw [hv] at hst
        have HST := hid hst
        clear hst hv
        go_wp2_with fail
        go_region_with (go_at_call 105; refine (iord _ _ _ _ _ HRS.out HM.out).mono ?_; rintro x w2 ⟨rfl, hg2⟩; have gd := (Gr.drew wr).trans hg2; have G2 := hid (GW.out.trans gd); have Y02 := hid (gd.keep Y0.out); have Y12 := hid (gd.keep Y1.out); obtain ⟨ad3, e3, _, _⟩ := (X.out.keep G2.out) (j + 1) r s H0.out; cases e3; obtain ⟨_, _⟩ := cells2 Y12.out; have _ := fz Y12.out; have _ := ltb Y12.out; clear hg2 gd)
        all_goals
          go_wp2_with fail
          exact ⟨⟨j + 1, by simp, by omega, G2.out, Y02.out, by rw [HST.out]; exact Y12.out, by rw [HST.out]; exact HM.out⟩, by simp [intOf]; omega⟩
    · have hke : j = rs.length := by omega
      subst hke
      rw [List.take_length] at hM
      obtain ⟨_, _⟩ := cells2 Y0.out
      obtain ⟨_, _⟩ := cells2 Y1.out
      have _ := fz Y0.out
      have _ := ltb Y0.out
      have _ := ltb Y1.out
      clear y0 y1
      go_wp2_with fail
      refine bodyPost_ret (v := fr p q) (by simp [results, Try.results145, go_sem, *]) rfl ⟨rfl, ?_⟩
      exact ((GW.out.setCell (by simp) _).setCell (by simp) _)
end Go.Proofs.Yteopkbeokiomlaa
