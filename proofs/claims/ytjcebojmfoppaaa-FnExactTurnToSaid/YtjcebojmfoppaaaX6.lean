/- WALKS: the program turns a spindle until it moves; PlayFound. -/
import Derived.Test.YtjcebojmfoppaaaX5
namespace Go.Proofs.Ytjcebojmfoppaaa
open Go.RowKit Go.Sort

set_option maxRecDepth 20000 in
set_option maxHeartbeats 400000 in
theorem moved_pulled (p q p2 q2 : Int) (w : World) : Calls Try.prog 52 #[.iface 104 (sp p q p2 q2)] w fun e w' => e = .returned (.bool true) ∧ Gr w w' := by
  have h0 : ∀ x w, (Instr.typeAssert (.iface 104 x) 78 104 true).run Try.prog w = .ok (.tuple #[x, .bool true]) w := fun _ _ => by kernel_rfl
  have h1 : ∀ x w, (Instr.typeAssert (.iface 104 x) 78 105 true).run Try.prog w = .ok (.tuple #[sp 0 0 0 0, .bool false]) w := fun _ _ => by kernel_rfl
  go_enter Try.func52, Try.ntmps52
  go_wp2
  go_ret
  exact ⟨rfl, (Gr.refl _)⟩
set_option maxRecDepth 20000 in
set_option maxHeartbeats 400000 in
theorem moved_pushed (p q p2 q2 : Int) (w : World) : Calls Try.prog 52 #[.iface 105 (sp p q p2 q2)] w fun e w' => e = .returned (.bool true) ∧ Gr w w' := by
  have h0 : ∀ x w, (Instr.typeAssert (.iface 105 x) 78 104 true).run Try.prog w = .ok (.tuple #[sp 0 0 0 0, .bool false]) w := fun _ _ => by kernel_rfl
  have h1 : ∀ x w, (Instr.typeAssert (.iface 105 x) 78 105 true).run Try.prog w = .ok (.tuple #[x, .bool true]) w := fun _ _ => by kernel_rfl
  go_enter Try.func52, Try.ntmps52
  go_wp2
  go_ret
  exact ⟨rfl, (Gr.refl _)⟩
set_option maxRecDepth 20000 in
set_option maxHeartbeats 400000 in
theorem moved_loose (p q : Int) (w : World) : Calls Try.prog 52 #[.iface 102 (fr p q)] w fun e w' => e = .returned (.bool false) ∧ Gr w w' := by
  have h0 : ∀ x w, (Instr.typeAssert (.iface 102 x) 78 104 true).run Try.prog w = .ok (.tuple #[sp 0 0 0 0, .bool false]) w := fun _ _ => by kernel_rfl
  have h1 : ∀ x w, (Instr.typeAssert (.iface 102 x) 78 105 true).run Try.prog w = .ok (.tuple #[sp 0 0 0 0, .bool false]) w := fun _ _ => by kernel_rfl
  go_enter Try.func52, Try.ntmps52
  go_wp2
  go_ret
  exact ⟨rfl, (Gr.refl _)⟩
theorem cmp_self {p q : Int} : cmpI p q p q = 0 := by unfold cmpI; simp
theorem iturn_no (a b n c d t p q y : Int) (w : World) (hs : scB a b n c d = true) (t1 : -10000 ≤ t) (t2 : t ≤ 10000) (y1 : -20000 ≤ y) (y2 : y ≤ 20000) (C : Int) (hC : stC a b n c d t y = C) (h : C ≠ 0) :
    Calls Try.prog 42 #[sc a b n c d, spi t p q, .int .i64 y] w fun e w' => e = .returned (.tuple #[spi 0 0 0, Value.nilIface, .int .i64 C]) ∧ Gr w w' := by
  subst hC
  unfold stC at h ⊢
  cases hi : gtB (t + y) 10000 with
  | true => exact iturn_f2 a b n c d t p q y w t1 t2 y1 y2 hi
  | false =>
    cases ge : eB a b n c d (t + y) with
    | true => rw [hi, ge] at h; exact absurd rfl h
    | false => exact iturn_f3 a b n c d t p q y w t1 t2 y1 y2 hs hi ge

set_option maxRecDepth 20000 in
set_option maxHeartbeats 1000000 in
/-- (impl.Screw).turnUntil, until it has moved -/
theorem imoves (a b n c d t p q y m : Int) (w : World) (hs : scB a b n c d = true)
    (hp : okB p q = true) (t1 : -10000 ≤ t) (t2 : t ≤ 10000) (y1 : -20000 ≤ y) (y2 : y ≤ 20000) (m1 : 0 ≤ m) (m2 : m ≤ 10000) :
    Calls Try.prog 50 #[sc a b n c d, .func (.func 52) #[] #[], spi t p q, .int .i64 y, .int .i64 m] w fun e w' => e = .returned (mvV (mv a b n c d p q y m.toNat t 0)) ∧ Gr w w' := by
  have hs := hid hs; have hp := hid hp
  obtain ⟨r, hr⟩ : ∃ r, mv a b n c d p q y m.toNat t 0 = r := ⟨_, rfl⟩
  rw [hr]
  have hr := hid hr
  have T1 := hid t1; have T2 := hid t2; clear t1 t2
  go_enter Try.func50, Try.ntmps50
  go_wp2_with fail
  go_loopw [18] (fun u wr => ∃ (i : Nat) (s : Int), u = .int .i64 (i : Int) ∧ (i : Int) ≤ m ∧ Gr w wr ∧ wr.heap[w.heap.size]? = some (.cells #[.int .i64 a, .int .i64 b, .int .i64 n, .int .i64 c, .int .i64 d] 35) ∧ wr.heap[w.heap.size + 1]? = some (.cells #[.int .i64 s, .int .i64 p, .int .i64 q] 42) ∧ wr.heap[w.heap.size + 1 + 1]? = some (.cells #[.int .i64 0, .int .i64 0, .int .i64 0] 42) ∧ -10000 ≤ s ∧ s ≤ 10000 ∧ mv a b n c d p q y (m.toNat - i) s i = r) (fun u _ => (m - intOf u).toNat)
  case atStart =>
    obtain ⟨x0, x1, x2, _, _⟩ := alloc3 (Gr.refl (((w.alloc _).alloc _).alloc _))
    exact ⟨0, t, rfl, by simpa using m1, (((Gr.refl _).al _).al _).al _, x0, x1, x2, T1.out, T2.out, by simpa using hr.out⟩
  case round =>
    obtain ⟨i, s, rfl, hi, g, x5, x7, x8, s1, s2, hm⟩ := hrel
    have GW := hid g
    have XS := hid x5; have X5 := hid x7; have X8 := hid x8
    have HM := hid hm
    clear g x5 x7 x8 hm
    by_cases hlt : (i : Int) < m
    · obtain ⟨f, hf⟩ : ∃ f, m.toNat - i = f + 1 := ⟨m.toNat - i - 1, by omega⟩
      have hmv := HM.out
      rw [hf] at hmv
      unfold mv at hmv
      by_cases hC : stC a b n c d s y = 0
      · rw [if_pos hC] at hmv
        obtain ⟨i12, hgt, hge⟩ := stC_ok hC
        by_cases h1 : cmpI p q (lP a b n c d (s + y)) (lQ a b n c d (s + y)) < 0
        · obtain ⟨e1, e2⟩ := at_lo hs.out hge h1
          rw [e1, e2, if_neg (fun h => by rw [h.1, h.2, cmp_self] at h1; omega)] at hmv
          have HM := hid hmv; have I := hid i12; have HG := hid hgt; have HE := hid hge; have H1 := hid h1
          clear hmv hC i12 hgt hge h1 e1 e2 hf
          obtain ⟨_, _, _, _, _⟩ := cells5 XS.out
          have _ := fz XS.out
          have _ := ltb XS.out
          obtain ⟨_, _, _⟩ := cells3 X5.out
          have _ := fz X5.out
          have _ := ltb X5.out
          obtain ⟨_, _, _⟩ := cells3 X8.out
          have _ := fz X8.out
          have _ := ltb X8.out
          go_wp2_with fail
          refine (iturn_lo _ _ _ _ _ _ _ _ _ _ s1 s2 y1 y2 hs.out HG.out hp.out HE.out (by simpa using H1.out)).mono ?_
          rintro e w1 ⟨rfl, hg1⟩
          have x1_1 := hg1.keep XS.out
          have x1_2 := hg1.keep X5.out
          have x1_3 := hg1.keep X8.out
          obtain ⟨_, _, _, _, _⟩ := cells5 x1_1
          have _ := fz x1_1
          have _ := ltb x1_1
          obtain ⟨_, _, _⟩ := cells3 x1_2
          have _ := fz x1_2
          have _ := ltb x1_2
          obtain ⟨_, _, _⟩ := cells3 x1_3
          have _ := fz x1_3
          have _ := ltb x1_3
          have X1_1 := hid x1_1; clear x1_1
          have X1_2 := hid x1_2; clear x1_2
          have X1_3 := hid x1_3; clear x1_3
          have G1 := hid (GW.out.trans hg1)
          clear hg1
          go_wp2_with fail
          refine (moved_pulled _ _ _ _ _).mono ?_
          rintro e w2 ⟨rfl, hg2⟩
          obtain ⟨x2_0, hz2, g2⟩ := alloc1 hg2
          have x2_1 := g2.keep X1_1.out
          have x2_2 := g2.keep X1_2.out
          have x2_3 := g2.keep X1_3.out
          obtain ⟨_, _, _, _, _⟩ := cells5 x2_1
          have _ := fz x2_1
          have _ := ltb x2_1
          obtain ⟨_, _, _⟩ := cells3 x2_2
          have _ := fz x2_2
          have _ := ltb x2_2
          obtain ⟨_, _, _⟩ := cells3 x2_3
          have _ := fz x2_3
          have _ := ltb x2_3
          obtain ⟨_, _, _⟩ := cells3 x2_0
          have _ := fz x2_0
          have _ := ltb x2_0
          have X2_1 := hid x2_1; clear x2_1
          have X2_2 := hid x2_2; clear x2_2
          have X2_3 := hid x2_3; clear x2_3
          have X2_0 := hid x2_0; clear x2_0
          have G2 := hid (G1.out.trans g2)
          clear hg2 g2
          go_wp2
          refine bodyPost_ret (v := .tuple #[spi (s + y) (lP a b n c d (s + y)) (lQ a b n c d (s + y)), .int .i64 ((i : Int) + 1), .int .i64 0]) (by simp [results, Try.results50, go_sem, *]) rfl ⟨(by rw [← HM.out]; rfl), ?_⟩
          exact (((G2.out).setCell (by simp <;> omega) _).setCell (by simp <;> omega) _).setCell (by simp <;> omega) _
        · by_cases h2 : 0 < cmpI p q (nP a b n (s + y)) (nQ a b n (s + y))
          · obtain ⟨e1, e2⟩ := at_hi h1 h2
            rw [e1, e2, if_neg (fun h => by rw [h.1, h.2, cmp_self] at h2; omega)] at hmv
            have HM := hid hmv; have I := hid i12; have HG := hid hgt; have HE := hid hge; have H1 := hid h1; have H2 := hid h2
            clear hmv hC i12 hgt hge h1 e1 e2 hf h2
            obtain ⟨_, _, _, _, _⟩ := cells5 XS.out
            have _ := fz XS.out
            have _ := ltb XS.out
            obtain ⟨_, _, _⟩ := cells3 X5.out
            have _ := fz X5.out
            have _ := ltb X5.out
            obtain ⟨_, _, _⟩ := cells3 X8.out
            have _ := fz X8.out
            have _ := ltb X8.out
            go_wp2_with fail
            refine (iturn_hi _ _ _ _ _ _ _ _ _ _ s1 s2 y1 y2 hs.out HG.out hp.out HE.out (by simpa using H1.out) (by simpa using H2.out)).mono ?_
            rintro e w1 ⟨rfl, hg1⟩
            have x1_1 := hg1.keep XS.out
            have x1_2 := hg1.keep X5.out
            have x1_3 := hg1.keep X8.out
            obtain ⟨_, _, _, _, _⟩ := cells5 x1_1
            have _ := fz x1_1
            have _ := ltb x1_1
            obtain ⟨_, _, _⟩ := cells3 x1_2
            have _ := fz x1_2
            have _ := ltb x1_2
            obtain ⟨_, _, _⟩ := cells3 x1_3
            have _ := fz x1_3
            have _ := ltb x1_3
            have X1_1 := hid x1_1; clear x1_1
            have X1_2 := hid x1_2; clear x1_2
            have X1_3 := hid x1_3; clear x1_3
            have G1 := hid (GW.out.trans hg1)
            clear hg1
            go_wp2_with fail
            refine (moved_pushed _ _ _ _ _).mono ?_
            rintro e w2 ⟨rfl, hg2⟩
            obtain ⟨x2_0, hz2, g2⟩ := alloc1 hg2
            have x2_1 := g2.keep X1_1.out
            have x2_2 := g2.keep X1_2.out
            have x2_3 := g2.keep X1_3.out
            obtain ⟨_, _, _, _, _⟩ := cells5 x2_1
            have _ := fz x2_1
            have _ := ltb x2_1
            obtain ⟨_, _, _⟩ := cells3 x2_2
            have _ := fz x2_2
            have _ := ltb x2_2
            obtain ⟨_, _, _⟩ := cells3 x2_3
            have _ := fz x2_3
            have _ := ltb x2_3
            obtain ⟨_, _, _⟩ := cells3 x2_0
            have _ := fz x2_0
            have _ := ltb x2_0
            have X2_1 := hid x2_1; clear x2_1
            have X2_2 := hid x2_2; clear x2_2
            have X2_3 := hid x2_3; clear x2_3
            have X2_0 := hid x2_0; clear x2_0
            have G2 := hid (G1.out.trans g2)
            clear hg2 g2
            go_wp2
            refine bodyPost_ret (v := .tuple #[spi (s + y) (nP a b n (s + y)) (nQ a b n (s + y)), .int .i64 ((i : Int) + 1), .int .i64 0]) (by simp [results, Try.results50, go_sem, *]) rfl ⟨(by rw [← HM.out]; rfl), ?_⟩
            exact (((G2.out).setCell (by simp <;> omega) _).setCell (by simp <;> omega) _).setCell (by simp <;> omega) _
          · have est := at_mid h1 h2
            rw [if_pos est] at hmv
            have HMV := hid hmv; have I := hid i12; have HG := hid hgt; have HE := hid hge; have H1 := hid h1; have H2 := hid h2; have HF := hid hf
            clear hmv hC i12 hgt hge h1 est hf h2 HM
            obtain ⟨_, _, _, _, _⟩ := cells5 XS.out
            have _ := fz XS.out
            have _ := ltb XS.out
            obtain ⟨_, _, _⟩ := cells3 X5.out
            have _ := fz X5.out
            have _ := ltb X5.out
            obtain ⟨_, _, _⟩ := cells3 X8.out
            have _ := fz X8.out
            have _ := ltb X8.out
            go_wp2_with fail
            refine (iturn_mid _ _ _ _ _ _ _ _ _ _ s1 s2 y1 y2 hs.out HG.out hp.out HE.out (by simpa using H1.out) (by simpa using H2.out)).mono ?_
            rintro e w1 ⟨rfl, hg1⟩
            have x1_1 := hg1.keep XS.out
            have x1_2 := hg1.keep X5.out
            have x1_3 := hg1.keep X8.out
            obtain ⟨_, _, _, _, _⟩ := cells5 x1_1
            have _ := fz x1_1
            have _ := ltb x1_1
            obtain ⟨_, _, _⟩ := cells3 x1_2
            have _ := fz x1_2
            have _ := ltb x1_2
            obtain ⟨_, _, _⟩ := cells3 x1_3
            have _ := fz x1_3
            have _ := ltb x1_3
            have X1_1 := hid x1_1; clear x1_1
            have X1_2 := hid x1_2; clear x1_2
            have X1_3 := hid x1_3; clear x1_3
            have G1 := hid (GW.out.trans hg1)
            clear hg1
            go_wp2_with fail
            refine (moved_loose _ _ _).mono ?_
            rintro e w2 ⟨rfl, hg2⟩
            obtain ⟨x2_0, hz2, g2⟩ := alloc1 hg2
            have x2_1 := g2.keep X1_1.out
            have x2_2 := g2.keep X1_2.out
            have x2_3 := g2.keep X1_3.out
            obtain ⟨_, _, _, _, _⟩ := cells5 x2_1
            have _ := fz x2_1
            have _ := ltb x2_1
            obtain ⟨_, _, _⟩ := cells3 x2_2
            have _ := fz x2_2
            have _ := ltb x2_2
            obtain ⟨_, _, _⟩ := cells3 x2_3
            have _ := fz x2_3
            have _ := ltb x2_3
            obtain ⟨_, _, _⟩ := cells3 x2_0
            have _ := fz x2_0
            have _ := ltb x2_0
            have X2_1 := hid x2_1; clear x2_1
            have X2_2 := hid x2_2; clear x2_2
            have X2_3 := hid x2_3; clear x2_3
            have X2_0 := hid x2_0; clear x2_0
            have G2 := hid (G1.out.trans g2)
            clear hg2 g2
            go_wp2_with fail
            refine ⟨⟨i + 1, s + y, by simp, by omega, ((G2.out.setCell (by simp) _).setCell (by simp) _).setCell (by simp) _, set3_old X2_1.out (by omega), set3_new X2_2.out, set3_old X2_3.out (by omega), I.out.1, I.out.2, ?_⟩, by simp [intOf]; omega⟩
            rw [show m.toNat - (i + 1) = f by have := HF.out; omega]
            exact HMV.out
      · rw [if_neg hC] at hmv
        clear HM hf
        obtain ⟨C, eC⟩ : ∃ C, stC a b n c d s y = C := ⟨_, rfl⟩
        rw [eC] at hC hmv
        have EC := hid eC; clear eC
        have HC := hid hC
        have HM := hid hmv; clear hmv
        have c1 : ((C : Int) == 0) = false := by simpa using hC
        have c2 : ((C : Int) != 0) = true := by simpa using hC
        clear hC
        obtain ⟨_, _, _, _, _⟩ := cells5 XS.out
        have _ := fz XS.out
        have _ := ltb XS.out
        obtain ⟨_, _, _⟩ := cells3 X5.out
        have _ := fz X5.out
        have _ := ltb X5.out
        obtain ⟨_, _, _⟩ := cells3 X8.out
        have _ := fz X8.out
        have _ := ltb X8.out
        go_wp2_with fail
        refine (iturn_no _ _ _ _ _ _ _ _ _ _ hs.out s1 s2 y1 y2 _ EC.out HC.out).mono ?_
        rintro e w1 ⟨rfl, hg1⟩
        have x1_1 := hg1.keep XS.out
        have x1_2 := hg1.keep X5.out
        have x1_3 := hg1.keep X8.out
        obtain ⟨_, _, _, _, _⟩ := cells5 x1_1
        have _ := fz x1_1
        have _ := ltb x1_1
        obtain ⟨_, _, _⟩ := cells3 x1_2
        have _ := fz x1_2
        have _ := ltb x1_2
        obtain ⟨_, _, _⟩ := cells3 x1_3
        have _ := fz x1_3
        have _ := ltb x1_3
        have X1_1 := hid x1_1; clear x1_1
        have X1_2 := hid x1_2; clear x1_2
        have X1_3 := hid x1_3; clear x1_3
        have G1 := hid (GW.out.trans hg1)
        clear hg1
        go_wp2
        refine bodyPost_ret (v := .tuple #[spi 0 0 0, .int .i64 0, .int .i64 C]) (by simp [results, Try.results50, go_sem, *]) rfl ⟨(by rw [← HM.out]; rfl), ?_⟩
        exact ((((G1.out).setCell (by simp <;> omega) _).setCell (by simp <;> omega) _).setCell (by simp <;> omega) _).al _
    · have e : m.toNat - i = 0 := by omega
      have hmv := HM.out
      rw [e] at hmv
      unfold mv at hmv
      clear HM e
      have HM := hid hmv; clear hmv
      obtain ⟨_, _, _, _, _⟩ := cells5 XS.out
      have _ := fz XS.out
      have _ := ltb XS.out
      obtain ⟨_, _, _⟩ := cells3 X5.out
      have _ := fz X5.out
      have _ := ltb X5.out
      obtain ⟨_, _, _⟩ := cells3 X8.out
      have _ := fz X8.out
      have _ := ltb X8.out
      go_wp2
      refine bodyPost_ret (v := .tuple #[spi 0 0 0, .int .i64 0, .int .i64 7]) (by simp [results, Try.results50, go_sem, *]) rfl ⟨(by rw [← HM.out]; rfl), ?_⟩
      exact (((GW.out).setCell (by simp <;> omega) _).setCell (by simp <;> omega) _).setCell (by simp <;> omega) _
end Go.Proofs.Ytjcebojmfoppaaa
