/- WALKS: a spindle is turned part by part until it moves; PlayFound. -/
import Derived.Test.YtjcebojmfoppaaaX4
import Derived.Handy
namespace Go.Proofs.Ytjcebojmfoppaaa
open Go.RowKit Go.Sort

theorem set3_new {w : World} {g : Nat} {x y z a b c : Value} {T : TypeId} (h : w.heap[g]? = some (.cells #[x, y, z] T)) :
    (((w.setCell ⟨g, 0, none⟩ a).setCell ⟨g, 1, none⟩ b).setCell ⟨g, 2, none⟩ c).heap[g]? = some (.cells #[a, b, c] T) := by
  have e1 := Joins.block_setCell (i := 0) h a
  have e2 := Joins.block_setCell (i := 1) e1 b
  simpa using Joins.block_setCell (i := 2) e2 c
theorem set3_old {w : World} {g j : Nat} {a b c : Value} {o : Obj} (h : w.heap[j]? = some o) (hn : j ≠ g) :
    (((w.setCell ⟨g, 0, none⟩ a).setCell ⟨g, 1, none⟩ b).setCell ⟨g, 2, none⟩ c).heap[j]? = some o := by
  rw [Below.heap_setCell _ _ _ _ hn, Below.heap_setCell _ _ _ _ hn, Below.heap_setCell _ _ _ _ hn, h]

/-- The code of one turn. -/
def stC (a b n c d t y : Int) : Int := if gtB (t + y) 10000 then 2 else if eB a b n c d (t + y) then 0 else 3
structure Moves where
  t : Int
  p : Int
  q : Int
  n : Int
  c : Int
/-- A spindle at t parts is turned by y, at most so many times; i times have been done. -/
def mv (a b n c d p q y : Int) : Nat → Int → Int → Moves
  | 0, _, _ => ⟨0, 0, 0, 0, 7⟩
  | k + 1, t, i =>
    if stC a b n c d t y = 0 then
      if atP a b n c d (t + y) p q = p ∧ atQ a b n c d (t + y) p q = q then mv a b n c d p q y k (t + y) (i + 1)
      else ⟨t + y, atP a b n c d (t + y) p q, atQ a b n c d (t + y) p q, i + 1, 0⟩
    else ⟨0, 0, 0, 0, stC a b n c d t y⟩
def mvV (m : Moves) : Value := .tuple #[spi m.t m.p m.q, .int .i64 m.n, .int .i64 m.c]
theorem stC_ok {a b n c d t y : Int} (h : stC a b n c d t y = 0) : (-10000 ≤ t + y ∧ t + y ≤ 10000) ∧ gtB (t + y) 10000 = false ∧ eB a b n c d (t + y) = true := by
  unfold stC at h
  cases hi : gtB (t + y) 10000 with
  | true => rw [hi] at h; simp at h
  | false =>
    rw [hi] at h
    cases ge : eB a b n c d (t + y) with
    | false => rw [ge] at h; simp at h
    | true => exact ⟨gtb hi, rfl, rfl⟩
theorem sturn_no (a b n c d t p q y : Int) (w : World) (k : Nat) (X1 : Hid (w.heap[k]? = some (.cells #[.int .i64 a, .int .i64 b, .int .i64 n, .int .i64 c, .int .i64 d] 35))) (hs : scB a b n c d = true)
    (t1 : -10000 ≤ t) (t2 : t ≤ 10000) (y1 : -20000 ≤ y) (y2 : y ≤ 20000) (C : Int) (hC : stC a b n c d t y = C) (h : C ≠ 0) :
    Calls Try.prog 41 #[.pointer (some ⟨k, 0, none⟩), spi t p q, .int .i64 y] w fun e w' => e = .returned (.tuple #[spi 0 0 0, .int .i64 C]) ∧ Gr w w' := by
  subst hC
  unfold stC at h ⊢
  cases hi : gtB (t + y) 10000 with
  | true =>
    have hi' : inB (t + y) (-10000) 10000 = false := by rw [gt_in', hi]; rfl
    exact sturn_f2 a b n c d t p q y w k X1 t1 t2 y1 y2 hi'
  | false =>
    obtain ⟨i1, i2⟩ := gtb hi
    cases ge : eB a b n c d (t + y) with
    | true => rw [hi, ge] at h; exact absurd rfl h
    | false => exact sturn_f3 a b n c d t p q y w k X1 y1 y2 hs i1 i2 ge
theorem sturn_ok (a b n c d t p q y : Int) (w : World) (k : Nat) (X1 : Hid (w.heap[k]? = some (.cells #[.int .i64 a, .int .i64 b, .int .i64 n, .int .i64 c, .int .i64 d] 35))) (hs : scB a b n c d = true)
    (hp : okB p q = true) (y1 : -20000 ≤ y) (y2 : y ≤ 20000) (h : stC a b n c d t y = 0) (P Q : Int) (eP : atP a b n c d (t + y) p q = P) (eQ : atQ a b n c d (t + y) p q = Q) :
    Calls Try.prog 41 #[.pointer (some ⟨k, 0, none⟩), spi t p q, .int .i64 y] w fun e w' => e = .returned (.tuple #[spi (t + y) P Q, .int .i64 0]) ∧ Gr w w' := by
  obtain ⟨⟨i1, i2⟩, _, ge⟩ := stC_ok h
  subst eP eQ
  exact sturn_y a b n c d t p q y w k X1 y1 y2 hs i1 i2 hp ge

set_option maxRecDepth 20000 in
set_option maxHeartbeats 1000000 in
/-- spec.l02Moves -/
theorem smoves (a b n c d t p q y m : Int) (w : World) (k : Nat) (X1 : Hid (w.heap[k]? = some (.cells #[.int .i64 a, .int .i64 b, .int .i64 n, .int .i64 c, .int .i64 d] 35))) (hs : scB a b n c d = true)
    (hp : okB p q = true) (t1 : -10000 ≤ t) (t2 : t ≤ 10000) (y1 : -20000 ≤ y) (y2 : y ≤ 20000) (m1 : 0 ≤ m) (m2 : m ≤ 10000) :
    Calls Try.prog 51 #[.pointer (some ⟨k, 0, none⟩), spi t p q, .int .i64 y, .int .i64 m] w fun e w' => e = .returned (mvV (mv a b n c d p q y m.toNat t 0)) ∧ Gr w w' := by
  have hs := hid hs; have hp := hid hp
  obtain ⟨r, hr⟩ : ∃ r, mv a b n c d p q y m.toNat t 0 = r := ⟨_, rfl⟩
  rw [hr]
  have hr := hid hr
  have T1 := hid t1; have T2 := hid t2; clear t1 t2
  go_enter Try.func51, Try.ntmps51
  obtain ⟨_, _, _, _, _⟩ := cells5 X1.out
  have _ := fz X1.out
  have _ := ltb X1.out
  go_wp2_with fail
  go_loopw [11] (fun u wr => ∃ (i : Nat) (s : Int), u = .int .i64 ((i : Int) + 1) ∧ (i : Int) ≤ m ∧ Gr w wr ∧ wr.heap[w.heap.size]? = some (.cells #[.int .i64 s, .int .i64 p, .int .i64 q] 42) ∧ wr.heap[w.heap.size + 1]? = some (.cells #[.int .i64 0, .int .i64 0, .int .i64 0] 42) ∧ -10000 ≤ s ∧ s ≤ 10000 ∧ mv a b n c d p q y (m.toNat - i) s i = r) (fun u _ => (m + 1 - intOf u).toNat)
  case atStart =>
    obtain ⟨x0, x1, _, _⟩ := alloc2 (Gr.refl ((w.alloc _).alloc _))
    exact ⟨0, t, rfl, by simpa using m1, ((Gr.refl _).al _).al _, x0, x1, T1.out, T2.out, by simpa using hr.out⟩
  case round =>
    obtain ⟨i, s, rfl, hi, g, x5, x8, s1, s2, hm⟩ := hrel
    have GW := hid g
    have XS := hid (g.keep X1.out)
    have X5 := hid x5; have X8 := hid x8
    have HM := hid hm
    clear g x5 x8 hm
    by_cases hlt : (i : Int) < m
    · obtain ⟨f, hf⟩ : ∃ f, m.toNat - i = f + 1 := ⟨m.toNat - i - 1, by omega⟩
      have hmv := HM.out
      rw [hf] at hmv
      unfold mv at hmv
      by_cases hC : stC a b n c d s y = 0
      · rw [if_pos hC] at hmv
        by_cases hst : atP a b n c d (s + y) p q = p ∧ atQ a b n c d (s + y) p q = q
        · rw [if_pos hst] at hmv
          have HMV := hid hmv; have HC := hid hC; have HST := hid hst
          clear hmv hC hst HM
          have HF := hid hf; clear hf
          obtain ⟨_, _, _, _, _⟩ := cells5 XS.out
          have _ := fz XS.out
          have _ := ltb XS.out
          obtain ⟨_, _, _⟩ := cells3 X5.out
          have _ := fz X5.out
          have _ := ltb X5.out
          obtain ⟨_, _, _⟩ := cells3 X8.out
          have _ := fz X8.out
          have _ := ltb X8.out
          go_wp2_with fail
          refine (sturn_ok _ _ _ _ _ _ _ _ _ _ _ XS hs.out hp.out y1 y2 HC.out _ _ HST.out.1 HST.out.2).mono ?_
          rintro e w1 ⟨rfl, hg1⟩
          have x1_1 := hg1.keep XS.out
          have x1_2 := hg1.keep X5.out
          have x1_3 := hg1.keep X8.out
          obtain ⟨_, _, _, _, _⟩ := cells5 x1_1
          have _ := fz x1_1
          have _ := ltb x1_1
          obtain ⟨_, _, _⟩ := cells3 x1_2
          have _ := fz x1_2
          have _ := ltb x1_2
          obtain ⟨_, _, _⟩ := cells3 x1_3
          have _ := fz x1_3
          have _ := ltb x1_3
          have X1_1 := hid x1_1; clear x1_1
          have X1_2 := hid x1_2; clear x1_2
          have X1_3 := hid x1_3; clear x1_3
          have G1 := hid (GW.out.trans hg1)
          clear hg1
          go_wp2_with fail
          refine ⟨⟨i + 1, s + y, by simp, by omega, (((G1.out.setCell (by simp) _).setCell (by simp) _).setCell (by simp) _).al _, ((Gr.refl _).al _).keep (set3_new X1_2.out), ((Gr.refl _).al _).keep (set3_old X1_3.out (by omega)), (stC_ok HC.out).1.1, (stC_ok HC.out).1.2, ?_⟩, by simp [intOf]; omega⟩
          rw [show m.toNat - (i + 1) = f by have := HF.out; omega]
          exact HMV.out
        · rw [if_neg hst] at hmv
          clear HM
          have HC := hid hC; clear hC
          obtain ⟨P, eP⟩ : ∃ P, atP a b n c d (s + y) p q = P := ⟨_, rfl⟩
          obtain ⟨Q, eQ⟩ : ∃ Q, atQ a b n c d (s + y) p q = Q := ⟨_, rfl⟩
          rw [eP, eQ] at hst hmv
          have EP := hid eP; have EQ := hid eQ; clear eP eQ
          have HM := hid hmv; clear hmv
          by_cases h1 : P = p
          · have h2 : ((Q : Int) == q) = false := by
              have : Q ≠ q := fun h => hst ⟨h1, h⟩
              simpa using this
            have H1 := hid h1; clear hst h1
            obtain rfl := H1.out
            obtain ⟨_, _, _, _, _⟩ := cells5 XS.out
            have _ := fz XS.out
            have _ := ltb XS.out
            obtain ⟨_, _, _⟩ := cells3 X5.out
            have _ := fz X5.out
            have _ := ltb X5.out
            obtain ⟨_, _, _⟩ := cells3 X8.out
            have _ := fz X8.out
            have _ := ltb X8.out
            go_wp2_with fail
            refine (sturn_ok _ _ _ _ _ _ _ _ _ _ _ XS hs.out hp.out y1 y2 HC.out _ _ EP.out EQ.out).mono ?_
            rintro e w1 ⟨rfl, hg1⟩
            have x1_1 := hg1.keep XS.out
            have x1_2 := hg1.keep X5.out
            have x1_3 := hg1.keep X8.out
            obtain ⟨_, _, _, _, _⟩ := cells5 x1_1
            have _ := fz x1_1
            have _ := ltb x1_1
            obtain ⟨_, _, _⟩ := cells3 x1_2
            have _ := fz x1_2
            have _ := ltb x1_2
            obtain ⟨_, _, _⟩ := cells3 x1_3
            have _ := fz x1_3
            have _ := ltb x1_3
            have X1_1 := hid x1_1; clear x1_1
            have X1_2 := hid x1_2; clear x1_2
            have X1_3 := hid x1_3; clear x1_3
            have G1 := hid (GW.out.trans hg1)
            clear hg1
            go_wp2
            refine bodyPost_ret (v := .tuple #[spi (s + y) P Q, .int .i64 ((i : Int) + 1), .int .i64 0]) (by simp [results, Try.results51, go_sem, *]) rfl ⟨(by rw [← HM.out]; rfl), ?_⟩
            exact ((((G1.out).setCell (by simp <;> omega) _).setCell (by simp <;> omega) _).setCell (by simp <;> omega) _).al _
          · have h2 : ((P : Int) == p) = false := by simpa using h1
            clear hst h1
            obtain ⟨_, _, _, _, _⟩ := cells5 XS.out
            have _ := fz XS.out
            have _ := ltb XS.out
            obtain ⟨_, _, _⟩ := cells3 X5.out
            have _ := fz X5.out
            have _ := ltb X5.out
            obtain ⟨_, _, _⟩ := cells3 X8.out
            have _ := fz X8.out
            have _ := ltb X8.out
            go_wp2_with fail
            refine (sturn_ok _ _ _ _ _ _ _ _ _ _ _ XS hs.out hp.out y1 y2 HC.out _ _ EP.out EQ.out).mono ?_
            rintro e w1 ⟨rfl, hg1⟩
            have x1_1 := hg1.keep XS.out
            have x1_2 := hg1.keep X5.out
            have x1_3 := hg1.keep X8.out
            obtain ⟨_, _, _, _, _⟩ := cells5 x1_1
            have _ := fz x1_1
            have _ := ltb x1_1
            obtain ⟨_, _, _⟩ := cells3 x1_2
            have _ := fz x1_2
            have _ := ltb x1_2
            obtain ⟨_, _, _⟩ := cells3 x1_3
            have _ := fz x1_3
            have _ := ltb x1_3
            have X1_1 := hid x1_1; clear x1_1
            have X1_2 := hid x1_2; clear x1_2
            have X1_3 := hid x1_3; clear x1_3
            have G1 := hid (GW.out.trans hg1)
            clear hg1
            go_wp2
            refine bodyPost_ret (v := .tuple #[spi (s + y) P Q, .int .i64 ((i : Int) + 1), .int .i64 0]) (by simp [results, Try.results51, go_sem, *]) rfl ⟨(by rw [← HM.out]; rfl), ?_⟩
            exact ((((G1.out).setCell (by simp <;> omega) _).setCell (by simp <;> omega) _).setCell (by simp <;> omega) _).al _
      · rw [if_neg hC] at hmv
        clear HM
        obtain ⟨C, eC⟩ : ∃ C, stC a b n c d s y = C := ⟨_, rfl⟩
        rw [eC] at hC hmv
        have EC := hid eC; clear eC
        have HC := hid hC
        have HM := hid hmv; clear hmv
        have c1 : ((C : Int) == 0) = false := by simpa using hC
        have c2 : ((C : Int) != 0) = true := by simpa using hC
        clear hC
        obtain ⟨_, _, _, _, _⟩ := cells5 XS.out
        have _ := fz XS.out
        have _ := ltb XS.out
        obtain ⟨_, _, _⟩ := cells3 X5.out
        have _ := fz X5.out
        have _ := ltb X5.out
        obtain ⟨_, _, _⟩ := cells3 X8.out
        have _ := fz X8.out
        have _ := ltb X8.out
        go_wp2_with fail
        refine (sturn_no _ _ _ _ _ _ _ _ _ _ _ XS hs.out s1 s2 y1 y2 _ EC.out HC.out).mono ?_
        rintro e w1 ⟨rfl, hg1⟩
        have x1_1 := hg1.keep XS.out
        have x1_2 := hg1.keep X5.out
        have x1_3 := hg1.keep X8.out
        obtain ⟨_, _, _, _, _⟩ := cells5 x1_1
        have _ := fz x1_1
        have _ := ltb x1_1
        obtain ⟨_, _, _⟩ := cells3 x1_2
        have _ := fz x1_2
        have _ := ltb x1_2
        obtain ⟨_, _, _⟩ := cells3 x1_3
        have _ := fz x1_3
        have _ := ltb x1_3
        have X1_1 := hid x1_1; clear x1_1
        have X1_2 := hid x1_2; clear x1_2
        have X1_3 := hid x1_3; clear x1_3
        have G1 := hid (GW.out.trans hg1)
        clear hg1
        go_wp2
        refine bodyPost_ret (v := .tuple #[spi 0 0 0, .int .i64 0, .int .i64 C]) (by simp [results, Try.results51, go_sem, *]) rfl ⟨(by rw [← HM.out]; rfl), ?_⟩
        exact ((((G1.out).setCell (by simp <;> omega) _).setCell (by simp <;> omega) _).setCell (by simp <;> omega) _).al _
    · have e : m.toNat - i = 0 := by omega
      have hmv := HM.out
      rw [e] at hmv
      unfold mv at hmv
      clear HM e
      have HM := hid hmv; clear hmv
      obtain ⟨_, _, _, _, _⟩ := cells5 XS.out
      have _ := fz XS.out
      have _ := ltb XS.out
      obtain ⟨_, _, _⟩ := cells3 X5.out
      have _ := fz X5.out
      have _ := ltb X5.out
      obtain ⟨_, _, _⟩ := cells3 X8.out
      have _ := fz X8.out
      have _ := ltb X8.out
      go_wp2
      refine bodyPost_ret (v := .tuple #[spi 0 0 0, .int .i64 0, .int .i64 7]) (by simp [results, Try.results51, go_sem, *]) rfl ⟨(by rw [← HM.out]; rfl), ?_⟩
      exact (((GW.out).setCell (by simp <;> omega) _).setCell (by simp <;> omega) _).setCell (by simp <;> omega) _
end Go.Proofs.Ytjcebojmfoppaaa
