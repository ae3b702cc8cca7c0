/- WALKS: Explains, of the program and of the reference: the ends. -/
import Derived.Test.YtmjcnagniphkeaaPi
namespace Go.Proofs.Ytmjcnagniphkeaa
open Go.RowKit Go.Sort

theorem iGuess_is (b u : Int) (o : Bool) (r : Bool) (w : World) (hb : W16 b) (hu : W16 u) (h : gsB b u = r) :
    Calls Try.prog 98 #[gs b u o] w fun e w' => e = .returned (.bool r) ∧ Gr w w' := h ▸ iGuess b u o w hb hu
theorem sGuess_is (b u : Int) (o : Bool) (r : Bool) (w : World) (hb : W16 b) (hu : W16 u) (h : gsB b u = r) :
    Calls Try.prog 117 #[gs b u o] w fun e w' => e = .returned (.bool r) ∧ Gr w w' := h ▸ sGuess b u o w hb hu
set_option maxRecDepth 20000 in
set_option maxHeartbeats 600000 in
theorem iEx_1 (b u : Int) (o : Bool) (v1 v2 : Value) (w : World) (hb : W16 b) (hu : W16 u) (h : gsB b u = false) :
    Calls Try.prog 60 #[gs b u o, v1, v2] w fun e w' => e = .returned (.tuple #[.bool false, .int .i64 1]) ∧ Gr w w' := by
  have HG := hid fun (w : World) => iGuess_is b u o false w hb hu h
  clear hb hu h
  go_enter Try.func60, Try.ntmps60
  go_wp2_with fail
  refine (HG.out _).mono ?_
  rintro e w1 ⟨rfl, hg1⟩
  obtain ⟨x1_0, hz1, g1⟩ := alloc1 hg1
  obtain ⟨_, _, _⟩ := cells3 x1_0
  have _ := fz x1_0
  have _ := ltb x1_0
  have X1_0 := hid x1_0; clear x1_0
  have G1 := hid (g1)
  clear hg1 g1
  go_wp2
  go_ret2
  exact ⟨rfl, G1.out⟩
set_option maxRecDepth 20000 in
set_option maxHeartbeats 600000 in
theorem iEx_2 (b u : Int) (o : Bool) (v1 v2 : Value) (C : Int) (w : World) (hb : W16 b) (hu : W16 u) (h : gsB b u = true) (hC : C ≠ 0)
    (ht : ∀ w', Gr w w' → Calls Try.prog 120 #[v1, v2] w' fun e w'' => e = .returned (.tuple #[tv none 0 0 none 0 0, .int .i64 C]) ∧ Gr w' w'') :
    Calls Try.prog 60 #[gs b u o, v1, v2] w fun e w' => e = .returned (.tuple #[.bool false, .int .i64 C]) ∧ Gr w w' := by
  have HG := hid fun (w : World) => iGuess_is b u o true w hb hu h
  have HT := hid ht
  have hd : ((C : Int) == 0) = false := by simpa using hC
  have hd2 : ((C : Int) != 0) = true := by simpa using hC
  clear hb hu h ht hC
  go_enter Try.func60, Try.ntmps60
  go_wp2_with fail
  refine (HG.out _).mono ?_
  rintro e w1 ⟨rfl, hg1⟩
  obtain ⟨x1_0, hz1, g1⟩ := alloc1 hg1
  obtain ⟨_, _, _⟩ := cells3 x1_0
  have _ := fz x1_0
  have _ := ltb x1_0
  have X1_0 := hid x1_0; clear x1_0
  have G1 := hid (g1)
  clear hg1 g1
  go_wp2_with fail
  refine (HT.out _ G1.out).mono ?_
  rintro e w2 ⟨rfl, hg2⟩
  have x2_1 := hg2.keep X1_0.out
  obtain ⟨_, _, _⟩ := cells3 x2_1
  have _ := fz x2_1
  have _ := ltb x2_1
  have X2_1 := hid x2_1; clear x2_1
  have G2 := hid (G1.out.trans hg2)
  clear hg2
  go_wp2
  go_ret2
  exact ⟨rfl, G2.out.al _⟩
set_option maxRecDepth 20000 in
set_option maxHeartbeats 600000 in
theorem iEx_ok (b u : Int) (o : Bool) (A B : Option Addr) (c cb n : Nat) (r : Bool) (w : World) (hb : W16 b) (hu : W16 u) (h : gsB b u = true)
    (ht : ∀ w', Gr w w' → Calls Try.prog 120 #[.slice A n c, .slice B n cb] w' fun e w'' => e = .returned (.tuple #[tv A n c B n cb, .int .i64 0]) ∧ Gr w' w'')
    (hr : ∀ w', Gr w w' → Calls Try.prog 121 #[tv A n c B n cb, .func (.func 122) #[gs b u o] #[]] w' fun e w'' => e = .returned (.bool r) ∧ Gr w' w'') :
    Calls Try.prog 60 #[gs b u o, .slice A n c, .slice B n cb] w fun e w' => e = .returned (.tuple #[.bool r, .int .i64 0]) ∧ Gr w w' := by
  have HG := hid fun (w : World) => iGuess_is b u o true w hb hu h
  have HT := hid ht; have HR := hid hr
  clear hb hu h ht hr
  go_enter Try.func60, Try.ntmps60
  go_wp2_with fail
  refine (HG.out _).mono ?_
  rintro e w1 ⟨rfl, hg1⟩
  obtain ⟨x1_0, hz1, g1⟩ := alloc1 hg1
  obtain ⟨_, _, _⟩ := cells3 x1_0
  have _ := fz x1_0
  have _ := ltb x1_0
  have X1_0 := hid x1_0; clear x1_0
  have G1 := hid (g1)
  clear hg1 g1
  go_wp2_with fail
  refine (HT.out _ G1.out).mono ?_
  rintro e w2 ⟨rfl, hg2⟩
  have x2_1 := hg2.keep X1_0.out
  obtain ⟨_, _, _⟩ := cells3 x2_1
  have _ := fz x2_1
  have _ := ltb x2_1
  have X2_1 := hid x2_1; clear x2_1
  have G2 := hid (G1.out.trans hg2)
  clear hg2
  go_wp2_with fail
  refine (HR.out _ (G2.out.al _)).mono ?_
  rintro e w3 ⟨rfl, hg3⟩
  obtain ⟨x3_0, hz3, g3⟩ := alloc1 hg3
  have x3_1 := g3.keep X2_1.out
  obtain ⟨_, _, _⟩ := cells3 x3_1
  have _ := fz x3_1
  have _ := ltb x3_1
  obtain ⟨_, _⟩ := cells2 x3_0
  have _ := fz x3_0
  have _ := ltb x3_0
  have X3_1 := hid x3_1; clear x3_1
  have X3_0 := hid x3_0; clear x3_0
  have G3 := hid (G2.out.trans g3)
  clear hg3 g3
  go_wp2
  go_ret2
  exact ⟨rfl, G3.out⟩

/-! the reference -/
set_option maxRecDepth 20000 in
set_option maxHeartbeats 600000 in
theorem sPairs_1 (A B : Option Addr) (c cb m : Nat) (xs : List (Int × Int)) (w : World) (X : Hid (RdF w A xs)) (hn : xs.length ≤ 1048576) (h : allF xs = false) :
    Calls Try.prog 118 #[.slice A xs.length c, .slice B m cb] w fun e w' => e = .returned (.int .i64 1) ∧ Gr w w' := by
  have H := hid h; clear h
  go_enter Try.func118, Try.ntmps118
  go_wp2_with fail
  refine (sValues_is A c xs false _ X hn H.out).mono ?_
  rintro e w1 ⟨rfl, hg1⟩
  have G1 := hid (hg1)
  clear hg1
  go_wp2
  go_ret
  exact ⟨rfl, G1.out⟩
set_option maxRecDepth 20000 in
set_option maxHeartbeats 600000 in
theorem sPairs_2 (A B : Option Addr) (c cb m : Nat) (xs : List (Int × Int)) (ys : List Int) (w : World) (X : Hid (RdF w A xs)) (Y : Hid (RdI w B ys)) (hn : xs.length ≤ 1048576) (hm : ys.length = m) (hm2 : m ≤ 1048576) (h : allF xs = true) (hr : rdB ys = false) :
    Calls Try.prog 118 #[.slice A xs.length c, .slice B m cb] w fun e w' => e = .returned (.int .i64 2) ∧ Gr w w' := by
  have HR := hid fun (w' : World) (Z : Hid (RdI w' B ys)) => sReadings_no B cb ys w' Z (by omega) hr
  rw [hm] at HR
  have H := hid h; clear h hr hm
  go_enter Try.func118, Try.ntmps118
  go_wp2_with fail
  refine (sValues_is A c xs true _ X hn H.out).mono ?_
  rintro e w1 ⟨rfl, hg1⟩
  have G1 := hid (hg1)
  clear hg1
  go_wp2_with fail
  refine (HR.out _ (hid (Y.out.keep G1.out))).mono ?_
  rintro e w2 ⟨rfl, hg2⟩
  have G2 := hid (G1.out.trans hg2)
  clear hg2
  go_wp2
  go_ret
  exact ⟨rfl, G2.out⟩
set_option maxRecDepth 20000 in
set_option maxHeartbeats 600000 in
theorem sPairs_3 (A B : Option Addr) (c cb m : Nat) (xs : List (Int × Int)) (ys : List Int) (w : World) (X : Hid (RdF w A xs)) (Y : Hid (RdI w B ys)) (hn : xs.length ≤ 1048576) (hm : ys.length = m) (h : allF xs = true) (hr : rdB ys = true) (hl : xs.length ≠ m) :
    Calls Try.prog 118 #[.slice A xs.length c, .slice B m cb] w fun e w' => e = .returned (.int .i64 2) ∧ Gr w w' := by
  have HR := hid fun (w' : World) (Z : Hid (RdI w' B ys)) => sReadings_yes B cb ys w' Z hr
  rw [hm] at HR
  have H := hid h; clear h hr hm
  have hd : ((xs.length : Int) == (m : Int)) = false := beq_eq_false_iff_ne.2 (by omega)
  have hd2 : ((xs.length : Int) != (m : Int)) = true := bne_iff_ne.2 (by omega)
  go_enter Try.func118, Try.ntmps118
  go_wp2_with fail
  refine (sValues_is A c xs true _ X hn H.out).mono ?_
  rintro e w1 ⟨rfl, hg1⟩
  have G1 := hid (hg1)
  clear hg1
  go_wp2_with fail
  refine (HR.out _ (hid (Y.out.keep G1.out))).mono ?_
  rintro e w2 ⟨rfl, hg2⟩
  have G2 := hid (G1.out.trans hg2)
  clear hg2
  go_wp2
  go_ret
  exact ⟨rfl, G2.out⟩
set_option maxRecDepth 20000 in
set_option maxHeartbeats 600000 in
theorem sPairs_ok (A B : Option Addr) (c cb n : Nat) (xs : List (Int × Int)) (ys : List Int) (w : World) (X : Hid (RdF w A xs)) (Y : Hid (RdI w B ys)) (hn : n ≤ 1048576) (h : allF xs = true) (hx : xs.length = n) (hy : ys.length = n) (hr : rdB ys = true) :
    Calls Try.prog 118 #[.slice A n c, .slice B n cb] w fun e w' => e = .returned (.int .i64 0) ∧ Gr w w' := by
  have HF := hid fun (w' : World) (Z : Hid (RdF w' A xs)) => sValues_is A c xs true w' Z (by omega) h
  have HR := hid fun (w' : World) (Z : Hid (RdI w' B ys)) => sReadings_yes B cb ys w' Z hr
  rw [hx] at HF
  rw [hy] at HR
  clear h hx hy hr
  go_enter Try.func118, Try.ntmps118
  go_wp2_with fail
  refine (HF.out _ X).mono ?_
  rintro e w1 ⟨rfl, hg1⟩
  have G1 := hid (hg1)
  clear hg1
  go_wp2_with fail
  refine (HR.out _ (hid (Y.out.keep G1.out))).mono ?_
  rintro e w2 ⟨rfl, hg2⟩
  have G2 := hid (G1.out.trans hg2)
  clear hg2
  go_wp2
  go_ret
  exact ⟨rfl, G2.out⟩
set_option maxRecDepth 20000 in
set_option maxHeartbeats 2000000 in
theorem sHits (b u : Int) (o : Bool) (A B : Option Addr) (c cb n : Nat) (xs : List (Int × Int)) (ys : List Int) (w : World) (X : Hid (RdF w A xs)) (Y : Hid (RdI w B ys)) (hn : n ≤ 1048576) (hg : gsB b u = true) (h : allF xs = true) (hx : xs.length = n) (hy : ys.length = n) :
    Calls Try.prog 178 #[gs b u o, .slice A n c, .slice B n cb] w fun e w' => e = .returned (.int .i64 (hiN b u o xs ys n : Int)) ∧ Gr w w' := by
  have H := hid h; have HX := hid hx; have HY := hid hy; have HG := hid hg
  clear h hx hy hg
  go_enter Try.func178, Try.ntmps178
  go_wp2_with fail
  go_loopw [7, 8] (fun t v wr => ∃ (k : Nat), v = .int .i64 (k : Int) ∧ t = .int .i64 (hiN b u o xs ys k : Int) ∧ k ≤ n ∧ Gr w wr ∧ wr.heap[w.heap.size]? = some (.cells #[.int .i16 b, .int .i16 u, .bool o] 95)) (fun _ v _ => n - (intOf v).toNat)
  case atStart => exact ⟨0, rfl, rfl, by omega, (Gr.refl _).al _, (alloc1 (Gr.refl _)).1⟩
  case round =>
    obtain ⟨k, rfl, rfl, hk, g0, hz⟩ := hrel
    have GW := hid g0; have Z := hid hz; clear g0 hz
    have hle := hiN_le b u o xs ys k
    by_cases hlt : k < n
    · obtain ⟨⟨p, q⟩, hp⟩ : ∃ x, xs[k]? = some x := ⟨xs[k]'(by rw [HX.out]; exact hlt), List.getElem?_eq_getElem _⟩
      obtain ⟨y, hyk⟩ : ∃ y, ys[k]? = some y := ⟨ys[k]'(by rw [HY.out]; exact hlt), List.getElem?_eq_getElem _⟩
      obtain ⟨ad, rfl, c1, c2⟩ := (X.out.keep GW.out) k p q hp
      obtain ⟨ad', rfl, c3⟩ := (Y.out.keep GW.out) k y hyk
      have C1 := hid c1; have C2 := hid c2; have C3 := hid c3
      have HB := hid (rd_bd HG.out (all_get hp (show xs.all (fun x => okB x.1 x.2) = true from H.out)))
      have hh := hit_of (b := b) (u := u) (o := o) hp hyk
      have hs := hiN_succ b u o xs ys k
      rw [hh] at hs
      have HM := hid fun (w : World) => sread b u p q o w HB.out
      obtain ⟨r, hr⟩ : ∃ r, rdV b u o p q = r := ⟨_, rfl⟩
      rw [hr] at HM hs
      have HS := hid hs
      obtain ⟨m, hm⟩ : ∃ m, hiN b u o xs ys k = m := ⟨_, rfl⟩
      rw [hm] at HS hle
      rw [hm]
      clear hp hyk c1 c2 c3 hs hh hr hm
      by_cases hry : r = y
      · subst hry
        obtain ⟨_, _, _⟩ := cells3 Z.out
        have _ := fz Z.out
        have _ := ltb Z.out
        go_wp2_with fail
        refine wp_reg0 10 (by kernel_rfl) (by kernel_rfl) ?_
        apply Exists.intro
        refine ⟨fun wb hb => ?_, ?_⟩
        · obtain ⟨_, _, _⟩ := hb.at3 Z.out
          have _ := hb.atA C1.out
          have _ := hb.atA C2.out
          have _ := hb.atA C3.out
          simp only [headOps, List.contains, List.elem, reduceIte, Bool.false_eq_true]
          repeat (first | go_big_quiet_step (first | (go_at_call 100; exact Calls.of_gr (HM.out _))) | quiet_step (fail))
          exact wpQuiet_nil rfl
        intro w6 hg6
        have x6_1 := hg6.keep Z.out
        obtain ⟨_, _, _⟩ := cells3 x6_1
        have _ := fz x6_1
        have _ := ltb x6_1
        have X6_1 := hid x6_1; clear x6_1
        have G6 := hid (GW.out.trans hg6)
        clear hg6
        go_wp2_with fail
        exact ⟨⟨k + 1, by simp, by rw [HS.out]; simp, by omega, G6.out, X6_1.out⟩, by simp [intOf]; omega⟩
      · have hb1 : ((r : Int) == y) = false := by simpa using hry
        obtain ⟨_, _, _⟩ := cells3 Z.out
        have _ := fz Z.out
        have _ := ltb Z.out
        go_wp2_with fail
        refine wp_reg0 10 (by kernel_rfl) (by kernel_rfl) ?_
        apply Exists.intro
        refine ⟨fun wb hb => ?_, ?_⟩
        · obtain ⟨_, _, _⟩ := hb.at3 Z.out
          have _ := hb.atA C1.out
          have _ := hb.atA C2.out
          have _ := hb.atA C3.out
          simp only [headOps, List.contains, List.elem, reduceIte, Bool.false_eq_true]
          repeat (first | go_big_quiet_step (first | (go_at_call 100; exact Calls.of_gr (HM.out _))) | quiet_step (fail))
          exact wpQuiet_nil rfl
        intro w6 hg6
        have x6_1 := hg6.keep Z.out
        obtain ⟨_, _, _⟩ := cells3 x6_1
        have _ := fz x6_1
        have _ := ltb x6_1
        have X6_1 := hid x6_1; clear x6_1
        have G6 := hid (GW.out.trans hg6)
        clear hg6
        go_wp2_with fail
        exact ⟨⟨k + 1, by simp, by rw [HS.out]; simp [hry], by omega, G6.out, X6_1.out⟩, by simp [intOf]; omega⟩
    · have hke : k = n := by omega
      subst hke
      go_wp2_with fail
      go_ret
      exact ⟨rfl, GW.out⟩
set_option maxRecDepth 20000 in
set_option maxHeartbeats 600000 in
theorem sExpl (b u : Int) (o : Bool) (A B : Option Addr) (c cb n : Nat) (xs : List (Int × Int)) (ys : List Int) (w : World) (X : Hid (RdF w A xs)) (Y : Hid (RdI w B ys)) (hn : n ≤ 1048576) (hg : gsB b u = true) (h : allF xs = true) (hx : xs.length = n) (hy : ys.length = n) :
    Calls Try.prog 119 #[gs b u o, .slice A n c, .slice B n cb] w fun e w' => e = .returned (.bool (exB b u o xs ys n)) ∧ Gr w w' := by
  have HH := hid (sHits b u o A B c cb n xs ys _ (hid (X.out.keep ((Gr.refl w).al (.cells #[.int .i16 b, .int .i16 u, .bool o] 95)))) (hid (Y.out.keep ((Gr.refl w).al _))) hn hg h hx hy)
  have hE := exB_hiN b u o xs ys n
  obtain ⟨m, hm⟩ : ∃ m, hiN b u o xs ys n = m := ⟨_, rfl⟩
  rw [hm] at HH hE
  rw [hE]
  clear hg h hx hy hm hE X Y
  go_enter Try.func119, Try.ntmps119
  go_wp2_with fail
  refine HH.out.mono ?_
  rintro e w1 ⟨rfl, hg1⟩
  have G1 := hid (((Gr.refl w).al (.cells #[.int .i16 b, .int .i16 u, .bool o] 95)).trans hg1)
  clear hg1 HH
  go_wp2_with fail
  go_ret
  exact ⟨ret_bool (by rw [Bool.eq_iff_iff]; simp; try omega), G1.out⟩
set_option maxRecDepth 20000 in
set_option maxHeartbeats 600000 in
theorem sEx_1 (b u : Int) (o : Bool) (v1 v2 : Value) (w : World) (hb : W16 b) (hu : W16 u) (h : gsB b u = false) :
    Calls Try.prog 58 #[gs b u o, v1, v2] w fun e w' => e = .returned (.tuple #[.bool false, .int .i64 1]) ∧ Gr w w' := by
  have HG := hid fun (w : World) => sGuess_is b u o false w hb hu h
  clear hb hu h
  go_enter Try.func58, Try.ntmps58
  go_wp2_with fail
  refine (HG.out _).mono ?_
  rintro e w1 ⟨rfl, hg1⟩
  obtain ⟨x1_0, hz1, g1⟩ := alloc1 hg1
  obtain ⟨_, _, _⟩ := cells3 x1_0
  have _ := fz x1_0
  have _ := ltb x1_0
  have X1_0 := hid x1_0; clear x1_0
  have G1 := hid (g1)
  clear hg1 g1
  go_wp2
  go_ret2
  exact ⟨rfl, G1.out⟩
set_option maxRecDepth 20000 in
set_option maxHeartbeats 600000 in
theorem sEx_2 (b u : Int) (o : Bool) (v1 v2 : Value) (C : Int) (w : World) (hb : W16 b) (hu : W16 u) (h : gsB b u = true) (hC : C ≠ 0)
    (ht : ∀ w', Gr w w' → Calls Try.prog 118 #[v1, v2] w' fun e w'' => e = .returned (.int .i64 C) ∧ Gr w' w'') :
    Calls Try.prog 58 #[gs b u o, v1, v2] w fun e w' => e = .returned (.tuple #[.bool false, .int .i64 C]) ∧ Gr w w' := by
  have HG := hid fun (w : World) => sGuess_is b u o true w hb hu h
  have HT := hid ht
  have hd : ((C : Int) == 0) = false := by simpa using hC
  have hd2 : ((C : Int) != 0) = true := by simpa using hC
  clear hb hu h ht hC
  go_enter Try.func58, Try.ntmps58
  go_wp2_with fail
  refine (HG.out _).mono ?_
  rintro e w1 ⟨rfl, hg1⟩
  obtain ⟨x1_0, hz1, g1⟩ := alloc1 hg1
  obtain ⟨_, _, _⟩ := cells3 x1_0
  have _ := fz x1_0
  have _ := ltb x1_0
  have X1_0 := hid x1_0; clear x1_0
  have G1 := hid (g1)
  clear hg1 g1
  go_wp2_with fail
  refine (HT.out _ G1.out).mono ?_
  rintro e w2 ⟨rfl, hg2⟩
  have x2_1 := hg2.keep X1_0.out
  obtain ⟨_, _, _⟩ := cells3 x2_1
  have _ := fz x2_1
  have _ := ltb x2_1
  have X2_1 := hid x2_1; clear x2_1
  have G2 := hid (G1.out.trans hg2)
  clear hg2
  go_wp2
  go_ret2
  exact ⟨rfl, G2.out⟩
set_option maxRecDepth 20000 in
set_option maxHeartbeats 600000 in
theorem sEx_ok (b u : Int) (o : Bool) (v1 v2 : Value) (r : Bool) (w : World) (hb : W16 b) (hu : W16 u) (h : gsB b u = true)
    (ht : ∀ w', Gr w w' → Calls Try.prog 118 #[v1, v2] w' fun e w'' => e = .returned (.int .i64 0) ∧ Gr w' w'')
    (hr : ∀ w', Gr w w' → Calls Try.prog 119 #[gs b u o, v1, v2] w' fun e w'' => e = .returned (.bool r) ∧ Gr w' w'') :
    Calls Try.prog 58 #[gs b u o, v1, v2] w fun e w' => e = .returned (.tuple #[.bool r, .int .i64 0]) ∧ Gr w w' := by
  have HG := hid fun (w : World) => sGuess_is b u o true w hb hu h
  have HT := hid ht; have HR := hid hr
  clear hb hu h ht hr
  go_enter Try.func58, Try.ntmps58
  go_wp2_with fail
  refine (HG.out _).mono ?_
  rintro e w1 ⟨rfl, hg1⟩
  obtain ⟨x1_0, hz1, g1⟩ := alloc1 hg1
  obtain ⟨_, _, _⟩ := cells3 x1_0
  have _ := fz x1_0
  have _ := ltb x1_0
  have X1_0 := hid x1_0; clear x1_0
  have G1 := hid (g1)
  clear hg1 g1
  go_wp2_with fail
  refine (HT.out _ G1.out).mono ?_
  rintro e w2 ⟨rfl, hg2⟩
  have x2_1 := hg2.keep X1_0.out
  obtain ⟨_, _, _⟩ := cells3 x2_1
  have _ := fz x2_1
  have _ := ltb x2_1
  have X2_1 := hid x2_1; clear x2_1
  have G2 := hid (G1.out.trans hg2)
  clear hg2
  go_wp2_with fail
  refine (HR.out _ G2.out).mono ?_
  rintro e w3 ⟨rfl, hg3⟩
  have x3_1 := hg3.keep X2_1.out
  obtain ⟨_, _, _⟩ := cells3 x3_1
  have _ := fz x3_1
  have _ := ltb x3_1
  have X3_1 := hid x3_1; clear x3_1
  have G3 := hid (G2.out.trans hg3)
  clear hg3
  go_wp2
  go_ret2
  exact ⟨rfl, G3.out⟩
def EXs (b u : Int) (o : Bool) (xs : List (Int × Int)) (ys : List Int) (n m : Nat) (R : Bool) (C : Int) : Prop :=
  (∀ (g : Nat) (T : TypeId) (B : Option Addr) (cb : Nat) (w : World), Hid (w.heap[g]? = some (.cells (flatA xs) T)) → Hid (RdI w B ys) → Calls Try.prog 58 #[gs b u o, sl g n, .slice B m cb] w fun e w' => e = .returned (.tuple #[.bool R, .int .i64 C]) ∧ Gr w w') ∧
  (∀ (g : Nat) (T : TypeId) (B : Option Addr) (cb : Nat) (w : World), Hid (w.heap[g]? = some (.cells (flatA xs) T)) → Hid (RdI w B ys) → Calls Try.prog 60 #[gs b u o, sl g n, .slice B m cb] w fun e w' => e = .returned (.tuple #[.bool R, .int .i64 C]) ∧ Gr w w')
theorem keepF {w w' : World} {g : Nat} {T : TypeId} {xs : List (Int × Int)} (X : Hid (w.heap[g]? = some (.cells (flatA xs) T))) (hg : Gr w w') : Hid (RdF w' (some ⟨g, 0, none⟩) xs) := hid (RdF.of_block (hg.keep X.out))
theorem bothEx_n (b u : Int) (o : Bool) (xs : List (Int × Int)) (ys : List Int) (n : Nat) (hb : W16 b) (hu : W16 u) (hg : gsB b u = true) (h : allF xs = true) (hx : xs.length = n) (hy : ys.length = n) (hn : n ≤ 1048576) : ∃ R C, EXs b u o xs ys n n R C := by
  cases hr : rdB ys with
  | false =>
    refine ⟨false, 2, fun g T B cb w X Y => sEx_2 b u o _ _ 2 w hb hu hg (by decide) fun w' hw => ?_, fun g T B cb w X Y => iEx_2 b u o _ _ 2 w hb hu hg (by decide) fun w' hw => iTrial_3 _ B n cb n xs ys w' (keepF X hw) (hid (Y.out.keep hw)) hn h hx hy hr⟩
    have hp := sPairs_2 (some ⟨g, 0, none⟩) B n cb n xs ys w' (keepF X hw) (hid (Y.out.keep hw)) (by omega) hy hn h hr
    rwa [hx] at hp
  | true =>
    exact ⟨_, 0, fun g T B cb w X Y => sEx_ok b u o _ _ _ w hb hu hg (fun w' hw => sPairs_ok _ B n cb n xs ys w' (keepF X hw) (hid (Y.out.keep hw)) hn h hx hy hr) fun w' hw => sExpl b u o _ B n cb n xs ys w' (keepF X hw) (hid (Y.out.keep hw)) hn hg h hx hy,
      fun g T B cb w X Y => iEx_ok b u o _ B n cb n _ w hb hu hg (fun w' hw => iTrial_ok _ B n cb n xs ys w' (keepF X hw) (hid (Y.out.keep hw)) hn h hx hy hr) fun w' hw => iReadBy b u o _ B n cb n xs ys w' (keepF X hw) (hid (Y.out.keep hw)) hn hg h hx hy⟩
theorem bothExplains (b u : Int) (o : Bool) (xs : List (Int × Int)) (ys : List Int) (hn : xs.length ≤ 1048576) (hm : ys.length ≤ 1048576) (wb : W16 b) (wu : W16 u) : ∃ R C, EXs b u o xs ys xs.length ys.length R C := by
  cases hg : gsB b u with
  | false => exact ⟨false, 1, fun g T B cb w X Y => sEx_1 b u o _ _ w wb wu hg, fun g T B cb w X Y => iEx_1 b u o _ _ w wb wu hg⟩
  | true =>
    cases h : allF xs with
    | false => exact ⟨false, 1, fun g T B cb w X Y => sEx_2 b u o _ _ 1 w wb wu hg (by decide) fun w' hw => sPairs_1 _ B xs.length cb _ xs w' (keepF X hw) hn h, fun g T B cb w X Y => iEx_2 b u o _ _ 1 w wb wu hg (by decide) fun w' hw => iTrial_1 _ B xs.length cb _ xs w' (keepF X hw) hn h⟩
    | true =>
      by_cases hl : xs.length = ys.length
      · rw [hl]
        exact bothEx_n b u o xs ys ys.length wb wu hg h hl rfl hm
      · refine ⟨false, 2, fun g T B cb w X Y => sEx_2 b u o _ _ 2 w wb wu hg (by decide) fun w' hw => ?_, fun g T B cb w X Y => iEx_2 b u o _ _ 2 w wb wu hg (by decide) fun w' hw => iTrial_2 _ B xs.length cb _ xs w' (keepF X hw) hn h hl⟩
        cases hr : rdB ys with
        | false => exact sPairs_2 _ B xs.length cb _ xs ys w' (keepF X hw) (hid (Y.out.keep hw)) hn rfl hm h hr
        | true => exact sPairs_3 _ B xs.length cb _ xs ys w' (keepF X hw) (hid (Y.out.keep hw)) hn rfl h hr hl
end Go.Proofs.Ytmjcnagniphkeaa
