/- WALKS: Explains, of the program and of the reference: the ends. -/
import Derived.Test.YtpadjkgbeijkpaaPi
namespace Go.Proofs.Ytpadjkgbeijkpaa
open Go.RowKit Go.Sort

theorem iGuess_is (b u : Int) (o : Bool) (r : Bool) (w : World) (hb : W16 b) (hu : W16 u) (h : gsB b u = r) :
    Calls Try.prog 121 #[gs b u o] w fun e w' => e = .returned (.bool r) ∧ Gr w w' := h ▸ iGuess b u o w hb hu
theorem sGuess_is (b u : Int) (o : Bool) (r : Bool) (w : World) (hb : W16 b) (hu : W16 u) (h : gsB b u = r) :
    Calls Try.prog 118 #[gs b u o] w fun e w' => e = .returned (.bool r) ∧ Gr w w' := h ▸ sGuess b u o w hb hu
/-! the reference -/
set_option maxRecDepth 20000 in
set_option maxHeartbeats 600000 in
theorem sPairs_1 (A B : Option Addr) (c cb m : Nat) (xs : List (Int × Int)) (w : World) (X : Hid (RdF w A xs)) (hn : xs.length ≤ 1048576) (h : allF xs = false) :
    Calls Try.prog 108 #[.slice A xs.length c, .slice B m cb] w fun e w' => e = .returned (.int .i64 1) ∧ Gr w w' := by
  have H := hid h; clear h
  go_enter Try.func108, Try.ntmps108
  go_wp2_with fail
  refine (sValues_is A c xs false _ X hn H.out).mono ?_
  rintro e w1 ⟨rfl, hg1⟩
  have G1 := hid (hg1)
  clear hg1
  go_wp2
  go_ret
  exact ⟨rfl, G1.out⟩
set_option maxRecDepth 20000 in
set_option maxHeartbeats 600000 in
theorem sPairs_2 (A B : Option Addr) (c cb m : Nat) (xs : List (Int × Int)) (ys : List Int) (w : World) (X : Hid (RdF w A xs)) (Y : Hid (RdI w B ys)) (hn : xs.length ≤ 1048576) (hm : ys.length = m) (hm2 : m ≤ 1048576) (h : allF xs = true) (hr : rdB ys = false) :
    Calls Try.prog 108 #[.slice A xs.length c, .slice B m cb] w fun e w' => e = .returned (.int .i64 2) ∧ Gr w w' := by
  have HR := hid fun (w' : World) (Z : Hid (RdI w' B ys)) => sReadings_no B cb ys w' Z (by omega) hr
  rw [hm] at HR
  have H := hid h; clear h hr hm
  go_enter Try.func108, Try.ntmps108
  go_wp2_with fail
  refine (sValues_is A c xs true _ X hn H.out).mono ?_
  rintro e w1 ⟨rfl, hg1⟩
  have G1 := hid (hg1)
  clear hg1
  go_wp2_with fail
  refine (HR.out _ (hid (Y.out.keep G1.out))).mono ?_
  rintro e w2 ⟨rfl, hg2⟩
  have G2 := hid (G1.out.trans hg2)
  clear hg2
  go_wp2
  go_ret
  exact ⟨rfl, G2.out⟩
set_option maxRecDepth 20000 in
set_option maxHeartbeats 600000 in
theorem sPairs_3 (A B : Option Addr) (c cb m : Nat) (xs : List (Int × Int)) (ys : List Int) (w : World) (X : Hid (RdF w A xs)) (Y : Hid (RdI w B ys)) (hn : xs.length ≤ 1048576) (hm : ys.length = m) (h : allF xs = true) (hr : rdB ys = true) (hl : xs.length ≠ m) :
    Calls Try.prog 108 #[.slice A xs.length c, .slice B m cb] w fun e w' => e = .returned (.int .i64 2) ∧ Gr w w' := by
  have HR := hid fun (w' : World) (Z : Hid (RdI w' B ys)) => sReadings_yes B cb ys w' Z hr
  rw [hm] at HR
  have H := hid h; clear h hr hm
  have hd : ((xs.length : Int) == (m : Int)) = false := beq_eq_false_iff_ne.2 (by omega)
  have hd2 : ((xs.length : Int) != (m : Int)) = true := bne_iff_ne.2 (by omega)
  go_enter Try.func108, Try.ntmps108
  go_wp2_with fail
  refine (sValues_is A c xs true _ X hn H.out).mono ?_
  rintro e w1 ⟨rfl, hg1⟩
  have G1 := hid (hg1)
  clear hg1
  go_wp2_with fail
  refine (HR.out _ (hid (Y.out.keep G1.out))).mono ?_
  rintro e w2 ⟨rfl, hg2⟩
  have G2 := hid (G1.out.trans hg2)
  clear hg2
  go_wp2
  go_ret
  exact ⟨rfl, G2.out⟩
set_option maxRecDepth 20000 in
set_option maxHeartbeats 600000 in
theorem sPairs_ok (A B : Option Addr) (c cb n : Nat) (xs : List (Int × Int)) (ys : List Int) (w : World) (X : Hid (RdF w A xs)) (Y : Hid (RdI w B ys)) (hn : n ≤ 1048576) (h : allF xs = true) (hx : xs.length = n) (hy : ys.length = n) (hr : rdB ys = true) :
    Calls Try.prog 108 #[.slice A n c, .slice B n cb] w fun e w' => e = .returned (.int .i64 0) ∧ Gr w w' := by
  have HF := hid fun (w' : World) (Z : Hid (RdF w' A xs)) => sValues_is A c xs true w' Z (by omega) h
  have HR := hid fun (w' : World) (Z : Hid (RdI w' B ys)) => sReadings_yes B cb ys w' Z hr
  rw [hx] at HF
  rw [hy] at HR
  clear h hx hy hr
  go_enter Try.func108, Try.ntmps108
  go_wp2_with fail
  refine (HF.out _ X).mono ?_
  rintro e w1 ⟨rfl, hg1⟩
  have G1 := hid (hg1)
  clear hg1
  go_wp2_with fail
  refine (HR.out _ (hid (Y.out.keep G1.out))).mono ?_
  rintro e w2 ⟨rfl, hg2⟩
  have G2 := hid (G1.out.trans hg2)
  clear hg2
  go_wp2
  go_ret
  exact ⟨rfl, G2.out⟩
set_option maxRecDepth 20000 in
set_option maxHeartbeats 2000000 in
theorem sHits (b u : Int) (o : Bool) (A B : Option Addr) (c cb n : Nat) (xs : List (Int × Int)) (ys : List Int) (w : World) (X : Hid (RdF w A xs)) (Y : Hid (RdI w B ys)) (hn : n ≤ 1048576) (hg : gsB b u = true) (h : allF xs = true) (hx : xs.length = n) (hy : ys.length = n) :
    Calls Try.prog 65 #[gs b u o, .slice A n c, .slice B n cb] w fun e w' => e = .returned (.int .i64 (hiN b u o xs ys n : Int)) ∧ Gr w w' := by
  have H := hid h; have HX := hid hx; have HY := hid hy; have HG := hid hg
  clear h hx hy hg
  go_enter Try.func65, Try.ntmps65
  go_wp2_with fail
  go_loopw [7, 8] (fun t v wr => ∃ (k : Nat), v = .int .i64 (k : Int) ∧ t = .int .i64 (hiN b u o xs ys k : Int) ∧ k ≤ n ∧ Gr w wr ∧ wr.heap[w.heap.size]? = some (.cells #[.int .i16 b, .int .i16 u, .bool o] 97)) (fun _ v _ => n - (intOf v).toNat)
  case atStart => exact ⟨0, rfl, rfl, by omega, (Gr.refl _).al _, (alloc1 (Gr.refl _)).1⟩
  case round =>
    obtain ⟨k, rfl, rfl, hk, g0, hz⟩ := hrel
    have GW := hid g0; have Z := hid hz; clear g0 hz
    have hle := hiN_le b u o xs ys k
    by_cases hlt : k < n
    · obtain ⟨⟨p, q⟩, hp⟩ : ∃ x, xs[k]? = some x := ⟨xs[k]'(by rw [HX.out]; exact hlt), List.getElem?_eq_getElem _⟩
      obtain ⟨y, hyk⟩ : ∃ y, ys[k]? = some y := ⟨ys[k]'(by rw [HY.out]; exact hlt), List.getElem?_eq_getElem _⟩
      obtain ⟨ad, rfl, c1, c2⟩ := (X.out.keep GW.out) k p q hp
      obtain ⟨ad', rfl, c3⟩ := (Y.out.keep GW.out) k y hyk
      have C1 := hid c1; have C2 := hid c2; have C3 := hid c3
      have HB := hid (rd_bd HG.out (all_get hp (show xs.all (fun x => okB x.1 x.2) = true from H.out)))
      have hh := hit_of (b := b) (u := u) (o := o) hp hyk
      have hs := hiN_succ b u o xs ys k
      rw [hh] at hs
      have HM := hid fun (w : World) => sread b u p q o w HB.out
      obtain ⟨r, hr⟩ : ∃ r, rdV b u o p q = r := ⟨_, rfl⟩
      rw [hr] at HM hs
      have HS := hid hs
      obtain ⟨m, hm⟩ : ∃ m, hiN b u o xs ys k = m := ⟨_, rfl⟩
      rw [hm] at HS hle
      rw [hm]
      clear hp hyk c1 c2 c3 hs hh hr hm
      by_cases hry : r = y
      · subst hry
        obtain ⟨_, _, _⟩ := cells3 Z.out
        have _ := fz Z.out
        have _ := ltb Z.out
        go_wp2_with fail
        refine wp_reg0 10 (by kernel_rfl) (by kernel_rfl) ?_
        apply Exists.intro
        refine ⟨fun wb hb => ?_, ?_⟩
        · obtain ⟨_, _, _⟩ := hb.at3 Z.out
          have _ := hb.atA C1.out
          have _ := hb.atA C2.out
          have _ := hb.atA C3.out
          simp only [headOps, List.contains, List.elem, reduceIte, Bool.false_eq_true]
          repeat (first | go_big_quiet_step (first | (go_at_call 114; exact Calls.of_gr (HM.out _))) | quiet_step (fail))
          exact wpQuiet_nil rfl
        intro w6 hg6
        have x6_1 := hg6.keep Z.out
        obtain ⟨_, _, _⟩ := cells3 x6_1
        have _ := fz x6_1
        have _ := ltb x6_1
        have X6_1 := hid x6_1; clear x6_1
        have G6 := hid (GW.out.trans hg6)
        clear hg6
        go_wp2_with fail
        exact ⟨⟨k + 1, by simp, by rw [HS.out]; simp, by omega, G6.out, X6_1.out⟩, by simp [intOf]; omega⟩
      · have hb1 : ((r : Int) == y) = false := by simpa using hry
        obtain ⟨_, _, _⟩ := cells3 Z.out
        have _ := fz Z.out
        have _ := ltb Z.out
        go_wp2_with fail
        refine wp_reg0 10 (by kernel_rfl) (by kernel_rfl) ?_
        apply Exists.intro
        refine ⟨fun wb hb => ?_, ?_⟩
        · obtain ⟨_, _, _⟩ := hb.at3 Z.out
          have _ := hb.atA C1.out
          have _ := hb.atA C2.out
          have _ := hb.atA C3.out
          simp only [headOps, List.contains, List.elem, reduceIte, Bool.false_eq_true]
          repeat (first | go_big_quiet_step (first | (go_at_call 114; exact Calls.of_gr (HM.out _))) | quiet_step (fail))
          exact wpQuiet_nil rfl
        intro w6 hg6
        have x6_1 := hg6.keep Z.out
        obtain ⟨_, _, _⟩ := cells3 x6_1
        have _ := fz x6_1
        have _ := ltb x6_1
        have X6_1 := hid x6_1; clear x6_1
        have G6 := hid (GW.out.trans hg6)
        clear hg6
        go_wp2_with fail
        exact ⟨⟨k + 1, by simp, by rw [HS.out]; simp [hry], by omega, G6.out, X6_1.out⟩, by simp [intOf]; omega⟩
    · have hke : k = n := by omega
      subst hke
      go_wp2_with fail
      go_ret
      exact ⟨rfl, GW.out⟩
set_option maxRecDepth 20000 in
set_option maxHeartbeats 600000 in
theorem sExpl (b u : Int) (o : Bool) (A B : Option Addr) (c cb n : Nat) (xs : List (Int × Int)) (ys : List Int) (w : World) (X : Hid (RdF w A xs)) (Y : Hid (RdI w B ys)) (hn : n ≤ 1048576) (hg : gsB b u = true) (h : allF xs = true) (hx : xs.length = n) (hy : ys.length = n) :
    Calls Try.prog 60 #[gs b u o, .slice A n c, .slice B n cb] w fun e w' => e = .returned (.bool (exB b u o xs ys n)) ∧ Gr w w' := by
  have HH := hid (sHits b u o A B c cb n xs ys _ (hid (X.out.keep ((Gr.refl w).al (.cells #[.int .i16 b, .int .i16 u, .bool o] 97)))) (hid (Y.out.keep ((Gr.refl w).al _))) hn hg h hx hy)
  have hE := exB_hiN b u o xs ys n
  obtain ⟨m, hm⟩ : ∃ m, hiN b u o xs ys n = m := ⟨_, rfl⟩
  rw [hm] at HH hE
  rw [hE]
  clear hg h hx hy hm hE X Y
  go_enter Try.func60, Try.ntmps60
  go_wp2_with fail
  refine HH.out.mono ?_
  rintro e w1 ⟨rfl, hg1⟩
  have G1 := hid (((Gr.refl w).al (.cells #[.int .i16 b, .int .i16 u, .bool o] 97)).trans hg1)
  clear hg1 HH
  go_wp2_with fail
  go_ret
  exact ⟨ret_bool (by rw [Bool.eq_iff_iff]; simp; try omega), G1.out⟩
theorem keepF {w w' : World} {g : Nat} {T : TypeId} {xs : List (Int × Int)} (X : Hid (w.heap[g]? = some (.cells (flatA xs) T))) (hg : Gr w w') : Hid (RdF w' (some ⟨g, 0, none⟩) xs) := hid (RdF.of_block (hg.keep X.out))
end Go.Proofs.Ytpadjkgbeijkpaa
