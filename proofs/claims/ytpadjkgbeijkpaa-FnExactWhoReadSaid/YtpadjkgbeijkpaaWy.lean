/- WALKS: NearestReader and WhoRead of the program: how often each reader hits. -/
import Derived.Test.YtpadjkgbeijkpaaKg
import Derived.Test.YtpadjkgbeijkpaaPg
import Derived.Test.YtpadjkgbeijkpaaRe
namespace Go.Proofs.Ytpadjkgbeijkpaa
open Go.RowKit Go.Sort

set_option maxRecDepth 20000 in
set_option maxHeartbeats 1000000 in
theorem iMaxJ (A : Option Addr) (c n : Nat) (xs : List Int) (w : World) (X : Hid (RdI w A xs)) (hn : xs.length = n) (h1 : 1 ≤ n) (h2 : n ≤ 1048576) :
    Calls Try.prog 116 #[.slice A n c] w fun e w' => (∃ m, e = .returned (.int .i64 m) ∧ MX xs n m) ∧ Gr w w' := by
  have HN := hid hn; clear hn
  obtain ⟨x0, hx0⟩ : ∃ x, xs[0]? = some x := ⟨xs[0]'(by have := HN.out; omega), List.getElem?_eq_getElem _⟩
  obtain ⟨ad, rfl, c0⟩ := X.out 0 x0 hx0
  have hz : ad.add 0 = ad := by unfold Addr.add; simp
  rw [hz] at c0
  have C0 := hid c0
  have M0 : MX xs 1 x0 := ⟨⟨0, by omega, hx0⟩, fun i e hi he => by have : i = 0 := by omega
                                                                   subst this; rw [hx0] at he; cases he; omega⟩
  have HM0 := hid M0
  clear hz M0 hx0
  go_enter Try.func116, Try.ntmps116
  go_wp2_with fail
  go_loopw [3, 4] (fun v u wr => ∃ (k : Nat) (m : Int), u = .int .i64 (k : Int) ∧ v = .int .i64 m ∧ 1 ≤ k ∧ k ≤ n ∧ MX xs k m ∧ wr = w) (fun _ u _ => n - (intOf u).toNat)
  case atStart => exact ⟨1, x0, rfl, rfl, by omega, by omega, HM0.out, by simp⟩
  case round =>
    obtain ⟨k, m, rfl, rfl, hk1, hk, hm, rfl⟩ := hrel
    have HM := hid hm; clear hm
    by_cases hlt : k < n
    · obtain ⟨p, hp⟩ : ∃ p, xs[k]? = some p := ⟨xs[k]'(by have := HN.out; omega), List.getElem?_eq_getElem _⟩
      obtain ⟨ad', e, c1⟩ := X.out k p hp
      cases e
      have HS := hid (HM.out.step hp)
      clear hp
      by_cases hlm : m < p
      · go_wp2_with fail
        exact ⟨⟨k + 1, p, by simp, rfl, by omega, by omega, by have h := HS.out; rwa [if_pos hlm] at h, by simp⟩, by simp [intOf]; omega⟩
      · go_wp2_with fail
        exact ⟨⟨k + 1, m, by simp, rfl, by omega, by omega, by have h := HS.out; rwa [if_neg hlm] at h, by simp⟩, by simp [intOf]; omega⟩
    · have hke : k = n := by omega
      subst hke
      go_wp2_with fail
      go_ret
      exact ⟨⟨m, rfl, HM.out⟩, Gr.refl _⟩
set_option maxRecDepth 20000 in
set_option maxHeartbeats 1000000 in
theorem iIndexJ (A : Option Addr) (c n : Nat) (xs : List Int) (v : Int) (w : World) (X : Hid (RdI w A xs)) (hn : xs.length = n) (h2 : n ≤ 1048576) (hv : ∃ i : Nat, i < n ∧ xs[i]? = some v) :
    Calls Try.prog 115 #[.slice A n c, .int .i64 v] w fun e w' => (∃ j : Nat, e = .returned (.int .i64 (j : Int)) ∧ FI xs v j) ∧ Gr w w' := by
  have HN := hid hn; have HV := hid hv; clear hn hv
  go_enter Try.func115, Try.ntmps115
  go_wp2_with fail
  go_loopw [8] (fun u wr => ∃ (k : Nat), u = .int .i64 (k : Int) ∧ k ≤ n ∧ (∀ (i : Nat) (e : Int), i < k → xs[i]? = some e → e ≠ v) ∧ wr = w) (fun u _ => n - (intOf u).toNat)
  case atStart => exact ⟨0, rfl, by omega, fun i e h => by omega, by simp⟩
  case round =>
    obtain ⟨k, rfl, hk, hne, rfl⟩ := hrel
    have HNE := hid hne; clear hne
    by_cases hlt : k < n
    · obtain ⟨p, hp⟩ : ∃ p, xs[k]? = some p := ⟨xs[k]'(by have := HN.out; omega), List.getElem?_eq_getElem _⟩
      obtain ⟨ad', rfl, c1⟩ := X.out k p hp
      have HP := hid hp
      clear hp
      by_cases he : v = p
      · subst he
        go_wp2_with fail
        go_ret
        exact ⟨⟨k, rfl, HP.out, HNE.out⟩, Gr.refl _⟩
      · have hb : ((v : Int) == p) = false := by simpa using he
        go_wp2_with fail
        refine ⟨⟨k + 1, by simp, by omega, fun i e hi hie => ?_, by simp⟩, by simp [intOf]; omega⟩
        by_cases hik : i = k
        · subst hik
          rw [HP.out] at hie
          cases hie
          exact fun h => he h.symm
        · exact HNE.out i e (by omega) hie
    · exfalso
      obtain ⟨i, hi, hie⟩ := HV.out
      exact HNE.out i v (by omega) hie rfl
set_option maxRecDepth 20000 in
set_option maxHeartbeats 1000000 in
theorem iFirstJ (A : Option Addr) (c n : Nat) (xs : List Int) (w : World) (X : Hid (RdI w A xs)) (hn : xs.length = n) (h1 : 1 ≤ n) (h2 : n ≤ 1048576) :
    Calls Try.prog 66 #[.slice A n c] w fun e w' => (∃ j : Nat, e = .returned (.int .i64 (j : Int)) ∧ FM xs j) ∧ Gr w w' := by
  have HN := hid hn; clear hn
  go_enter Try.func66, Try.ntmps66
  go_wp2_with fail
  refine (iMaxJ A c n xs w X HN.out h1 h2).mono ?_
  rintro e w1 ⟨⟨m, rfl, hm⟩, hg1⟩
  have HM := hid hm; have G1 := hid hg1
  clear hm hg1
  go_wp2_with fail
  refine (iIndexJ A c n xs m w1 (hid (X.out.keep G1.out)) HN.out h2 HM.out.1).mono ?_
  rintro e w2 ⟨⟨j, rfl, hj⟩, hg2⟩
  have HJ := hid hj; have G2 := hid (G1.out.trans hg2)
  clear hj hg2
  go_wp2_with fail
  go_ret
  refine ⟨⟨j, rfl, m, HJ.out.1, fun i e he => HM.out.2 i e (by have := (List.getElem?_eq_some_iff.1 he).1; have := HN.out; omega) he, fun i e hi he => ?_⟩, G2.out⟩
  have b1 := HM.out.2 i e (by have := (List.getElem?_eq_some_iff.1 he).1; have := HN.out; omega) he
  have b2 := HJ.out.2 i e hi he
  omega
set_option maxRecDepth 20000 in
set_option maxHeartbeats 2000000 in
theorem iHitsBy (b u : Int) (o : Bool) (A B : Option Addr) (c cb n : Nat) (xs : List (Int × Int)) (ys : List Int) (w : World) (X : Hid (RdF w A xs)) (Y : Hid (RdI w B ys)) (hn : n ≤ 1048576) (hg : gsB b u = true) (h : allF xs = true) (hx : xs.length = n) (hy : ys.length = n) :
    Calls Try.prog 112 #[tv A n c B n cb, .func (.func 113) #[gs b u o] #[]] w fun e w' => e = .returned (.int .i64 (hiN b u o xs ys n : Int)) ∧ Gr w w' := by
  have H := hid h; have HX := hid hx; have HY := hid hy; have HG := hid hg
  clear h hx hy hg
  go_enter Try.func112, Try.ntmps112
  go_wp2_with fail
  go_loopw [5, 11] (fun t v wr => ∃ (k : Nat), v = .int .i64 (k : Int) ∧ t = .int .i64 (hiN b u o xs ys k : Int) ∧ k ≤ n ∧ Gr w wr ∧ wr.heap[w.heap.size]? = some (.cells #[.slice A n c, .slice B n cb] 155)) (fun _ v _ => n - (intOf v).toNat)
  case atStart => exact ⟨0, rfl, rfl, by omega, (Gr.refl _).al _, (alloc1 (Gr.refl _)).1⟩
  case round =>
    obtain ⟨k, rfl, rfl, hk, g0, hz⟩ := hrel
    have GW := hid g0; have Z := hid hz; clear g0 hz
    have hle := hiN_le b u o xs ys k
    by_cases hlt : k < n
    · obtain ⟨⟨p, q⟩, hp⟩ : ∃ x, xs[k]? = some x := ⟨xs[k]'(by rw [HX.out]; exact hlt), List.getElem?_eq_getElem _⟩
      obtain ⟨y, hyk⟩ : ∃ y, ys[k]? = some y := ⟨ys[k]'(by rw [HY.out]; exact hlt), List.getElem?_eq_getElem _⟩
      obtain ⟨ad, rfl, c1, c2⟩ := (X.out.keep GW.out) k p q hp
      obtain ⟨ad', rfl, c3⟩ := ((Y.out.keep GW.out).keep ((Gr.refl wr).al (.cells #[.int .i64 p, .int .i64 q] 33))) k y hyk
      have C3 := hid c3
      have HB := hid (rd_bd HG.out (all_get hp (show xs.all (fun x => okB x.1 x.2) = true from H.out)))
      have hh := hit_of (b := b) (u := u) (o := o) hp hyk
      have hs := hiN_succ b u o xs ys k
      rw [hh] at hs
      have HM := hid fun (w : World) => imult b u p q o w HB.out
      obtain ⟨r, hr⟩ : ∃ r, rdV b u o p q = r := ⟨_, rfl⟩
      rw [hr] at HM hs
      have HS := hid hs
      obtain ⟨m, hm⟩ : ∃ m, hiN b u o xs ys k = m := ⟨_, rfl⟩
      rw [hm] at HS hle
      rw [hm]
      clear hp hyk c3 hs hh hr hm
      by_cases hry : r = y
      · subst hry
        obtain ⟨_, _⟩ := cells2 Z.out
        have _ := fz Z.out
        have _ := ltb Z.out
        go_wp2_with fail
        refine wp_reg0 8 (by kernel_rfl) (by kernel_rfl) ?_
        apply Exists.intro
        refine ⟨fun wb hb => ?_, ?_⟩
        · obtain ⟨_, _⟩ := hb.at2 (((Gr.refl _).al _).keep Z.out)
          obtain ⟨_, _⟩ := hb.at2 (alloc1 (Gr.refl _)).1
          have _ := hb.atA C3.out
          simp only [headOps, List.contains, List.elem, reduceIte, Bool.false_eq_true]
          repeat (first | go_big_quiet_step (first | (go_at_call 113; exact Calls.of_gr (HM.out _))) | quiet_step (fail))
          exact wpQuiet_nil rfl
        intro w6 hg6
        obtain ⟨x6_0, hz6, g6⟩ := alloc1 hg6
        have x6_1 := g6.keep Z.out
        obtain ⟨_, _⟩ := cells2 x6_1
        have _ := fz x6_1
        have _ := ltb x6_1
        obtain ⟨_, _⟩ := cells2 x6_0
        have _ := fz x6_0
        have _ := ltb x6_0
        have X6_1 := hid x6_1; clear x6_1
        have X6_0 := hid x6_0; clear x6_0
        have G6 := hid (GW.out.trans g6)
        clear hg6 g6
        go_wp2_with fail
        exact ⟨⟨k + 1, by simp, by rw [HS.out]; simp, by omega, G6.out, X6_1.out⟩, by simp [intOf]; omega⟩
      · have hb1 : ((r : Int) == y) = false := by simpa using hry
        obtain ⟨_, _⟩ := cells2 Z.out
        have _ := fz Z.out
        have _ := ltb Z.out
        go_wp2_with fail
        refine wp_reg0 8 (by kernel_rfl) (by kernel_rfl) ?_
        apply Exists.intro
        refine ⟨fun wb hb => ?_, ?_⟩
        · obtain ⟨_, _⟩ := hb.at2 (((Gr.refl _).al _).keep Z.out)
          obtain ⟨_, _⟩ := hb.at2 (alloc1 (Gr.refl _)).1
          have _ := hb.atA C3.out
          simp only [headOps, List.contains, List.elem, reduceIte, Bool.false_eq_true]
          repeat (first | go_big_quiet_step (first | (go_at_call 113; exact Calls.of_gr (HM.out _))) | quiet_step (fail))
          exact wpQuiet_nil rfl
        intro w6 hg6
        obtain ⟨x6_0, hz6, g6⟩ := alloc1 hg6
        have x6_1 := g6.keep Z.out
        obtain ⟨_, _⟩ := cells2 x6_1
        have _ := fz x6_1
        have _ := ltb x6_1
        obtain ⟨_, _⟩ := cells2 x6_0
        have _ := fz x6_0
        have _ := ltb x6_0
        have X6_1 := hid x6_1; clear x6_1
        have X6_0 := hid x6_0; clear x6_0
        have G6 := hid (GW.out.trans g6)
        clear hg6 g6
        go_wp2_with fail
        exact ⟨⟨k + 1, by simp, by rw [HS.out]; simp [hry], by omega, G6.out, X6_1.out⟩, by simp [intOf]; omega⟩
    · have hke : k = n := by omega
      subst hke
      go_wp2_with fail
      go_ret
      exact ⟨rfl, GW.out⟩
end Go.Proofs.Ytpadjkgbeijkpaa
