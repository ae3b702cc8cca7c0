/- WALKS: SameDisk, of the program and of the reference. -/
import Derived.Test.YtlekfoboolemgaaDk
import Derived.Deep.QuietTactic
namespace Go.Proofs.Ytlekfoboolemgaa
open Go.RowKit Go.Sort

theorem takeE_step {xs ys : List Int} {k : Nat} {p : Int} (h : xs.take k = ys.take k) (hx : xs[k]? = some p) (hy : ys[k]? = some p) : xs.take (k + 1) = ys.take (k + 1) := by
  rw [List.take_add_one, List.take_add_one, h, hx, hy]
set_option maxRecDepth 20000 in
set_option maxHeartbeats 1000000 in
theorem iEqualH (A A' : Option Addr) (c c' : Nat) (xs ys : List Int) (w : World) (X1 : Hid (RdH w A xs)) (X2 : Hid (RdH w A' ys)) (hn : xs.length ≤ 1048576) (_hm : ys.length ≤ 1048576) :
    Calls Try.prog 62 #[.slice A xs.length c, .slice A' ys.length c'] w fun e w' => e = .returned (.bool (xs == ys)) ∧ Gr w w' := by
  by_cases hl : xs.length = ys.length
  · have HL := hid hl
    obtain ⟨n, hnn⟩ : ∃ n, xs.length = n := ⟨_, rfl⟩
    rw [← hl, hnn]
    rw [hnn] at hn
    have HN := hid hnn; clear hl hnn _hm
    go_enter Try.func62, Try.ntmps62
    go_wp2_with fail
    go_loopw [13] (fun u wr => ∃ (k : Nat), u = .int .i64 (k : Int) ∧ k ≤ n ∧ xs.take k = ys.take k ∧ Gr w wr) (fun u _ => n - (intOf u).toNat)
    case atStart => exact ⟨0, rfl, by omega, by simp, Gr.refl _⟩
    case round =>
      obtain ⟨k, rfl, hk, ht, hg⟩ := hrel
      have HG := hid hg; have HT := hid ht
      clear ht
      by_cases hlt : k < n
      · obtain ⟨p, hp⟩ : ∃ p, xs[k]? = some p := ⟨xs[k]'(by rw [HN.out]; exact hlt), List.getElem?_eq_getElem _⟩
        obtain ⟨q, hq⟩ : ∃ q, ys[k]? = some q := ⟨ys[k]'(by rw [← HL.out, HN.out]; exact hlt), List.getElem?_eq_getElem _⟩
        obtain ⟨ad, rfl, c1⟩ := (X1.out.keep hg) k p hp
        obtain ⟨ad', rfl, c2⟩ := (X2.out.keep hg) k q hq
        have HP := hid hp; have HQ := hid hq
        clear hp hq hg
        by_cases hpq : p = q
        · subst hpq
          go_wp2_with fail
          go_quiet (fail)
          go_wp2_with fail
          exact ⟨⟨k + 1, by simp, by omega, takeE_step HT.out HP.out HQ.out, HG.out.trans (Gr.drewN _ _)⟩, by simp [intOf]; omega⟩
        · have hne : ((p : Int) != q) = true := by simpa using hpq
          have hne2 : ((p : Int) == q) = false := by simpa using hpq
          have HNE := hid hpq
          clear hpq
          go_wp2_with fail
          go_quiet (fail)
          go_wp2_with fail
          go_ret
          refine ⟨ret_bool ?_, HG.out.trans (Gr.drewN _ _)⟩
          have : xs ≠ ys := fun h => HNE.out (by have h1 := HP.out; rw [h, HQ.out] at h1; exact (Option.some.inj h1).symm)
          simpa using this
      · have hke : k = n := by omega
        subst hke
        clear hg
        go_wp2_with fail
        go_ret
        refine ⟨ret_bool ?_, HG.out⟩
        have h := HT.out
        rw [List.take_of_length_le (by rw [HN.out]; exact Nat.le_refl _), List.take_of_length_le (by rw [← HL.out, HN.out]; exact Nat.le_refl _)] at h
        simp [h]
  · have hv : (xs == ys) = false := by
      have : xs ≠ ys := fun h => hl (by rw [h])
      simpa using this
    rw [hv]
    clear hv
    go_enter Try.func62, Try.ntmps62
    go_wp2_with fail
    go_ret
    exact ⟨rfl, Gr.refl _⟩
def sameB (xs ys : List Int) (e no e' no' : Int) : Bool := ((xs == ys) && (e == e')) && (no == no')
set_option maxRecDepth 20000 in
set_option maxHeartbeats 1000000 in
theorem iSameDk (A A' : Option Addr) (c c' : Nat) (xs ys : List Int) (e no e' no' : Int) (w : World) (X1 : Hid (RdH w A xs)) (X2 : Hid (RdH w A' ys)) (hn : xs.length ≤ 1048576) (hm : ys.length ≤ 1048576) :
    Calls Try.prog 25 #[dk A xs.length c e no, dk A' ys.length c' e' no'] w fun x w' => x = .returned (.bool (sameB xs ys e no e' no')) ∧ Gr w w' := by
  unfold sameB
  have HE := hid fun w' (hg : Gr w w') => iEqualH A A' c c' xs ys w' (hid (X1.out.keep hg)) (hid (X2.out.keep hg)) hn hm
  cases h1 : (xs == ys) with
  | false =>
    rw [h1] at HE
    go_enter Try.func25, Try.ntmps25
    go_wp2_with fail
    refine (HE.out _ (((Gr.refl w).al _).al _)).mono ?_
    rintro e w1 ⟨rfl, hg1⟩
    obtain ⟨x1_0, x1_1, hz1, g1⟩ := alloc2 hg1
    obtain ⟨_, _, _⟩ := cells3 x1_0
    have _ := fz x1_0
    have _ := ltb x1_0
    obtain ⟨_, _, _⟩ := cells3 x1_1
    have _ := fz x1_1
    have _ := ltb x1_1
    have X1_0 := hid x1_0; clear x1_0
    have X1_1 := hid x1_1; clear x1_1
    have G1 := hid (g1)
    clear hg1 g1
    go_wp2
    go_ret
    exact ⟨rfl, G1.out⟩
  | true =>
    rw [h1] at HE
    cases h2 : (e == e') with
    | false =>
      go_enter Try.func25, Try.ntmps25
      go_wp2_with fail
      refine (HE.out _ (((Gr.refl w).al _).al _)).mono ?_
      rintro e w1 ⟨rfl, hg1⟩
      obtain ⟨x1_0, x1_1, hz1, g1⟩ := alloc2 hg1
      obtain ⟨_, _, _⟩ := cells3 x1_0
      have _ := fz x1_0
      have _ := ltb x1_0
      obtain ⟨_, _, _⟩ := cells3 x1_1
      have _ := fz x1_1
      have _ := ltb x1_1
      have X1_0 := hid x1_0; clear x1_0
      have X1_1 := hid x1_1; clear x1_1
      have G1 := hid (g1)
      clear hg1 g1
      go_wp2
      go_ret
      exact ⟨rfl, G1.out⟩
    | true =>
      go_enter Try.func25, Try.ntmps25
      go_wp2_with fail
      refine (HE.out _ (((Gr.refl w).al _).al _)).mono ?_
      rintro e w1 ⟨rfl, hg1⟩
      obtain ⟨x1_0, x1_1, hz1, g1⟩ := alloc2 hg1
      obtain ⟨_, _, _⟩ := cells3 x1_0
      have _ := fz x1_0
      have _ := ltb x1_0
      obtain ⟨_, _, _⟩ := cells3 x1_1
      have _ := fz x1_1
      have _ := ltb x1_1
      have X1_0 := hid x1_0; clear x1_0
      have X1_1 := hid x1_1; clear x1_1
      have G1 := hid (g1)
      clear hg1 g1
      go_wp2
      go_ret
      exact ⟨rfl, G1.out⟩
set_option maxRecDepth 20000 in
set_option maxHeartbeats 1000000 in
theorem sSameDk (A A' : Option Addr) (c c' : Nat) (xs ys : List Int) (e no e' no' : Int) (w : World) (X1 : Hid (RdH w A xs)) (X2 : Hid (RdH w A' ys)) (hn : xs.length ≤ 1048576) (_hm : ys.length ≤ 1048576) :
    Calls Try.prog 24 #[dk A xs.length c e no, dk A' ys.length c' e' no'] w fun x w' => x = .returned (.bool (sameB xs ys e no e' no')) ∧ Gr w w' := by
  by_cases hl : xs.length = ys.length
  · have HL := hid hl
    obtain ⟨n, hnn⟩ : ∃ n, xs.length = n := ⟨_, rfl⟩
    rw [← hl, hnn]
    rw [hnn] at hn
    have HN := hid hnn; clear hl hnn _hm
    unfold sameB
    cases h2 : (e == e') with
    | false =>
      have h2' : (e != e') = true := by simpa using h2
      go_enter Try.func24, Try.ntmps24
      go_wp2_with fail
      go_ret
      exact ⟨ret_bool (by simp), ((Gr.refl w).al _).al _⟩
    | true =>
      have h2' : (e != e') = false := by simpa using h2
      cases h3 : (no == no') with
      | false =>
        have h3' : (no != no') = true := by simpa using h3
        go_enter Try.func24, Try.ntmps24
        go_wp2_with fail
        go_ret
        exact ⟨ret_bool (by simp), ((Gr.refl w).al _).al _⟩
      | true =>
        have h3' : (no != no') = false := by simpa using h3
        simp only [Bool.and_true]
        go_enter Try.func24, Try.ntmps24
        go_wp2_with fail
        go_loopw [5] (fun u wr => ∃ (k : Nat), u = .int .i64 (k : Int) ∧ k ≤ n ∧ xs.take k = ys.take k ∧ Gr ((w.alloc (.cells #[.slice A n c, .int .i64 e, .int .i64 no] 32)).alloc (.cells #[.slice A' n c', .int .i64 e', .int .i64 no'] 32)) wr) (fun u _ => n - (intOf u).toNat)
        case atStart => exact ⟨0, rfl, by omega, by simp, Gr.refl _⟩
        case round =>
          obtain ⟨k, rfl, hk, ht, hg⟩ := hrel
          have HG := hid hg; have HT := hid ht
          obtain ⟨x0, x1, hz, g0⟩ := alloc2 hg
          obtain ⟨_, _, _⟩ := cells3 x0
          obtain ⟨_, _, _⟩ := cells3 x1
          clear ht x0 x1
          by_cases hlt : k < n
          · obtain ⟨p, hp⟩ : ∃ p, xs[k]? = some p := ⟨xs[k]'(by rw [HN.out]; exact hlt), List.getElem?_eq_getElem _⟩
            obtain ⟨q, hq⟩ : ∃ q, ys[k]? = some q := ⟨ys[k]'(by rw [← HL.out, HN.out]; exact hlt), List.getElem?_eq_getElem _⟩
            obtain ⟨ad, rfl, c1⟩ := (X1.out.keep g0) k p hp
            obtain ⟨ad', rfl, c2⟩ := (X2.out.keep g0) k q hq
            have HP := hid hp; have HQ := hid hq
            clear hp hq hg g0
            by_cases hpq : p = q
            · subst hpq
              go_wp2_with fail
              go_quiet (fail)
              go_wp2_with fail
              exact ⟨⟨k + 1, by simp, by omega, takeE_step HT.out HP.out HQ.out, HG.out.trans (Gr.drewN _ _)⟩, by simp [intOf]; omega⟩
            · have hne : ((p : Int) != q) = true := by simpa using hpq
              have hne2 : ((p : Int) == q) = false := by simpa using hpq
              have HNE := hid hpq
              clear hpq
              go_wp2_with fail
              go_quiet (fail)
              go_wp2_with fail
              go_ret
              refine ⟨ret_bool ?_, ((((Gr.refl w).al _).al _).trans HG.out).trans (Gr.drewN _ _)⟩
              have : xs ≠ ys := fun h => HNE.out (by have h1 := HP.out; rw [h, HQ.out] at h1; exact (Option.some.inj h1).symm)
              have h4 : (xs == ys) = false := by simpa using this
              rw [h4]
          · have hke : k = n := by omega
            subst hke
            clear hg g0
            go_wp2_with fail
            go_ret
            refine ⟨ret_bool ?_, (((Gr.refl w).al _).al _).trans HG.out⟩
            have h := HT.out
            rw [List.take_of_length_le (by rw [HN.out]; exact Nat.le_refl _), List.take_of_length_le (by rw [← HL.out, HN.out]; exact Nat.le_refl _)] at h
            simp [h]
  · have hv : sameB xs ys e no e' no' = false := by
      have : (xs == ys) = false := by
        have : xs ≠ ys := fun h => hl (by rw [h])
        simpa using this
      unfold sameB
      rw [this]; simp
    rw [hv]
    clear hv
    go_enter Try.func24, Try.ntmps24
    go_wp2_with fail
    go_ret
    exact ⟨rfl, ((Gr.refl w).al _).al _⟩
set_option maxRecDepth 20000 in
set_option maxHeartbeats 400000 in
theorem szL (A : Option Addr) (n c : Nat) (L : Int) (w : World) (h : n ≤ 9223372036854775807) (l0 : 0 ≤ L) (l1 : L ≤ 1048576) :
    Calls Try.prog 55 #[.slice A n c, .int .i64 L] w fun e w' => e = .returned (.int .i64 (if (n : Int) ≤ L then L - (n : Int) else -1)) ∧ Gr w w' := by
  by_cases h1 : (n : Int) ≤ L
  · rw [if_pos h1]
    go_enter Try.func55, Try.ntmps55
    go_wp2
    go_ret
    exact ⟨rfl, Gr.refl _⟩
  · rw [if_neg h1]
    go_enter Try.func55, Try.ntmps55
    go_wp2
    go_ret
    exact ⟨rfl, Gr.refl _⟩
set_option maxRecDepth 20000 in
set_option maxHeartbeats 400000 in
theorem szDkL_yes (A : Option Addr) (n c : Nat) (e no L : Int) (w : World) (h : (n : Int) ≤ L) (l1 : L ≤ 1048576) :
    Calls Try.prog 19 #[dk A n c e no, .int .i64 L] w fun x w' => x = .returned (.int .i64 (L - (n : Int))) ∧ Gr w w' := by
  have hs : ∀ w, Calls Try.prog 55 #[.slice A n c, .int .i64 L] w fun e w' => e = .returned (.int .i64 (L - (n : Int))) ∧ Gr w w' := fun w => by
    have := szL A n c L w (by omega) (by omega) l1
    rwa [if_pos h] at this
  have HS := hid hs; clear hs
  go_enter Try.func19, Try.ntmps19
  go_wp2_with fail
  refine (HS.out _).mono ?_
  rintro e w1 ⟨rfl, hg1⟩
  obtain ⟨x1_0, hz1, g1⟩ := alloc1 hg1
  obtain ⟨_, _, _⟩ := cells3 x1_0
  have _ := fz x1_0
  have _ := ltb x1_0
  have X1_0 := hid x1_0; clear x1_0
  have G1 := hid (g1)
  clear hg1 g1
  go_wp2
  go_ret
  exact ⟨rfl, G1.out⟩
set_option maxRecDepth 20000 in
set_option maxHeartbeats 400000 in
theorem szDkL_no (A : Option Addr) (n c : Nat) (e no L : Int) (w : World) (h : L < (n : Int)) (h2 : n ≤ 9223372036854775807) (l0 : 0 ≤ L) (l1 : L ≤ 1048576) :
    Calls Try.prog 19 #[dk A n c e no, .int .i64 L] w fun x w' => x = .returned (.int .i64 (-1)) ∧ Gr w w' := by
  have hs : ∀ w, Calls Try.prog 55 #[.slice A n c, .int .i64 L] w fun e w' => e = .returned (.int .i64 (-1)) ∧ Gr w w' := fun w => by
    have := szL A n c L w (by omega) l0 l1
    rwa [if_neg (by omega)] at this
  have HS := hid hs; clear hs
  go_enter Try.func19, Try.ntmps19
  go_wp2_with fail
  refine (HS.out _).mono ?_
  rintro e w1 ⟨rfl, hg1⟩
  obtain ⟨x1_0, hz1, g1⟩ := alloc1 hg1
  obtain ⟨_, _, _⟩ := cells3 x1_0
  have _ := fz x1_0
  have _ := ltb x1_0
  have X1_0 := hid x1_0; clear x1_0
  have G1 := hid (g1)
  clear hg1 g1
  go_wp2
  go_ret
  exact ⟨rfl, G1.out⟩
theorem bothSameDisk (xs ys : List Int) (e no e' no' : Int) (hn : xs.length ≤ 1048576) (hm : ys.length ≤ 1048576) : ∃ R : Bool,
    (∀ (A A' : Option Addr) (c c' : Nat) (w : World), Hid (RdH w A xs) → Hid (RdH w A' ys) → Calls Try.prog 24 #[dk A xs.length c e no, dk A' ys.length c' e' no'] w fun x w' => x = .returned (.bool R) ∧ Gr w w') ∧
    (∀ (A A' : Option Addr) (c c' : Nat) (w : World), Hid (RdH w A xs) → Hid (RdH w A' ys) → Calls Try.prog 25 #[dk A xs.length c e no, dk A' ys.length c' e' no'] w fun x w' => x = .returned (.bool R) ∧ Gr w w') :=
  ⟨sameB xs ys e no e' no', fun A A' c c' w X1 X2 => sSameDk A A' c c' xs ys e no e' no' w X1 X2 hn hm, fun A A' c c' w X1 X2 => iSameDk A A' c c' xs ys e no e' no' w X1 X2 hn hm⟩
end Go.Proofs.Ytlekfoboolemgaa
