/- READINGS: slices of spans of the laws as data, opened; HullOf of both sides joined. -/
import Derived.Test.YtmjcnagniphkeaaRd
import Derived.Test.YtmjcnagniphkeaaHv
import Derived.OpenShut
import Derived.Carry
import Derived.Deep.Strs
namespace Go.Proofs.Ytmjcnagniphkeaa
open Go.RowKit Go.Sort Go.ChangeShapes Go.WideShapes Go.ChangeAt Go.Joins Go.Deep

theorem add_zeroR (a : Addr) : a.add 0 = a := by unfold Addr.add; simp
theorem add_posR (a : Addr) (j : Nat) (h : 0 < j) : a.add j = ⟨a.block, a.off + j, none⟩ := by
  unfold Addr.add
  rw [if_neg (by omega)]
set_option maxRecDepth 100000 in
theorem open_spans {H : Type} {enc : TypeId × Value → H} {W : World} {base : Nat} {spare : Nat → Bool} {held : Bool} {A : Option Addr} {n cap : Nat} {d : DataW H} {p : List MemPlace}
    (h : DataW.Trod enc Try.prog W base spare held 33 (.slice A n cap) d p) :
    n ≤ 9223372036854775807 ∧ ∃ xs : List Spv, n = xs.length ∧ RawN W (.slice A n cap) xs := by
  obtain ⟨fuel, hf⟩ := h
  rcases open_slice Try.underlying33 hf with ⟨hcs, _⟩ | ⟨a, len, cap', m, n', D, Pl, hcs, hb, hl, hm, hmm, hx, hall⟩
  · simp [Value.cells] at hcs
    obtain ⟨rfl, rfl, rfl⟩ := hcs
    exact ⟨by omega, [], rfl, .inl ⟨rfl, rfl⟩⟩
  · simp [Value.cells] at hcs
    obtain ⟨rfl, rfl, rfl⟩ := hcs
    have hlm : n ≤ m := by rw [hmm]; split <;> omega
    have each : ∀ i, i < n → ∃ o : Spv, CelN W (a.add (i * 4)) o := fun i hi => by
      obtain ⟨cs', hc, ht⟩ := hall i (by omega)
      rw [cellsSpan] at hc
      obtain ⟨x0, x1, x2, x3, rfl, _, _, _, _, _⟩ := trod_span ht
      obtain ⟨_, hcl, hat⟩ := World.cells?_some hc
      refine ⟨⟨x0, x1, x2, x3⟩, ⟨?_, ?_, ?_, ?_⟩⟩
      · have := hat (i := 0) (by omega); rwa [add_zeroR] at this
      · have := hat (i := 1) (by omega); rwa [add_posR _ _ (by omega)] at this
      · have := hat (i := 2) (by omega); rwa [add_posR _ _ (by omega)] at this
      · have := hat (i := 3) (by omega); rwa [add_posR _ _ (by omega)] at this
    obtain ⟨f, hf'⟩ := choose_lt each
    have hlen : ((List.range n).map f).length = n := by simp
    refine ⟨by unfold maxLen at hm; omega, (List.range n).map f, hlen.symm, .inr ⟨a, cap, by rw [hlen], fun k o hk => ?_⟩⟩
    have hkn : k < n := by
      have := (List.getElem?_eq_some_iff.1 hk).1
      simpa using this
    have hfk : f k = o := by simpa [hkn] using hk
    rw [← hfk]
    exact hf' k hkn
theorem szN_yes (A : Option Addr) (n cap : Nat) (w : World) (h : n ≤ 1048576) :
    Calls Try.prog 23 #[.slice A n cap, .int .i64 1048576] w fun e w' => e = .returned (.int .i64 (1048576 - (n : Int))) ∧ Gr w w' := by
  have := szN A n cap 1048576 w (by omega) (by omega) (by omega)
  rwa [if_pos (by omega)] at this
theorem szN_no (A : Option Addr) (n cap : Nat) (w : World) (h : 1048576 < n) (h2 : n ≤ 9223372036854775807) :
    Calls Try.prog 23 #[.slice A n cap, .int .i64 1048576] w fun e w' => e = .returned (.int .i64 (-1)) ∧ Gr w w' := by
  have := szN A n cap 1048576 w h2 (by omega) (by omega)
  rwa [if_neg (by omega)] at this
def HUs (xs : List Spv) (a b c d C : Int) : Prop :=
  (∀ (g : Nat) (T : TypeId) (w : World), Hid (w.heap[g]? = some (.cells (rowN xs []) T)) → Calls Try.prog 24 #[sl g xs.length] w fun e w' => e = .returned (.tuple #[sp a b c d, .int .i64 C]) ∧ Gr w w') ∧
  (∀ (g : Nat) (T : TypeId) (w : World), Hid (w.heap[g]? = some (.cells (rowN xs []) T)) → Calls Try.prog 26 #[sl g xs.length] w fun e w' => e = .returned (.tuple #[sp a b c d, .int .i64 C]) ∧ Gr w w')
theorem lstN_1 {xs : List Spv} (h : xs.all okN = false) : lstN xs 1 = 1 := by unfold lstN; rw [if_neg (by rw [h]; decide)]
theorem lstN_2 {xs : List Spv} (h : xs.all okN = true) (hl : inB (xs.length : Int) 1 64 = false) : lstN xs 1 = 2 := by
  unfold inB at hl
  simp at hl
  unfold lstN
  rw [if_pos h, if_pos (by omega)]
theorem lstN_0 {xs : List Spv} (h : xs.all okN = true) (h1 : 1 ≤ xs.length) (h2 : xs.length ≤ 64) : lstN xs 1 = 0 := by
  unfold lstN
  rw [if_pos h, if_neg (by omega)]
theorem bothHullOf (xs : List Spv) (hn : xs.length ≤ 1048576) : ∃ a b c d C, HUs xs a b c d C := by
  cases h : xs.all okN with
  | false => exact ⟨0, 0, 0, 0, 1, fun g T w X => sHull_1 g xs w T X hn h, fun g T w X => iHull_no _ _ xs w (hid (RdN.of_block X.out)) hn 1 (lstN_1 h) (by decide)⟩
  | true =>
    cases hl : inB (xs.length : Int) 1 64 with
    | false => exact ⟨0, 0, 0, 0, 2, fun g T w X => sHull_2 g xs w T X hn h hl, fun g T w X => iHull_no _ _ xs w (hid (RdN.of_block X.out)) hn 2 (lstN_2 h hl) (by decide)⟩
    | true =>
      have hl2 := hl
      unfold inB at hl2
      simp at hl2
      obtain ⟨n1, n2⟩ := hl2
      cases xs with
      | nil => simp at n1
      | cons x0 rs =>
        have n3 : (x0 :: rs).length ≤ 64 := by simp at n2 ⊢; omega
        have n4 : 1 ≤ (x0 :: rs).length := by simp
        exact ⟨_, _, _, _, 0, fun g T w X => sHull_ok g _ x0 (x0 :: rs) w T X rfl rfl h hl, fun g T w X => iHull_ok _ _ x0 rs w (hid (RdN.of_block X.out)) n3 (lstN_0 h n4 n3) (fun x hx => halfN_of (List.all_eq_true.1 h x hx))⟩
end Go.Proofs.Ytmjcnagniphkeaa
