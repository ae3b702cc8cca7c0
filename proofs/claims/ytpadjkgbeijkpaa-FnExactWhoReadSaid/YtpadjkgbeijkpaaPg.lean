/- WALKS: the greatest of integers, the first of those; LikedDigit, of the program and of the reference. -/
import Derived.Test.YtpadjkgbeijkpaaPf
import Derived.Test.YtpadjkgbeijkpaaIv
namespace Go.Proofs.Ytpadjkgbeijkpaa
open Go.RowKit Go.Sort

/-- The first greatest one. -/
def FM (ds : List Int) (j : Nat) : Prop := ∃ d, ds[j]? = some d ∧ (∀ (i : Nat) (e : Int), ds[i]? = some e → e ≤ d) ∧ (∀ (i : Nat) (e : Int), i < j → ds[i]? = some e → e < d)
theorem FM.uniq {ds : List Int} {j k : Nat} (h1 : FM ds j) (h2 : FM ds k) : j = k := by
  obtain ⟨d, a1, a2, a3⟩ := h1
  obtain ⟨e, b1, b2, b3⟩ := h2
  rcases Nat.lt_trichotomy j k with h | h | h
  · have := b3 j d h a1; have := a2 k e b1; omega
  · exact h
  · have := a3 k e h b1; have := b2 j d a1; omega
/-- The greatest one of the first k. -/
def MX (ds : List Int) (k : Nat) (m : Int) : Prop := (∃ i : Nat, i < k ∧ ds[i]? = some m) ∧ ∀ (i : Nat) (e : Int), i < k → ds[i]? = some e → e ≤ m
theorem MX.step {ds : List Int} {k : Nat} {m x : Int} (h : MX ds k m) (hx : ds[k]? = some x) : MX ds (k + 1) (if m < x then x else m) := by
  obtain ⟨⟨i, h1, h2⟩, h3⟩ := h
  by_cases hl : m < x
  · rw [if_pos hl]
    refine ⟨⟨k, by omega, hx⟩, fun i e hi he => ?_⟩
    by_cases hk : i = k
    · subst hk; rw [hx] at he; cases he; omega
    · have := h3 i e (by omega) he; omega
  · rw [if_neg hl]
    refine ⟨⟨i, by omega, h2⟩, fun j e hj he => ?_⟩
    by_cases hk : j = k
    · subst hk; rw [hx] at he; cases he; omega
    · exact h3 j e (by omega) he
def FI (xs : List Int) (v : Int) (j : Nat) : Prop := xs[j]? = some v ∧ ∀ (i : Nat) (e : Int), i < j → xs[i]? = some e → e ≠ v
set_option maxRecDepth 20000 in
set_option maxHeartbeats 1000000 in
theorem iIndexL (A : Option Addr) (c n : Nat) (xs : List Int) (v : Int) (w : World) (X : Hid (RdI w A xs)) (hn : xs.length = n) (h2 : n ≤ 1048576) (hv : ∃ i : Nat, i < n ∧ xs[i]? = some v) :
    Calls Try.prog 105 #[.slice A n c, .int .i64 v] w fun e w' => (∃ j : Nat, e = .returned (.int .i64 (j : Int)) ∧ FI xs v j) ∧ Gr w w' := by
  have HN := hid hn; have HV := hid hv; clear hn hv
  go_enter Try.func105, Try.ntmps105
  go_wp2_with fail
  go_loopw [8] (fun u wr => ∃ (k : Nat), u = .int .i64 (k : Int) ∧ k ≤ n ∧ (∀ (i : Nat) (e : Int), i < k → xs[i]? = some e → e ≠ v) ∧ wr = w) (fun u _ => n - (intOf u).toNat)
  case atStart => exact ⟨0, rfl, by omega, fun i e h => by omega, by simp⟩
  case round =>
    obtain ⟨k, rfl, hk, hne, rfl⟩ := hrel
    have HNE := hid hne; clear hne
    by_cases hlt : k < n
    · obtain ⟨p, hp⟩ : ∃ p, xs[k]? = some p := ⟨xs[k]'(by have := HN.out; omega), List.getElem?_eq_getElem _⟩
      obtain ⟨ad', rfl, c1⟩ := X.out k p hp
      have HP := hid hp
      clear hp
      by_cases he : v = p
      · subst he
        go_wp2_with fail
        go_ret
        exact ⟨⟨k, rfl, HP.out, HNE.out⟩, Gr.refl _⟩
      · have hb : ((v : Int) == p) = false := by simpa using he
        go_wp2_with fail
        refine ⟨⟨k + 1, by simp, by omega, fun i e hi hie => ?_, by simp⟩, by simp [intOf]; omega⟩
        by_cases hik : i = k
        · subst hik
          rw [HP.out] at hie
          cases hie
          exact fun h => he h.symm
        · exact HNE.out i e (by omega) hie
    · exfalso
      obtain ⟨i, hi, hie⟩ := HV.out
      exact HNE.out i v (by omega) hie rfl
def FMk (ds : List Int) (k j : Nat) : Prop := ∃ d, ds[j]? = some d ∧ (∀ (i : Nat) (e : Int), i < k → ds[i]? = some e → e ≤ d) ∧ (∀ (i : Nat) (e : Int), i < j → ds[i]? = some e → e < d)
theorem FMk.up {ds : List Int} {k j : Nat} {d x : Int} (h : FMk ds k j) (hd : ds[j]? = some d) (hx : ds[k]? = some x) (hl : d < x) : FMk ds (k + 1) k := by
  obtain ⟨d', h1, h2, h3⟩ := h
  rw [hd] at h1
  cases h1
  refine ⟨x, hx, fun i e hi he => ?_, fun i e hi he => ?_⟩
  · by_cases hk : i = k
    · subst hk; rw [hx] at he; cases he; omega
    · have := h2 i e (by omega) he; omega
  · have := h2 i e hi he; omega
theorem FMk.stay {ds : List Int} {k j : Nat} {d x : Int} (h : FMk ds k j) (hd : ds[j]? = some d) (hx : ds[k]? = some x) (hl : ¬ d < x) : FMk ds (k + 1) j := by
  obtain ⟨d', h1, h2, h3⟩ := h
  rw [hd] at h1
  cases h1
  refine ⟨d, hd, fun i e hi he => ?_, h3⟩
  by_cases hk : i = k
  · subst hk; rw [hx] at he; cases he; omega
  · exact h2 i e (by omega) he
theorem FMk.one {ds : List Int} {d : Int} (hd : ds[0]? = some d) : FMk ds 1 0 :=
  ⟨d, hd, fun i e hi he => by
    have : i = 0 := by omega
    subst this; rw [hd] at he; cases he; omega, fun i e hi he => by omega⟩
theorem FMk.ex {ds : List Int} : ∀ k, 1 ≤ k → k ≤ ds.length → ∃ j, FMk ds k j
  | 0, h, _ => by omega
  | 1, _, h => ⟨0, FMk.one (List.getElem?_eq_getElem (by omega))⟩
  | k + 2, _, h => by
    obtain ⟨j, hj⟩ := FMk.ex (ds := ds) (k + 1) (by omega) (by omega)
    have hj2 := hj
    obtain ⟨d, h1, h2, h3⟩ := hj
    have hx : ds[k + 1]? = some ds[k + 1] := List.getElem?_eq_getElem (by omega)
    by_cases hl : d < ds[k + 1]
    · exact ⟨_, hj2.up h1 hx hl⟩
    · exact ⟨_, hj2.stay h1 hx hl⟩
theorem FMk.fm {ds : List Int} {j : Nat} (h : FMk ds ds.length j) : FM ds j := by
  obtain ⟨d, h1, h2, h3⟩ := h
  exact ⟨d, h1, fun i e he => h2 i e (List.getElem?_eq_some_iff.1 he).1 he, h3⟩
end Go.Proofs.Ytpadjkgbeijkpaa
