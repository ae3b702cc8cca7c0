/- SORTED: the reference's sort of integers is List.mergeSort. -/
import Derived.Test.YtadpoocafhddeaaDoorIv
import Derived.Test.YtadpoocafhddeaaDoorReg
namespace Go.Proofs.YtadpoocafhddeaaDoor
open Go.RowKit Go.Sort

/-! pure -/
def sw (xs : List Int) (k : Nat) : List Int := (xs.set (k + 1) (xs.getD k 0)).set k (xs.getD (k + 1) 0)
def sink : Nat → List Int → List Int
  | 0, xs => xs
  | k + 1, xs => if xs.getD (k + 1) 0 < xs.getD k 0 then sink k (sw xs k) else xs
def isrt : Nat → List Int → List Int
  | 0, xs => xs
  | k + 1, xs => sink (k + 1) (isrt k xs)
theorem sw_len (xs : List Int) (k : Nat) : (sw xs k).length = xs.length := by simp [sw]
theorem sink_len : ∀ (k : Nat) (xs : List Int), (sink k xs).length = xs.length
  | 0, _ => rfl
  | k + 1, xs => by
    unfold sink
    split
    · rw [sink_len k, sw_len]
    · rfl
theorem isrt_len : ∀ (k : Nat) (xs : List Int), (isrt k xs).length = xs.length
  | 0, _ => rfl
  | k + 1, xs => by unfold isrt; rw [sink_len, isrt_len k]
theorem getD_lt {xs : List Int} {k : Nat} (h : k < xs.length) : xs.getD k 0 = xs[k] := by simp [List.getD_eq_getElem?_getD, h]
theorem sw_perm {xs : List Int} {k : Nat} (h : k + 1 < xs.length) : (sw xs k).Perm xs := by
  unfold sw
  rw [getD_lt h, getD_lt (Nat.lt_of_succ_lt h)]
  exact List.set_set_perm h (Nat.lt_of_succ_lt h)
theorem sink_perm : ∀ (k : Nat) (xs : List Int), k < xs.length → (sink k xs).Perm xs
  | 0, _, _ => .refl _
  | k + 1, xs, h => by
    unfold sink
    split
    · exact (sink_perm k _ (by rw [sw_len]; omega)).trans (sw_perm h)
    · exact .refl _
theorem isrt_perm : ∀ (k : Nat) (xs : List Int), k < xs.length → (isrt k xs).Perm xs
  | 0, _, _ => .refl _
  | k + 1, xs, h => by
    unfold isrt
    exact (sink_perm _ _ (by rw [isrt_len]; exact h)).trans (isrt_perm k xs (Nat.lt_of_succ_lt h))
theorem sw_get {xs : List Int} {k : Nat} (h : k + 1 < xs.length) (i : Nat) : (sw xs k).getD i 0 = if i = k then xs.getD (k + 1) 0 else if i = k + 1 then xs.getD k 0 else xs.getD i 0 := by
  unfold sw
  simp only [List.getD_eq_getElem?_getD, List.getElem?_set, List.length_set]
  by_cases h1 : i = k
  · subst h1
    have : i < xs.length := by omega
    simp [this]
  · by_cases h2 : i = k + 1
    · subst h2; simp [h]
    · rw [if_neg (fun e => h1 e.symm), if_neg (fun e => h2 e.symm), if_neg h1, if_neg h2]
theorem sink_sorted (m : Nat) : ∀ (k : Nat) (xs : List Int), k < m → m ≤ xs.length → (∀ a b, a < b → b < m → a ≠ k → b ≠ k → xs.getD a 0 ≤ xs.getD b 0) → (∀ b, k < b → b < m → xs.getD k 0 ≤ xs.getD b 0) →
    ∀ a b, a < b → b < m → (sink k xs).getD a 0 ≤ (sink k xs).getD b 0
  | 0, xs, _, _, h1, h2, a, b, hab, hb => by
    unfold sink
    by_cases ha : a = 0
    · subst ha; exact h2 b hab hb
    · exact h1 a b hab hb ha (by omega)
  | k + 1, xs, hk, hm, h1, h2, a, b, hab, hb => by
    unfold sink
    split
    next hlt =>
      have hs := sw_get (xs := xs) (k := k) (by omega)
      refine sink_sorted m k (sw xs k) (by omega) (by rw [sw_len]; exact hm) ?_ ?_ a b hab hb
      · intro a b hab hb ha hb'
        rw [hs a, hs b, if_neg ha, if_neg hb']
        by_cases ha1 : a = k + 1
        · rw [if_pos ha1, if_neg (by omega)]
          exact h1 k b (by omega) hb (by omega) (by omega)
        · rw [if_neg ha1]
          by_cases hb1 : b = k + 1
          · rw [if_pos hb1]
            exact h1 a k (by omega) (by omega) ha1 (by omega)
          · rw [if_neg hb1]
            exact h1 a b hab hb ha1 hb1
      · intro b hkb hb
        rw [hs k, hs b, if_pos rfl, if_neg (by omega)]
        by_cases hb1 : b = k + 1
        · rw [if_pos hb1]; omega
        · rw [if_neg hb1]
          exact h2 b (by omega) hb
    next hge =>
      by_cases ha : a = k + 1
      · subst ha; exact h2 b hab hb
      · by_cases hb1 : b = k + 1
        · subst hb1
          by_cases hak : a = k
          · subst hak; omega
          · have := h1 a k (by omega) (by omega) ha (by omega)
            omega
        · exact h1 a b hab hb ha hb1
theorem isrt_sorted : ∀ (k : Nat) (xs : List Int), k < xs.length → ∀ a b, a < b → b < k + 1 → (isrt k xs).getD a 0 ≤ (isrt k xs).getD b 0
  | 0, _, _, a, b, _, _ => by omega
  | k + 1, xs, h, a, b, hab, hb => by
    unfold isrt
    exact sink_sorted (k + 2) (k + 1) _ (by omega) (by rw [isrt_len]; omega) (fun a b hab hb ha hb' => isrt_sorted k xs (by omega) a b hab (by omega)) (fun b hb hb' => by omega) a b hab hb
/-- The sorted list. -/
def srt (xs : List Int) : List Int := isrt (xs.length - 1) xs
theorem srt_len (xs : List Int) : (srt xs).length = xs.length := isrt_len _ _
theorem srt_perm (xs : List Int) : (srt xs).Perm xs := by
  unfold srt
  cases xs with
  | nil => exact .refl _
  | cons x r => exact isrt_perm _ _ (by simp)
theorem srt_pair (xs : List Int) : (srt xs).Pairwise (· ≤ ·) := by
  rw [List.pairwise_iff_getElem]
  intro i j hi hj hij
  rw [srt_len] at hi hj
  have h := isrt_sorted (xs.length - 1) xs (by omega) i j hij (by omega)
  rw [getD_lt (by rw [isrt_len]; exact hi), getD_lt (by rw [isrt_len]; exact hj)] at h
  exact h
theorem sorted_unique {xs ys : List Int} (hp : xs.Perm ys) (h1 : xs.Pairwise (· ≤ ·)) (h2 : ys.Pairwise (· ≤ ·)) : xs = ys :=
  List.Perm.eq_of_pairwise (le := (· ≤ ·)) (fun a b _ _ h h' => by omega) h1 h2 hp
theorem srt_merge (xs : List Int) : srt xs = xs.mergeSort (fun x y => decide (x ≤ y)) := by
  refine sorted_unique ((srt_perm xs).trans (List.mergeSort_perm _ _).symm) (srt_pair xs) ?_
  have := List.pairwise_mergeSort (le := fun (x y : Int) => decide (x ≤ y)) (fun a b c => by simp; omega) (fun a b => by simp; omega) xs
  exact this.imp (by simp)
theorem srt_mem {xs : List Int} {x : Int} (h : x ∈ srt xs) : x ∈ xs := (srt_perm xs).mem_iff.1 h

/-! the walk -/
end Go.Proofs.YtadpoocafhddeaaDoor
namespace Go.Proofs.YtadpoocafhddeaaDoor
open Go.RowKit Go.Sort

def bdI (xs : List Int) : Prop := ∀ x ∈ xs, -2305843009213693952 ≤ x ∧ x ≤ 2305843009213693952
/-- Two times the median. -/
def twM (xs : List Int) : Int := (srt xs).getD ((xs.length - 1) / 2) 0 + (srt xs).getD (xs.length / 2) 0
theorem half_of (n : Nat) : (n : Int).tdiv 2 = ((n / 2 : Nat) : Int) := by simp
theorem srt_at {xs : List Int} {k : Nat} (h : k < xs.length) (hb : bdI xs) : ∃ p, (srt xs)[k]? = some p ∧ (srt xs).getD k 0 = p ∧ -2305843009213693952 ≤ p ∧ p ≤ 2305843009213693952 := by
  have hk : k < (srt xs).length := by rw [srt_len]; exact h
  refine ⟨(srt xs)[k], List.getElem?_eq_getElem _, getD_lt hk, ?_⟩
  exact hb _ (srt_mem (List.getElem_mem hk))
end Go.Proofs.YtadpoocafhddeaaDoor
