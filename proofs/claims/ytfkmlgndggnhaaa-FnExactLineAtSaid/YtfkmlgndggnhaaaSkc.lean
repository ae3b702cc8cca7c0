/- WALKS: the marks of a scale, handed to a yield; collected. -/
import Derived.Test.YtfkmlgndggnhaaaRgf
import Derived.Test.YtfkmlgndggnhaaaSkb
namespace Go.Proofs.Ytfkmlgndggnhaaa
open Go.RowKit Go.Sort Go.Shelf
attribute [local go_sem] Oper.semAt_some wide_fn

/-- All marks of a scale. -/
def mks (a b : Int) (xs : List (Int × Int)) : List (Int × Int) := xs.mapIdx fun k x => (mkP a b k x.1 x.2, mkQ a b k x.1 x.2)
theorem mks_len (a b : Int) (xs : List (Int × Int)) : (mks a b xs).length = xs.length := by simp [mks]
theorem mks_get {a b : Int} {xs : List (Int × Int)} {k : Nat} {p q : Int} (h : xs[k]? = some (p, q)) : (mks a b xs)[k]? = some (mkP a b k p q, mkQ a b k p q) := by
  simp [mks, h]
def encF (l : List (Int × Int)) (k : Nat) : Array Value := #[fr (l.getD k (0, 0)).1 (l.getD k (0, 0)).2]
theorem encF_mks {a b : Int} {xs : List (Int × Int)} {k : Nat} {p q : Int} (h : xs[k]? = some (p, q)) : encF (mks a b xs) k = #[fr (mkP a b k p q) (mkQ a b k p q)] := by
  unfold encF
  rw [List.getD_eq_getElem?_getD, mks_get h]
  rfl
def TooGreat (ch : List PanicEntry) : Prop := ∃ x y, ch = [{ v := .iface 125 (fr x y), recovered := false }]
/-- Can all marks be told? -/
def AllMk (a b : Int) (xs : List (Int × Int)) : Prop := ∀ (k : Nat) (p q : Int), xs[k]? = some (p, q) → mkB a b k p q = true
set_option maxRecDepth 100000 in
set_option maxHeartbeats 2000000 in
theorem marks_hands (n : Nat) (hn : 1 ≤ n) (a b : Int) (A : Option Addr) (c Bs : Nat) (xs : List (Int × Int)) (I : Nat → World → Prop) (w : World) (hl : xs.length ≤ 60) (h1 : okB a b = true) (hx : xs.all (fun x => okB x.1 x.2) = true)
    (hI : ∀ k W, I k W → W.heap[Bs]? = some (.cells #[.int .i64 a, .int .i64 b, .slice A xs.length c] 32) ∧ RdF W A xs) (S : Option (List PanicEntry → Prop))
    (hS : (S = none ∧ AllMk a b xs) ∨ (S = some TooGreat ∧ ¬ AllMk a b xs)) :
    Hands Fence.wide n Try.prog 110 #[.pointer (some ⟨Bs, 0, none⟩)] (encF (mks a b xs)) xs.length I S w := by
  intro l J W1 _ hJg hJI hY h0
  have HX := hid hx; have H1 := hid h1; have HY := hid hY; have HJG := hid hJg; have HS := hid hS
  have HI := hid (fun k W h => hI k W (hJI k W h))
  clear hx h1 hY hJg hJI hI hS
  have hb0 := (HI.out 0 W1 h0).1
  obtain ⟨_, _, _⟩ := cells3 hb0
  refine callsIn_of_wp Try.func110 rfl trivial ?_ rfl
  simp only [Try.ntmps110, List.size_toArray, List.length_cons, List.length_nil, Nat.reduceAdd, Nat.reduceSub, Array.replicate_succ, Array.replicate_zero, List.push_toArray, List.append_toArray, List.nil_append, List.cons_append]
  gi_wp2
  gi_loopw [7] (fun u wr => ∃ k : Nat, k ≤ xs.length ∧ u = .int .i64 k ∧ J k wr ∧ ∀ (i : Nat) (p q : Int), i < k → xs[i]? = some (p, q) → mkB a b i p q = true)
    (fun u _ => xs.length - (intOf u).toNat)
  case atStart => exact ⟨0, Nat.zero_le _, rfl, h0, fun i p q h => by omega⟩
  case round =>
    obtain ⟨k, hk, rfl, hJ, hall⟩ := hrel
    obtain ⟨hb1, hr1⟩ := HI.out k wr hJ
    obtain ⟨_, _, _⟩ := cells3 hb1
    have HJ := hid hJ; have HALL := hid hall; have HR := hid hr1
    clear hJ hall hr1
    by_cases hlt : k < xs.length
    · obtain ⟨⟨p, q⟩, hpq⟩ : ∃ pq, xs[k]? = some pq := ⟨xs[k], List.getElem?_eq_getElem _⟩
      have HPQ := hid hpq
      have ht := hid (ok_whole (t := k) (by omega) (by omega))
      have h2 := hid (all_get hpq HX.out)
      clear hpq
      cases hm : mkB a b k p q with
      | true =>
        have HM := hid hm; clear hm
        gi_wp2_with fail
        refine (callsIn_wide.2 (imark_yes a b A c k xs p q _ HR HPQ.out (by omega) H1.out ht.out h2.out HM.out)).mono ?_
        rintro e w2 ⟨rfl, hg2⟩
        have hJ2 := HJG.out k _ _ HJ.out hg2
        obtain ⟨fn, tmps, assign, body, hy, hR⟩ := HY.out k w2 hJ2 hlt
        rw [encF_mks HPQ.out] at hy
        clear hg2 hJ2
        gi_wp2
        refine hR.mono ?_
        rintro e W3 ⟨rfl, hJ3⟩
        gi_wp2
        go_roundw
        case rel => exact ⟨k + 1, by omega, by simp, hJ3, fun i p' q' hi hp' => by
          by_cases he : i = k
          · subst he
            have := HPQ.out
            rw [hp'] at this
            cases this
            exact HM.out
          · exact HALL.out i p' q' (by omega) hp'⟩
        case measure => simp [intOf]; omega
      | false =>
        have HM := hid hm; clear hm
        gi_wp2_with fail
        refine (callsIn_wide.2 (imark_bad a b A c k xs p q _ HR HPQ.out (by omega) H1.out ht.out h2.out HM.out)).mono ?_
        rintro e w2 ⟨⟨x, y, rfl⟩, hg2⟩
        have hbad : ¬ AllMk a b xs := fun h => by have := h k p q HPQ.out; rw [HM.out] at this; cases this
        rcases HS.out with ⟨_, h⟩ | ⟨rfl, _⟩
        · exact absurd h hbad
        · exact ⟨rfl, _, k, rfl, ⟨x, y, rfl⟩, HJG.out k _ _ HJ.out hg2⟩
    · obtain rfl : k = xs.length := by omega
      have hok : AllMk a b xs := fun k p q h => HALL.out k p q (List.getElem?_eq_some_iff.1 h).1 h
      gi_wp2
      go_end0
      rcases HS.out with ⟨rfl, _⟩ | ⟨_, h⟩
      · exact ⟨⟨_, rfl⟩, HJ.out⟩
      · exact absurd hok h
end Go.Proofs.Ytfkmlgndggnhaaa
