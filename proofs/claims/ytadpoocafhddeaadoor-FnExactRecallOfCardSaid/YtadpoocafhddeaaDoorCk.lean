/- CHAINS: ValidChain, of the program. -/
import Derived.Test.YtadpoocafhddeaaDoorCm
namespace Go.Proofs.YtadpoocafhddeaaDoor
open Go.RowKit Go.Sort

/-- A list that is a valid chain. -/
def chP (L : List Sdv) : Prop := ∀ (k : Nat) (x : Sdv), L[k]? = some x → stepP (L.take k) x
theorem iAdd_t (w0 w : World) (bi bm base c : Nat) (A : Option Addr) (P : List Sdv) (x : Sdv) (X : Hid (Ix w0 w bi bm base A c P)) (h30 : P.length ≤ 30) (hP : ∀ (k : Nat) (y : Sdv), P[k]? = some y → soundB y = true) (hs : stepP P x) :
    Calls Tryd.prog 84 #[.pointer (some ⟨bi, 0, none⟩), vSd x] w fun e w' => e = .returned (.bool true) ∧ ∃ A' c', Ix w0 w' bi bm base A' c' (P ++ [x]) := by
  obtain ⟨h1, h2, h3, h4⟩ := hs
  have hlt : P.length < 30 := by omega
  rcases h4 with h4 | ⟨k, y, h4, h5, h6⟩
  · exact iAdd_6 w0 w bi bm base c A P x X hlt h2 h3 h4
  · exact iAdd_7 w0 w bi bm base c A P x y k X hlt h2 h3 h4 (has_lt (List.getElem?_eq_some_iff.1 h5).1) h5 (hP k y h5) h6
theorem iAdd_f (w0 w : World) (bi bm base c : Nat) (A : Option Addr) (P : List Sdv) (x : Sdv) (X : Hid (Ix w0 w bi bm base A c P)) (_h30 : P.length ≤ 30) (hP : ∀ (k : Nat) (y : Sdv), P[k]? = some y → soundB y = true) (hs : ¬ stepP P x) :
    Calls Tryd.prog 84 #[.pointer (some ⟨bi, 0, none⟩), vSd x] w fun e w' => e = .returned (.bool false) ∧ Gr w w' := by
  by_cases h1 : P.length = 30
  · exact iAdd_1 w0 w bi bm base c A P x X h1
  cases h2 : soundB x with
  | false => exact iAdd_2 w0 w bi bm base c A P x X h1 h2
  | true =>
    by_cases h3 : x.nm ∈ nms P
    · exact iAdd_3 w0 w bi bm base c A P x X h1 h2 h3
    by_cases h4 : x.f = -1
    · exact absurd ⟨h1, h2, h3, .inl h4⟩ hs
    cases h5 : hasB P.length x.f with
    | false => exact iAdd_4 w0 w bi bm base c A P x X h1 h2 h3 h4 h5
    | true =>
      have h5' := h5
      unfold hasB at h5'
      simp only [Bool.and_eq_true, decide_eq_true_eq] at h5'
      obtain ⟨k, hk⟩ : ∃ k : Nat, x.f = (k : Int) := ⟨x.f.toNat, by omega⟩
      have hlt : k < P.length := by omega
      have hy : P[k]? = some P[k] := List.getElem?_eq_getElem _
      cases h6 : goodB P[k] x.m with
      | false => exact iAdd_5 w0 w bi bm base c A P x P[k] k X h1 h2 h3 hk (has_lt hlt) hy (hP k _ hy) h6
      | true => exact absurd ⟨h1, h2, h3, .inr ⟨k, P[k], hk, hy, h6⟩⟩ hs
theorem ch_sound {L : List Sdv} {k : Nat} (h : ∀ (j : Nat) (x : Sdv), j < k → L[j]? = some x → stepP (L.take j) x) : ∀ (j : Nat) (y : Sdv), (L.take k)[j]? = some y → soundB y = true := by
  intro j y hy
  rw [List.getElem?_take] at hy
  split at hy
  · rename_i hj
    exact (h j y hj hy).2.1
  · cases hy
theorem ch_30 {L : List Sdv} {k : Nat} (hk : k ≤ L.length) (h : ∀ (j : Nat) (x : Sdv), j < k → L[j]? = some x → stepP (L.take j) x) : (L.take k).length ≤ 30 := by
  rw [List.length_take, Nat.min_eq_left hk]
  by_cases h0 : k ≤ 30
  · exact h0
  · have hlt : 30 < L.length := by omega
    have := (h 30 L[30] (by omega) (List.getElem?_eq_getElem _)).1
    rw [List.length_take] at this
    omega
/-- What an index reads as. -/
def IdxR (w : World) (B : Option Addr) (n : Nat) (m : Option Nat) (xs : List Sdv) : Prop := n = xs.length ∧ RdSd w B xs ∧ ∃ b, m = some b ∧ w.heap[b]? = some (mapN (nms xs))
theorem IdxR.keep {w w' : World} {B : Option Addr} {n : Nat} {m : Option Nat} {xs : List Sdv} (h : IdxR w B n m xs) (hg : Gr w w') : IdxR w' B n m xs := by
  obtain ⟨h1, h2, b, h3, h4⟩ := h
  exact ⟨h1, h2.keep hg, b, h3, hg.keep h4⟩
theorem idx_back {w W1 wr : World} {xs : List Sdv} {A' : Option Addr} {c' : Nat} {u v : Value} (h : Ix W1 wr (w.heap.size + 1 + 1) (w.heap.size + 1) (w.heap.size + 1 + 1 + 1) A' c' (xs.take xs.length)) :
    IdxR ((wr.setCell ⟨w.heap.size, 0, none⟩ u).setCell ⟨w.heap.size, 1, none⟩ v) A' (xs.take xs.length).length (some (w.heap.size + 1)) xs := by
  have hs : ∀ j, j ≠ w.heap.size → ((wr.setCell ⟨w.heap.size, 0, none⟩ u).setCell ⟨w.heap.size, 1, none⟩ v).heap[j]? = wr.heap[j]? := fun j hj => by
    rw [Below.heap_setCell _ _ _ _ hj, Below.heap_setCell _ _ _ _ hj]
  have hb0 : (Value.slice A' (xs.take xs.length).length c').ownBlock ≠ some w.heap.size := by
    rcases h.own.2 with ⟨h1, _⟩ | ⟨g, cap, cur, h1, h2, _⟩
    · rw [h1]; simp [Value.ownBlock]
    · rw [h1]
      simp only [Value.ownBlock]
      intro he
      have : g = w.heap.size := by simpa using he
      omega
  have ho := own_otherSd h.own hb0 hs
  have hxm := h.xm
  rw [List.take_length] at ho hxm ⊢
  exact ⟨rfl, RdSd.of_own ho, _, rfl, (hs _ (by omega)).trans hxm⟩
set_option maxRecDepth 20000 in
set_option maxHeartbeats 2000000 in
theorem iIndexOf (A : Option Addr) (c : Nat) (xs : List Sdv) (w : World) (X : Hid (RdSd w A xs)) (hn : xs.length ≤ 1048576) (r : Bool) (hr : r = true ↔ chP xs) :
    Calls Tryd.prog 64 #[.slice A xs.length c] w fun e w' => ∃ B n c' m, e = .returned (.tuple #[.agg #[.slice B n c', .map m], .bool r]) ∧ Gr w w' ∧ (r = true → IdxR w' B n m xs) := by
  have HR := hid hr; clear hr
  have hmk : ∀ w : World, (Instr.makeMap 57 none).run Tryd.prog w = .ok (.map (some w.heap.size)) (w.alloc (.map #[] 0)) := fun w => rfl
  go_enter Tryd.func64, Tryd.ntmps64
  go_wp2_with fail
  have start : ∃ W1 : World, Gr w W1 ∧ W1.heap.size = w.heap.size + 1 ∧ W1.heap[w.heap.size]? = some (.cells #[.slice none 0 0, .map none] 59) ∧ Ix W1 (((w.alloc (.cells #[.slice none 0 0, .map none] 59)).alloc (.map #[] 0)).alloc (.cells #[.slice none 0 0, .map (some (w.heap.size + 1))] 59)) (w.heap.size + 1 + 1) (w.heap.size + 1) (w.heap.size + 1 + 1 + 1) none 0 [] := by
    obtain ⟨y0, y1, y2, _, _⟩ := alloc3 (w := w) (A := .cells #[.slice none 0 0, .map none] 59) (B := .map #[] 0) (C := .cells #[.slice none 0 0, .map (some (w.heap.size + 1))] 59) (Gr.refl _)
    obtain ⟨z0, _⟩ := alloc1 (w := w) (A := .cells #[.slice none 0 0, .map none] 59) (Gr.refl _)
    exact ⟨w.alloc (.cells #[.slice none 0 0, .map none] 59), (Gr.refl w).al _, by simp, z0, ((Gr.refl _).al _).al _, by simp, by simp, by simp, by simp, y2, y1, World.ownsRow_nil _ _ _ _⟩
  obtain ⟨W1, gw1, zw1, z1, IX0⟩ := start
  have IX0 := hid IX0; have GW := hid gw1; have Z1 := hid z1
  clear gw1 z1
  go_loopw [11] (fun u wr => ∃ (k : Nat) (A' : Option Addr) (c' : Nat), u = .int .i64 (k : Int) ∧ k ≤ xs.length ∧ Ix W1 wr (w.heap.size + 1 + 1) (w.heap.size + 1) (w.heap.size + 1 + 1 + 1) A' c' (xs.take k) ∧ ∀ (j : Nat) (x : Sdv), j < k → xs[j]? = some x → stepP (xs.take j) x) (fun u _ => xs.length - (intOf u).toNat)
  case atStart => exact ⟨0, none, 0, rfl, by omega, by simpa using IX0.out, fun j x hj => by omega⟩
  case round =>
    obtain ⟨k, A', c', rfl, hk, hix, hst⟩ := hrel
    have IX := hid hix; have ST := hid hst
    have GV := hid (GW.out.trans hix.g)
    have Y1 := hid (hix.g.keep Z1.out)
    clear hix hst
    by_cases hlt : k < xs.length
    · obtain ⟨x, hp⟩ : ∃ p, xs[k]? = some p := ⟨xs[k], List.getElem?_eq_getElem _⟩
      obtain ⟨ad, rfl, c1⟩ := (X.out.keep GV.out) k x hp
      have hS := hid (ch_sound ST.out)
      have h30 := hid (ch_30 hk ST.out)
      have htk : xs.take (k + 1) = xs.take k ++ [x] := by rw [List.take_add_one, hp]; rfl
      by_cases hs : stepP (xs.take k) x
      · have HA := hid fun w' (hg : Gr wr w') => iAdd_t W1 w' _ _ _ _ _ _ x (hid (IX.out.keep hg)) h30.out hS.out hs
        have ST2 : Hid (∀ (j : Nat) (y : Sdv), j < k + 1 → xs[j]? = some y → stepP (xs.take j) y) := hid fun j y hj hy => by
          by_cases hjk : j < k
          · exact ST.out j y hjk hy
          · have : j = k := by omega
            subst this
            rw [hp] at hy
            cases hy
            exact hs
        have HTK := hid htk
        clear hp htk hs
        obtain ⟨nm, f, a, b, e, d, p, q, m, g⟩ := x
        obtain ⟨_, _, _, _, _, _, _, _, _, _⟩ := c1
        go_wp2_with (go_at_call 84; refine (HA.out _ ((Gr.refl wr).al _)).mono ?_; rintro x w4 ⟨rfl, A2, c2, ix4⟩; have IX4 := hid ix4; clear ix4)
        refine ⟨⟨k + 1, A2, c2, by simp, by omega, ?_, ST2.out⟩, by simp [intOf]; omega⟩
        rw [HTK.out]
        exact IX4.out
      · have HA := hid fun w' (hg : Gr wr w') => iAdd_f W1 w' _ _ _ _ _ _ x (hid (IX.out.keep hg)) h30.out hS.out hs
        have hrf : r = false := by
          cases r with
          | false => rfl
          | true => exact absurd (HR.out.1 rfl k x hp) hs
        subst hrf
        clear hp htk hs
        obtain ⟨nm, f, a, b, e, d, p, q, m, g⟩ := x
        obtain ⟨_, _, _, _, _, _, _, _, _, _⟩ := c1
        go_wp2_with (go_at_call 84; refine (HA.out _ ((Gr.refl wr).al _)).mono ?_; rintro x w4 ⟨rfl, g4⟩; have Y4 := hid (((((Gr.refl wr).al _).trans g4)).keep Y1.out); have G4 := hid (GV.out.trans ((((Gr.refl wr).al _).trans g4))); obtain ⟨_, _⟩ := cells2 Y4.out; have _ := fz Y4.out; have _ := ltb Y4.out; clear g4)
        refine bodyPost_ret (v := .tuple #[.agg #[.slice none 0 0, .map none], .bool false]) (by simp [results, Tryd.results64, go_sem, *]) rfl ⟨none, 0, 0, none, rfl, ?_, fun h => by cases h⟩
        exact (G4.out.setCell (by simp) _).setCell (by simp) _
    · have hke : k = xs.length := by omega
      subst hke
      have hrt : r = true := HR.out.2 fun j y hy => ST.out j y (List.getElem?_eq_some_iff.1 hy).1 hy
      subst hrt
      obtain ⟨_, _⟩ := cells2 IX.out.xi
      have _ := ltb IX.out.xi
      obtain ⟨_, _⟩ := cells2 Y1.out
      have _ := fz Y1.out
      have _ := ltb Y1.out
      go_wp2_with fail
      refine bodyPost_ret (v := .tuple #[.agg #[.slice A' (xs.take xs.length).length c', .map (some (w.heap.size + 1))], .bool true]) (by simp [results, Tryd.results64, go_sem, *]) rfl ⟨_, _, _, _, rfl, ?_, ?_⟩
      · exact (GV.out.setCell (by simp) _).setCell (by simp) _
      · first | exact idx_back IX.out | exact fun _ => idx_back IX.out
end Go.Proofs.YtadpoocafhddeaaDoor
