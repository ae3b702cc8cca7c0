/- WALKS: errors of intervals, of the program and of the reference. -/
import Derived.Test.YtpadjkgbeijkpaaDoorFm
import Derived.Test.YtpadjkgbeijkpaaDoorRegC
import Derived.Test.YtpadjkgbeijkpaaDoorSkf
namespace Go.Proofs.YtpadjkgbeijkpaaDoor
open Go.RowKit Go.Sort

theorem ownF_set {W : World} {base : Nat} {n c b : Nat} {A : Option Addr} {ys : List (Int × Int)} {x : Value} (h : W.ownsRow base 23 2 (.slice A n c) n (flatL ys)) (hb : W.heap[b]? = some (.cells #[x] 2)) (y : Value) :
    (W.setCell ⟨b, 0, none⟩ y).ownsRow base 23 2 (.slice A n c) n (flatL ys) := by
  refine ⟨h.1, ?_⟩
  rcases h.2 with h0 | ⟨g, cap, cur, h1, h2, h3, h4⟩
  · exact .inl h0
  · refine .inr ⟨g, cap, cur, h1, h2, keepSet' h3 ?_, h4⟩
    intro he
    subst he
    rw [h3] at hb
    cases hb
/-! told, of a method that is bound to a value -/
set_option maxRecDepth 20000 in
set_option maxHeartbeats 400000 in
theorem toldB_ok (f : Nat) (u : Value) (n : Nat) (ys : List (Int × Int)) (w : World) (hen : ∀ w, (callFunc f #[u]).run Tryd.prog w = .ok (.enter f #[u]) w) (hF : ∀ w', Gr w w' → Calls Tryd.prog f #[u] w' fun e w'' => ∃ A c, e = .returned (.slice A n c) ∧ w''.ownsRow w'.heap.size 23 2 (.slice A n c) n (flatL ys) ∧ Gr w' w'') :
    Calls Tryd.prog 85 #[.func (.func f) #[u] #[]] w fun e w' => ∃ A c, e = .returned (.tuple #[.slice A n c, .int .i64 0]) ∧ w'.ownsRow w.heap.size 23 2 (.slice A n c) n (flatL ys) ∧ Gr w w' := by
  have HF := hid hF; clear hF
  go_enter_defers Tryd.func85, Tryd.ntmps85
  go_wp2_with fail
  refine (HF.out _ (Gr.alloc _ _)).mono ?_
  rintro e w1 ⟨A, c, rfl, hR, hg⟩
  obtain ⟨x1, hz, G1⟩ := alloc1 hg
  have _ := cells1 x1
  have _ := fz x1
  have G1 := hid G1; have HR := hid (own_base hR (show w.heap.size ≤ _ by simp)); have X1 := hid x1
  clear hg x1 hR
  go_wp2_with fail
  refine leaves_cons (f := 124) (args := #[.pointer (some ⟨w.heap.size, 0, none⟩)]) (by simp) (by simp [go_sem]) ?_
  refine (catch_idle_L _ _).mono ?_
  rintro e u' w2 ⟨rfl, rfl, rfl⟩
  simp [Leaves, settle, results, Tryd.results85, go_sem, *]
  exact ⟨A, c, ⟨rfl, rfl⟩, ownF_set HR.out X1.out _, G1.out.setCell (by simp) _⟩
set_option maxRecDepth 20000 in
set_option maxHeartbeats 400000 in
theorem toldB_great (f : Nat) (u : Value) (w : World) (hen : ∀ w, (callFunc f #[u]).run Tryd.prog w = .ok (.enter f #[u]) w) (hF : ∀ w', Gr w w' → Calls Tryd.prog f #[u] w' fun e w'' => (∃ p q, e = .panicked [{ v := .iface 147 (fr p q), recovered := false }]) ∧ Gr w' w'') :
    Calls Tryd.prog 85 #[.func (.func f) #[u] #[]] w fun e w' => e = .returned (.tuple #[.slice none 0 0, .int .i64 3]) ∧ Gr w w' := by
  have HF := hid hF; clear hF
  go_enter_defers Tryd.func85, Tryd.ntmps85
  go_wp2_with fail
  refine (HF.out _ (Gr.alloc _ _)).mono ?_
  rintro e w1 ⟨⟨p, q, rfl⟩, hg⟩
  obtain ⟨x1, hz, G1⟩ := alloc1 hg
  refine leaves_cons (f := 124) (args := #[.pointer (some ⟨w.heap.size, 0, none⟩)]) (by simp) (by simp [go_sem]) ?_
  refine (catch_great_L _ _ _ _ _ _ x1).mono ?_
  rintro e u' w2 ⟨rfl, rfl, w3, hg3, rfl⟩
  have _ := cells1 (hg3.keep x1)
  simp [Leaves, settle, results, Tryd.results85, go_sem, *]
  exact (G1.trans hg3).setCell (by simp) _

/-! The differences -/
def sbP (p q r s : Int) : Int := redP (p * s - r * q) (q * s)
def sbQ (p q r s : Int) : Int := redQ (p * s - r * q) (q * s)
def sbB (p q r s : Int) : Bool := okB (sbP p q r s) (sbQ p q r s)
def ivAt (xs : List (Int × Int)) (k : Nat) : Int × Int := (sbP (xs.getD (k + 1) (0, 0)).1 (xs.getD (k + 1) (0, 0)).2 (xs.getD k (0, 0)).1 (xs.getD k (0, 0)).2, sbQ (xs.getD (k + 1) (0, 0)).1 (xs.getD (k + 1) (0, 0)).2 (xs.getD k (0, 0)).1 (xs.getD k (0, 0)).2)
def ivs (xs : List (Int × Int)) : List (Int × Int) := (List.range (xs.length - 1)).map (ivAt xs)
def AllV (xs : List (Int × Int)) : Prop := ∀ (k : Nat) (p q r s : Int), xs[k]? = some (r, s) → xs[k + 1]? = some (p, q) → sbB p q r s = true
theorem ivs_len (xs : List (Int × Int)) : (ivs xs).length = xs.length - 1 := by simp [ivs]
theorem ivs_take {xs : List (Int × Int)} {k : Nat} {p q r s : Int} (h0 : xs[k]? = some (r, s)) (h1 : xs[k + 1]? = some (p, q)) : (ivs xs).take (k + 1) = (ivs xs).take k ++ [(sbP p q r s, sbQ p q r s)] := by
  have hlt : k + 1 < xs.length := (List.getElem?_eq_some_iff.1 h1).1
  have hg : (ivs xs)[k]? = some (sbP p q r s, sbQ p q r s) := by
    unfold ivs
    rw [List.getElem?_map, List.getElem?_range (by omega)]
    simp [ivAt, List.getD_eq_getElem?_getD, h0, h1]
  rw [List.take_add_one, hg]
  rfl
theorem add_two (ad : Addr) (n : Nat) : ad.add (2 + n) = ⟨ad.block, ad.off + 2 + n, none⟩ := by
  unfold Addr.add
  rw [if_neg (by omega), Nat.add_assoc]

/-! The reference -/
/-! IntervalErrors -/
end Go.Proofs.YtpadjkgbeijkpaaDoor
