/- WALKS: WarmScale, of the program. -/
import Derived.Test.YtpadjkgbeijkpaaDoorWa
import Derived.Test.YtpadjkgbeijkpaaDoorCc
import Derived.Test.YtpadjkgbeijkpaaDoorX1
namespace Go.Proofs.YtpadjkgbeijkpaaDoor
open Go.RowKit Go.Sort

def wsP (s t : Int) : Int := redP (1 * t + s * 1) (1 * t)
def wsQ (s t : Int) : Int := redQ (1 * t + s * 1) (1 * t)
def wsB (s t : Int) : Bool := okB (wsP s t) (wsQ s t)
def wxP (p q S T : Int) : Int := redP (p * S) (q * T)
def wxQ (p q S T : Int) : Int := redQ (p * S) (q * T)
def wxB (p q S T : Int) : Bool := okB (wxP p q S T) (wxQ p q S T)
theorem wok11 : okB 1 1 = true := by decide
theorem wfit11 (w : World) : Calls Tryd.prog 57 #[.int .i64 1, .int .i64 1] w fun e w' => e = .returned (fr 1 1) ∧ Gr w w' := fit_ok 1 1 w (by decide) (by decide)
theorem wplus_t (s t : Int) (w : World) (h : okB s t = true) (g : wsB s t = true) : Calls Tryd.prog 162 #[fr 1 1, fr s t] w fun e w' => e = .returned (fr (wsP s t) (wsQ s t)) ∧ Gr w w' := plus_yes 1 1 s t w wok11 h g
theorem wplus_f (s t : Int) (w : World) (h : okB s t = true) (g : wsB s t = false) : Calls Tryd.prog 162 #[fr 1 1, fr s t] w fun e w' => (∃ x y, e = .panicked [{ v := .iface 147 (fr x y), recovered := false }]) ∧ Gr w w' := plus_no 1 1 s t w wok11 h g
theorem wtimes_t (p q S T : Int) (w : World) (h1 : okB p q = true) (h2 : okB S T = true) (g : wxB p q S T = true) : Calls Tryd.prog 176 #[fr p q, fr S T] w fun e w' => e = .returned (fr (wxP p q S T) (wxQ p q S T)) ∧ Gr w w' := times_yes p q S T w h1 h2 g
theorem wtimes_f (p q S T : Int) (w : World) (h1 : okB p q = true) (h2 : okB S T = true) (g : wxB p q S T = false) : Calls Tryd.prog 176 #[fr p q, fr S T] w fun e w' => (∃ x y, e = .panicked [{ v := .iface 147 (fr x y), recovered := false }]) ∧ Gr w w' := times_no p q S T w h1 h2 g
/-- every fraction times S / T; the first k of them -/
def wxL (S T : Int) (l : List (Int × Int)) : List (Int × Int) := l.map fun x => (wxP x.1 x.2 S T, wxQ x.1 x.2 S T)
def AllW (S T : Int) (l : List (Int × Int)) : Prop := ∀ (k : Nat) (p q : Int), l[k]? = some (p, q) → wxB p q S T = true
def wxK (S T : Int) (l : List (Int × Int)) (k : Nat) : List (Int × Int) := (wxL S T l).take k ++ l.drop k
theorem wxL_len (S T : Int) (l : List (Int × Int)) : (wxL S T l).length = l.length := by simp [wxL]
theorem wxL_take {S T : Int} {l : List (Int × Int)} {k : Nat} {p q : Int} (h : l[k]? = some (p, q)) : (wxL S T l).take (k + 1) = (wxL S T l).take k ++ [(wxP p q S T, wxQ p q S T)] := by
  rw [List.take_add_one]
  unfold wxL
  rw [List.getElem?_map, h]
  rfl
theorem wxK_len {S T : Int} {l : List (Int × Int)} {k : Nat} (h : k ≤ l.length) : (wxK S T l k).length = l.length := by
  unfold wxK
  rw [List.length_append, List.length_take, wxL_len, List.length_drop]
  omega
theorem wxK_get {S T : Int} {l : List (Int × Int)} {k : Nat} {p q : Int} (h : l[k]? = some (p, q)) : (wxK S T l k)[k]? = some (p, q) := by
  have hk : k < l.length := (List.getElem?_eq_some_iff.1 h).1
  have hl : ((wxL S T l).take k).length = k := by rw [List.length_take, wxL_len]; omega
  unfold wxK
  rw [List.getElem?_append_right (by omega), hl, Nat.sub_self, List.getElem?_drop]
  simpa using h
theorem wxK_set {S T : Int} {l : List (Int × Int)} {k : Nat} {p q : Int} (h : l[k]? = some (p, q)) : (wxK S T l k).set k (wxP p q S T, wxQ p q S T) = wxK S T l (k + 1) := by
  have hk : k < l.length := (List.getElem?_eq_some_iff.1 h).1
  have hl : ((wxL S T l).take k).length = k := by rw [List.length_take, wxL_len]; omega
  unfold wxK
  rw [List.set_append_right _ _ (by omega), hl, Nat.sub_self, wxL_take h, List.drop_eq_getElem_cons hk, List.set_cons_zero]
  simp
theorem wxK_all (S T : Int) (l : List (Int × Int)) : wxK S T l l.length = wxL S T l := by
  unfold wxK
  rw [List.take_of_length_le (by rw [wxL_len]; exact Nat.le_refl _)]
  simp
theorem flatL_cell1 (xs : List (Int × Int)) : ∀ u ∈ flatL xs, u.oneCell' = true := by
  intro u hu
  unfold flatL at hu
  simp only [List.mem_flatMap] at hu
  obtain ⟨x, _, hx⟩ := hu
  simp only [List.mem_cons, List.not_mem_nil, or_false] at hx
  rcases hx with rfl | rfl <;> rfl
theorem rdV_of {w : World} {A : Option Addr} {xs : List (Int × Int)} (X : RdF w A xs) : RdV w A (flatL xs) := by
  cases xs with
  | nil => exact .inl rfl
  | cons x r =>
    obtain ⟨ad, rfl, _⟩ := X 0 x.1 x.2 rfl
    exact .inr ⟨ad, rfl, flat_news X⟩
set_option maxRecDepth 20000 in
set_option maxHeartbeats 400000 in
theorem ifracs (a b : Int) (A : Option Addr) (c : Nat) (xs : List (Int × Int)) (w : World) (X : Hid (RdF w A xs)) (hn : xs.length ≤ 1000) :
    Calls Tryd.prog 45 #[scl a b A xs.length c] w fun e w' => ∃ A' c', e = .returned (.slice A' (1 + xs.length) c') ∧ w'.ownsRow w.heap.size 23 2 (.slice A' (1 + xs.length) c') (1 + xs.length) (flatL ((a, b) :: xs)) ∧ Gr w w' := by
  go_enter Tryd.func45, Tryd.ntmps45
  go_wp2_with fail
  have hU := one_newsF (w := ((w.alloc (.cells #[.int .i64 a, .int .i64 b, .slice A xs.length c] 41)).alloc (.cells #[.int .i64 a, .int .i64 b] 23)).alloc (.cells #[.slice (some ⟨w.heap.size + 1, 0, none⟩) 1 1, .slice A xs.length c] 39)) (b := w.heap.size + 1) (alloc3 (Gr.refl _)).2.1
  refine (iConcatF (w.heap.size + 1 + 1) 1 xs.length 1 c (some ⟨w.heap.size + 1, 0, none⟩) A [.int .i64 a, .int .i64 b] (flatL xs) 39 _ (hid (alloc3 (Gr.refl _)).2.2.1) (hid (.inr ⟨_, rfl, hU⟩)) (hid (rdV_of (X.out.keep ((((Gr.refl w).al _).al _).al _)))) (hid rfl) (hid (flatL_len xs)) (by omega) (by omega) (by simp [Value.oneCell']) (flatL_cell1 xs)).mono ?_
  rintro e w1 ⟨A', c', rfl, own, hg⟩
  have OWN := hid (own_base own (show w.heap.size ≤ _ by simp; omega)); have G1 := hid (((((Gr.refl w).al _).al _).al _).trans hg)
  clear own hg hU
  go_wp2_with fail
  go_ret
  exact ⟨A', c', rfl, OWN.out, G1.out⟩
end Go.Proofs.YtpadjkgbeijkpaaDoor
