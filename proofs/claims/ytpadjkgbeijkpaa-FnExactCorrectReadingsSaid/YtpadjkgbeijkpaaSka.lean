/- Slices of fractions wherever they lie: how they read; scales: how they come from the laws' values; compared. -/
import Derived.Test.YtpadjkgbeijkpaaFs
import Derived.Test.YtpadjkgbeijkpaaB1
import Derived.Test.YtpadjkgbeijkpaaB0
import Derived.Test.YtpadjkgbeijkpaaX1
import Derived.Test.YtpadjkgbeijkpaaFu
import Derived.Test.YtpadjkgbeijkpaaRgf
import Derived.Test.YtpadjkgbeijkpaaC0
namespace Go.Proofs.Ytpadjkgbeijkpaa
open Go.RowKit Go.Sort

/-- A slice of fractions at an address, whoever made it: its elements. -/
def RdF (w : World) (A : Option Addr) (xs : List (Int × Int)) : Prop := ∀ (k : Nat) (p q : Int), xs[k]? = some (p, q) → ∃ ad, A = some ad ∧ w.cell? (ad.add (k * 2)) = some (.int .i64 p) ∧ w.cell? ⟨(ad.add (k * 2)).block, (ad.add (k * 2)).off + 1, none⟩ = some (.int .i64 q)
theorem RdF.keep {w w' : World} {A : Option Addr} {xs : List (Int × Int)} (h : RdF w A xs) (hg : Gr w w') : RdF w' A xs := fun k p q hk => by
  obtain ⟨ad, e, c1, c2⟩ := h k p q hk
  have h2 := raw_lt c1
  exact ⟨ad, e, (hg.cell' (by rw [add_block]; exact h2)).trans c1, (hg.cell' (by show (ad.add (k * 2)).block < _; rw [add_block]; exact h2)).trans c2⟩
theorem RdF.of_block {w : World} {g : Nat} {T : TypeId} {xs : List (Int × Int)} (h : w.heap[g]? = some (.cells (flatA xs) T)) : RdF w (some ⟨g, 0, none⟩) xs := fun k p q hk => by
  obtain ⟨c1, c2⟩ := flat_cells h hk
  refine ⟨_, rfl, ?_, ?_⟩
  · have e : Addr.add ⟨g, 0, none⟩ (k * 2) = ⟨g, k * 2, none⟩ := by unfold Addr.add; split <;> simp_all
    rw [e]; exact c1
  · have e : Addr.add ⟨g, 0, none⟩ (k * 2) = ⟨g, k * 2, none⟩ := by unfold Addr.add; split <;> simp_all
    rw [e]; exact c2
theorem RdF.of_raw {w : World} {v : Value} {xs : List (Int × Int)} (h : RawF w v xs) : ∃ A cap, v = .slice A xs.length cap ∧ RdF w A xs := by
  rcases h with ⟨rfl, rfl⟩ | ⟨ad, cap, rfl, hr⟩
  · exact ⟨none, 0, rfl, fun k p q hk => by simp at hk⟩
  · exact ⟨some ad, cap, rfl, fun k p q hk => ⟨ad, rfl, hr k p q hk⟩⟩
theorem RdF.nil {w : World} {A : Option Addr} : RdF w A [] := fun k p q hk => by simp at hk

theorem Gr.atF {w wb : World} (h : Gr w wb) {a : Addr} {v : Value} (hc : w.cell? a = some v) : ∀ (m : Nat) (os : Array Obj), (grow (wb.drewN m) os).cell? a = some v := fun m os =>
  ((h.trans ⟨⟨m, os⟩, rfl⟩).cell' (World.block_lt_of_cell? _ _ hc)).trans hc
abbrev scl (a b : Int) (A : Option Addr) (n c : Nat) : Value := .agg #[.int .i64 a, .int .i64 b, .slice A n c]
theorem keepSet' {w : World} {g : Nat} {o : Obj} {a : Addr} {v : Value} (h : w.heap[g]? = some o) (hne : g ≠ a.block) : (w.setCell a v).heap[g]? = some o := by
  rw [Below.heap_setCell _ _ _ _ hne, h]
theorem set2_new3 {w : World} {g : Nat} {x y z a b : Value} {T : TypeId} (h : w.heap[g]? = some (.cells #[x, y, z] T)) :
    ((w.setCell ⟨g, 0, none⟩ a).setCell ⟨g, 1, none⟩ b).heap[g]? = some (.cells #[a, b, z] T) := by
  have e1 := Joins.block_setCell (i := 0) h a
  simpa using Joins.block_setCell (i := 1) e1 b
set_option maxHeartbeats 400000 in
theorem szF (A : Option Addr) (n c : Nat) (l : Int) (w : World) (h : n ≤ 9223372036854775807) (l0 : 0 ≤ l) (l1 : l ≤ 1048576) :
    Calls Try.prog 9 #[.slice A n c, .int .i64 l] w fun e w' => e = .returned (.int .i64 (if (n : Int) ≤ l then l - (n : Int) else -1)) ∧ Gr w w' := by
  by_cases h1 : (n : Int) ≤ l
  · rw [if_pos h1]
    go_enter Try.func9, Try.ntmps9
    go_wp2
    go_ret
    exact ⟨rfl, Gr.refl _⟩
  · rw [if_neg h1]
    go_enter Try.func9, Try.ntmps9
    go_wp2
    go_ret
    exact ⟨rfl, Gr.refl _⟩
set_option maxRecDepth 20000 in
set_option maxHeartbeats 1000000 in
theorem eqF_any (A A' : Option Addr) (c c' : Nat) (xs : List (Int × Int)) (w : World) (X1 : Hid (RdF w A xs)) (X2 : Hid (RdF w A' xs)) (hn : xs.length ≤ 1048576) :
    Calls Try.prog 15 #[.slice A xs.length c, .slice A' xs.length c'] w fun e w' => e = .returned (.bool true) ∧ Gr w w' := by
  go_enter Try.func15, Try.ntmps15
  go_wp2_with fail
  go_loopw [5] (fun u wr => ∃ (k : Nat), u = .int .i64 (k : Int) ∧ k ≤ xs.length ∧ Gr w wr) (fun u _ => xs.length - (intOf u).toNat)
  case atStart => exact ⟨0, rfl, by omega, Gr.refl _⟩
  case round =>
    obtain ⟨k, rfl, hk, g0⟩ := hrel
    by_cases hlt : k < xs.length
    · obtain ⟨⟨p, q⟩, hpq⟩ : ∃ pq, xs[k]? = some pq := ⟨xs[k], List.getElem?_eq_getElem _⟩
      obtain ⟨ad, rfl, c1, c2⟩ := (X1.out.keep g0) k p q hpq
      obtain ⟨ad', rfl, c3, c4⟩ := (X2.out.keep g0) k p q hpq
      have GW := hid g0; have C1 := hid c1; have C2 := hid c2; have C3 := hid c3; have C4 := hid c4; clear g0 hpq c1 c2 c3 c4
      go_wp2_with fail
      refine wp_reg0 9 (by kernel_rfl) (by kernel_rfl) ?_
      apply Exists.intro
      refine ⟨fun wb hb => ?_, ?_⟩
      · have _ := hb.atF C1.out; have _ := hb.atF C2.out; have _ := hb.atF C3.out; have _ := hb.atF C4.out
        simp only [headOps, List.contains, List.elem, reduceIte, Bool.false_eq_true]
        repeat (first | go_big_quiet_step (first | (go_at_call 51; exact Calls.of_gr (eqFrac_any _ _ _))) | quiet_step (fail))
        exact wpQuiet_nil rfl
      intro w1 hg1
      have G1 := hid (GW.out.trans hg1)
      clear hg1
      go_wp2_with fail
      exact ⟨⟨k + 1, by simp, by omega, G1.out⟩, by simp [intOf]; omega⟩
    · go_wp2_with fail
      go_ret
      exact ⟨rfl, g0⟩
end Go.Proofs.Ytpadjkgbeijkpaa
namespace Go.Proofs.Ytpadjkgbeijkpaa
open Go.RowKit Go.Sort

def mkP (a b k p q : Int) : Int := redP (n1P a b k * q + p * n1Q a b k) (n1Q a b k * q)
def mkQ (a b k p q : Int) : Int := redQ (n1P a b k * q + p * n1Q a b k) (n1Q a b k * q)
/-- Can a mark be told, its unit times k being told? -/
def mk2 (a b k p q : Int) : Bool := okB (mkP a b k p q) (mkQ a b k p q)
theorem plusm_t (a b k p q : Int) (w : World) (h2 : okB p q = true) (g1 : n1B a b k = true) (g2 : mk2 a b k p q = true) :
    Calls Try.prog 141 #[fr (n1P a b k) (n1Q a b k), fr p q] w fun e w' => e = .returned (fr (mkP a b k p q) (mkQ a b k p q)) ∧ Gr w w' := plus_yes _ _ p q w g1 h2 g2
theorem saddm_t (a b k p q : Int) (w : World) (h2 : okB p q = true) (g1 : n1B a b k = true) (g2 : mk2 a b k p q = true) :
    Calls Try.prog 77 #[fr (n1P a b k) (n1Q a b k), fr p q] w fun e w' => e = .returned (.tuple #[fr (mkP a b k p q) (mkQ a b k p q), .int .i64 0]) ∧ Gr w w' := sadd_t _ _ p q w g1 h2 g2
theorem saddm_f (a b k p q : Int) (w : World) (h2 : okB p q = true) (g1 : n1B a b k = true) (g2 : mk2 a b k p q = false) :
    Calls Try.prog 77 #[fr (n1P a b k) (n1Q a b k), fr p q] w fun e w' => e = .returned (.tuple #[fr 0 0, .int .i64 3]) ∧ Gr w w' := sadd_f _ _ p q w g1 h2 g2
/-- Can a mark be told? -/
def mkB (a b k p q : Int) : Bool := n1B a b k && mk2 a b k p q
end Go.Proofs.Ytpadjkgbeijkpaa
namespace Go.Proofs.Ytpadjkgbeijkpaa
open Go.RowKit Go.Sort Go.Shelf
attribute [local go_sem] Oper.semAt_some wide_fn

/-- All marks of a scale. -/
def mks (a b : Int) (xs : List (Int × Int)) : List (Int × Int) := xs.mapIdx fun k x => (mkP a b k x.1 x.2, mkQ a b k x.1 x.2)
theorem mks_len (a b : Int) (xs : List (Int × Int)) : (mks a b xs).length = xs.length := by simp [mks]
theorem mks_get {a b : Int} {xs : List (Int × Int)} {k : Nat} {p q : Int} (h : xs[k]? = some (p, q)) : (mks a b xs)[k]? = some (mkP a b k p q, mkQ a b k p q) := by
  simp [mks, h]
def encF (l : List (Int × Int)) (k : Nat) : Array Value := #[fr (l.getD k (0, 0)).1 (l.getD k (0, 0)).2]
theorem encF_mks {a b : Int} {xs : List (Int × Int)} {k : Nat} {p q : Int} (h : xs[k]? = some (p, q)) : encF (mks a b xs) k = #[fr (mkP a b k p q) (mkQ a b k p q)] := by
  unfold encF
  rw [List.getD_eq_getElem?_getD, mks_get h]
  rfl
def TooGreat (ch : List PanicEntry) : Prop := ∃ x y, ch = [{ v := .iface 183 (fr x y), recovered := false }]
/-- Can all marks be told? -/
def AllMk (a b : Int) (xs : List (Int × Int)) : Prop := ∀ (k : Nat) (p q : Int), xs[k]? = some (p, q) → mkB a b k p q = true
end Go.Proofs.Ytpadjkgbeijkpaa
namespace Go.Proofs.Ytpadjkgbeijkpaa
open Go.RowKit Go.Sort Go.Shelf
attribute [local go_sem] Oper.semAt_some wide_fn

/-- The box of a slice that owns the first k of L. -/
def Boxed2 (w0 : World) (B : Nat) (L : List (Int × Int)) (k : Nat) (W : World) : Prop :=
  Gr w0 W ∧ ∃ v, W.heap[B]? = some (.cells #[v] 37) ∧ W.ownsRow w0.heap.size 33 2 v k (flatL (L.take k))
theorem flatL_append (xs ys : List (Int × Int)) : flatL (xs ++ ys) = flatL xs ++ flatL ys := by simp [flatL]
theorem flatL_one (p q : Int) : flatL [(p, q)] = [.int .i64 p, .int .i64 q] := by simp [flatL]
theorem own_keep {W W' : World} {v : Value} {k : Nat} {xs : List Value} {e : TypeId} {sz base : Nat} (h : W.ownsRow base e sz v k xs) (hg : Gr W W') : W'.ownsRow base e sz v k xs := by
  refine ⟨h.1, ?_⟩
  rcases h.2 with h | ⟨g, cap, cur, h1, h2, h3, h4⟩
  · exact .inl h
  · exact .inr ⟨g, cap, cur, h1, h2, hg.keep h3, h4⟩
theorem own_put {W : World} {v : Value} {k : Nat} {xs : List Value} {e : TypeId} {sz base : Nat} (h : W.ownsRow base e sz v k xs) {r : Nat} {o : Obj} (o' : Obj) (hr : W.heap[r]? = some o) (hc : o.isCells = false) : (W.putObj r o').ownsRow base e sz v k xs := by
  refine ⟨h.1, ?_⟩
  rcases h.2 with h | ⟨g, cap, cur, h1, h2, h3, h4⟩
  · exact .inl h
  · refine .inr ⟨g, cap, cur, h1, h2, (World.putObj_heap_other ?_).trans h3, h4⟩
    rintro rfl
    rw [h3] at hr
    cases hr
    cases hc
theorem heap_put {W : World} {b r : Nat} {cs : Array Value} {T : TypeId} {o : Obj} (o' : Obj) (h : W.heap[b]? = some (.cells cs T)) (hr : W.heap[r]? = some o) (hc : o.isCells = false) : (W.putObj r o').heap[b]? = some (.cells cs T) := by
  refine (World.putObj_heap_other ?_).trans h
  rintro rfl
  rw [h] at hr
  cases hr
  cases hc
/-- What is collected of a function that hands over L. -/
def seqPost (S : Option (List PanicEntry → Prop)) (L : List (Int × Int)) (w : World) (e : Ending) (w' : World) : Prop :=
  match S with
  | none => ∃ v, e = .returned v ∧ w'.ownsRow w.heap.size 33 2 v L.length (flatL L) ∧ Gr w w'
  | some S => ∃ ch, e = .panicked ch ∧ S ch ∧ Gr w w'
end Go.Proofs.Ytpadjkgbeijkpaa
namespace Go.Proofs.Ytpadjkgbeijkpaa
open Go.RowKit Go.Sort

end Go.Proofs.Ytpadjkgbeijkpaa
