/- A scale whose errors lie in the midst of memory of the call's own: reading, marks, told. -/
import Derived.Test.YtjhlpaeenjbljaaCt
import Derived.Test.YtjhlpaeenjbljaaMk
import Derived.Test.YtjhlpaeenjbljaaOg
namespace Go.Proofs.Ytjhlpaeenjbljaa
open Go.RowKit Go.Sort

/-- These fractions lie, from some cell on, in a block of fractions. -/
def OwnW (w : World) (A : Option Addr) (ys : List (Int × Int)) : Prop := ys = [] ∨ ∃ (g o : Nat) (cs : Array Value), A = some ⟨g, o, none⟩ ∧ w.heap[g]? = some (.cells cs 24) ∧ o + ys.length * 2 ≤ cs.size ∧ ∀ (k : Nat) (p q : Int), ys[k]? = some (p, q) → cs[o + k * 2]? = some (.int .i64 p) ∧ cs[o + k * 2 + 1]? = some (.int .i64 q)
theorem OwnW.rd {w : World} {A : Option Addr} {ys : List (Int × Int)} (h : OwnW w A ys) : RdF w A ys := fun k p q hk => by
  rcases h with rfl | ⟨g, o, cs, rfl, hg, _, hc⟩
  · simp at hk
  · obtain ⟨c1, c2⟩ := hc k p q hk
    refine ⟨_, rfl, ?_, ?_⟩
    · rw [add_at2]; simp [World.cell?, hg, c1]
    · rw [add_at2]; simp [World.cell?, hg, c2]
theorem OwnW.keep {w w' : World} {A : Option Addr} {ys : List (Int × Int)} (h : OwnW w A ys) (hg : Gr w w') : OwnW w' A ys := by
  rcases h with rfl | ⟨g, o, cs, rfl, h1, h2, hc⟩
  · exact .inl rfl
  · exact .inr ⟨g, o, cs, rfl, hg.keep h1, h2, hc⟩
theorem OwnW.only {w w' : World} {g : Nat} {A : Option Addr} {ys : List (Int × Int)} (h : OwnW w A ys) (o : Only g w w') (hne : ∀ ad, A = some ad → ad.block ≠ g) : OwnW w' A ys := by
  rcases h with rfl | ⟨g', o', cs, rfl, h1, h2, hc⟩
  · exact .inl rfl
  · exact .inr ⟨g', o', cs, rfl, o.1 _ _ (hne _ rfl) h1, h2, hc⟩
theorem OwnW.set {w : World} {A : Option Addr} {ys : List (Int × Int)} (h : OwnW w A ys) {a : Addr} (hne : ∀ ad, A = some ad → ad.block ≠ a.block) (v : Value) : OwnW (w.setCell a v) A ys := by
  rcases h with rfl | ⟨g', o', cs, rfl, h1, h2, hc⟩
  · exact .inl rfl
  · exact .inr ⟨g', o', cs, rfl, keepSet' h1 (hne _ rfl), h2, hc⟩
theorem OwnW.of_own {w : World} {base c : Nat} {A : Option Addr} {ys : List (Int × Int)} (h : w.ownsRow base 24 2 (.slice A ys.length c) ys.length (flatL ys)) : OwnW w A ys := by
  by_cases h0 : 0 < ys.length
  · obtain ⟨g, rest, rfl, _, hg, _, _⟩ := own_openF h h0
    refine .inr ⟨g, 0, _, rfl, hg, by rw [fracR_size]; omega, fun k p q hk => ?_⟩
    have := fracR_get (rest := rest) hk
    simpa using this
  · exact .inl (List.eq_nil_of_length_eq_zero (by omega))
def GivesW (w w' : World) (e : Ending) (a b : Int) (ys : List (Int × Int)) (C : Int) : Prop := ∃ A c, e = .returned (.tuple #[scl a b A ys.length c, .int .i64 C]) ∧ (∀ ad, A = some ad → w.heap.size ≤ ad.block ∧ ad.block < w'.heap.size) ∧ OwnW w' A ys ∧ Gr w w'
theorem givesW_of {w w' : World} {e : Ending} {a b : Int} {ys : List (Int × Int)} {C : Int} (h : GivesS w w' e a b ys C) : GivesW w w' e a b ys C := by
  obtain ⟨A, c, he, ho, hg⟩ := h
  exact ⟨A, c, he, own_lt ho, OwnW.of_own ho, hg⟩
set_option maxRecDepth 20000 in
set_option maxHeartbeats 1000000 in
theorem markF_off (g o cap n : Nat) (k0 : Int) (cs : Array Value) (T : TypeId) (w : World) (X : Hid (w.heap[g]? = some (.cells cs T))) (hn : o + n * 2 ≤ cs.size) (hn2 : n ≤ 1048576) (h1 : 0 ≤ k0) (h2 : k0 ≤ 10000000) :
    Calls Try.prog 31 #[.slice (some ⟨g, o, none⟩) n cap, .int .i64 k0] w fun e w' => e = .returned (.int .i64 (k0 + ((n * 2 : Nat) : Int))) ∧ (∃ ds : Array Value, w'.heap[g]? = some (.cells ds T) ∧ ∀ i, i < n * 2 → ds[o + i]? = some (.int .i64 (k0 + (i : Int)))) ∧ Only g w w' := by
  go_enter Try.func31, Try.ntmps31
  go_wp2_with fail
  go_loopw [1, 5] (fun v u wr => ∃ (k : Nat) (ds : Array Value), u = .int .i64 (k : Int) ∧ v = .int .i64 (k0 + (k : Int) * 2) ∧ k ≤ n ∧ wr.heap[g]? = some (.cells ds T) ∧ ds.size = cs.size ∧ (∀ i, i < k * 2 → ds[o + i]? = some (.int .i64 (k0 + (i : Int)))) ∧ Only g w wr) (fun _ u _ => n - (intOf u).toNat)
  case atStart => exact ⟨0, cs, rfl, by simp, by omega, X.out, rfl, fun i h => by omega, Only.refl _ _⟩
  case round =>
    obtain ⟨k, ds, rfl, rfl, hk, x0, hds, hms, ho⟩ := hrel
    have HO := hid ho; have X0 := hid x0; have HDS := hid hds; have HMS := hid hms
    clear ho hms hds
    by_cases hlt : k < n
    · have hs2 : o + k * 2 + 1 < ds.size := by rw [HDS.out]; omega
      obtain ⟨v0, hv0⟩ : ∃ v, ds[o + k * 2]? = some v := ⟨_, Array.getElem?_eq_getElem (by omega)⟩
      obtain ⟨v1, hv1⟩ : ∃ v, ds[o + k * 2 + 1]? = some v := ⟨_, Array.getElem?_eq_getElem (by omega)⟩
      have c1 : wr.cell? ⟨g, o + k * 2, none⟩ = some v0 := by simp [World.cell?, x0, hv0]
      have c2 : wr.cell? ⟨g, o + k * 2 + 1, none⟩ = some v1 := by simp [World.cell?, x0, hv1]
      have f1 := fz x0
      have HS2 := hid hs2
      have ea := add_at2 g o (k * 2)
      clear x0 hv0 hv1 hs2
      go_wp2_with fail
      refine ⟨⟨k + 1, _, by simp, by simp; omega, by omega, Joins.block_setCell (i := o + k * 2 + 1) (Joins.block_setCell (i := o + k * 2) X0.out _) _, by simp [HDS.out], fun i hi => ?_, (HO.out.set _ _).set _ _⟩, by simp [intOf]; omega⟩
      have hs2 := HS2.out
      rw [Array.getElem?_setIfInBounds]
      by_cases e1 : o + k * 2 + 1 = o + i
      · rw [if_pos e1, if_pos (by simp; omega)]
        have : i = k * 2 + 1 := by omega
        subst this
        congr 2
        simp; omega
      · rw [if_neg e1, Array.getElem?_setIfInBounds]
        by_cases e2 : o + k * 2 = o + i
        · rw [if_pos e2, if_pos (by omega)]
          have : i = k * 2 := by omega
          subst this
          congr 2
        · rw [if_neg e2]
          exact HMS.out i (by omega)
    · have hke : k = n := by omega
      subst hke
      clear x0
      go_wp2_with fail
      go_ret
      exact ⟨ret_int (by omega), ⟨ds, X0.out, HMS.out⟩, HO.out⟩
theorem markOwnWF (A : Option Addr) (c : Nat) (ys : List (Int × Int)) (base : Nat) (k0 : Int) (w : World) (O : Hid (OwnW w A ys)) (hb : ∀ ad, A = some ad → base ≤ ad.block) (hn : ys.length ≤ 1048576) (h1 : 0 ≤ k0) (h2 : k0 ≤ 10000000) :
    Calls Try.prog 31 #[.slice A ys.length c, .int .i64 k0] w fun e w' => e = .returned (.int .i64 (k0 + ((ys.length * 2 : Nat) : Int))) ∧ (∃ g, base ≤ g ∧ Only g w w') ∧ RdF w' A (mksF k0 ys.length) ∧ Others 24 w w' := by
  rcases O.out with rfl | ⟨g, o, cs, rfl, hg, hsz, _⟩
  · refine (markF_zero A c k0 w).mono ?_
    rintro e w' ⟨rfl, rfl⟩
    exact ⟨by simp, ⟨base, Nat.le_refl _, Only.refl _ _⟩, fun k p q hk => by simp [mksF] at hk, fun b cs T _ h => h⟩
  · refine (markF_off g o c ys.length k0 cs _ w (hid hg) hsz hn h1 h2).mono ?_
    rintro e w' ⟨rfl, ⟨ds, hx, hms⟩, ho⟩
    refine ⟨rfl, ⟨g, hb _ rfl, ho⟩, fun k p q hk => ⟨_, rfl, ?_⟩, fun b cs' T hT hcs => ho.1 b _ (fun he => ?_) hcs⟩
    · have hkl : k < ys.length := by have := (List.getElem?_eq_some_iff.1 hk).1; rwa [mksF_len] at this
      rw [mksF_get _ _ hkl] at hk
      cases hk
      rw [add_at2]
      have a1 := hms (k * 2) (by omega)
      have a2 := hms (k * 2 + 1) (by omega)
      constructor
      · simp only [World.cell?, hx]; simpa using a1
      · simp only [World.cell?, hx]; simpa [Nat.add_assoc] using a2
    · subst he
      rw [hg] at hcs
      injection hcs with e1
      injection e1 with _ e2
      exact hT e2.symm
set_option maxRecDepth 20000 in
set_option maxHeartbeats 400000 in
theorem markOwnW (a b : Int) (A : Option Addr) (c : Nat) (ys : List (Int × Int)) (base : Nat) (k0 : Int) (w : World) (O : Hid (OwnW w A ys)) (hb : ∀ ad, A = some ad → base ≤ ad.block) (hn : ys.length ≤ 1048576) (h1 : 0 ≤ k0) (h2 : k0 ≤ 10000000) :
    Calls Try.prog 16 #[scl a b A ys.length c, .int .i64 k0] w fun e w' => e = .returned (.int .i64 (k0 + ((ys.length * 2 : Nat) : Int))) ∧ (∃ g, base ≤ g ∧ Only g w w') ∧ RdF w' A (mksF k0 ys.length) ∧ Others 24 w w' := by
  have HB := hid hb; clear hb
  go_enter Try.func16, Try.ntmps16
  go_wp2_with fail
  refine (markOwnWF A c ys base k0 _ (hid (O.out.keep ((Gr.refl w).al _))) HB.out hn h1 h2).mono ?_
  rintro e w1 ⟨rfl, ⟨g, hb, ho⟩, hx, ht⟩
  have HX := hid hx; have HO := hid (Only.of_gr ((Gr.refl w).al _) ho)
  have HT : Hid (Others 24 w w1) := hid fun b cs T hT h => ht b cs T hT (((Gr.refl w).al _).keep h)
  clear hx ho ht
  go_wp2_with fail
  go_ret
  exact ⟨rfl, ⟨g, hb, HO.out⟩, HX.out, HT.out⟩
set_option maxRecDepth 20000 in
set_option maxHeartbeats 400000 in
theorem toldW_ok (f : Nat) (cap : Array Value) (a b : Int) (ys : List (Int × Int)) (w : World) (hen : ∀ w, (callFunc f cap).run Try.prog w = .ok (.enter f cap) w) (hF : ∀ w', Gr w w' → Calls Try.prog f cap w' fun e w'' => ∃ A c, e = .returned (scl a b A ys.length c) ∧ (∀ ad, A = some ad → w'.heap.size ≤ ad.block ∧ ad.block < w''.heap.size) ∧ OwnW w'' A ys ∧ Gr w' w'') :
    Calls Try.prog 67 #[.func (.func f) #[] cap] w fun e w' => GivesW w w' e a b ys 0 := by
  have HF := hid hF; clear hF
  go_enter_defers Try.func67, Try.ntmps67
  go_wp2_with fail
  refine (HF.out _ ((Gr.alloc _ _).trans (Gr.alloc _ _))).mono ?_
  rintro e w1 ⟨A, c, rfl, hb, hR, hg⟩
  obtain ⟨x0, x1, hz, G1⟩ := alloc2 hg
  obtain ⟨_, _, _⟩ := cells3 x0
  have _ := cells1 x1
  have _ := fz x0
  have _ := fz x1
  have G1 := hid G1
  have HR := hid hR
  have HB : Hid (∀ ad, A = some ad → w.heap.size + 2 ≤ ad.block ∧ ad.block < w1.heap.size) := hid fun ad h => by have := hb ad h; simp at this; omega
  clear hg x0 x1 hR hb
  go_wp2_with fail
  refine leaves_cons (f := 116) (args := #[.pointer (some ⟨w.heap.size + 1, 0, none⟩)]) (by simp) (by simp [go_sem]) ?_
  refine (catch_idle_Z _ _).mono ?_
  rintro e u' w2 ⟨rfl, rfl, rfl⟩
  simp [Leaves, settle, results, Try.results67, go_sem, *]
  refine ⟨A, c, rfl, fun ad h => by have := HB.out ad h; simp; omega, ?_, ?_⟩
  · exact (((HR.out.set (fun ad h => by have := HB.out ad h; simp; omega) _).set (fun ad h => by have := HB.out ad h; simp; omega) _).set (fun ad h => by have := HB.out ad h; simp; omega) _).set (fun ad h => by have := HB.out ad h; simp; omega) _
  · exact ((((G1.out.setCell (by simp) _).setCell (by simp) _).setCell (by simp) _).setCell (by simp) _)
end Go.Proofs.Ytjhlpaeenjbljaa
