/- Marks of the laws: things. -/
import Derived.Test.YtfpcbgfcachlgaaMt
import Derived.Test.YtfpcbgfcachlgaaMk
import Derived.Test.YtfpcbgfcachlgaaBf
namespace Go.Proofs.Ytfpcbgfcachlgaa
open Go.RowKit Go.Sort

def mTg (k0 : Int) (i : Nat) : Value := if i % 5 = 0 then .string (MT (k0 + (i : Int))) else .int .i64 (k0 + (i : Int))
theorem mTg_s (k0 : Int) (k : Nat) : mTg k0 (k * 5) = .string (MT (k0 + (k : Int) * 5)) := by
  unfold mTg
  rw [if_pos (by omega)]
  congr 2
theorem mTg_i (k0 : Int) (k j : Nat) (h : 0 < j) (h2 : j < 5) : mTg k0 (k * 5 + j) = .int .i64 (k0 + (k : Int) * 5 + (j : Int)) := by
  unfold mTg
  rw [if_neg (by omega)]
  congr 1
  omega
set_option maxRecDepth 20000 in
set_option maxHeartbeats 2000000 in
theorem markTg_any (g cap n : Nat) (k0 : Int) (cs : Array Value) (T : TypeId) (w : World) (X : Hid (w.heap[g]? = some (.cells cs T))) (hn : n * 5 ≤ cs.size) (hn2 : n ≤ 1048576) (h1 : 0 ≤ k0) (h2 : k0 ≤ 10000000) :
    Calls Try.prog 66 #[.slice (some ⟨g, 0, none⟩) n cap, .int .i64 k0] w fun e w' => e = .returned (.int .i64 (k0 + (n : Int) * 5)) ∧ w'.heap[g]? = some (.cells (mkG (mTg k0) (n * 5) cs) T) ∧ Only g w w' := by
  go_enter Try.func66, Try.ntmps66
  go_wp2_with fail
  go_loopw [1, 5] (fun v u wr => ∃ (k : Nat), u = .int .i64 (k : Int) ∧ v = .int .i64 (k0 + (k : Int) * 5) ∧ k ≤ n ∧ wr.heap[g]? = some (.cells (mkG (mTg k0) (k * 5) cs) T) ∧ Only g w wr) (fun _ u _ => n - (intOf u).toNat)
  case atStart => exact ⟨0, rfl, by simp, by omega, by rw [Nat.zero_mul, mkG_zero]; exact X.out, Only.refl _ _⟩
  case round =>
    obtain ⟨k, rfl, rfl, hk, x0, ho⟩ := hrel
    have HO := hid ho; have X0 := hid x0
    clear ho x0
    by_cases hlt : k < n
    · go_wp2_with fail
      refine (markText_is _ _ (by omega) (by omega)).mono ?_
      rintro e w1 ⟨rfl, hg1⟩
      have X1 := hid (hg1.keep X0.out)
      have O1 : Hid (Only g w w1) := hid ⟨fun j o hj ho => hg1.keep (HO.out.1 j o hj ho), fun W0 h0 hs => (HO.out.2 W0 h0 hs).trans hg1⟩
      obtain ⟨v0, hv0⟩ := mkG_any (mTg k0) (k * 5) cs (i := k * 5) (by omega)
      obtain ⟨v1, hv1⟩ := mkG_any (mTg k0) (k * 5) cs (i := k * 5 + 1) (by omega)
      obtain ⟨v2, hv2⟩ := mkG_any (mTg k0) (k * 5) cs (i := k * 5 + 2) (by omega)
      obtain ⟨v3, hv3⟩ := mkG_any (mTg k0) (k * 5) cs (i := k * 5 + 3) (by omega)
      obtain ⟨v4, hv4⟩ := mkG_any (mTg k0) (k * 5) cs (i := k * 5 + 4) (by omega)
      have c0 := cell_of X1.out hv0; have c1 := cell_of X1.out hv1; have c2 := cell_of X1.out hv2; have c3 := cell_of X1.out hv3; have c4 := cell_of X1.out hv4
      have f1 := fz X1.out
      have p0 := mkG_put X1.out
      have p1 := mkG_put p0
      have p2 := mkG_put p1
      have p3 := mkG_put p2
      have p4 := mkG_put p3
      rw [mTg_s k0 k, mTg_i k0 k 1 (by omega) (by omega), show k * 5 + 1 + 1 = k * 5 + 2 by omega, mTg_i k0 k 2 (by omega) (by omega), show k * 5 + 2 + 1 = k * 5 + 3 by omega, mTg_i k0 k 3 (by omega) (by omega), show k * 5 + 3 + 1 = k * 5 + 4 by omega, mTg_i k0 k 4 (by omega) (by omega), show k * 5 + 4 + 1 = (k + 1) * 5 by omega] at p4
      have P4 := hid p4
      clear hg1 hv0 hv1 hv2 hv3 hv4 p0 p1 p2 p3 p4 X1 X0 HO
      go_wp2_with fail
      refine ⟨⟨k + 1, by simp, by simp; omega, by omega, ?_, ((((O1.out.set _ _).set _ _).set _ _).set _ _).set _ _⟩, by simp [intOf]; omega⟩
      have e := P4.out
      simpa [Int.add_assoc] using e
    · have hke : k = n := by omega
      subst hke
      go_wp2_with fail
      go_ret
      exact ⟨rfl, X0.out, HO.out⟩
set_option maxRecDepth 20000 in
set_option maxHeartbeats 2000000 in
theorem heldTg_any (A : Option Addr) (cap n : Nat) (k0 : Int) (w : World) (X : Hid (MkG w A n 5 (mTg k0))) (hn2 : n ≤ 1048576) (h1 : 0 ≤ k0) (h2 : k0 ≤ 10000000) :
    Calls Try.prog 68 #[.slice A n cap, .int .i64 k0] w fun e w' => e = .returned (.int .i64 (k0 + (n : Int) * 5)) ∧ Gr w w' := by
  go_enter Try.func68, Try.ntmps68
  go_wp2_with fail
  go_loopw [1, 5] (fun v u wr => ∃ (k : Nat), u = .int .i64 (k : Int) ∧ v = .int .i64 (k0 + (k : Int) * 5) ∧ k ≤ n ∧ Gr w wr) (fun _ u _ => n - (intOf u).toNat)
  case atStart => exact ⟨0, rfl, by simp, by omega, Gr.refl _⟩
  case round =>
    obtain ⟨k, rfl, rfl, hk, hg⟩ := hrel
    have G := hid hg; clear hg
    by_cases hlt : k < n
    · rcases X.out with h0 | ⟨g, cs, T, rfl, x0, hcs⟩
      · omega
      have X0 := hid x0; have HCS := hid hcs
      clear x0 hcs
      have C0 : Hid (∀ w2, Gr w w2 → w2.cell? ⟨g, k * 5, none⟩ = some (.string (MT (k0 + (k : Int) * 5)))) := hid fun w2 h2 => by rw [← mTg_s]; exact cell_of (h2.keep X0.out) (HCS.out (k * 5) (by omega))
      have C1 : Hid (∀ w2, Gr w w2 → w2.cell? ⟨g, k * 5 + 1, none⟩ = some (.int .i64 (k0 + (k : Int) * 5 + 1))) := hid fun w2 h2 => by
        have c := cell_of (h2.keep X0.out) (HCS.out (k * 5 + 1) (by omega))
        rw [mTg_i k0 k 1 (by omega) (by omega)] at c
        exact c
      have C2 : Hid (∀ w2, Gr w w2 → w2.cell? ⟨g, k * 5 + 2, none⟩ = some (.int .i64 (k0 + (k : Int) * 5 + 1 + 1))) := hid fun w2 h2 => by
        have c := cell_of (h2.keep X0.out) (HCS.out (k * 5 + 2) (by omega))
        rw [mTg_i k0 k 2 (by omega) (by omega), show k0 + (k : Int) * 5 + ((2 : Nat) : Int) = k0 + (k : Int) * 5 + 1 + 1 by omega] at c
        exact c
      have C3 : Hid (∀ w2, Gr w w2 → w2.cell? ⟨g, k * 5 + 3, none⟩ = some (.int .i64 (k0 + (k : Int) * 5 + 1 + 1 + 1))) := hid fun w2 h2 => by
        have c := cell_of (h2.keep X0.out) (HCS.out (k * 5 + 3) (by omega))
        rw [mTg_i k0 k 3 (by omega) (by omega), show k0 + (k : Int) * 5 + ((3 : Nat) : Int) = k0 + (k : Int) * 5 + 1 + 1 + 1 by omega] at c
        exact c
      have C4 : Hid (∀ w2, Gr w w2 → w2.cell? ⟨g, k * 5 + 4, none⟩ = some (.int .i64 (k0 + (k : Int) * 5 + 1 + 1 + 1 + 1))) := hid fun w2 h2 => by
        have c := cell_of (h2.keep X0.out) (HCS.out (k * 5 + 4) (by omega))
        rw [mTg_i k0 k 4 (by omega) (by omega), show k0 + (k : Int) * 5 + ((4 : Nat) : Int) = k0 + (k : Int) * 5 + 1 + 1 + 1 + 1 by omega] at c
        exact c
      have cA := C0.out _ (G.out.trans (Gr.drew _))
      go_wp2_with fail
      go_region_with (go_at_call 103; refine (markText_is _ _ (by omega) (by omega)).mono ?_; rintro e w1 ⟨rfl, hg1⟩; have G1 := hid ((G.out.trans (Gr.drew _)).trans hg1); clear hg1 cA; have c0 := C0.out _ G1.out; have c1 := C1.out _ G1.out; have c2 := C2.out _ G1.out; have c3 := C3.out _ G1.out; have c4 := C4.out _ G1.out)
      all_goals
        go_wp2_with fail
        exact ⟨⟨k + 1, by simp, by simp; omega, by omega, G1.out⟩, by simp [intOf]; omega⟩
    · have hke : k = n := by omega
      subst hke
      go_wp2_with fail
      go_ret
      exact ⟨rfl, G.out⟩
set_option maxRecDepth 20000 in
set_option maxHeartbeats 1000000 in
theorem markTg_zero (A : Option Addr) (c : Nat) (k0 : Int) (w : World) :
    Calls Try.prog 66 #[.slice A 0 c, .int .i64 k0] w fun e w' => e = .returned (.int .i64 k0) ∧ w' = w := by
  go_enter Try.func66, Try.ntmps66
  go_wp2_with fail
  go_loopw [1, 5] (fun v u wr => u = .int .i64 0 ∧ v = .int .i64 k0 ∧ wr = w) (fun _ _ _ => 0)
  case atStart => exact ⟨rfl, rfl, by simp⟩
  case round =>
    obtain ⟨rfl, rfl, rfl⟩ := hrel
    go_wp2_with fail
    go_ret
    exact ⟨rfl, by simp⟩
/-- A row of the call's own stays where blocks of another type change. -/
theorem own_others {w w' : World} {base n sz : Nat} {E T : TypeId} {v : Value} {xs : List Value} (h : w.ownsRow base T sz v n xs) (hT : T ≠ E) (o : Others E w w') : w'.ownsRow base T sz v n xs := by
  refine ⟨h.1, ?_⟩
  rcases h.2 with h0 | ⟨g, cap, cur, h1, h2, h3, h4⟩
  · exact .inl h0
  · exact .inr ⟨g, cap, cur, h1, h2, o _ _ _ hT h3, h4⟩
theorem markOwnTg (A : Option Addr) (c : Nat) (ys : List Tgv) (base : Nat) (E : TypeId) (k0 : Int) (w : World) (O : Hid (w.ownsRow base E 5 (.slice A ys.length c) ys.length (flTg ys))) (hn : ys.length ≤ 1048576) (h1 : 0 ≤ k0) (h2 : k0 ≤ 10000000) :
    Calls Try.prog 66 #[.slice A ys.length c, .int .i64 k0] w fun e w' => e = .returned (.int .i64 (k0 + (ys.length : Int) * 5)) ∧ (w' = w ∨ ∃ g cs, A = some ⟨g, 0, none⟩ ∧ base ≤ g ∧ w.heap[g]? = some (.cells cs E) ∧ Only g w w') ∧ MkG w' A ys.length 5 (mTg k0) := by
  by_cases h0 : 0 < ys.length
  · obtain ⟨g, rest, rfl, hb, hg, _, _⟩ := own_openTg O.out h0
    refine (markTg_any g c ys.length k0 (rowTg ys rest) E w (hid hg) (by rw [rowTg_size]; omega) hn h1 h2).mono ?_
    rintro e w' ⟨rfl, hx, ho⟩
    exact ⟨rfl, .inr ⟨g, _, rfl, hb, hg, ho⟩, .inr ⟨g, _, _, rfl, hx, fun i hi => mkG_get _ _ _ hi (by rw [rowTg_size]; omega)⟩⟩
  · have e : ys = [] := List.eq_nil_of_length_eq_zero (by omega)
    subst e
    refine (markTg_zero A c k0 w).mono ?_
    rintro e w' ⟨rfl, rfl⟩
    exact ⟨by simp, .inl rfl, .inl rfl⟩
set_option maxRecDepth 20000 in
set_option maxHeartbeats 1000000 in
theorem markBn_any (a b : Int) (g1 c n : Nat) (N : Int) (kb : Bool) (u v : Int) (g2 d m : Nat) (k0 : Int) (cs ds : Array Value) (T S : TypeId) (w : World) (X : Hid (w.heap[g1]? = some (.cells cs T))) (Y : Hid (w.heap[g2]? = some (.cells ds S))) (hne : g1 ≠ g2) (hn : n * 2 ≤ cs.size) (hm : m * 5 ≤ ds.size) (hn2 : n ≤ 1048576) (hm2 : m ≤ 1048576) (h1 : 0 ≤ k0) (h2 : k0 ≤ 1000) :
    Calls Try.prog 18 #[bnc a b (some ⟨g1, 0, none⟩) n c N kb u v (some ⟨g2, 0, none⟩) m d, .int .i64 k0] w fun e w' => e = .returned (.int .i64 (k0 + ((n * 2 : Nat) : Int) + (m : Int) * 5)) ∧ ∃ w1, Only g1 w w1 ∧ Only g2 w1 w' := by
  have HNE := hid hne; clear hne
  go_enter Try.func18, Try.ntmps18
  go_wp2_with fail
  refine (markSc_any a b g1 c n k0 cs T _ (hid (((Gr.refl w).al _).keep X.out)) hn hn2 h1 (by omega)).mono ?_
  rintro e w1 ⟨rfl, _, ho⟩
  have Z := hid (ho.1 _ _ (Ne.symm (Nat.ne_of_lt (ltb X.out))) (alloc1 (w := w) (A := .cells (bncA a b (some ⟨g1, 0, none⟩) n c N kb u v (some ⟨g2, 0, none⟩) m d) 41) (Gr.refl _)).1)
  have YY := hid (ho.1 _ _ HNE.out.symm (((Gr.refl w).al _).keep Y.out))
  have HO := hid (Only.of_gr ((Gr.refl w).al _) ho)
  clear ho
  obtain ⟨_, _, _, _, _, _, _, _⟩ := cells8 Z.out
  go_wp2_with fail
  refine (markTg_any g2 d m _ ds S _ YY hm hm2 (by omega) (by omega)).mono ?_
  rintro e w2 ⟨rfl, _, ho2⟩
  have HO2 := hid ho2
  clear ho2
  go_wp2_with fail
  go_ret
  exact ⟨rfl, w1, HO.out, HO2.out⟩
set_option maxRecDepth 20000 in
set_option maxHeartbeats 1000000 in
theorem markOwnBn (a b : Int) (A : Option Addr) (c : Nat) (ys : List (Int × Int)) (N : Int) (kb : Bool) (u v : Int) (B : Option Addr) (d : Nat) (ts : List Tgv) (base : Nat) (k0 : Int) (w : World) (O : Hid (w.ownsRow base 34 2 (.slice A ys.length c) ys.length (flatL ys))) (P : Hid (w.ownsRow base 111 5 (.slice B ts.length d) ts.length (flTg ts))) (hn : ys.length ≤ 1048576) (hm : ts.length ≤ 1048576) (h1 : 0 ≤ k0) (h2 : k0 ≤ 1000) :
    Calls Try.prog 18 #[bnc a b A ys.length c N kb u v B ts.length d, .int .i64 k0] w fun e w' => e = .returned (.int .i64 (k0 + ((ys.length * 2 : Nat) : Int) + (ts.length : Int) * 5)) ∧ (∃ w1 g1 g2, base ≤ g1 ∧ base ≤ g2 ∧ Only g1 w w1 ∧ Only g2 w1 w') ∧ RdF w' A (mksF k0 ys.length) ∧ MkG w' B ts.length 5 (mTg (k0 + ((ys.length * 2 : Nat) : Int))) ∧ (∀ (b : Nat) (cs : Array Value) (T : TypeId), T ≠ 34 → T ≠ 111 → w.heap[b]? = some (.cells cs T) → w'.heap[b]? = some (.cells cs T)) := by
  have hne : ∀ (ad : Addr) (g : Nat) (cs : Array Value), A = some ad → 0 < ys.length → w.heap[g]? = some (.cells cs 111) → ad.block ≠ g := by
    intro ad g cs hA h0 hg he
    obtain ⟨g1, rest, rfl, _, hg1, _, _⟩ := own_openF O.out h0
    cases hA
    subst he
    rw [hg1] at hg
    injection hg with e1
    injection e1 with _ e2
    exact absurd e2 (by decide)
  have HNE := hid hne; clear hne
  go_enter Try.func18, Try.ntmps18
  go_wp2_with fail
  refine (markOwnSc2 a b A c ys base _ k0 _ (hid (own_gr O.out ((Gr.refl w).al _))) hn h1 (by omega)).mono ?_
  rintro e w1 ⟨rfl, ⟨g1, hb1, ho⟩, hx, ht⟩
  have Z := hid (ht _ _ _ (by decide) (alloc1 (w := w) (A := .cells (bncA a b A ys.length c N kb u v B ts.length d) 41) (Gr.refl _)).1)
  have PP := hid (own_others (own_gr P.out ((Gr.refl w).al _)) (by decide) ht)
  have HO := hid (Only.of_gr ((Gr.refl w).al _) ho)
  have HX := hid hx
  have HT : Hid (Others 34 w w1) := hid fun b cs T hT h => ht b cs T hT (((Gr.refl w).al _).keep h)
  clear ho hx ht
  obtain ⟨_, _, _, _, _, _, _, _⟩ := cells8 Z.out
  go_wp2_with fail
  refine (markOwnTg B d ts base _ _ _ PP hm (by omega) (by omega)).mono ?_
  rintro e w2 ⟨rfl, ho2, hx2⟩
  have HO2 := hid ho2; have HX2 := hid hx2
  clear ho2 hx2
  go_wp2_with fail
  go_ret
  rcases HO2.out with rfl | ⟨g2, cs2, hB, hb2, hg2, on2⟩
  · exact ⟨rfl, ⟨_, g1, g1, hb1, hb1, HO.out, Only.refl _ _⟩, HX.out, HX2.out, fun b cs T hT _ h => HT.out b cs T hT h⟩
  · have hw : ∃ cs, w.heap[g2]? = some (.cells cs 111) := by
      by_cases h0 : 0 < ts.length
      · obtain ⟨g', rest, hB', _, hg', _, _⟩ := own_openTg P.out h0
        rw [hB] at hB'
        cases hB'
        exact ⟨_, hg'⟩
      · have hp := P.out.2
        rcases hp with ⟨hv, _⟩ | ⟨g', cap, cur, hv, _, hg', _⟩
        · rw [hB] at hv; cases hv
        · rw [hB] at hv
          injection hv with e1
          cases e1
          exact ⟨_, hg'⟩
    obtain ⟨cs0, hw⟩ := hw
    refine ⟨rfl, ⟨w1, g1, g2, hb1, hb2, HO.out, on2⟩, ?_, HX2.out, fun b cs T hT hS h => ?_⟩
    · intro k p q hk
      have h0 : 0 < ys.length := by have := (List.getElem?_eq_some_iff.1 hk).1; rw [mksF_len] at this; omega
      exact (HX.out.only on2 fun ad hA => HNE.out ad g2 cs0 hA h0 hw) k p q hk
    · refine on2.1 b _ (fun he => ?_) (HT.out b cs T hT h)
      subst he
      rw [hw] at h
      injection h with e1
      injection e1 with _ e2
      exact hS e2.symm
set_option maxRecDepth 20000 in
set_option maxHeartbeats 1000000 in
theorem heldBn_any (a b : Int) (A : Option Addr) (c n : Nat) (N : Int) (kb : Bool) (u v : Int) (B : Option Addr) (d m : Nat) (k0 : Int) (w : World) (X : Hid (RdF w A (mksF k0 n))) (Y : Hid (MkG w B m 5 (mTg (k0 + ((n * 2 : Nat) : Int))))) (hn : n ≤ 1048576) (hm : m ≤ 1048576) (h1 : 0 ≤ k0) (h2 : k0 ≤ 1000) :
    Calls Try.prog 20 #[bnc a b A n c N kb u v B m d, .int .i64 k0] w fun e w' => e = .returned (.int .i64 (k0 + ((n * 2 : Nat) : Int) + (m : Int) * 5)) ∧ Gr w w' := by
  go_enter Try.func20, Try.ntmps20
  go_wp2_with fail
  refine (heldSc_any a b A c n k0 _ (hid (X.out.keep ((Gr.refl w).al _))) hn h1 (by omega)).mono ?_
  rintro e w1 ⟨rfl, hg1⟩
  obtain ⟨x1_0, hz1, g1⟩ := alloc1 hg1
  obtain ⟨_, _, _, _, _, _, _, _⟩ := cells8 x1_0
  have _ := fz x1_0
  have _ := ltb x1_0
  have X1_0 := hid x1_0; clear x1_0
  have G1 := hid (g1)
  clear hg1 g1
  go_wp2_with fail
  refine (heldTg_any B d m _ _ (hid (Y.out.keep G1.out)) hm (by omega) (by omega)).mono ?_
  rintro e w2 ⟨rfl, hg2⟩
  have x2_1 := hg2.keep X1_0.out
  obtain ⟨_, _, _, _, _, _, _, _⟩ := cells8 x2_1
  have _ := fz x2_1
  have _ := ltb x2_1
  have X2_1 := hid x2_1; clear x2_1
  have G2 := hid (G1.out.trans hg2)
  clear hg2
  go_wp2
  go_ret
  exact ⟨rfl, G2.out⟩
end Go.Proofs.Ytfpcbgfcachlgaa
