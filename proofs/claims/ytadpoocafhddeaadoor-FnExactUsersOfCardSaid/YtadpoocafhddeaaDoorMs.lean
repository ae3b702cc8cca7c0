/- Marks of the laws: the text of a mark, and the marks of a slice of standards. -/
import Derived.Test.YtadpoocafhddeaaDoorCh
import Derived.Test.YtadpoocafhddeaaDoorIv
import Derived.Laws.IdiomStrings
namespace Go.Proofs.YtadpoocafhddeaaDoor
open Go.RowKit Go.Sort

theorem mt_conv (d : Int) (h1 : 0 ≤ d) (h2 : d < 256) (w : World) : ∃ x : UInt8, (convert 107 9 (.slice (some ⟨w.heap.size, 0, none⟩) 1 1)).run Tryd.prog (w.alloc (.cells #[.int .u8 d] 5)) = .ok (.string ⟨#[x]⟩) (w.alloc (.cells #[.int .u8 d] 5)) := by
  refine ⟨UInt8.ofNat d.toNat, run_convert_bytes_back _ _ _ 5 ⟨w.heap.size, 0, none⟩ 1 [UInt8.ofNat d.toNat] Tryd.underlying107 Tryd.underlying5 Tryd.underlying9 fun j hj => ?_⟩
  have hj0 : j = 0 := by simpa using hj
  subst hj0
  have hd : (((UInt8.ofNat d.toNat).toNat : Nat) : Int) = d := by
    rw [UInt8.toNat_ofNat']
    omega
  simp only [List.getElem_cons_zero, hd]
  exact (cells1 (alloc1 (Gr.refl (w.alloc (.cells #[.int .u8 d] 5)))).1)
set_option maxRecDepth 20000 in
set_option maxHeartbeats 1000000 in
theorem markText_any (k : Int) (w : World) (h1 : 0 ≤ k) (h2 : k ≤ 100000000) :
    Calls Tryd.prog 50 #[.int .i64 k] w fun e w' => (∃ s, e = .returned (.string s)) ∧ Gr w w' := by
  by_cases h0 : k = 0
  · subst h0
    go_enter Tryd.func50, Tryd.ntmps50
    go_wp2
    go_ret
    exact ⟨⟨_, rfl⟩, Gr.refl _⟩
  · go_enter Tryd.func50, Tryd.ntmps50
    go_wp2_with fail
    go_loopw [0, 3] (fun v u wr => ∃ (j : Int) (s : ByteArray), v = .int .i64 j ∧ u = .string s ∧ 0 ≤ j ∧ s.size ≤ 9 ∧ j < 10 ^ (9 - s.size) ∧ Gr w wr) (fun v _ _ => (intOf v).toNat)
    case atStart => exact ⟨k, _, rfl, rfl, by omega, by show 0 ≤ 9; omega, by show k < 10 ^ 9; omega, Gr.refl _⟩
    case round =>
      obtain ⟨j, s, rfl, rfl, j1, js, j2, hg⟩ := hrel
      have G := hid hg
      have J2 := hid j2
      clear hg j2
      by_cases hj : j = 0
      · subst hj
        go_wp2_with fail
        go_ret
        exact ⟨⟨_, rfl⟩, G.out⟩
      · have hd1 : Int.tmod j 10 = j % 10 := Int.tmod_eq_emod_of_nonneg j1
        have hd2 : Int.tdiv j 10 = j / 10 := Int.tdiv_eq_ediv_of_nonneg j1
        have hjb : j < 1000000000 := Int.lt_of_lt_of_le J2.out (by
          have : (10 : Int) ^ (9 - s.size) ≤ 10 ^ 9 := by exact_mod_cast Nat.pow_le_pow_right (by omega) (by omega)
          simpa using this)
        obtain ⟨x, hx⟩ := mt_conv (48 + j % 10) (by omega) (by omega) wr
        have NEXT : Hid (s.size + 1 ≤ 9 ∧ j / 10 < 10 ^ (9 - (s.size + 1))) := hid (by
          have h := J2.out
          have h9 : s.size ≠ 9 := fun e => by rw [e] at h; simp at h; omega
          refine ⟨by omega, ?_⟩
          rw [show 9 - s.size = 9 - (s.size + 1) + 1 by omega, Int.pow_succ] at h
          exact Int.ediv_lt_of_lt_mul (by omega) h)
        go_wp2_with fail
        refine ⟨⟨j / 10, _, rfl, rfl, by omega, ?_, ?_, G.out.al _⟩, ?_⟩
        · have := NEXT.out.1
          simp [ByteArray.size_append]
          show 1 + s.size ≤ 9
          omega
        · have := NEXT.out.2
          simp only [ByteArray.size_append]
          show j / 10 < 10 ^ (9 - (1 + s.size))
          rw [Nat.add_comm]
          exact this
        · simp [intOf]
          omega
theorem cellMs {w : World} {g i : Nat} {cs : Array Value} {T : TypeId} {v : Value} (h : w.heap[g]? = some (.cells cs T)) (hi : cs[i]? = some v) : w.cell? ⟨g, i, none⟩ = some v := by simp [World.cell?, h, hi]
/-- A block of m cells, whatever they hold. -/
def BlkN (w : World) (g : Nat) (T : TypeId) (m : Nat) : Prop := ∃ ds : Array Value, w.heap[g]? = some (.cells ds T) ∧ ds.size = m
theorem BlkN.set {w : World} {g : Nat} {T : TypeId} {m : Nat} (h : BlkN w g T m) (i : Nat) (v : Value) : BlkN (w.setCell ⟨g, i, none⟩ v) g T m := by
  obtain ⟨ds, h1, h2⟩ := h
  exact ⟨_, Joins.block_setCell (i := i) h1 v, by simp [h2]⟩
theorem set_any {cs : Array Value} {i : Nat} (h : i < cs.size) : ∃ v, cs[i]? = some v := ⟨_, Array.getElem?_eq_getElem h⟩
set_option maxRecDepth 20000 in
set_option maxHeartbeats 4000000 in
theorem markSd_any (g cap n : Nat) (k0 : Int) (cs : Array Value) (T : TypeId) (w : World) (X : Hid (w.heap[g]? = some (.cells cs T))) (hn : n * 10 ≤ cs.size) (hn2 : n ≤ 1048576) (h1 : 0 ≤ k0) (h2 : k0 ≤ 1000) :
    Calls Tryd.prog 22 #[.slice (some ⟨g, 0, none⟩) n cap, .int .i64 k0] w fun e w' => e = .returned (.int .i64 (k0 + (n : Int) * 10)) ∧ Only g w w' := by
  go_enter Tryd.func22, Tryd.ntmps22
  go_wp2_with fail
  go_loopw [1, 5] (fun v u wr => ∃ (k : Nat), u = .int .i64 (k : Int) ∧ v = .int .i64 (k0 + (k : Int) * 10) ∧ k ≤ n ∧ BlkN wr g T cs.size ∧ Only g w wr) (fun _ u _ => n - (intOf u).toNat)
  case atStart => exact ⟨0, rfl, by simp, by omega, ⟨cs, X.out, rfl⟩, Only.refl _ _⟩
  case round =>
    obtain ⟨k, rfl, rfl, hk, ⟨ds, x0, hds⟩, ho⟩ := hrel
    have HO := hid ho; have X0 := hid x0; have HDS := hid hds
    clear ho x0 hds
    by_cases hlt : k < n
    · go_wp2_with fail
      refine (markText_any _ _ (by omega) (by omega)).mono ?_
      rintro e w1 ⟨⟨s, rfl⟩, hg1⟩
      have x1 := hg1.keep X0.out
      have O1 : Hid (Only g w w1) := hid ⟨fun j o hj ho => hg1.keep (HO.out.1 j o hj ho), fun W0 h0 hs => (HO.out.2 W0 h0 hs).trans hg1⟩
      have hsz : k * 10 + 10 ≤ ds.size := by rw [HDS.out]; omega
      obtain ⟨v0, e0⟩ := set_any (cs := ds) (i := k * 10) (by omega)
      obtain ⟨v1, e1⟩ := set_any (cs := ds) (i := k * 10 + 1) (by omega)
      obtain ⟨v2, e2⟩ := set_any (cs := ds) (i := k * 10 + 2) (by omega)
      obtain ⟨v3, e3⟩ := set_any (cs := ds) (i := k * 10 + 3) (by omega)
      obtain ⟨v4, e4⟩ := set_any (cs := ds) (i := k * 10 + 4) (by omega)
      obtain ⟨v5, e5⟩ := set_any (cs := ds) (i := k * 10 + 5) (by omega)
      obtain ⟨v6, e6⟩ := set_any (cs := ds) (i := k * 10 + 6) (by omega)
      obtain ⟨v7, e7⟩ := set_any (cs := ds) (i := k * 10 + 7) (by omega)
      obtain ⟨v8, e8⟩ := set_any (cs := ds) (i := k * 10 + 8) (by omega)
      obtain ⟨v9, e9⟩ := set_any (cs := ds) (i := k * 10 + 9) (by omega)
      have c0 := cellMs x1 e0; have c1 := cellMs x1 e1; have c2 := cellMs x1 e2; have c3 := cellMs x1 e3; have c4 := cellMs x1 e4; have c5 := cellMs x1 e5; have c6 := cellMs x1 e6; have c7 := cellMs x1 e7; have c8 := cellMs x1 e8; have c9 := cellMs x1 e9
      have f1 := fz x1
      have BK : Hid (BlkN w1 g T cs.size) := hid ⟨ds, x1, HDS.out⟩
      clear hg1 x1 e0 e1 e2 e3 e4 e5 e6 e7 e8 e9 hsz
      go_wp2_with fail
      exact ⟨⟨k + 1, by simp, by simp; omega, by omega, ((((((((((BK.out.set _ _).set _ _).set _ _).set _ _).set _ _).set _ _).set _ _).set _ _).set _ _).set _ _), ((((((((((O1.out.set _ _).set _ _).set _ _).set _ _).set _ _).set _ _).set _ _).set _ _).set _ _).set _ _)⟩, by simp [intOf]; omega⟩
    · have hke : k = n := by omega
      subst hke
      go_wp2_with fail
      go_ret
      exact ⟨rfl, HO.out⟩
end Go.Proofs.YtadpoocafhddeaaDoor
