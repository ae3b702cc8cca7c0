/- Marks of the laws with texts: what markText gives, exactly; -/
import Derived.Test.YtgfopfomhgfcaaaGreatDoorIv
import Derived.Laws.IdiomStrings
namespace Go.Proofs.YtgfopfomhgfcaaaGreatDoor
open Go.RowKit Go.Sort

theorem mt_conv (d : Int) (h1 : 0 ≤ d) (h2 : d < 256) (w : World) : (convert 134 9 (.slice (some ⟨w.heap.size, 0, none⟩) 1 1)).run Tryz.prog (w.alloc (.cells #[.int .u8 d] 5)) = .ok (.string ⟨#[UInt8.ofNat d.toNat]⟩) (w.alloc (.cells #[.int .u8 d] 5)) := by
  refine run_convert_bytes_back _ _ _ 5 ⟨w.heap.size, 0, none⟩ 1 [UInt8.ofNat d.toNat] Tryz.underlying134 Tryz.underlying5 Tryz.underlying9 fun j hj => ?_
  have hj0 : j = 0 := by simpa using hj
  subst hj0
  have hd : (((UInt8.ofNat d.toNat).toNat : Nat) : Int) = d := by
    rw [UInt8.toNat_ofNat']
    omega
  simp only [List.getElem_cons_zero, hd]
  exact (cells1 (alloc1 (Gr.refl (w.alloc (.cells #[.int .u8 d] 5)))).1)
/-- The digits of a mark, ahead of what is there. -/
def mtL : Nat → Int → ByteArray → ByteArray
  | 0, _, s => s
  | f + 1, j, s => if j = 0 then s else mtL f (j / 10) (⟨#[UInt8.ofNat (48 + j % 10).toNat]⟩ ++ s)
theorem mtL_zero (f : Nat) (s : ByteArray) : mtL f 0 s = s := by cases f <;> simp [mtL]
theorem mtL_step (f : Nat) (j : Int) (s : ByteArray) (h : j ≠ 0) : mtL (f + 1) j s = mtL f (j / 10) (⟨#[UInt8.ofNat (48 + j % 10).toNat]⟩ ++ s) := by simp [mtL, h]
/-- The text of a mark. -/
def MT (k : Int) : ByteArray := if k = 0 then ⟨#[109, 48]⟩ else ⟨#[109]⟩ ++ mtL 9 k ⟨#[]⟩
set_option maxRecDepth 20000 in
set_option maxHeartbeats 1000000 in
theorem markText_is (k : Int) (w : World) (h1 : 0 ≤ k) (h2 : k ≤ 100000000) :
    Calls Tryz.prog 106 #[.int .i64 k] w fun e w' => e = .returned (.string (MT k)) ∧ Gr w w' := by
  by_cases h0 : k = 0
  · subst h0
    go_enter Tryz.func106, Tryz.ntmps106
    go_wp2
    go_ret
    exact ⟨rfl, Gr.refl _⟩
  · have HM : Hid (MT k = ⟨#[109]⟩ ++ mtL 9 k ⟨#[]⟩) := hid (by unfold MT; rw [if_neg h0])
    go_enter Tryz.func106, Tryz.ntmps106
    go_wp2_with fail
    go_loopw [0, 3] (fun v u wr => ∃ (j : Int) (s : ByteArray) (f : Nat), v = .int .i64 j ∧ u = .string s ∧ 0 ≤ j ∧ f + s.size ≤ 9 ∧ j < 10 ^ f ∧ mtL f j s = mtL 9 k ⟨#[]⟩ ∧ Gr w wr) (fun v _ _ => (intOf v).toNat)
    case atStart => exact ⟨k, _, 9, rfl, rfl, by omega, by show 9 ≤ 9; omega, by show k < 10 ^ 9; omega, rfl, Gr.refl _⟩
    case round =>
      obtain ⟨j, s, f, rfl, rfl, j1, js, j2, hL, hg⟩ := hrel
      have G := hid hg
      have J2 := hid j2
      have HL := hid hL
      clear hg j2 hL
      by_cases hj : j = 0
      · subst hj
        go_wp2_with fail
        go_ret
        exact ⟨by rw [HM.out, ← HL.out, mtL_zero]; rfl, G.out⟩
      · have hd1 : Int.tmod j 10 = j % 10 := Int.tmod_eq_emod_of_nonneg j1
        have hd2 : Int.tdiv j 10 = j / 10 := Int.tdiv_eq_ediv_of_nonneg j1
        have hjb : j < 1000000000 := Int.lt_of_lt_of_le J2.out (by
          have : (10 : Int) ^ f ≤ 10 ^ 9 := by exact_mod_cast Nat.pow_le_pow_right (by omega) (by omega)
          simpa using this)
        have hx := mt_conv (48 + j % 10) (by omega) (by omega) wr
        obtain ⟨f', hf⟩ : ∃ f', f = f' + 1 := by
          cases f with
          | zero => have := J2.out; simp at this; omega
          | succ f' => exact ⟨f', rfl⟩
        subst hf
        have NEXT : Hid (j / 10 < 10 ^ f') := hid (by
          have h := J2.out
          rw [Int.pow_succ] at h
          exact Int.ediv_lt_of_lt_mul (by omega) h)
        have HL2 := hid (mtL_step f' j s hj ▸ HL.out)
        clear HL J2
        go_wp2_with fail
        refine ⟨⟨j / 10, _, f', rfl, rfl, by omega, ?_, NEXT.out, HL2.out, G.out.al _⟩, ?_⟩
        · simp only [ByteArray.size_append]
          show f' + (1 + s.size) ≤ 9
          omega
        · simp [intOf]
          omega
theorem markText_any (k : Int) (w : World) (h1 : 0 ≤ k) (h2 : k ≤ 100000000) :
    Calls Tryz.prog 106 #[.int .i64 k] w fun e w' => (∃ s, e = .returned (.string s)) ∧ Gr w w' :=
  (markText_is k w h1 h2).mono fun _ _ ⟨h, g⟩ => ⟨⟨_, h⟩, g⟩
theorem cellMs {w : World} {g i : Nat} {cs : Array Value} {T : TypeId} {v : Value} (h : w.heap[g]? = some (.cells cs T)) (hi : cs[i]? = some v) : w.cell? ⟨g, i, none⟩ = some v := by simp [World.cell?, h, hi]
/-- A block of m cells, whatever they hold. -/
def BlkN (w : World) (g : Nat) (T : TypeId) (m : Nat) : Prop := ∃ ds : Array Value, w.heap[g]? = some (.cells ds T) ∧ ds.size = m
theorem BlkN.set {w : World} {g : Nat} {T : TypeId} {m : Nat} (h : BlkN w g T m) (i : Nat) (v : Value) : BlkN (w.setCell ⟨g, i, none⟩ v) g T m := by
  obtain ⟨ds, h1, h2⟩ := h
  exact ⟨_, Joins.block_setCell (i := i) h1 v, by simp [h2]⟩
theorem set_any {cs : Array Value} {i : Nat} (h : i < cs.size) : ∃ v, cs[i]? = some v := ⟨_, Array.getElem?_eq_getElem h⟩
end Go.Proofs.YtgfopfomhgfcaaaGreatDoor
