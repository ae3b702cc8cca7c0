/- Marks of the laws with texts: what markText gives, exactly; -/
import Derived.Test.YtkeflpcokcfcjaaDoorIv
import Derived.Laws.IdiomStrings
namespace Go.Proofs.YtkeflpcokcfcjaaDoor
open Go.RowKit Go.Sort

theorem mt_conv (d : Int) (h1 : 0 ≤ d) (h2 : d < 256) (w : World) : (convert 107 9 (.slice (some ⟨w.heap.size, 0, none⟩) 1 1)).run Tryd.prog (w.alloc (.cells #[.int .u8 d] 5)) = .ok (.string ⟨#[UInt8.ofNat d.toNat]⟩) (w.alloc (.cells #[.int .u8 d] 5)) := by
  refine run_convert_bytes_back _ _ _ 5 ⟨w.heap.size, 0, none⟩ 1 [UInt8.ofNat d.toNat] Tryd.underlying107 Tryd.underlying5 Tryd.underlying9 fun j hj => ?_
  have hj0 : j = 0 := by simpa using hj
  subst hj0
  have hd : (((UInt8.ofNat d.toNat).toNat : Nat) : Int) = d := by
    rw [UInt8.toNat_ofNat']
    omega
  simp only [List.getElem_cons_zero, hd]
  exact (cells1 (alloc1 (Gr.refl (w.alloc (.cells #[.int .u8 d] 5)))).1)
/-- The digits of a mark, ahead of what is there. -/
def mtL : Nat → Int → ByteArray → ByteArray
  | 0, _, s => s
  | f + 1, j, s => if j = 0 then s else mtL f (j / 10) (⟨#[UInt8.ofNat (48 + j % 10).toNat]⟩ ++ s)
theorem mtL_zero (f : Nat) (s : ByteArray) : mtL f 0 s = s := by cases f <;> simp [mtL]
theorem mtL_step (f : Nat) (j : Int) (s : ByteArray) (h : j ≠ 0) : mtL (f + 1) j s = mtL f (j / 10) (⟨#[UInt8.ofNat (48 + j % 10).toNat]⟩ ++ s) := by simp [mtL, h]
/-- The text of a mark. -/
def MT (k : Int) : ByteArray := if k = 0 then ⟨#[109, 48]⟩ else ⟨#[109]⟩ ++ mtL 9 k ⟨#[]⟩
theorem cellMs {w : World} {g i : Nat} {cs : Array Value} {T : TypeId} {v : Value} (h : w.heap[g]? = some (.cells cs T)) (hi : cs[i]? = some v) : w.cell? ⟨g, i, none⟩ = some v := by simp [World.cell?, h, hi]
/-- A block of m cells, whatever they hold. -/
def BlkN (w : World) (g : Nat) (T : TypeId) (m : Nat) : Prop := ∃ ds : Array Value, w.heap[g]? = some (.cells ds T) ∧ ds.size = m
theorem BlkN.set {w : World} {g : Nat} {T : TypeId} {m : Nat} (h : BlkN w g T m) (i : Nat) (v : Value) : BlkN (w.setCell ⟨g, i, none⟩ v) g T m := by
  obtain ⟨ds, h1, h2⟩ := h
  exact ⟨_, Joins.block_setCell (i := i) h1 v, by simp [h2]⟩
theorem set_any {cs : Array Value} {i : Nat} (h : i < cs.size) : ∃ v, cs[i]? = some v := ⟨_, Array.getElem?_eq_getElem h⟩
end Go.Proofs.YtkeflpcokcfcjaaDoor
