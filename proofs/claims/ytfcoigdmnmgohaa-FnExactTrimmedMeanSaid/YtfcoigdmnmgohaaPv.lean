/- SORTED: slices.Sorted of slices.Values, integers. (The seat's Shelf is laid by lay-shelf.mjs and lay-plain.mjs.) -/
import Derived.Test.YtfcoigdmnmgohaaPu
import Derived.Test.YtfcoigdmnmgohaaPd
import Derived.Test.YtfcoigdmnmgohaaShelf
namespace Go.Proofs.Ytfcoigdmnmgohaa
open Go.RowKit Go.Sort

theorem put_intR (ys zs : List Int) (rest : List Value) (hl : zs.length = ys.length) : putCells (Value.int .i64) 0 zs.toArray (intR ys rest) = intR zs rest := by
  apply Array.ext_getElem?
  intro k
  simp only [putCells, Array.getElem?_mapIdx, intR, List.getElem?_toArray]
  by_cases hk : k < zs.length
  · rw [List.getElem?_append_left (by simpa [← hl] using hk), List.getElem?_append_left (by simpa using hk)]
    have hk2 : k < ys.length := by omega
    simp [hk, hk2]
  · rw [List.getElem?_append_right (by simp; omega), List.getElem?_append_right (by simp; omega)]
    have hk2 : ¬ k < ys.length := by omega
    simp [hk2, hl]
theorem sorted_world {w0 w1 : World} (hg : Gr w0 w1) {g : Nat} (hge : w0.heap.size ≤ g) {T : TypeId} {ys zs : List Int} {rest : List Value} (hb : w1.heap[g]? = some (.cells (intR ys rest) T)) (hl : zs.length = ys.length) (n : Nat) (os : Array Obj) :
    Gr w0 (grow (putRow (Value.int .i64) (Sort.ahead w1 n) g 0 zs.toArray) os) ∧ (grow (putRow (Value.int .i64) (Sort.ahead w1 n) g 0 zs.toArray) os).heap[g]? = some (.cells (intR zs rest) T) := by
  have hlt := ltb hb
  have hsz : (putRow (Value.int .i64) (Sort.ahead w1 n) g 0 zs.toArray).heap.size = w1.heap.size := by simp
  refine ⟨(hg.trans (Gr.drewN w1 n)).heap rfl rfl rfl rfl (by rw [size_grow, hsz]; exact Nat.le_add_right _ _) fun k hk => ?_, ?_⟩
  · have hk1 : k < w1.heap.size := Nat.lt_of_lt_of_le hk hg.size
    rw [heap_grow_old _ _ (by rw [hsz]; exact hk1)]
    show (w1.heap.modify g _)[k]? = w1.heap[k]?
    rw [Array.getElem?_modify, if_neg (by omega)]
  · rw [heap_grow_old _ _ (by rw [hsz]; exact hlt)]
    show (w1.heap.modify g _)[g]? = _
    rw [Array.getElem?_modify, if_pos rfl, hb, ← put_intR ys zs rest hl]
    rfl
set_option maxRecDepth 20000 in
set_option maxHeartbeats 600000 in
theorem iSorted (A : Option Addr) (c Bs : Nat) (xs : List Int) (w : World) (X1 : Hid (w.heap[Bs]? = some (.cells #[.slice A xs.length c] 47))) (X : Hid (RdI w A xs)) (h0 : 0 < xs.length) (hn : xs.length ≤ 64) :
    Calls Try.prog 104 #[.func (.func 161) #[] #[.pointer (some ⟨Bs, 0, none⟩)]] w fun e w' => ∃ g rest, e = .returned (.slice (some ⟨g, 0, none⟩) xs.length (xs.length + rest.length)) ∧ w'.heap[g]? = some (.cells (intR (srt xs) rest) 2) ∧ Gr w w' := by
  have HC := hid (collectI 161 #[.pointer (some ⟨Bs, 0, none⟩)] xs w hn (fun _ _ => by kernel_rfl) (fun I w1 hg hI => values_hands 4 (by omega) A c Bs xs I w1 hn (fun k W h => ⟨(hI k W h).keep X1.out, X.out.keep (hI k W h)⟩)))
  go_enter Try.func104, Try.ntmps104
  go_wp2_with fail
  refine HC.out.mono ?_
  rintro e w1 ⟨v, rfl, ho, hg⟩
  obtain ⟨A2, c2, rfl⟩ := own_form ho
  obtain ⟨g, rest, rfl, hbg, hx, hc, hl⟩ := own_open ho h0
  subst hl
  have HS : Holds (Value.int .i64) w1 g 0 xs.toArray := fun j hj => by
    have hj' : j < xs.length := by simpa using hj
    refine ⟨?_, ?_⟩
    · rw [Nat.zero_add, intR_cell hx (List.getElem?_eq_getElem hj')]
      simp [hj']
    · exact fz hx _
  have SW := hid fun (n : Nat) (os : Array Obj) => sorted_world hg hbg hx (zs := srt xs) (srt_len xs) n os
  have HSO := hid (Try.slices_Sort_int g 0 (xs.length + rest.length) xs w1 HS (ltb hx) (by omega))
  clear ho hg hx HS hc hbg HC
  go_wp2_with fail
  refine HSO.out.mono ?_
  rintro e w2 ⟨rfl, n, os, hw⟩
  obtain ⟨G, XG⟩ := SW.out n os
  rw [srt_merge] at G
  rw [srt_merge] at XG
  rw [← hw] at G XG
  rw [← srt_merge] at XG
  have G2 := hid G; have X2 := hid XG
  clear G XG hw SW HSO
  go_wp2_with fail
  go_ret
  exact ⟨g, rest, rfl, X2.out, G2.out⟩
end Go.Proofs.Ytfcoigdmnmgohaa
