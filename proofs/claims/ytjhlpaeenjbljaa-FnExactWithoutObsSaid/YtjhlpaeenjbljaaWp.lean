/- TABLES: WithoutObs of the reference. -/
import Derived.Test.YtjhlpaeenjbljaaWo
namespace Go.Proofs.Ytjhlpaeenjbljaa
open Go.RowKit Go.Sort

/-! the reference -/
section
variable {P : Program} {ops : Array Oper} {o : Oper} {a : Act} {w : World} {K : Act → World → Prop} {Q : Exit → Act → World → Prop} {E : Prop}
/-- An append, in a region that draws its order, of a part that may be empty, to a row of the call's own. -/
theorem step_appendV (hgd : o.guard = none) (s x : Operand) (t : TypeId)
    (ho : o.op = .call { callee := .builtin .append, args := #[s, x], argTypes := #[t, t] })
    (base : Nat) (e : TypeId) (i : TypeInfo) (z : Value) (size bytes : Nat) (ht : P.underlying t = some (.slice e)) (hi : P.info? e = some i) (hz : i.zero = some z)
    (hsize : i.size = size) (hby : i.bytes = bytes) (hzs : z.cells.size = size) (hsz : 0 < size)
    (A : Option Addr) (n c : Nat) (xs : List Value) (hs : a.eval s = .slice A n c) (hown : w.ownsRow base e size (.slice A n c) n xs)
    (B : Option Addr) (m cx : Nat) (us : List Value) (hx : a.eval x = .slice B m cx) (hR : RdV w B us) (hl : us.length = m * size) (h1 : ∀ u ∈ us, u.oneCell' = true)
    (h63 : n + m ≤ maxLen) (hbytes : (n + m) * bytes ≤ 140737488355328) (hbase : base ≤ w.heap.size)
    (h : ∀ A' c' w', w'.ownsRow base e size (.slice A' (n + m) c') (n + m) (xs ++ us) → (∀ W0, Gr W0 w → W0.heap.size ≤ base → Gr W0 w') → K (a.put o.dst (.slice A' (n + m) c')) w') :
    if Region.wanted o (yielded ops a.tmps) = true then Oper.wp P o a w K Q else E := by
  by_cases hm : m = 0
  · subst hm
    have hu : us = [] := List.length_eq_zero_iff.1 (by omega)
    subst hu
    have hw : Region.wanted o (yielded ops a.tmps) = true := by simp [Region.wanted, hgd]
    rw [if_pos hw]
    have hr := run_append_zero (w := w) t o.type e i ht hi A n c (own_le hown) B cx
    unfold Oper.wp execOp
    simp only [ho, resolve, invoke, builtin, Sem.run_bind, Sem.run_pure, Result.andThen_ok, List.map_toArray, List.map_cons, List.map_nil, hs, hx, hr]
    exact h A c w (by simpa using hown) fun _ h _ => h
  · rcases hR with rfl | ⟨ad, rfl, hR⟩
    · have hl2 : m * size = 0 := by simpa using hl.symm
      rcases Nat.mul_eq_zero.1 hl2 with h | h
      · exact absurd h hm
      · omega
    · exact step_append_gr hgd s x t ho base e i z size bytes ht hi hz hsize hby hzs hsz _ n xs hs hown ad m cx us hx hl hR h1 (by omega) h63 hbytes hbase fun v' w' own _ _ hgr => by
        obtain ⟨A', c', rfl⟩ := own_form own
        exact h A' c' w' own hgr
end
theorem own_madeV (w : World) (E : TypeId) (size base : Nat) (hb : base ≤ w.heap.size) : (w.alloc (.cells #[] E)).ownsRow base E size (.slice (some ⟨w.heap.size, 0, none⟩) 0 0) 0 [] := by
  exact ⟨by simp, .inr ⟨w.heap.size, 0, #[], rfl, hb, (alloc1 (Gr.refl _)).1, by simp⟩⟩
set_option maxRecDepth 20000 in
set_option maxHeartbeats 4000000 in
theorem sWithout_a (n : Int) (g : Nat) (b : Bool) (p q : Int) (xs : List Obv) (o : Nat) (w : World) (X : Hid (RdO w (some ⟨g, 0, none⟩) xs)) (hm : xs.length = o + 1) (_hc : o + 1 ≤ o + 1) (hw : xs.all wfE = true) (h : tblB n b p q xs = true) (ho : o < o + 1) :
    Calls Try.prog 38 #[tbl n (some ⟨g, 0, none⟩) (o + 1) (o + 1) b p q, .int .i64 (o : Int)] w fun e w' => GivesTb w w' e n b p q (woO xs o) 0 := by
  have h24 := tb_24 h
  obtain ⟨i0, hi, iz0, iz1, iz2⟩ : ∃ i, Try.prog.info? 104 = some i ∧ i.zero = some (vO zO) ∧ i.size = 9 ∧ i.bytes = 32 := ⟨_, rfl, rfl, rfl, rfl⟩
  have HV := hid (fun (k : Nat) (T : TypeId) (w : World) (XB : Hid (w.heap[k]? = some (.cells #[.int .i64 n, .slice (some ⟨g, 0, none⟩) (o + 1) (o + 1), .bool b, .int .i64 p, .int .i64 q] T))) (X : Hid (RdO w (some ⟨g, 0, none⟩) xs)) => h ▸ sTbOk k T n g (o + 1) b p q xs w (by rw [hm]; exact XB) X (by omega) hw)
  have HM := hid hm
  have hm24 : o + 1 ≤ 24 := by omega
  have hin : inB (o : Int) 0 (o : Int) = true := by unfold inB; simp
  have HIN := hid hin
  have HLN := hid (show (woO xs o).length = o + 0 by rw [woO_len (by rw [HM.out]; exact ho), HM.out]; omega)
  have hle : (o : Int) + 1 ≤ ((o + 1 : Nat) : Int) := by omega
  have hlc : (o : Int) ≤ ((o + 1 : Nat) : Int) := by omega
  clear h hw h24 hm hin
  go_enter Try.func38, Try.ntmps38
  go_wp2_with fail
  refine (HV.out _ _ _ (hid (alloc2 (Gr.refl _)).1) (hid (X.out.keep (((Gr.refl w).al _).al _)))).mono ?_
  rintro e w1 ⟨rfl, hg1⟩
  obtain ⟨x1_0, x1_1, hz1, g1⟩ := alloc2 hg1
  obtain ⟨_, _, _, _, _⟩ := cells5 x1_0
  have _ := fz x1_0
  have _ := ltb x1_0
  obtain ⟨_, _, _, _, _⟩ := cells5 x1_1
  have _ := fz x1_1
  have _ := ltb x1_1
  have X1_0 := hid x1_0; clear x1_0
  have X1_1 := hid x1_1; clear x1_1
  have G1 := hid (g1)
  clear hg1 g1
  go_wp2_with fail
  refine (in_t _ _ _ _ HIN.out).mono ?_
  rintro e w2 ⟨rfl, hg2⟩
  have x2_1 := hg2.keep X1_0.out
  have x2_2 := hg2.keep X1_1.out
  obtain ⟨_, _, _, _, _⟩ := cells5 x2_1
  have _ := fz x2_1
  have _ := ltb x2_1
  obtain ⟨_, _, _, _, _⟩ := cells5 x2_2
  have _ := fz x2_2
  have _ := ltb x2_2
  have X2_1 := hid x2_1; clear x2_1
  have X2_2 := hid x2_2; clear x2_2
  have G2 := hid (G1.out.trans hg2)
  clear hg2
  go_wp2_with fail
  have hx2 := X.out.keep G2.out
  have U := hid fun (w' : World) (h : Gr w2 w') => (hx2.keep h).vTake (o * 9)
  have V := hid fun (w' : World) (_h : Gr w2 w') => (show RdV w' (some ⟨g, 0, none⟩) ((flO xs).drop ((o + 1) * 9)) from .inl (by rw [List.drop_eq_nil_iff, flO_len, HM.out]; omega))
  have HU := hid (show ((flO xs).take (o * 9)).length = o * 9 by rw [List.length_take, flO_len, HM.out]; omega)
  have HW := hid (show ((flO xs).drop ((o + 1) * 9)).length = 0 * 9 by rw [List.length_drop, flO_len, HM.out]; omega)
  have GA := hid (((Gr.refl w2).al (.cells #[] 104)).trans (Gr.drew _))
  have OA := hid (own_gr (own_madeV w2 104 9 w2.heap.size (Nat.le_refl _)) (Gr.drew _))
  have hro : IntKind.i64.wrap ((o : Int) + 1) = (o : Int) + 1 := IntWalk.i64_in _ (by omega)
  have hlc2 : (o : Int) ≤ (o : Int) + 1 := by omega
  have hto : ((o : Int) + 1).toNat = o + 1 := by omega
  have hp1 : (0 : Int) ≤ (o : Int) + 1 := by omega
  clear X HV hx2
  go_region_law (first
    | (refine (step_appendV rfl (.tmp 17) (.tmp 21) 48 rfl w2.heap.size 104 i0 (vO zO) 9 32 Try.underlying48 hi iz0 iz1 iz2 rfl (by decide) _ 0 _ [] rfl OA.out _ o _ _ rfl (U.out _ GA.out) HU.out (fun u hu => flO_one xs u (List.mem_of_mem_take hu)) (by unfold maxLen; omega) (by omega) GA.out.size ?_); intro A5 c5 w5 own5 hgr; have g5 := hgr w2 GA.out (Nat.le_refl _); have y0 := g5.keep X2_1.out; have y1 := g5.keep X2_2.out; obtain ⟨_, _, _, _, _⟩ := cells5 y0; have _ := fz y0; have _ := ltb y0; rw [Nat.zero_add] at own5; have OWN5 := hid own5; have G5 := hid g5; have Y0 := hid y0; have Y1 := hid y1; clear own5 hgr g5 y0 y1)
    | (refine (step_appendV rfl (.tmp 22) (.tmp 27) 48 rfl w2.heap.size 104 i0 (vO zO) 9 32 Try.underlying48 hi iz0 iz1 iz2 rfl (by decide) _ o _ _ rfl OWN5.out _ 0 _ _ rfl (V.out _ G5.out) HW.out (fun u hu => flO_one xs u (List.mem_of_mem_drop hu)) (by unfold maxLen; omega) (by omega) G5.out.size ?_); intro A6 c6 w6 own6 hgr; have g6 := hgr w2 G5.out (Nat.le_refl _); have z0 := g6.keep X2_1.out; have z1 := g6.keep X2_2.out; obtain ⟨_, _, _, _, _⟩ := cells5 z0; have _ := fz z0; have _ := ltb z0; obtain ⟨_, _, _, _, _⟩ := cells5 z1; have _ := fz z1; have _ := ltb z1; rw [List.nil_append, flO_wo (by rw [HM.out]; exact ho)] at own6; have OWN6 := hid own6; have G6 := hid (G2.out.trans g6); have Z0 := hid z0; have Z1 := hid z1; clear own6 hgr g6 z0 z1))
  all_goals
    go_wp2_with fail
    refine bodyPost_ret (v := .tuple #[tbl n A6 (o + 0) c6 b p q, .int .i64 0]) (by simp [results, Try.results38, go_sem, *]) rfl ?_
    have hs2 : w.heap.size + 1 < w2.heap.size := ltb X2_2.out
    exact ⟨A6, c6, by rw [HLN.out], by rw [HLN.out]; exact own_base (own_low (own_low (own_low (own_low (own_low (own_low OWN6.out (by first | exact hs2 | omega) _) (by first | exact hs2 | omega) _) (by first | exact hs2 | omega) _) (by first | exact hs2 | omega) _) (by first | exact hs2 | omega) _) (by first | exact hs2 | omega) _) G2.out.size, ((((((G6.out.setCell (by simp) _).setCell (by simp) _).setCell (by simp) _).setCell (by simp) _).setCell (by simp) _).setCell (by simp) _)⟩
set_option maxRecDepth 20000 in
set_option maxHeartbeats 4000000 in
theorem sWithout_b (n : Int) (g c m : Nat) (b : Bool) (p q : Int) (xs : List Obv) (o : Nat) (w : World) (X : Hid (RdO w (some ⟨g, 0, none⟩) xs)) (hm : xs.length = m) (hc : m ≤ c) (hw : xs.all wfE = true) (h : tblB n b p q xs = true) (ho : o < m) (hcn : ¬ c = o + 1) :
    Calls Try.prog 38 #[tbl n (some ⟨g, 0, none⟩) (m) (c) b p q, .int .i64 (o : Int)] w fun e w' => GivesTb w w' e n b p q (woO xs o) 0 := by
  have h24 := tb_24 h
  obtain ⟨i0, hi, iz0, iz1, iz2⟩ : ∃ i, Try.prog.info? 104 = some i ∧ i.zero = some (vO zO) ∧ i.size = 9 ∧ i.bytes = 32 := ⟨_, rfl, rfl, rfl, rfl⟩
  have HV := hid (fun (k : Nat) (T : TypeId) (w : World) (XB : Hid (w.heap[k]? = some (.cells #[.int .i64 n, .slice (some ⟨g, 0, none⟩) (m) (c), .bool b, .int .i64 p, .int .i64 q] T))) (X : Hid (RdO w (some ⟨g, 0, none⟩) xs)) => h ▸ sTbOk k T n g (c) b p q xs w (hm ▸ XB) X (by omega) hw)
  have HM := hid hm
  have hm24 : m ≤ 24 := by omega
  have hin : inB (o : Int) 0 (((m : Nat) : Int) - 1) = true := by unfold inB; simp; omega
  have HIN := hid hin
  have HLN := hid (show (woO xs o).length = o + (m - (o + 1)) by rw [woO_len (by rw [HM.out]; exact ho), HM.out])
  have hle : (o : Int) + 1 ≤ ((m : Nat) : Int) := by omega
  have hlc : (o : Int) ≤ ((c : Nat) : Int) := by omega
  clear h hw h24 hm hin
  go_enter Try.func38, Try.ntmps38
  go_wp2_with fail
  refine (HV.out _ _ _ (hid (alloc2 (Gr.refl _)).1) (hid (X.out.keep (((Gr.refl w).al _).al _)))).mono ?_
  rintro e w1 ⟨rfl, hg1⟩
  obtain ⟨x1_0, x1_1, hz1, g1⟩ := alloc2 hg1
  obtain ⟨_, _, _, _, _⟩ := cells5 x1_0
  have _ := fz x1_0
  have _ := ltb x1_0
  obtain ⟨_, _, _, _, _⟩ := cells5 x1_1
  have _ := fz x1_1
  have _ := ltb x1_1
  have X1_0 := hid x1_0; clear x1_0
  have X1_1 := hid x1_1; clear x1_1
  have G1 := hid (g1)
  clear hg1 g1
  go_wp2_with fail
  refine (in_t _ _ _ _ HIN.out).mono ?_
  rintro e w2 ⟨rfl, hg2⟩
  have x2_1 := hg2.keep X1_0.out
  have x2_2 := hg2.keep X1_1.out
  obtain ⟨_, _, _, _, _⟩ := cells5 x2_1
  have _ := fz x2_1
  have _ := ltb x2_1
  obtain ⟨_, _, _, _, _⟩ := cells5 x2_2
  have _ := fz x2_2
  have _ := ltb x2_2
  have X2_1 := hid x2_1; clear x2_1
  have X2_2 := hid x2_2; clear x2_2
  have G2 := hid (G1.out.trans hg2)
  clear hg2
  go_wp2_with fail
  have hx2 := X.out.keep G2.out
  have U := hid fun (w' : World) (h : Gr w2 w') => (hx2.keep h).vTake (o * 9)
  have V := hid fun (w' : World) (h : Gr w2 w') => (hx2.keep h).vDrop ((o + 1) * 9)
  have HU := hid (show ((flO xs).take (o * 9)).length = o * 9 by rw [List.length_take, flO_len, HM.out]; omega)
  have HW := hid (show ((flO xs).drop ((o + 1) * 9)).length = (m - (o + 1)) * 9 by rw [List.length_drop, flO_len, HM.out]; omega)
  have GA := hid (((Gr.refl w2).al (.cells #[] 104)).trans (Gr.drew _))
  have OA := hid (own_gr (own_madeV w2 104 9 w2.heap.size (Nat.le_refl _)) (Gr.drew _))
  have hro : IntKind.i64.wrap ((o : Int) + 1) = (o : Int) + 1 := IntWalk.i64_in _ (by omega)
  have hto : ((o : Int) + 1).toNat = o + 1 := by omega
  have hp1 : (0 : Int) ≤ (o : Int) + 1 := by omega
  clear X HV hx2
  go_region_law (first
    | (refine (step_appendV rfl (.tmp 17) (.tmp 21) 48 rfl w2.heap.size 104 i0 (vO zO) 9 32 Try.underlying48 hi iz0 iz1 iz2 rfl (by decide) _ 0 _ [] rfl OA.out _ o _ _ rfl (U.out _ GA.out) HU.out (fun u hu => flO_one xs u (List.mem_of_mem_take hu)) (by unfold maxLen; omega) (by omega) GA.out.size ?_); intro A5 c5 w5 own5 hgr; have g5 := hgr w2 GA.out (Nat.le_refl _); have y0 := g5.keep X2_1.out; have y1 := g5.keep X2_2.out; obtain ⟨_, _, _, _, _⟩ := cells5 y0; have _ := fz y0; have _ := ltb y0; rw [Nat.zero_add] at own5; have OWN5 := hid own5; have G5 := hid g5; have Y0 := hid y0; have Y1 := hid y1; clear own5 hgr g5 y0 y1)
    | (refine (step_appendV rfl (.tmp 22) (.tmp 27) 48 rfl w2.heap.size 104 i0 (vO zO) 9 32 Try.underlying48 hi iz0 iz1 iz2 rfl (by decide) _ o _ _ rfl OWN5.out _ (m - (o + 1)) _ _ rfl (V.out _ G5.out) HW.out (fun u hu => flO_one xs u (List.mem_of_mem_drop hu)) (by unfold maxLen; omega) (by omega) G5.out.size ?_); intro A6 c6 w6 own6 hgr; have g6 := hgr w2 G5.out (Nat.le_refl _); have z0 := g6.keep X2_1.out; have z1 := g6.keep X2_2.out; obtain ⟨_, _, _, _, _⟩ := cells5 z0; have _ := fz z0; have _ := ltb z0; obtain ⟨_, _, _, _, _⟩ := cells5 z1; have _ := fz z1; have _ := ltb z1; rw [List.nil_append, flO_wo (by rw [HM.out]; exact ho)] at own6; have OWN6 := hid own6; have G6 := hid (G2.out.trans g6); have Z0 := hid z0; have Z1 := hid z1; clear own6 hgr g6 z0 z1))
  all_goals
    go_wp2_with fail
    refine bodyPost_ret (v := .tuple #[tbl n A6 (o + (m - (o + 1))) c6 b p q, .int .i64 0]) (by simp [results, Try.results38, go_sem, *]) rfl ?_
    have hs2 : w.heap.size + 1 < w2.heap.size := ltb X2_2.out
    exact ⟨A6, c6, by rw [HLN.out], by rw [HLN.out]; exact own_base (own_low (own_low (own_low (own_low (own_low (own_low OWN6.out (by first | exact hs2 | omega) _) (by first | exact hs2 | omega) _) (by first | exact hs2 | omega) _) (by first | exact hs2 | omega) _) (by first | exact hs2 | omega) _) (by first | exact hs2 | omega) _) G2.out.size, ((((((G6.out.setCell (by simp) _).setCell (by simp) _).setCell (by simp) _).setCell (by simp) _).setCell (by simp) _).setCell (by simp) _)⟩
theorem sWithout_yes (n : Int) (g c m : Nat) (b : Bool) (p q : Int) (xs : List Obv) (o : Nat) (w : World) (X : Hid (RdO w (some ⟨g, 0, none⟩) xs)) (hm : xs.length = m) (hc : m ≤ c) (hw : xs.all wfE = true) (h : tblB n b p q xs = true) (ho : o < m) :
    Calls Try.prog 38 #[tbl n (some ⟨g, 0, none⟩) m c b p q, .int .i64 (o : Int)] w fun e w' => GivesTb w w' e n b p q (woO xs o) 0 := by
  by_cases hcn : c = o + 1
  · subst hcn
    obtain rfl : m = o + 1 := by omega
    exact sWithout_a n g b p q xs o w X hm hc hw h ho
  · exact sWithout_b n g c m b p q xs o w X hm hc hw h ho hcn
set_option maxRecDepth 20000 in
set_option maxHeartbeats 1000000 in
theorem sWithout_0 (n : Int) (g c m : Nat) (b : Bool) (p q : Int) (xs : List Obv) (o : Int) (w : World) (X : Hid (RdO w (some ⟨g, 0, none⟩) xs)) (hm : xs.length = m) (hn : m ≤ 1048576) (hw : xs.all wfE = true) (h : tblB n b p q xs = false) :
    Calls Try.prog 38 #[tbl n (some ⟨g, 0, none⟩) m c b p q, .int .i64 o] w fun e w' => GivesTb w w' e 0 false 0 0 [] 1 := by
  have HV := hid (fun (k : Nat) (T : TypeId) (w : World) (XB : Hid (w.heap[k]? = some (.cells #[.int .i64 n, .slice (some ⟨g, 0, none⟩) m c, .bool b, .int .i64 p, .int .i64 q] T))) (X : Hid (RdO w (some ⟨g, 0, none⟩) xs)) => h ▸ sTbOk k T n g c b p q xs w (hm ▸ XB) X (by omega) hw)
  clear h hw hm
  go_enter Try.func38, Try.ntmps38
  go_wp2_with fail
  refine (HV.out _ _ _ (hid (alloc2 (Gr.refl _)).1) (hid (X.out.keep (((Gr.refl w).al _).al _)))).mono ?_
  rintro e w1 ⟨rfl, hg1⟩
  obtain ⟨x1_0, x1_1, hz1, g1⟩ := alloc2 hg1
  obtain ⟨_, _, _, _, _⟩ := cells5 x1_0
  have _ := fz x1_0
  have _ := ltb x1_0
  obtain ⟨_, _, _, _, _⟩ := cells5 x1_1
  have _ := fz x1_1
  have _ := ltb x1_1
  have X1_0 := hid x1_0; clear x1_0
  have X1_1 := hid x1_1; clear x1_1
  have G1 := hid (g1)
  clear hg1 g1
  go_wp2
  refine bodyPost_ret (v := .tuple #[tbl 0 none 0 0 false 0 0, .int .i64 1]) (by simp [results, Try.results38, go_sem, *]) rfl ?_
  exact ⟨none, 0, rfl, World.ownsRow_nil _ _ _ _, by first | exact G1.out | exact (((((G1.out.setCell (by simp) _).setCell (by simp) _).setCell (by simp) _).setCell (by simp) _).setCell (by simp) _)⟩
set_option maxRecDepth 20000 in
set_option maxHeartbeats 1000000 in
theorem sWithout_1 (n : Int) (g c m : Nat) (b : Bool) (p q : Int) (xs : List Obv) (o : Int) (w : World) (X : Hid (RdO w (some ⟨g, 0, none⟩) xs)) (hm : xs.length = m) (hw : xs.all wfE = true) (h : tblB n b p q xs = true) (ho : inB o 0 ((m : Int) - 1) = false) :
    Calls Try.prog 38 #[tbl n (some ⟨g, 0, none⟩) m c b p q, .int .i64 o] w fun e w' => GivesTb w w' e 0 false 0 0 [] 2 := by
  have h24 := tb_24 h
  have HV := hid (fun (k : Nat) (T : TypeId) (w : World) (XB : Hid (w.heap[k]? = some (.cells #[.int .i64 n, .slice (some ⟨g, 0, none⟩) m c, .bool b, .int .i64 p, .int .i64 q] T))) (X : Hid (RdO w (some ⟨g, 0, none⟩) xs)) => h ▸ sTbOk k T n g c b p q xs w (hm ▸ XB) X (by omega) hw)
  have HIN := hid ho
  have hm24 : m ≤ 24 := by omega
  clear h hw hm h24 ho
  go_enter Try.func38, Try.ntmps38
  go_wp2_with fail
  refine (HV.out _ _ _ (hid (alloc2 (Gr.refl _)).1) (hid (X.out.keep (((Gr.refl w).al _).al _)))).mono ?_
  rintro e w1 ⟨rfl, hg1⟩
  obtain ⟨x1_0, x1_1, hz1, g1⟩ := alloc2 hg1
  obtain ⟨_, _, _, _, _⟩ := cells5 x1_0
  have _ := fz x1_0
  have _ := ltb x1_0
  obtain ⟨_, _, _, _, _⟩ := cells5 x1_1
  have _ := fz x1_1
  have _ := ltb x1_1
  have X1_0 := hid x1_0; clear x1_0
  have X1_1 := hid x1_1; clear x1_1
  have G1 := hid (g1)
  clear hg1 g1
  go_wp2_with fail
  refine (in_f _ _ _ _ HIN.out).mono ?_
  rintro e w2 ⟨rfl, hg2⟩
  have x2_1 := hg2.keep X1_0.out
  have x2_2 := hg2.keep X1_1.out
  obtain ⟨_, _, _, _, _⟩ := cells5 x2_1
  have _ := fz x2_1
  have _ := ltb x2_1
  obtain ⟨_, _, _, _, _⟩ := cells5 x2_2
  have _ := fz x2_2
  have _ := ltb x2_2
  have X2_1 := hid x2_1; clear x2_1
  have X2_2 := hid x2_2; clear x2_2
  have G2 := hid (G1.out.trans hg2)
  clear hg2
  go_wp2
  refine bodyPost_ret (v := .tuple #[tbl 0 none 0 0 false 0 0, .int .i64 2]) (by simp [results, Try.results38, go_sem, *]) rfl ?_
  exact ⟨none, 0, rfl, World.ownsRow_nil _ _ _ _, by first | exact G2.out | exact (((((G2.out.setCell (by simp) _).setCell (by simp) _).setCell (by simp) _).setCell (by simp) _).setCell (by simp) _)⟩
theorem bothWithoutObs (n : Int) (b : Bool) (p q : Int) (xs : List Obv) (o : Int) (hn : xs.length ≤ 1048576) (hw : xs.all wfE = true) : ∃ (N : Int) (B : Bool) (U V : Int) (ys : List Obv) (C : Int), ys.length ≤ 1048576 ∧
    (∀ (g c : Nat) (w : World), xs.length ≤ c → Hid (RdO w (some ⟨g, 0, none⟩) xs) → Calls Try.prog 38 #[tbl n (some ⟨g, 0, none⟩) xs.length c b p q, .int .i64 o] w fun e w' => GivesTb w w' e N B U V ys C) ∧
    (∀ (g c : Nat) (w : World), xs.length ≤ c → Hid (RdO w (some ⟨g, 0, none⟩) xs) → Calls Try.prog 39 #[tbl n (some ⟨g, 0, none⟩) xs.length c b p q, .int .i64 o] w fun e w' => GivesTb w w' e N B U V ys C) := by
  cases h : tblB n b p q xs with
  | false => exact ⟨0, false, 0, 0, [], 1, by simp, fun g c w _ X => sWithout_0 n g c _ b p q xs o w X rfl hn hw h, fun g c w _ X => iWithout_0 n g c _ b p q xs o w X rfl hn hw h⟩
  | true =>
    by_cases ho : 0 ≤ o ∧ o < (xs.length : Int)
    · obtain ⟨k, rfl⟩ : ∃ k : Nat, o = (k : Int) := ⟨o.toNat, by omega⟩
      have hk : k < xs.length := by omega
      exact ⟨n, b, p, q, woO xs k, 0, by rw [woO_len hk]; omega, fun g c w hc X => sWithout_yes n g c _ b p q xs k w X rfl hc hw h hk, fun g c w hc X => iWithout_yes n g c _ b p q xs k w X rfl hc hw h hk⟩
    · exact ⟨0, false, 0, 0, [], 2, by simp, fun g c w _ X => sWithout_1 n g c _ b p q xs o w X rfl hw h (by unfold inB; simp; omega), fun g c w _ X => iWithout_1 n g c _ b p q xs o w X rfl hw h (by omega)⟩
end Go.Proofs.Ytjhlpaeenjbljaa
