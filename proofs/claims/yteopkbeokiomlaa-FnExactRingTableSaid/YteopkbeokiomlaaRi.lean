/- WALKS: RingTable: the reference and the program. -/
import Derived.Test.YteopkbeokiomlaaPr
import Derived.Test.YteopkbeokiomlaaEg
import Derived.Deep.RegionWith
import Derived.Deep.RegionLaw
namespace Go.Proofs.Yteopkbeokiomlaa
open Go.RowKit Go.Sort

/-- append to a slice of the call's own, as one step of a region that draws. -/
theorem step_append_gr {P : Program} {ops : Array Oper} {o : Oper} {a : Act} {w : World} {K : Act → World → Prop} {Q : Exit → Act → World → Prop} {E : Prop} (hgd : o.guard = none) (s x : Operand) (t : TypeId)
    (ho : o.op = .call { callee := .builtin .append, args := #[s, x], argTypes := #[t, t] })
    (base : Nat) (e : TypeId) (i : TypeInfo) (z : Value) (size bytes : Nat) (ht : P.underlying t = some (.slice e)) (hi : P.info? e = some i) (hz : i.zero = some z)
    (hsize : i.size = size) (hby : i.bytes = bytes) (hzs : z.cells.size = size) (hsz : 0 < size)
    (v : Value) (n : Nat) (xs : List Value) (hs : a.eval s = v) (hown : w.ownsRow base e size v n xs)
    (ad : Addr) (m c : Nat) (news : List Value) (hx : a.eval x = .slice (some ad) m c) (hl : news.length = m * size) (hnews : ∀ j u, news[j]? = some u → w.cell? (ad.add j) = some u) (h1 : ∀ u ∈ news, u.oneCell' = true)
    (hm0 : 0 < m) (h63 : n + m ≤ maxLen) (hbytes : (n + m) * bytes ≤ 140737488355328) (hbase : base ≤ w.heap.size)
    (h : ∀ v' w', w'.ownsRow base e size v' (n + m) (xs ++ news) → w.grownBy w' v.ownBlock → (v'.ownBlock = v.ownBlock ∨ v'.ownBlock = some w.heap.size) → (∀ W0, Gr W0 w → W0.heap.size ≤ base → Gr W0 w') → K (a.put o.dst v') w') :
    if Region.wanted o (yielded ops a.tmps) = true then Oper.wp P o a w K Q else E := by
  have hw : Region.wanted o (yielded ops a.tmps) = true := by simp [Region.wanted, hgd]
  rw [if_pos hw]
  obtain ⟨v', w', hr, h2, h3, _⟩ := run_append_own w base t o.type e i z size bytes ht hi hz hsize hby hzs hsz v n xs hown ad m c news hl hnews h1 h63 hbytes hbase
  obtain ⟨h4, h5⟩ := append_gr base t o.type e i z size ht hi hz hsize n xs hown ad m c news hl hnews h1 hm0 h63 (by rw [hby]; exact hbytes) hr
  unfold Oper.wp execOp
  simp only [ho, resolve, invoke, builtin, Sem.run_bind, Sem.run_pure, Result.andThen_ok, List.map_toArray, List.map_cons, List.map_nil, hs, hx, hr]
  exact h v' w' h2 h3 h4 h5
def ringO (xs : List (Int × Int)) : List Obv := (List.range xs.length).map fun i => pairO i ((i + 1) % xs.length) (xs.getD i (0, 0)).1 (xs.getD i (0, 0)).2
theorem ringO_len (xs : List (Int × Int)) : (ringO xs).length = xs.length := by simp [ringO]
theorem ringO_take {xs : List (Int × Int)} {k : Nat} {p q : Int} (h : xs[k]? = some (p, q)) : (ringO xs).take (k + 1) = (ringO xs).take k ++ [pairO k ((k + 1) % xs.length) p q] := by
  have hk : k < xs.length := (List.getElem?_eq_some_iff.1 h).1
  rw [List.take_succ_eq_append_getElem (by rw [ringO_len]; exact hk)]
  simp [ringO, List.getD, h]
theorem own_neO {W : World} {base b : Nat} {n : Nat} {v : Value} {xs : List Value} {cs : Array Value} (h : W.ownsRow base 149 9 v n xs) (hb : W.heap[b]? = some (.cells cs 82)) : v.ownBlock ≠ some b := by
  rcases h.2 with ⟨rfl, _⟩ | ⟨g, cap, cur, rfl, _, h3, _⟩
  · simp [Value.ownBlock]
  · intro he
    have : g = b := by simpa [Value.ownBlock] using he
    subst this
    rw [hb] at h3
    injection h3 with e1
    injection e1 with _ e2
    exact absurd e2 (by decide)
theorem own_setT {W : World} {base b i : Nat} {n : Nat} {v : Value} {xs : List Value} {cs : Array Value} (h : W.ownsRow base 149 9 v n xs) (hb : W.heap[b]? = some (.cells cs 82)) (y : Value) : (W.setCell ⟨b, i, none⟩ y).ownsRow base 149 9 v n xs := by
  refine ⟨h.1, ?_⟩
  rcases h.2 with h0 | ⟨g, cap, cur, h1, h2, h3, h4⟩
  · exact .inl h0
  · refine .inr ⟨g, cap, cur, h1, h2, keepSet' h3 ?_, h4⟩
    intro he
    have : g = b := by simpa using he
    subst this
    rw [hb] at h3
    injection h3 with e1
    injection e1 with _ e2
    exact absurd e2 (by decide)
theorem one_news9 {w : World} {b : Nat} {d0 d1 d2 d3 d4 d5 p q t : Int} {T : TypeId} (h : w.heap[b]? = some (.cells #[.int .i8 d0, .int .i8 d1, .int .i8 d2, .int .i8 d3, .int .i8 d4, .int .i8 d5, .int .i64 p, .int .i64 q, .int .i64 t] T)) :
    ∀ (j : Nat) (u : Value), (cO ⟨d0, d1, d2, d3, d4, d5, p, q, t⟩)[j]? = some u → w.cell? ((⟨b, 0, none⟩ : Addr).add j) = some u := by
  intro j u hj
  obtain ⟨n0, n1, n2, n3, n4, n5, n6, n7, n8⟩ := cells9 h
  match j with
  | 0 => simp [cO] at hj; subst hj; exact n0
  | 1 => simp [cO] at hj; subst hj; exact n1
  | 2 => simp [cO] at hj; subst hj; exact n2
  | 3 => simp [cO] at hj; subst hj; exact n3
  | 4 => simp [cO] at hj; subst hj; exact n4
  | 5 => simp [cO] at hj; subst hj; exact n5
  | 6 => simp [cO] at hj; subst hj; exact n6
  | 7 => simp [cO] at hj; subst hj; exact n7
  | 8 => simp [cO] at hj; subst hj; exact n8
  | j + 9 => simp [cO] at hj
def GivesTb (w w' : World) (e : Ending) (n : Int) (b : Bool) (p q : Int) (ys : List Obv) (C : Int) : Prop := ∃ A c, e = .returned (.tuple #[tbl n A ys.length c b p q, .int .i64 C]) ∧ w'.ownsRow w.heap.size 149 9 (.slice A ys.length c) ys.length (flO ys) ∧ Gr w w'
theorem own_nilO (w : World) (base : Nat) : w.ownsRow base 149 9 (.slice none 0 0) 0 (flO []) := World.ownsRow_nil _ _ _ _
theorem givesTb0 {w w' : World} {e : Ending} {C : Int} (h : e = .returned (.tuple #[tbl 0 none 0 0 false 0 0, .int .i64 C]) ∧ Gr w w') : GivesTb w w' e 0 false 0 0 [] C := ⟨none, 0, h.1, own_nilO _ _, h.2⟩

set_option maxRecDepth 20000 in
set_option maxHeartbeats 400000 in
theorem sRing_0 (p q : Int) (A : Option Addr) (c : Nat) (xs : List (Int × Int)) (w : World) (X : Hid (RdF w A xs)) (hn : xs.length ≤ 1048576) (h : allF xs = false) :
    Calls Try.prog 50 #[.slice A xs.length c, fr p q] w fun e w' => e = .returned (.tuple #[tbl 0 none 0 0 false 0 0, .int .i64 1]) ∧ Gr w w' := by
  have HS := hid fun (w' : World) (Z : Hid (RdF w' A xs)) => h ▸ sFracs A c xs w' Z hn
  go_enter Try.func50, Try.ntmps50
  go_wp2_with fail
  refine (HS.out _ (hid (X.out.keep (((Gr.refl w).al _).al _)))).mono ?_
  rintro e w1 ⟨rfl, hg1⟩
  obtain ⟨x1_0, x1_1, hz1, g1⟩ := alloc2 hg1
  obtain ⟨_, _⟩ := cells2 x1_0
  have _ := fz x1_0
  have _ := ltb x1_0
  obtain ⟨_, _, _, _, _⟩ := cells5 x1_1
  have _ := fz x1_1
  have _ := ltb x1_1
  have X1_0 := hid x1_0; clear x1_0
  have X1_1 := hid x1_1; clear x1_1
  have G1 := hid (g1)
  clear hg1 g1
  go_wp2
  refine bodyPost_ret (v := .tuple #[tbl 0 none 0 0 false 0 0, .int .i64 1]) (by simp [results, Try.results50, go_sem, *]) rfl ⟨rfl, ?_⟩
  exact (((((G1.out).setCell (by simp <;> omega) _).setCell (by simp <;> omega) _).setCell (by simp <;> omega) _).setCell (by simp <;> omega) _).setCell (by simp <;> omega) _
set_option maxRecDepth 20000 in
set_option maxHeartbeats 400000 in
theorem sRing_1 (p q : Int) (A : Option Addr) (c : Nat) (xs : List (Int × Int)) (w : World) (X : Hid (RdF w A xs)) (hn : xs.length ≤ 1048576) (h : allF xs = true) (h2 : okB p q = false) :
    Calls Try.prog 50 #[.slice A xs.length c, fr p q] w fun e w' => e = .returned (.tuple #[tbl 0 none 0 0 false 0 0, .int .i64 1]) ∧ Gr w w' := by
  have h2 := hid h2
  have HS := hid fun (w' : World) (Z : Hid (RdF w' A xs)) => h ▸ sFracs A c xs w' Z hn
  go_enter Try.func50, Try.ntmps50
  go_wp2_with fail
  refine (HS.out _ (hid (X.out.keep (((Gr.refl w).al _).al _)))).mono ?_
  rintro e w1 ⟨rfl, hg1⟩
  obtain ⟨x1_0, x1_1, hz1, g1⟩ := alloc2 hg1
  obtain ⟨_, _⟩ := cells2 x1_0
  have _ := fz x1_0
  have _ := ltb x1_0
  obtain ⟨_, _, _, _, _⟩ := cells5 x1_1
  have _ := fz x1_1
  have _ := ltb x1_1
  have X1_0 := hid x1_0; clear x1_0
  have X1_1 := hid x1_1; clear x1_1
  have G1 := hid (g1)
  clear hg1 g1
  go_wp2_with fail
  refine (sok_f _ _ _ h2.out).mono ?_
  rintro e w2 ⟨rfl, hg2⟩
  have x2_1 := hg2.keep X1_0.out
  have x2_2 := hg2.keep X1_1.out
  obtain ⟨_, _⟩ := cells2 x2_1
  have _ := fz x2_1
  have _ := ltb x2_1
  obtain ⟨_, _, _, _, _⟩ := cells5 x2_2
  have _ := fz x2_2
  have _ := ltb x2_2
  have X2_1 := hid x2_1; clear x2_1
  have X2_2 := hid x2_2; clear x2_2
  have G2 := hid (G1.out.trans hg2)
  clear hg2
  go_wp2
  refine bodyPost_ret (v := .tuple #[tbl 0 none 0 0 false 0 0, .int .i64 1]) (by simp [results, Try.results50, go_sem, *]) rfl ⟨rfl, ?_⟩
  exact (((((G2.out).setCell (by simp <;> omega) _).setCell (by simp <;> omega) _).setCell (by simp <;> omega) _).setCell (by simp <;> omega) _).setCell (by simp <;> omega) _
set_option maxRecDepth 20000 in
set_option maxHeartbeats 400000 in
theorem sRing_2 (p q : Int) (A : Option Addr) (c : Nat) (xs : List (Int × Int)) (w : World) (X : Hid (RdF w A xs)) (hn : xs.length ≤ 1048576) (h : allF xs = true) (h2 : okB p q = true) (h3 : ¬ (2 ≤ xs.length ∧ xs.length ≤ 6)) :
    Calls Try.prog 50 #[.slice A xs.length c, fr p q] w fun e w' => e = .returned (.tuple #[tbl 0 none 0 0 false 0 0, .int .i64 2]) ∧ Gr w w' := by
  have h2 := hid h2
  have HS := hid fun (w' : World) (Z : Hid (RdF w' A xs)) => h ▸ sFracs A c xs w' Z hn
  have HI := hid fun (w' : World) => (in_any (xs.length : Int) 2 6 w').mono (R' := fun e w'' => e = .returned (.bool false) ∧ Gr w' w'') fun e w'' hh => ⟨by rw [hh.1]; simp [inB]; omega, hh.2 ▸ Gr.refl _⟩
  go_enter Try.func50, Try.ntmps50
  go_wp2_with fail
  refine (HS.out _ (hid (X.out.keep (((Gr.refl w).al _).al _)))).mono ?_
  rintro e w1 ⟨rfl, hg1⟩
  obtain ⟨x1_0, x1_1, hz1, g1⟩ := alloc2 hg1
  obtain ⟨_, _⟩ := cells2 x1_0
  have _ := fz x1_0
  have _ := ltb x1_0
  obtain ⟨_, _, _, _, _⟩ := cells5 x1_1
  have _ := fz x1_1
  have _ := ltb x1_1
  have X1_0 := hid x1_0; clear x1_0
  have X1_1 := hid x1_1; clear x1_1
  have G1 := hid (g1)
  clear hg1 g1
  go_wp2_with fail
  refine (sok_t _ _ _ h2.out).mono ?_
  rintro e w2 ⟨rfl, hg2⟩
  have x2_1 := hg2.keep X1_0.out
  have x2_2 := hg2.keep X1_1.out
  obtain ⟨_, _⟩ := cells2 x2_1
  have _ := fz x2_1
  have _ := ltb x2_1
  obtain ⟨_, _, _, _, _⟩ := cells5 x2_2
  have _ := fz x2_2
  have _ := ltb x2_2
  have X2_1 := hid x2_1; clear x2_1
  have X2_2 := hid x2_2; clear x2_2
  have G2 := hid (G1.out.trans hg2)
  clear hg2
  go_wp2_with fail
  refine (HI.out _).mono ?_
  rintro e w3 ⟨rfl, hg3⟩
  have x3_1 := hg3.keep X2_1.out
  have x3_2 := hg3.keep X2_2.out
  obtain ⟨_, _⟩ := cells2 x3_1
  have _ := fz x3_1
  have _ := ltb x3_1
  obtain ⟨_, _, _, _, _⟩ := cells5 x3_2
  have _ := fz x3_2
  have _ := ltb x3_2
  have X3_1 := hid x3_1; clear x3_1
  have X3_2 := hid x3_2; clear x3_2
  have G3 := hid (G2.out.trans hg3)
  clear hg3
  go_wp2
  refine bodyPost_ret (v := .tuple #[tbl 0 none 0 0 false 0 0, .int .i64 2]) (by simp [results, Try.results50, go_sem, *]) rfl ⟨rfl, ?_⟩
  exact (((((G3.out).setCell (by simp <;> omega) _).setCell (by simp <;> omega) _).setCell (by simp <;> omega) _).setCell (by simp <;> omega) _).setCell (by simp <;> omega) _
set_option maxRecDepth 20000 in
set_option maxHeartbeats 2000000 in
theorem sRing_3 (p q : Int) (A : Option Addr) (c : Nat) (xs : List (Int × Int)) (w : World) (X : Hid (RdF w A xs)) (hn : xs.length ≤ 1048576) (h : allF xs = true) (h2 : okB p q = true) (h3 : 2 ≤ xs.length ∧ xs.length ≤ 6) :
    Calls Try.prog 50 #[.slice A xs.length c, fr p q] w fun e w' => GivesTb w w' e (xs.length : Int) true p q (ringO xs) 0 := by
  obtain ⟨i0, hi, iz0, iz1, iz2⟩ : ∃ i, Try.prog.info? 149 = some i ∧ i.zero = some (vO zO) ∧ i.size = 9 ∧ i.bytes = 32 := ⟨_, rfl, rfl, rfl, rfl⟩
  obtain ⟨hl2, hl6⟩ := h3
  have h2 := hid h2
  have HS := hid fun (w' : World) (Z : Hid (RdF w' A xs)) => h ▸ sFracs A c xs w' Z hn
  have HI := hid fun (w' : World) => (in_any (xs.length : Int) 2 6 w').mono (R' := fun e w'' => e = .returned (.bool true) ∧ Gr w' w'') fun e w'' hh => ⟨by rw [hh.1]; simp [inB]; omega, hh.2 ▸ Gr.refl _⟩
  clear h
  go_enter Try.func50, Try.ntmps50
  go_wp2_with fail
  refine (HS.out _ (hid (X.out.keep (((Gr.refl w).al _).al _)))).mono ?_
  rintro e w1 ⟨rfl, hg1⟩
  obtain ⟨x1_0, x1_1, hz1, g1⟩ := alloc2 hg1
  obtain ⟨_, _⟩ := cells2 x1_0
  have _ := fz x1_0
  have _ := ltb x1_0
  obtain ⟨_, _, _, _, _⟩ := cells5 x1_1
  have _ := fz x1_1
  have _ := ltb x1_1
  have X1_0 := hid x1_0; clear x1_0
  have X1_1 := hid x1_1; clear x1_1
  have G1 := hid (g1)
  clear hg1 g1
  go_wp2_with fail
  refine (sok_t _ _ _ h2.out).mono ?_
  rintro e w2 ⟨rfl, hg2⟩
  have x2_1 := hg2.keep X1_0.out
  have x2_2 := hg2.keep X1_1.out
  obtain ⟨_, _⟩ := cells2 x2_1
  have _ := fz x2_1
  have _ := ltb x2_1
  obtain ⟨_, _, _, _, _⟩ := cells5 x2_2
  have _ := fz x2_2
  have _ := ltb x2_2
  have X2_1 := hid x2_1; clear x2_1
  have X2_2 := hid x2_2; clear x2_2
  have G2 := hid (G1.out.trans hg2)
  clear hg2
  go_wp2_with fail
  refine (HI.out _).mono ?_
  rintro e w3 ⟨rfl, hg3⟩
  have x3_1 := hg3.keep X2_1.out
  have x3_2 := hg3.keep X2_2.out
  obtain ⟨_, _⟩ := cells2 x3_1
  have _ := fz x3_1
  have _ := ltb x3_1
  obtain ⟨_, _, _, _, _⟩ := cells5 x3_2
  have _ := fz x3_2
  have _ := ltb x3_2
  have X3_1 := hid x3_1; clear x3_1
  have X3_2 := hid x3_2; clear x3_2
  have G3 := hid (G2.out.trans hg3)
  clear hg3
  have hw3 := ltb X3_2.out
  go_wp2_with fail
  go_loopw [8] (fun u wr => ∃ (k : Nat) (A' : Option Addr) (c' : Nat), u = .int .i64 (k : Int) ∧ k ≤ xs.length ∧ Gr w3 wr ∧ wr.heap[w3.heap.size]? = some (.cells #[.int .i64 (xs.length : Int), .slice A' k c', .bool true, .int .i64 p, .int .i64 q] 82) ∧ wr.ownsRow w3.heap.size 149 9 (.slice A' k c') k (flO ((ringO xs).take k))) (fun u _ => xs.length - (intOf u).toNat)
  case atStart => exact ⟨0, none, 0, rfl, by omega, (Gr.refl _).al _, (alloc1 (Gr.refl _)).1, own_nilO _ _⟩
  case round =>
    obtain ⟨k, A', c', rfl, hk, hg, hsc, hown⟩ := hrel
    have GW := hid hg; have OWN := hid hown; have Y8 := hid hsc
    have GV := hid (G3.out.trans hg)
    have Y2 := hid (hg.keep X3_2.out)
    rename_i e0 e1 e2 e3 e4 e5 e6 e7 e8 e9 e10 e11 e12 e13 e14 e15 e16 e17 e18 e19 e20 e21 e22 e23 e24 e25 e26 e27 e28 e29 e30 e31 e32 eK ea
    clear e0 e1 e2 e3 e4 e5 e6 e7 e8 e9 e10 e11 e12 e13 e14 e15 e16 e17 e18 e19 e20 e21 e22 e23 e24 e25 e26 e27 e28 e29 e30 e31 e32
    clear hg hown hsc HS HI h2 G1 G2 X1_0 X1_1 X2_1 X2_2 X3_1 X3_2
    by_cases hlt : k < xs.length
    · obtain ⟨⟨r, s⟩, h0⟩ : ∃ pq, xs[k]? = some pq := ⟨xs[k], List.getElem?_eq_getElem _⟩
      have HT := hid (ringO_take h0)
      obtain ⟨m, hm⟩ : ∃ m, (k + 1) % xs.length = m := ⟨_, rfl⟩
      have hm6 : m < 6 := by have := Nat.mod_lt (k + 1) (show 0 < xs.length by omega); omega
      have hm7 : k < m ∨ (m = 0 ∧ 0 < k ∧ k < 6) := by
        by_cases hk1 : k + 1 < xs.length
        · rw [Nat.mod_eq_of_lt hk1] at hm; omega
        · have : k + 1 = xs.length := by omega
          rw [this, Nat.mod_self] at hm; omega
      have hrem : Int.tmod (IntKind.i64.wrap ((k : Int) + 1)) (xs.length : Int) = (m : Int) := by rw [IntWalk.i64_in _ (by omega), ← hm, Int.tmod_eq_emod_of_nonneg (by omega)]; simp
      rw [hm] at HT
      have hn0 : (xs.length : Int) ≠ 0 := by omega
      have hn1 : ¬ xs = [] := fun h => by rw [h] at hl2; simp at hl2
      obtain ⟨d0, d1, d2, d3, d4, d5, hd⟩ : ∃ d0 d1 d2 d3 d4 d5, pairO k m r s = ⟨d0, d1, d2, d3, d4, d5, r, s, 1⟩ := ⟨_, _, _, _, _, _, rfl⟩
      have hpr := fun w => sPairO k m r s w hm6 hm7
      rw [hd] at hpr HT
      have HP := hid hpr
      obtain ⟨ad, rfl, c1, c2⟩ := (X.out.keep GV.out) k r s h0
      obtain ⟨_, _, _, _, _⟩ := cells5 Y8.out
      have _ := fz Y8.out
      have _ := ltb Y8.out
      clear h0 hm hm7 hd hpr hm6 hn hl2
      go_wp2_with fail
      clear X GV G3 Y2 hw3
      go_region_law (first
        | (refine (step_append_gr rfl (.tmp 33) (.tmp 44) 80 rfl w3.heap.size 149 i0 (vO zO) 9 32 Try.underlying80 hi iz0 iz1 iz2 rfl (by decide) _ k _ rfl OWN4.out ⟨w4.heap.size, 0, none⟩ 1 1 (cO ⟨d0, d1, d2, d3, d4, d5, r, s, 1⟩) rfl rfl NEW.out (cO_one _) (by decide) (by unfold maxLen; omega) (by omega) hsz4 ?_); intro v' w5 own5 hgb _ hgr; obtain ⟨A2, c2, rfl⟩ := own_form own5; rw [flO_app, ← HT.out] at own5; have y5 := (hgb.block w3.heap.size (ltb YA.out) (Ne.symm hne)).trans YA.out; have OWN5 := hid own5; have Y5 := hid y5; have G5 := hid (hgr _ GA.out (Nat.le_refl _)); obtain ⟨_, _, _, _, _⟩ := cells5 Y5.out; have _ := fz Y5.out; have _ := ltb Y5.out; clear own5 y5 hgb hgr hne hsz4)
        | (go_simp; go_wp2_with (go_at_call 120; refine (HP.out _).mono ?_; rintro x w4 ⟨rfl, hg4⟩; have gd := (Gr.drew wr).trans hg4; have Y4 := hid (gd.keep Y8.out); have GA := hid ((GW.out.trans gd).al (.cells #[.int .i8 d0, .int .i8 d1, .int .i8 d2, .int .i8 d3, .int .i8 d4, .int .i8 d5, .int .i64 r, .int .i64 s, .int .i64 1] 149)); have OWN4 := hid (own_gr (own_gr OWN.out gd) ((Gr.refl w4).al (.cells #[.int .i8 d0, .int .i8 d1, .int .i8 d2, .int .i8 d3, .int .i8 d4, .int .i8 d5, .int .i64 r, .int .i64 s, .int .i64 1] 149))); have NEW := hid (one_news9 (w := w4.alloc (.cells #[.int .i8 d0, .int .i8 d1, .int .i8 d2, .int .i8 d3, .int .i8 d4, .int .i8 d5, .int .i64 r, .int .i64 s, .int .i64 1] 149)) (b := w4.heap.size) (alloc1 (Gr.refl _)).1); have hsz4 := GA.out.size; have YA := hid (((Gr.refl w4).al (.cells #[.int .i8 d0, .int .i8 d1, .int .i8 d2, .int .i8 d3, .int .i8 d4, .int .i8 d5, .int .i64 r, .int .i64 s, .int .i64 1] 149)).keep Y4.out); have hne := own_neO OWN4.out YA.out; obtain ⟨_, _, _, _, _⟩ := cells5 Y4.out; have _ := fz Y4.out; have _ := ltb Y4.out; clear hg4 gd)))
      all_goals
        go_wp2_with fail
        exact ⟨⟨k + 1, A2, c2, by simp, by omega, G5.out.setCell (by simp) _, by simpa using Joins.block_setCell (i := 1) Y5.out _, own_setT OWN5.out Y5.out _⟩, by simp [intOf]; omega⟩
    · have hke : k = xs.length := by omega
      subst hke
      obtain ⟨_, _, _, _, _⟩ := cells5 Y8.out
      obtain ⟨_, _, _, _, _⟩ := cells5 Y2.out
      have _ := fz Y2.out
      have _ := ltb Y2.out
      have hh := OWN.out
      rw [List.take_of_length_le (by rw [ringO_len]; exact Nat.le_refl _), ← ringO_len xs] at hh
      go_wp2_with fail
      refine bodyPost_ret (v := .tuple #[tbl (xs.length : Int) A' xs.length c' true p q, .int .i64 0]) (by simp [results, Try.results50, go_sem, *]) rfl ?_
      refine ⟨A', c', by rw [ringO_len], own_base (own_low (own_low (own_low (own_low (own_low hh (by simpa using hw3) _) (by simpa using hw3) _) (by simpa using hw3) _) (by simpa using hw3) _) (by simpa using hw3) _) (by omega), ?_⟩
      exact (((((GV.out.setCell (by simp) _).setCell (by simp) _).setCell (by simp) _).setCell (by simp) _).setCell (by simp) _)
set_option maxRecDepth 20000 in
set_option maxHeartbeats 400000 in
theorem iRing_0 (p q : Int) (A : Option Addr) (c : Nat) (xs : List (Int × Int)) (w : World) (X : Hid (RdF w A xs)) (hn : xs.length ≤ 1048576) (h : allF xs = false) :
    Calls Try.prog 51 #[.slice A xs.length c, fr p q] w fun e w' => e = .returned (.tuple #[tbl 0 none 0 0 false 0 0, .int .i64 1]) ∧ Gr w w' := by
  have HS := hid fun (w' : World) (Z : Hid (RdF w' A xs)) => h ▸ iFracs A c xs w' Z hn
  go_enter Try.func51, Try.ntmps51
  go_wp2_with fail
  refine (HS.out _ (hid (X.out.keep (((Gr.refl w).al _).al _)))).mono ?_
  rintro e w1 ⟨rfl, hg1⟩
  obtain ⟨x1_0, x1_1, hz1, g1⟩ := alloc2 hg1
  obtain ⟨_, _⟩ := cells2 x1_0
  have _ := fz x1_0
  have _ := ltb x1_0
  obtain ⟨_, _, _, _, _⟩ := cells5 x1_1
  have _ := fz x1_1
  have _ := ltb x1_1
  have X1_0 := hid x1_0; clear x1_0
  have X1_1 := hid x1_1; clear x1_1
  have G1 := hid (g1)
  clear hg1 g1
  go_wp2
  refine bodyPost_ret (v := .tuple #[tbl 0 none 0 0 false 0 0, .int .i64 1]) (by simp [results, Try.results51, go_sem, *]) rfl ⟨rfl, ?_⟩
  exact (((((G1.out).setCell (by simp <;> omega) _).setCell (by simp <;> omega) _).setCell (by simp <;> omega) _).setCell (by simp <;> omega) _).setCell (by simp <;> omega) _
set_option maxRecDepth 20000 in
set_option maxHeartbeats 400000 in
theorem iRing_1 (p q : Int) (A : Option Addr) (c : Nat) (xs : List (Int × Int)) (w : World) (X : Hid (RdF w A xs)) (hn : xs.length ≤ 1048576) (h : allF xs = true) (h2 : okB p q = false) :
    Calls Try.prog 51 #[.slice A xs.length c, fr p q] w fun e w' => e = .returned (.tuple #[tbl 0 none 0 0 false 0 0, .int .i64 1]) ∧ Gr w w' := by
  have h2 := hid h2
  have HS := hid fun (w' : World) (Z : Hid (RdF w' A xs)) => h ▸ iFracs A c xs w' Z hn
  go_enter Try.func51, Try.ntmps51
  go_wp2_with fail
  refine (HS.out _ (hid (X.out.keep (((Gr.refl w).al _).al _)))).mono ?_
  rintro e w1 ⟨rfl, hg1⟩
  obtain ⟨x1_0, x1_1, hz1, g1⟩ := alloc2 hg1
  obtain ⟨_, _⟩ := cells2 x1_0
  have _ := fz x1_0
  have _ := ltb x1_0
  obtain ⟨_, _, _, _, _⟩ := cells5 x1_1
  have _ := fz x1_1
  have _ := ltb x1_1
  have X1_0 := hid x1_0; clear x1_0
  have X1_1 := hid x1_1; clear x1_1
  have G1 := hid (g1)
  clear hg1 g1
  go_wp2_with fail
  refine (iok_f _ _ _ h2.out).mono ?_
  rintro e w2 ⟨rfl, hg2⟩
  have x2_1 := hg2.keep X1_0.out
  have x2_2 := hg2.keep X1_1.out
  obtain ⟨_, _⟩ := cells2 x2_1
  have _ := fz x2_1
  have _ := ltb x2_1
  obtain ⟨_, _, _, _, _⟩ := cells5 x2_2
  have _ := fz x2_2
  have _ := ltb x2_2
  have X2_1 := hid x2_1; clear x2_1
  have X2_2 := hid x2_2; clear x2_2
  have G2 := hid (G1.out.trans hg2)
  clear hg2
  go_wp2
  refine bodyPost_ret (v := .tuple #[tbl 0 none 0 0 false 0 0, .int .i64 1]) (by simp [results, Try.results51, go_sem, *]) rfl ⟨rfl, ?_⟩
  exact (((((G2.out).setCell (by simp <;> omega) _).setCell (by simp <;> omega) _).setCell (by simp <;> omega) _).setCell (by simp <;> omega) _).setCell (by simp <;> omega) _
set_option maxRecDepth 20000 in
set_option maxHeartbeats 400000 in
theorem iRing_2 (p q : Int) (A : Option Addr) (c : Nat) (xs : List (Int × Int)) (w : World) (X : Hid (RdF w A xs)) (hn : xs.length ≤ 1048576) (h : allF xs = true) (h2 : okB p q = true) (h3 : ¬ (2 ≤ xs.length ∧ xs.length ≤ 6)) :
    Calls Try.prog 51 #[.slice A xs.length c, fr p q] w fun e w' => e = .returned (.tuple #[tbl 0 none 0 0 false 0 0, .int .i64 2]) ∧ Gr w w' := by
  have h2 := hid h2
  have HS := hid fun (w' : World) (Z : Hid (RdF w' A xs)) => h ▸ iFracs A c xs w' Z hn
  by_cases h1 : xs.length < 2
  · go_enter Try.func51, Try.ntmps51
    go_wp2_with fail
    refine (HS.out _ (hid (X.out.keep (((Gr.refl w).al _).al _)))).mono ?_
    rintro e w1 ⟨rfl, hg1⟩
    obtain ⟨x1_0, x1_1, hz1, g1⟩ := alloc2 hg1
    obtain ⟨_, _⟩ := cells2 x1_0
    have _ := fz x1_0
    have _ := ltb x1_0
    obtain ⟨_, _, _, _, _⟩ := cells5 x1_1
    have _ := fz x1_1
    have _ := ltb x1_1
    have X1_0 := hid x1_0; clear x1_0
    have X1_1 := hid x1_1; clear x1_1
    have G1 := hid (g1)
    clear hg1 g1
    go_wp2_with fail
    refine (iok_t _ _ _ h2.out).mono ?_
    rintro e w2 ⟨rfl, hg2⟩
    have x2_1 := hg2.keep X1_0.out
    have x2_2 := hg2.keep X1_1.out
    obtain ⟨_, _⟩ := cells2 x2_1
    have _ := fz x2_1
    have _ := ltb x2_1
    obtain ⟨_, _, _, _, _⟩ := cells5 x2_2
    have _ := fz x2_2
    have _ := ltb x2_2
    have X2_1 := hid x2_1; clear x2_1
    have X2_2 := hid x2_2; clear x2_2
    have G2 := hid (G1.out.trans hg2)
    clear hg2
    go_wp2
    refine bodyPost_ret (v := .tuple #[tbl 0 none 0 0 false 0 0, .int .i64 2]) (by simp [results, Try.results51, go_sem, *]) rfl ⟨rfl, ?_⟩
    exact (((((G2.out).setCell (by simp <;> omega) _).setCell (by simp <;> omega) _).setCell (by simp <;> omega) _).setCell (by simp <;> omega) _).setCell (by simp <;> omega) _
  · have h5 : 6 < xs.length := by omega
    go_enter Try.func51, Try.ntmps51
    go_wp2_with fail
    refine (HS.out _ (hid (X.out.keep (((Gr.refl w).al _).al _)))).mono ?_
    rintro e w1 ⟨rfl, hg1⟩
    obtain ⟨x1_0, x1_1, hz1, g1⟩ := alloc2 hg1
    obtain ⟨_, _⟩ := cells2 x1_0
    have _ := fz x1_0
    have _ := ltb x1_0
    obtain ⟨_, _, _, _, _⟩ := cells5 x1_1
    have _ := fz x1_1
    have _ := ltb x1_1
    have X1_0 := hid x1_0; clear x1_0
    have X1_1 := hid x1_1; clear x1_1
    have G1 := hid (g1)
    clear hg1 g1
    go_wp2_with fail
    refine (iok_t _ _ _ h2.out).mono ?_
    rintro e w2 ⟨rfl, hg2⟩
    have x2_1 := hg2.keep X1_0.out
    have x2_2 := hg2.keep X1_1.out
    obtain ⟨_, _⟩ := cells2 x2_1
    have _ := fz x2_1
    have _ := ltb x2_1
    obtain ⟨_, _, _, _, _⟩ := cells5 x2_2
    have _ := fz x2_2
    have _ := ltb x2_2
    have X2_1 := hid x2_1; clear x2_1
    have X2_2 := hid x2_2; clear x2_2
    have G2 := hid (G1.out.trans hg2)
    clear hg2
    go_wp2
    refine bodyPost_ret (v := .tuple #[tbl 0 none 0 0 false 0 0, .int .i64 2]) (by simp [results, Try.results51, go_sem, *]) rfl ⟨rfl, ?_⟩
    exact (((((G2.out).setCell (by simp <;> omega) _).setCell (by simp <;> omega) _).setCell (by simp <;> omega) _).setCell (by simp <;> omega) _).setCell (by simp <;> omega) _
set_option maxRecDepth 20000 in
set_option maxHeartbeats 2000000 in
theorem iRing_3 (p q : Int) (A : Option Addr) (c : Nat) (xs : List (Int × Int)) (w : World) (X : Hid (RdF w A xs)) (hn : xs.length ≤ 1048576) (h : allF xs = true) (h2 : okB p q = true) (h3 : 2 ≤ xs.length ∧ xs.length ≤ 6) :
    Calls Try.prog 51 #[.slice A xs.length c, fr p q] w fun e w' => GivesTb w w' e (xs.length : Int) true p q (ringO xs) 0 := by
  obtain ⟨i0, hi, iz0, iz1, iz2⟩ : ∃ i, Try.prog.info? 149 = some i ∧ i.zero = some (vO zO) ∧ i.size = 9 ∧ i.bytes = 32 := ⟨_, rfl, rfl, rfl, rfl⟩
  obtain ⟨hl2, hl6⟩ := h3
  have h2 := hid h2
  have HS := hid fun (w' : World) (Z : Hid (RdF w' A xs)) => h ▸ iFracs A c xs w' Z hn
  clear h
  go_enter Try.func51, Try.ntmps51
  go_wp2_with fail
  refine (HS.out _ (hid (X.out.keep (((Gr.refl w).al _).al _)))).mono ?_
  rintro e w1 ⟨rfl, hg1⟩
  obtain ⟨x1_0, x1_1, hz1, g1⟩ := alloc2 hg1
  obtain ⟨_, _⟩ := cells2 x1_0
  have _ := fz x1_0
  have _ := ltb x1_0
  obtain ⟨_, _, _, _, _⟩ := cells5 x1_1
  have _ := fz x1_1
  have _ := ltb x1_1
  have X1_0 := hid x1_0; clear x1_0
  have X1_1 := hid x1_1; clear x1_1
  have G1 := hid (g1)
  clear hg1 g1
  go_wp2_with fail
  refine (iok_t _ _ _ h2.out).mono ?_
  rintro e w2 ⟨rfl, hg2⟩
  have x2_1 := hg2.keep X1_0.out
  have x2_2 := hg2.keep X1_1.out
  obtain ⟨_, _⟩ := cells2 x2_1
  have _ := fz x2_1
  have _ := ltb x2_1
  obtain ⟨_, _, _, _, _⟩ := cells5 x2_2
  have _ := fz x2_2
  have _ := ltb x2_2
  have X2_1 := hid x2_1; clear x2_1
  have X2_2 := hid x2_2; clear x2_2
  have G2 := hid (G1.out.trans hg2)
  clear hg2
  have hw3 := ltb X2_2.out
  go_wp2_with fail
  go_loopw [33] (fun u wr => ∃ (k : Nat) (A' : Option Addr) (c' : Nat), u = .int .i64 (k : Int) ∧ k ≤ xs.length ∧ Gr w2 wr ∧ wr.heap[w2.heap.size]? = some (.cells #[.int .i64 (xs.length : Int), .slice A' k c', .bool true, .int .i64 p, .int .i64 q] 82) ∧ wr.ownsRow w2.heap.size 149 9 (.slice A' k c') k (flO ((ringO xs).take k))) (fun u _ => xs.length - (intOf u).toNat)
  case atStart => exact ⟨0, none, 0, rfl, by omega, (Gr.refl _).al _, (alloc1 (Gr.refl _)).1, own_nilO _ _⟩
  case round =>
    obtain ⟨k, A', c', rfl, hk, hg, hsc, hown⟩ := hrel
    have GW := hid hg; have OWN := hid hown; have Y8 := hid hsc
    have GV := hid (G2.out.trans hg)
    have Y2 := hid (hg.keep X2_2.out)
    rename_i e0 e1 e2 e3 e4 e5 e6 e7 e8 e9 e10 e11 e12 e13 e14 e15 e16 e17 e18 e19 e20 e21 eK ea
    clear e0 e1 e2 e3 e4 e5 e6 e7 e8 e9 e10 e11 e12 e13 e14 e15 e16 e17 e18 e19 e20 e21
    clear hg hown hsc HS h2 G1 X1_0 X1_1 X2_1 X2_2
    by_cases hlt : k < xs.length
    · obtain ⟨⟨r, s⟩, h0⟩ : ∃ pq, xs[k]? = some pq := ⟨xs[k], List.getElem?_eq_getElem _⟩
      have HT := hid (ringO_take h0)
      obtain ⟨m, hm⟩ : ∃ m, (k + 1) % xs.length = m := ⟨_, rfl⟩
      have hm6 : m < 6 := by have := Nat.mod_lt (k + 1) (show 0 < xs.length by omega); omega
      have hm7 : k < m ∨ (m = 0 ∧ 0 < k ∧ k < 6) := by
        by_cases hk1 : k + 1 < xs.length
        · rw [Nat.mod_eq_of_lt hk1] at hm; omega
        · have : k + 1 = xs.length := by omega
          rw [this, Nat.mod_self] at hm; omega
      have hrem : Int.tmod (IntKind.i64.wrap ((k : Int) + 1)) (xs.length : Int) = (m : Int) := by rw [IntWalk.i64_in _ (by omega), ← hm, Int.tmod_eq_emod_of_nonneg (by omega)]; simp
      rw [hm] at HT
      have hn0 : (xs.length : Int) ≠ 0 := by omega
      have hn1 : ¬ xs = [] := fun h => by rw [h] at hl2; simp at hl2
      obtain ⟨d0, d1, d2, d3, d4, d5, hd⟩ : ∃ d0 d1 d2 d3 d4 d5, pairO k m r s = ⟨d0, d1, d2, d3, d4, d5, r, s, 1⟩ := ⟨_, _, _, _, _, _, rfl⟩
      have hpr := fun w => iPairO k m r s w hm6 hm7
      rw [hd] at hpr HT
      have HP := hid hpr
      obtain ⟨ad, rfl, c1, c2⟩ := (X.out.keep GV.out) k r s h0
      clear h0 hm hm7 hd hpr hm6 hn hl2
      go_wp2_with fail
      have z := (alloc1 (w := wr) (A := (.cells #[.int .i64 r, .int .i64 s] 26)) (Gr.refl _)).1
      obtain ⟨_, _⟩ := cells2 z
      have _ := ltb z
      have Y9 := hid (((Gr.refl wr).al (.cells #[.int .i64 r, .int .i64 s] 26)).keep Y8.out)
      have GX := hid ((Gr.refl wr).al (.cells #[.int .i64 r, .int .i64 s] 26))
      obtain ⟨_, _, _, _, _⟩ := cells5 Y9.out
      have _ := fz Y9.out
      have _ := ltb Y9.out
      clear z X GV G2 Y2 hw3 c1 c2
      go_region_law (first
        | (refine (step_append_gr rfl (.tmp 39) (.tmp 47) 80 rfl w2.heap.size 149 i0 (vO zO) 9 32 Try.underlying80 hi iz0 iz1 iz2 rfl (by decide) _ k _ rfl OWN4.out ⟨w4.heap.size, 0, none⟩ 1 1 (cO ⟨d0, d1, d2, d3, d4, d5, r, s, 1⟩) rfl rfl NEW.out (cO_one _) (by decide) (by unfold maxLen; omega) (by omega) hsz4 ?_); intro v' w5 own5 hgb _ hgr; obtain ⟨A2, c2, rfl⟩ := own_form own5; rw [flO_app, ← HT.out] at own5; have y5 := (hgb.block w2.heap.size (ltb YA.out) (Ne.symm hne)).trans YA.out; have OWN5 := hid own5; have Y5 := hid y5; have G5 := hid (hgr _ GA.out (Nat.le_refl _)); obtain ⟨_, _, _, _, _⟩ := cells5 Y5.out; have _ := fz Y5.out; have _ := ltb Y5.out; clear own5 y5 hgb hgr hne hsz4)
        | (go_simp; go_wp2_with (go_at_call 122; refine (HP.out _).mono ?_; rintro x w4 ⟨rfl, hg4⟩; have gd := (GX.out.trans (Gr.drew _)).trans hg4; have Y4 := hid (gd.keep Y8.out); have GA := hid ((GW.out.trans gd).al (.cells #[.int .i8 d0, .int .i8 d1, .int .i8 d2, .int .i8 d3, .int .i8 d4, .int .i8 d5, .int .i64 r, .int .i64 s, .int .i64 1] 149)); have OWN4 := hid (own_gr (own_gr OWN.out gd) ((Gr.refl w4).al (.cells #[.int .i8 d0, .int .i8 d1, .int .i8 d2, .int .i8 d3, .int .i8 d4, .int .i8 d5, .int .i64 r, .int .i64 s, .int .i64 1] 149))); have NEW := hid (one_news9 (w := w4.alloc (.cells #[.int .i8 d0, .int .i8 d1, .int .i8 d2, .int .i8 d3, .int .i8 d4, .int .i8 d5, .int .i64 r, .int .i64 s, .int .i64 1] 149)) (b := w4.heap.size) (alloc1 (Gr.refl _)).1); have hsz4 := GA.out.size; have YA := hid (((Gr.refl w4).al (.cells #[.int .i8 d0, .int .i8 d1, .int .i8 d2, .int .i8 d3, .int .i8 d4, .int .i8 d5, .int .i64 r, .int .i64 s, .int .i64 1] 149)).keep Y4.out); have hne := own_neO OWN4.out YA.out; obtain ⟨_, _, _, _, _⟩ := cells5 Y4.out; have _ := fz Y4.out; have _ := ltb Y4.out; clear hg4 gd)))
      all_goals
        go_wp2_with fail
        exact ⟨⟨k + 1, A2, c2, by simp, by omega, G5.out.setCell (by simp) _, by simpa using Joins.block_setCell (i := 1) Y5.out _, own_setT OWN5.out Y5.out _⟩, by simp [intOf]; omega⟩
    · have hke : k = xs.length := by omega
      subst hke
      obtain ⟨_, _, _, _, _⟩ := cells5 Y8.out
      obtain ⟨_, _, _, _, _⟩ := cells5 Y2.out
      have _ := fz Y2.out
      have _ := ltb Y2.out
      have hh := OWN.out
      rw [List.take_of_length_le (by rw [ringO_len]; exact Nat.le_refl _), ← ringO_len xs] at hh
      go_wp2_with fail
      refine bodyPost_ret (v := .tuple #[tbl (xs.length : Int) A' xs.length c' true p q, .int .i64 0]) (by simp [results, Try.results51, go_sem, *]) rfl ?_
      refine ⟨A', c', by rw [ringO_len], own_base (own_low (own_low (own_low (own_low (own_low hh (by simpa using hw3) _) (by simpa using hw3) _) (by simpa using hw3) _) (by simpa using hw3) _) (by simpa using hw3) _) (by omega), ?_⟩
      exact (((((GV.out.setCell (by simp) _).setCell (by simp) _).setCell (by simp) _).setCell (by simp) _).setCell (by simp) _)
theorem bothRingTable (p q : Int) (xs : List (Int × Int)) (hn : xs.length ≤ 1048576) : ∃ (n : Int) (b : Bool) (u v : Int) (ys : List Obv) (C : Int), ys.length ≤ 1048576 ∧
    (∀ (A : Option Addr) (c : Nat) (w : World), Hid (RdF w A xs) → Calls Try.prog 50 #[.slice A xs.length c, fr p q] w fun e w' => GivesTb w w' e n b u v ys C) ∧
    (∀ (A : Option Addr) (c : Nat) (w : World), Hid (RdF w A xs) → Calls Try.prog 51 #[.slice A xs.length c, fr p q] w fun e w' => GivesTb w w' e n b u v ys C) := by
  cases h1 : allF xs with
  | false => exact ⟨0, false, 0, 0, [], 1, by simp, fun A c w X => (sRing_0 p q A c xs w X hn h1).mono fun e w' h => givesTb0 h, fun A c w X => (iRing_0 p q A c xs w X hn h1).mono fun e w' h => givesTb0 h⟩
  | true =>
  cases h2 : okB p q with
  | false => exact ⟨0, false, 0, 0, [], 1, by simp, fun A c w X => (sRing_1 p q A c xs w X hn h1 h2).mono fun e w' h => givesTb0 h, fun A c w X => (iRing_1 p q A c xs w X hn h1 h2).mono fun e w' h => givesTb0 h⟩
  | true =>
  by_cases h3 : 2 ≤ xs.length ∧ xs.length ≤ 6
  · exact ⟨(xs.length : Int), true, p, q, ringO xs, 0, by rw [ringO_len]; omega, fun A c w X => sRing_3 p q A c xs w X hn h1 h2 h3, fun A c w X => iRing_3 p q A c xs w X hn h1 h2 h3⟩
  · exact ⟨0, false, 0, 0, [], 2, by simp, fun A c w X => (sRing_2 p q A c xs w X hn h1 h2 h3).mono fun e w' h => givesTb0 h, fun A c w X => (iRing_2 p q A c xs w X hn h1 h2 h3).mono fun e w' h => givesTb0 h⟩
end Go.Proofs.Yteopkbeokiomlaa
