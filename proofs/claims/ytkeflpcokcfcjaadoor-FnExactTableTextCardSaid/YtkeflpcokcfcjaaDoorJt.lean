/- TEXTS of tables: the lines, as lists of bytes; the numbers of an observation, of the program; the text of a table, of both sides. (The seat's ShelfJ.) -/
import Derived.Test.YtkeflpcokcfcjaaDoorJv
import Derived.Test.YtkeflpcokcfcjaaDoorOi
import Derived.Test.YtkeflpcokcfcjaaDoorSa
namespace Go.Proofs.YtkeflpcokcfcjaaDoor
open Go.RowKit Go.Sort

theorem jn_snoc (sep : List UInt8) : ∀ (l : List (List UInt8)) (a : List UInt8), Lib.join (l ++ [a]) sep = (l.map (· ++ sep)).flatten ++ a
  | [], a => by simp [Lib.join_cons, Lib.joinTail]
  | x :: r, a => by
    have e : Lib.joinTail sep (r ++ [a]) = sep ++ Lib.join (r ++ [a]) sep := by
      cases r with
      | nil => simp [Lib.join_cons, Lib.joinTail]
      | cons y s => rw [List.cons_append, Lib.join_cons]; simp [Lib.joinTail]
    rw [List.cons_append, Lib.join_cons, e, jn_snoc sep r a]
    simp
theorem jn_end (sep : List UInt8) (h : List UInt8) (r : List (List UInt8)) : Lib.join (h :: r) sep ++ sep = h ++ sep ++ (r.map (· ++ sep)).flatten := by
  rw [Lib.join_cons]
  induction r generalizing h with
  | nil => simp [Lib.joinTail]
  | cons y s ih =>
    have := ih y
    simp only [Lib.joinTail, List.map_cons, List.flatten_cons, List.append_assoc] at this ⊢
    rw [this]
/-- The numbers of an observation's line. -/
def numO (x : Obv) (n : Nat) : List (Int × Int) := ((coL x).take n).map (fun c => (c, 1)) ++ [(x.p, x.q), (x.t, 1)]
theorem numO_len {x : Obv} {n : Nat} (h : n ≤ 6) : (numO x n).length = n + 2 := by
  have : (coL x).length = 6 := rfl
  simp [numO]
  omega
/-- The coefficients of a line so far, as the reference writes them. -/
def coT (x : Obv) (k : Nat) : List UInt8 := (((coL x).take k).map fun c => Lib.itoa c ++ [32]).flatten
theorem coL_at {x : Obv} {k : Nat} (hk : k < 6) : (coL x)[k]? = some (coAt x k) := by
  unfold coAt
  rw [List.getD_eq_getElem?_getD, List.getElem?_eq_getElem (show k < (coL x).length from hk)]
  rfl
theorem coT_succ {x : Obv} {k : Nat} (hk : k < 6) : coT x (k + 1) = coT x k ++ (Lib.itoa (coAt x k) ++ [32]) := by
  unfold coT
  rw [List.take_add_one, coL_at hk]
  simp
theorem coT_len {x : Obv} (h : (coL x).all rgB = true) (k : Nat) : (coT x k).length ≤ 132 := by
  have : ∀ l : List Int, (∀ c ∈ l, rgB c = true) → ((l.map fun c => Lib.itoa c ++ [32]).flatten).length ≤ 22 * l.length := by
    intro l
    induction l with
    | nil => intro _; simp
    | cons c r ih =>
      intro hh
      have h1 := hh c (by simp)
      unfold rgB inB at h1
      simp only [Bool.and_eq_true, decide_eq_true_eq] at h1
      have h2 := Lib.itoa_length_le c (by omega) (by omega)
      have h3 := ih fun y hy => hh y (by simp [hy])
      simp only [List.map_cons, List.flatten_cons, List.length_append, List.length_cons, List.length_nil]
      omega
  have h1 := this ((coL x).take k) fun c hc => List.all_eq_true.1 h c (List.mem_of_mem_take hc)
  have h2 : ((coL x).take k).length ≤ 6 := by
    have : (coL x).length = 6 := rfl
    simp [List.length_take]
    omega
  unfold coT
  omega
/-- The line of an observation. -/
def rowL (n : Nat) (x : Obv) : List UInt8 := Lib.join (wds (numO x n)) [32]
theorem rowL_is (n : Nat) (x : Obv) : rowL n x = coT x n ++ (txtFl x.p x.q ++ (32 :: Lib.itoa x.t)) := by
  have e : wds (numO x n) = (((coL x).take n).map Lib.itoa ++ [txtFl x.p x.q]) ++ [Lib.itoa x.t] := by
    simp [wds, numO, txtFl, Function.comp_def]
  unfold rowL coT
  rw [e, jn_snoc]
  simp [Function.comp_def]
theorem numO_ok {x : Obv} {n : Nat} (h : obB x n = true) : ∀ y ∈ numO x n, okB y.1 y.2 = true := by
  obtain ⟨h1, h2, h3⟩ := ob_ok h
  intro y hy
  unfold numO at hy
  rw [List.mem_append] at hy
  rcases hy with hy | hy
  · obtain ⟨c, hc, rfl⟩ := List.mem_map.1 hy
    have h4 := List.all_eq_true.1 h3 c (List.mem_of_mem_take hc)
    unfold rgB inB at h4
    simp only [Bool.and_eq_true, decide_eq_true_eq] at h4
    exact ok_whole (by omega) (by omega)
  · unfold inB at h2
    simp only [Bool.and_eq_true, decide_eq_true_eq] at h2
    simp only [List.mem_cons, List.not_mem_nil, or_false] at hy
    rcases hy with rfl | rfl
    · exact h1
    · exact ok_whole (by omega) (by omega)
theorem rowL_len {x : Obv} {n : Nat} (h : obB x n = true) : (rowL n x).length ≤ 200 := by
  obtain ⟨h1, h2, h3⟩ := ob_ok h
  unfold inB at h2
  simp only [Bool.and_eq_true, decide_eq_true_eq] at h2
  rw [rowL_is]
  have a := coT_len h3 n
  have b := txtFl_len h1
  have c := Lib.itoa_length_le x.t (by omega) (by omega)
  simp only [List.length_append, List.length_cons]
  omega
/-- The first line of a table. -/
def headL (n : Int) (b : Bool) (p q : Int) : List UInt8 := Lib.itoa n ++ if b then [32, 99, 108, 111, 115, 101, 100, 32] ++ txtFl p q else []
theorem headL_len {n : Int} {b : Bool} {p q : Int} (hn : 0 ≤ n) (hn2 : n ≤ 6) (h : okB p q = true) : (headL n b p q).length ≤ 72 := by
  have a := Lib.itoa_length_le n (by omega) (by omega)
  have c := txtFl_len h
  unfold headL
  cases b
  · simp; omega
  · simp; omega
/-- The text of a table with its first k observations. -/
def tbT (n : Nat) (b : Bool) (p q : Int) (xs : List Obv) (k : Nat) : List UInt8 := headL n b p q ++ [10] ++ ((xs.take k).map fun x => rowL n x ++ [10]).flatten
theorem tbT_zero (n : Nat) (b : Bool) (p q : Int) (xs : List Obv) : tbT n b p q xs 0 = headL n b p q ++ [10] := by simp [tbT]
theorem tbT_succ {n : Nat} {b : Bool} {p q : Int} {xs : List Obv} {k : Nat} {x : Obv} (h : xs[k]? = some x) : tbT n b p q xs (k + 1) = tbT n b p q xs k ++ (rowL n x ++ [10]) := by
  unfold tbT
  rw [List.take_add_one, h]
  simp
theorem tbT_all (n : Nat) (b : Bool) (p q : Int) (xs : List Obv) : tbT n b p q xs xs.length = Lib.join (headL n b p q :: xs.map (rowL n)) [10] ++ [10] := by
  rw [jn_end]
  unfold tbT
  rw [List.take_of_length_le (Nat.le_refl _), List.map_map]
  rfl
theorem tbT_len {n : Nat} {b : Bool} {p q : Int} {xs : List Obv} (hn : n ≤ 6) (h : okB p q = true) (hx : ∀ x ∈ xs, obB x n = true) (hl : xs.length ≤ 24) (k : Nat) : (tbT n b p q xs k).length ≤ 5000 := by
  have : ∀ l : List Obv, (∀ x ∈ l, obB x n = true) → ((l.map fun x => rowL n x ++ [10]).flatten).length ≤ 201 * l.length := by
    intro l
    induction l with
    | nil => intro _; simp
    | cons c r ih =>
      intro hh
      have h1 := rowL_len (hh c (by simp))
      have h3 := ih fun y hy => hh y (by simp [hy])
      simp only [List.map_cons, List.flatten_cons, List.length_append, List.length_cons, List.length_nil]
      omega
  have h1 := this (xs.take k) fun c hc => hx c (List.mem_of_mem_take hc)
  have h2 : (xs.take k).length ≤ 24 := by simp [List.length_take]; omega
  have h3 := headL_len (n := (n : Int)) (b := b) (by omega) (by omega) h
  unfold tbT
  simp only [List.length_append, List.length_cons, List.length_nil]
  omega
end Go.Proofs.YtkeflpcokcfcjaaDoor
namespace Go.Proofs.YtkeflpcokcfcjaaDoor
open Go.RowKit Go.Sort

theorem two_newsF {w : World} {b : Nat} {x y z u : Value} {T : TypeId} (h : w.heap[b]? = some (.cells #[x, y, z, u] T)) : ∀ (j : Nat) (v : Value), [x, y, z, u][j]? = some v → w.cell? ((⟨b, 0, none⟩ : Addr).add j) = some v := by
  intro j v hj
  obtain ⟨n0, n1, n2, n3⟩ := cells4 h
  match j with
  | 0 => simp at hj; subst hj; exact n0
  | 1 => simp at hj; subst hj; exact n1
  | 2 => simp at hj; subst hj; exact n2
  | 3 => simp at hj; subst hj; exact n3
  | j + 4 => simp at hj
/-- The first k coefficients as fractions. -/
def coF (x : Obv) (k : Nat) : List (Int × Int) := ((coL x).take k).map fun c => (c, 1)
theorem coF_succ {x : Obv} {k : Nat} (hk : k < 6) : coF x k ++ [(coAt x k, 1)] = coF x (k + 1) := by
  unfold coF
  rw [List.take_add_one, coL_at hk]
  simp
theorem numO_flat (x : Obv) (n : Nat) : flatL (coF x n) ++ [.int .i64 x.p, .int .i64 x.q, .int .i64 x.t, .int .i64 1] = flatL (numO x n) := by simp [flatL, numO, coF]
set_option maxRecDepth 20000 in
set_option maxHeartbeats 2000000 in
theorem iNumbers (x : Obv) (n : Nat) (w : World) (n2 : n ≤ 6) (hx : obB x n = true) :
    Calls Tryd.prog 25 #[vO x, .int .i64 (n : Int)] w fun e w' => ∃ A c, e = .returned (.slice A (n + 2) c) ∧ w'.ownsRow w.heap.size 30 2 (.slice A (n + 2) c) (n + 2) (flatL (numO x n)) ∧ Gr w w' := by
  obtain ⟨i0, hi, iz0, iz1, iz2⟩ : ∃ i, Tryd.prog.info? 30 = some i ∧ i.zero = some (fr 0 0) ∧ i.size = 2 ∧ i.bytes = 16 := ⟨_, rfl, by kernel_rfl, rfl, rfl⟩
  have HX := hid hx; clear hx
  have hl6 : (n : Int) ≤ 6 := by omega
  have hl0 : (0 : Int) ≤ (n : Int) := by omega
  go_enter Tryd.func25, Tryd.ntmps25
  go_wp2_with fail
  go_loopw [5, 12] (fun t u wr => ∃ (k : Nat) (A' : Option Addr) (c' : Nat), u = .int .i64 (k : Int) ∧ t = .slice A' k c' ∧ k ≤ n ∧ Gr (w.alloc (.cells #[.int .i8 x.c0, .int .i8 x.c1, .int .i8 x.c2, .int .i8 x.c3, .int .i8 x.c4, .int .i8 x.c5, .int .i64 x.p, .int .i64 x.q, .int .i64 x.t] 67)) wr ∧ wr.ownsRow (w.heap.size + 1) 30 2 (.slice A' k c') k (flatL (coF x k))) (fun _ u _ => n - (intOf u).toNat)
  case atStart => exact ⟨0, none, 0, rfl, rfl, by omega, Gr.refl _, own_nilF _ _⟩
  case round =>
    obtain ⟨k, A', c', rfl, rfl, hkn, hg, hown⟩ := hrel
    have GW := hid hg; have OWN := hid hown
    have Y0 := hid (alloc1 hg).1; have G0 := hid (alloc1 hg).2.2
    clear hg hown
    by_cases hlt : k < n
    · have hc := box_cell Y0.out (show k < 6 by omega)
      obtain ⟨cb1, cb2⟩ := co_rg HX.out (show k < 6 by omega)
      have HT := hid (coF_succ (x := x) (show k < 6 by omega))
      obtain ⟨cc, hcc⟩ : ∃ cc, coAt x k = cc := ⟨_, rfl⟩
      rw [hcc] at hc HT cb1 cb2
      have HF := hid fun w => fit_ok cc 1 w (by unfold gtB; simp; omega) (by decide)
      have wr1 : IntKind.i64.wrap cc = cc := IntWalk.i64_in _ (by omega)
      clear hcc
      go_wp2_with fail
      refine (HF.out _).mono ?_
      rintro e w5 ⟨rfl, hg5⟩
      have G5 := hid hg5; clear hg5
      have OWN5 := hid (own_gr OWN.out (G5.out.al (.cells #[.int .i64 cc, .int .i64 1] 30)))
      have NEW := hid (one_newsF (w := w5.alloc (.cells #[.int .i64 cc, .int .i64 1] 30)) (b := w5.heap.size) (alloc1 (Gr.refl _)).1)
      have G6 := hid ((GW.out.trans G5.out).al (.cells #[.int .i64 cc, .int .i64 1] 30))
      have hb5 : w.heap.size + 1 ≤ (w5.alloc (.cells #[.int .i64 cc, .int .i64 1] 30)).heap.size := by have := G6.out.size; simpa using this
      go_wp2_with (at_builtin; refine (wpList_append_gr rfl _ _ 69 rfl (w.heap.size + 1) 30 i0 (fr 0 0) 2 16 Tryd.underlying69 hi iz0 iz1 iz2 rfl (by decide) _ k _ rfl OWN5.out ⟨w5.heap.size, 0, none⟩ 1 1 [.int .i64 cc, .int .i64 1] rfl rfl NEW.out (by simp [Value.oneCell']) (by decide) (by unfold maxLen; omega) (by omega) hb5 ?_))
      intro v' w9 own9 _ _ hgr
      obtain ⟨A2, c2', rfl⟩ := own_form own9
      rw [flatL_app, HT.out] at own9
      have OWN9 := hid own9
      have G9 := hid (hgr _ G6.out (by simp))
      clear own9 hgr
      go_wp2_with fail
      exact ⟨⟨k + 1, A2, c2', by simp, by simp, by omega, G9.out, OWN9.out⟩, by simp [intOf]; omega⟩
    · have hke : k = n := by omega
      subst hke
      have hb2 := (ob_ok HX.out).2.1
      unfold inB at hb2
      simp only [Bool.and_eq_true, decide_eq_true_eq] at hb2
      have HF := hid fun w => fit_ok x.t 1 w (by unfold gtB; simp; omega) (by decide)
      have HT := hid (numO_flat x k)
      clear hb2
      obtain ⟨_, _, _, _, _, _, _, _, _⟩ := cells9 Y0.out
      have _ := ltb Y0.out
      go_wp2_with fail
      go_region_law (first
        | (refine (step_append_gr rfl (.tmp 23) (.tmp 29) 69 rfl (w.heap.size + 1) 30 i0 (fr 0 0) 2 16 Tryd.underlying69 hi iz0 iz1 iz2 rfl (by decide) _ k _ rfl OWN5.out ⟨w5.heap.size, 0, none⟩ 2 2 [.int .i64 x.p, .int .i64 x.q, .int .i64 x.t, .int .i64 1] rfl rfl NEW.out (by simp [Value.oneCell']) (by decide) (by unfold maxLen; omega) (by omega) hb5 ?_); intro v' w9 own9 _ _ hgr; obtain ⟨A2, c2', rfl⟩ := own_form own9; rw [HT.out] at own9; have OWN9 := hid own9; have G9 := hid (hgr _ G6.out (by simp)); clear own9 hgr)
        | (go_simp; go_wp2_with (go_at_call 23; refine (HF.out _).mono ?_; rintro e w5 ⟨rfl, hg5⟩; have gd := (Gr.drew wr).trans hg5; have GA := hid ((Gr.refl w5).al (.cells #[.int .i64 x.p, .int .i64 x.q, .int .i64 x.t, .int .i64 1] 30)); have G6 := hid ((GW.out.trans gd).trans GA.out); have OWN5 := hid (own_gr (own_gr OWN.out gd) GA.out); have NEW := hid (two_newsF (w := w5.alloc (.cells #[.int .i64 x.p, .int .i64 x.q, .int .i64 x.t, .int .i64 1] 30)) (b := w5.heap.size) (alloc1 (Gr.refl _)).1); have hb5 : w.heap.size + 1 ≤ (w5.alloc (.cells #[.int .i64 x.p, .int .i64 x.q, .int .i64 x.t, .int .i64 1] 30)).heap.size := (by have := G6.out.size; simpa using this); obtain ⟨_, _, _, _, _, _, _, _, _⟩ := cells9 (gd.keep Y0.out); have _ := ltb (gd.keep Y0.out); clear hg5 gd)))
      all_goals
        go_wp2
        go_ret
        exact ⟨A2, c2', rfl, own_base OWN9.out (by simp), (alloc1 G9.out).2.2⟩
end Go.Proofs.YtkeflpcokcfcjaaDoor
namespace Go.Proofs.YtkeflpcokcfcjaaDoor
open Go.RowKit Go.Sort

theorem own_bl {w w' : World} {base : Nat} {e : TypeId} {size n : Nat} {v : Value} {xs : List Value} (h : w.ownsRow base e size v n xs) (hb : Bl w w') : w'.ownsRow base e size v n xs := by
  refine ⟨h.1, ?_⟩
  rcases h.2 with h0 | ⟨g, cap, cur, h1, h2, h3, h4⟩
  · exact .inl h0
  · exact .inr ⟨g, cap, cur, h1, h2, bl_keep hb h3, h4⟩
theorem own_blkT {w : World} {base : Nat} {e : TypeId} {size n : Nat} {v : Value} {xs : List Value} (h : w.ownsRow base e size v n xs) : ∀ k, v.ownBlock = some k → base ≤ k := by
  intro k hk
  rcases h.2 with ⟨rfl, _⟩ | ⟨g, cap, cur, rfl, hb, _⟩
  · simp [Value.ownBlock] at hk
  · simp [Value.ownBlock] at hk
    omega
theorem own_oneS (w : World) (s : ByteArray) (base : Nat) (hb : base ≤ w.heap.size) : (w.alloc (.cells #[.string s] 9)).ownsRow base 9 1 (.slice (some ⟨w.heap.size, 0, none⟩) 1 1) 1 [.string s] :=
  ⟨rfl, .inr ⟨w.heap.size, 1, #[.string s], rfl, hb, al_top w _, Nat.le_refl _, by decide, rfl, rfl⟩⟩
theorem CelO.bl {w w' : World} {a : Addr} {x : Obv} (h : CelO w a x) (hb : Bl w w') : CelO w' a x :=
  ⟨(Below.cell hb h.lt).trans h.h0, (Below.cell hb (p := ⟨a.block, a.off + 1, none⟩) h.lt).trans h.h1, (Below.cell hb (p := ⟨a.block, a.off + 2, none⟩) h.lt).trans h.h2, (Below.cell hb (p := ⟨a.block, a.off + 3, none⟩) h.lt).trans h.h3, (Below.cell hb (p := ⟨a.block, a.off + 4, none⟩) h.lt).trans h.h4, (Below.cell hb (p := ⟨a.block, a.off + 5, none⟩) h.lt).trans h.h5, (Below.cell hb (p := ⟨a.block, a.off + 6, none⟩) h.lt).trans h.h6, (Below.cell hb (p := ⟨a.block, a.off + 7, none⟩) h.lt).trans h.h7, (Below.cell hb (p := ⟨a.block, a.off + 8, none⟩) h.lt).trans h.h8⟩
theorem RdO.bl {w w' : World} {A : Option Addr} {xs : List Obv} (h : RdO w A xs) (hb : Bl w w') : RdO w' A xs := fun k x hk => by
  obtain ⟨ad, e, c⟩ := h k x hk
  exact ⟨ad, e, c.bl hb⟩
theorem rowsL_take {n : Nat} {xs : List Obv} {k : Nat} {x : Obv} (H : List UInt8) (h : xs[k]? = some x) : strL (H :: (xs.map (rowL n)).take k) ++ [Value.string ⟨(rowL n x).toArray⟩] = strL (H :: (xs.map (rowL n)).take (k + 1)) := by
  rw [List.take_add_one, List.getElem?_map, h]
  simp [strL]
theorem tbl_ok {n : Nat} {b : Bool} {p q : Int} {xs : List Obv} (h : tblB (n : Int) b p q xs = true) : 1 ≤ n ∧ n ≤ 6 ∧ xs.length ≤ 24 ∧ okB p q = true ∧ ∀ x ∈ xs, obB x n = true := by
  unfold tblB inB at h
  simp only [Bool.and_eq_true, decide_eq_true_eq, Int.toNat_natCast, List.all_eq_true] at h
  exact ⟨by omega, by omega, h.2.1, h.2.2.1, h.2.2.2.2⟩
theorem txtrow_size {n : Nat} {x : Obv} (h : obB x n = true) : (⟨(rowL n x).toArray⟩ : ByteArray).size ≤ 200 := by
  show (rowL n x).toArray.size ≤ 200
  simpa using rowL_len h
set_option maxRecDepth 20000 in
set_option maxHeartbeats 4000000 in
theorem iTbText (n : Nat) (A : Option Addr) (c : Nat) (b : Bool) (p q : Int) (xs : List Obv) (w : World) (X : Hid (RdO w A xs)) (T : Hid (Pow w)) (hn : xs.length ≤ 1048576) (hw : xs.all wfE = true) (h : tblB (n : Int) b p q xs = true) :
    Calls Tryd.prog 9 #[tbl (n : Int) A xs.length c b p q] w fun e w' => e = .returned (.string ⟨(tbT n b p q xs xs.length).toArray⟩) ∧ Bl w w' := by
  obtain ⟨n1, n2, hl, hpq, hob⟩ := tbl_ok h
  obtain ⟨i0, hi, iz0, iz1, iz2⟩ : ∃ i, Tryd.prog.info? 9 = some i ∧ i.zero = some (.string ⟨#[]⟩) ∧ i.size = 1 ∧ i.bytes = 16 := ⟨_, rfl, by kernel_rfl, rfl, rfl⟩
  have hon : okB (n : Int) 1 = true := ok_whole (by omega) (by omega)
  have HV := hid fun (w : World) (X : Hid (RdO w A xs)) => h ▸ iTbOk (n : Int) A c b p q xs w X hn hw
  have HF := hid fun w => fit_ok (n : Int) 1 w (by unfold gtB; simp; omega) (by decide)
  have HT1 := hid fun (w : World) (T : Hid (Pow w)) => iFracText (n : Int) 1 w T hon
  have HT2 := hid fun (w : World) (T : Hid (Pow w)) => iFracText p q w T hpq
  have HN := hid fun (x : Obv) (w : World) (hx : obB x n = true) => iNumbers x n w n2 hx
  have HW : Hid (∀ (x : Obv) (_ : obB x n = true) (A' : Option Addr) (c' : Nat) (w : World) (_ : Hid (RdF w A' (numO x n))) (_ : Hid (Pow w)), Calls Tryd.prog 24 #[.slice A' (n + 2) c'] w fun e w' => e = .returned (.string ⟨(rowL n x).toArray⟩) ∧ Bl w w') := hid fun x hx A' c' w X T => iWords A' c' (n + 2) (numO x n) w X T (numO_len n2) (by omega) (by omega) (numO_ok hx)
  have HOB := hid hob
  have s1 : (txtF (n : Int) 1).size ≤ 43 := by rw [txtF_mk]; show (txtFl (n : Int) 1).toArray.size ≤ 43; simpa using txtFl_len hon
  have s2 : (txtF p q).size ≤ 43 := by rw [txtF_mk]; show (txtFl p q).toArray.size ≤ 43; simpa using txtFl_len hpq
  have HTL := hid (tbT_len (b := b) n2 hpq hob hl xs.length)
  have HTA := hid (tbT_all n b p q xs)
  clear hpq hob h hon hw
  go_enter Tryd.func9, Tryd.ntmps9
  go_wp2_with fail
  refine (HV.out _ (hid (X.out.keep ((Gr.refl w).al _)))).mono ?_
  rintro e w1 ⟨rfl, hg1⟩
  have K1 := hid hg1; clear hg1
  have K1b := hid (alloc1 K1.out).1
  obtain ⟨_, _, _, _, _⟩ := cells5 K1b.out
  have _ := ltb K1b.out
  go_wp2_with fail
  refine (HF.out _).mono ?_
  rintro e w2 ⟨rfl, hg2⟩
  have K2 := hid (K1.out.trans hg2); clear hg2
  go_wp2_with fail
  refine (HT1.out _ (hid (T.out.keep (((Gr.refl w).al _).trans K2.out)))).mono ?_
  rintro e w3 ⟨rfl, hg3⟩
  have K3 := hid (K2.out.trans hg3); clear hg3
  have K3b := hid (alloc1 K3.out).1
  obtain ⟨_, _, _, _, _⟩ := cells5 K3b.out
  have _ := ltb K3b.out
  obtain ⟨Hd, hHd⟩ : ∃ Hd, headL (n : Int) b p q = Hd := ⟨_, rfl⟩
  have main : ∀ (w4 : World), Gr (w.alloc (.cells #[.int .i64 (n : Int), .slice A xs.length c, .bool b, .int .i64 p, .int .i64 q] 32)) w4 → World.ownsRow (w4.alloc (.cells #[.string ⟨Hd.toArray⟩] 9)) (w.heap.size + 1) 9 1 (.slice (some ⟨w4.heap.size, 0, none⟩) 1 1) (0 + 1) (strL (Hd :: (xs.map (rowL n)).take 0)) := fun w4 hg => by
    have := hg.size
    simp at this
    exact own_oneS w4 _ _ this
  have HM := hid main; clear main
  cases b with
  | false =>
    have hh : txtF (n : Int) 1 = ⟨Hd.toArray⟩ := by rw [← hHd, txtF_mk]; simp [headL, txtFl]
    go_wp2_with fail
    go_loopw [4, 27] (fun t u wr => ∃ (k : Nat) (A' : Option Addr) (c' : Nat), u = .int .i64 (k : Int) ∧ t = .slice A' (k + 1) c' ∧ k ≤ xs.length ∧ Bl (w.alloc (.cells #[.int .i64 (n : Int), .slice A xs.length c, .bool false, .int .i64 p, .int .i64 q] 32)) wr ∧ wr.ownsRow (w.heap.size + 1) 9 1 (.slice A' (k + 1) c') (k + 1) (strL (Hd :: (xs.map (rowL n)).take k))) (fun _ u _ => xs.length - (intOf u).toNat)
    case atStart => exact ⟨0, some ⟨w3.heap.size, 0, none⟩, 1, rfl, rfl, by omega, (K3.out.al _).below, HM.out _ K3.out⟩
    case round =>
      obtain ⟨k, A', c', rfl, rfl, hkn, hb, hown⟩ := hrel
      have BW := hid hb; have OWN := hid hown
      have BW0 := hid (Bl.tr ((Gr.refl w).al (.cells #[.int .i64 (n : Int), .slice A xs.length c, .bool false, .int .i64 p, .int .i64 q] 32)).below hb)
      have Y5 := hid (bl_keep hb (al_top w (.cells #[.int .i64 (n : Int), .slice A xs.length c, .bool false, .int .i64 p, .int .i64 q] 32)))
      clear hb hown
      obtain ⟨_, _, _, _, _⟩ := cells5 Y5.out
      have _ := ltb Y5.out
      by_cases hlt : k < xs.length
      · obtain ⟨x, hx⟩ : ∃ x, xs[k]? = some x := ⟨xs[k], List.getElem?_eq_getElem _⟩
        have HXO := hid (HOB.out x (List.mem_of_getElem? hx))
        have HTK := hid (rowsL_take Hd hx (n := n))
        obtain ⟨ad, rfl, hcel⟩ := X.out k x hx
        have hcel2 := hcel.bl BW0.out
        obtain ⟨_, _, _, _, _, _, _, _, _⟩ := hcel2
        have hxl := txtrow_size HXO.out
        clear hcel hx
        go_wp2_with fail
        refine (HN.out x _ HXO.out).mono ?_
        rintro e w5 ⟨A5, c5, rfl, own5, hg5⟩
        have B5 := hid (Bl.tr ((Gr.refl wr).al (.cells #[.int .i8 x.c0, .int .i8 x.c1, .int .i8 x.c2, .int .i8 x.c3, .int .i8 x.c4, .int .i8 x.c5, .int .i64 x.p, .int .i64 x.q, .int .i64 x.t] 67)).below hg5.below)
        have R5 := hid (RdF.of_ownF own5)
        have T5 := hid (Joins.tab_stays pow_at T.out (Bl.tr BW0.out B5.out) (Nat.le_refl _) : Pow _)
        clear own5 hg5
        go_wp2_with fail
        refine (HW.out x HXO.out A5 c5 _ R5 T5).mono ?_
        rintro e w6 ⟨rfl, hb6⟩
        have B6 := hid (Bl.tr B5.out hb6)
        obtain ⟨S, hS⟩ : ∃ S, (⟨(rowL n x).toArray⟩ : ByteArray) = S := ⟨_, rfl⟩
        rw [hS] at HTK
        rw [hS]
        clear hb6 R5 T5 hS
        have B7 := hid (Bl.tr B6.out ((Gr.refl w6).al (.cells #[.string S] 9)).below)
        have OWN6 := hid (own_bl OWN.out B7.out)
        have NEW := hid (one_newsS (w := w6.alloc (.cells #[.string S] 9)) (b := w6.heap.size) (alloc1 (Gr.refl _)).1)
        have hb6 : w.heap.size + 1 ≤ (w6.alloc (.cells #[.string S] 9)).heap.size := by have := (Bl.tr BW.out B7.out).size; simpa using this
        go_wp2_with (at_builtin; refine (wpList_append_gr rfl _ _ 63 rfl (w.heap.size + 1) 9 i0 (.string ⟨#[]⟩) 1 16 Tryd.underlying63 hi iz0 iz1 iz2 rfl (by decide) _ (k + 1) _ rfl OWN6.out ⟨w6.heap.size, 0, none⟩ 1 1 [.string S] rfl rfl NEW.out (by simp [Value.oneCell']) (by decide) (by unfold maxLen; omega) (by omega) hb6 ?_))
        intro v' w9 own9 hgb _ _
        have B9 := hid (Below.grown (Bl.tr BW.out B7.out) hgb (by simpa using hb6) (fun i hi => by have := own_blkT OWN6.out i hi; simpa using this))
        obtain ⟨A2, c2', rfl⟩ := own_form own9
        rw [HTK.out] at own9
        have OWN9 := hid own9
        clear own9 hgb
        go_wp2_with fail
        exact ⟨⟨k + 1, A2, c2', by simp, by simp, by omega, B9.out, OWN9.out⟩, by simp [intOf]; omega⟩
      · have hke : k = xs.length := by omega
        subst hke
        have hte : (xs.map (rowL n)).take xs.length = xs.map (rowL n) := List.take_of_length_le (by simp)
        have O2 := hid OWN.out
        rw [hte] at O2
        have hcap := own_le O2.out
        obtain ⟨g, cur, rfl, hbg, hcur, hget⟩ := own_openS O2.out (by omega)
        have hB : ((Hd :: xs.map (rowL n)).map fun d => (⟨d.toArray⟩ : ByteArray)).length = xs.length + 1 := by simp
        have hL : ((Hd :: xs.map (rowL n)).map fun d => (⟨d.toArray⟩ : ByteArray)).map (·.data.toList) = Hd :: xs.map (rowL n) := by
          rw [List.map_map]
          exact (List.map_congr_left fun d _ => rfl).trans (List.map_id _)
        have htl := HTL.out
        rw [HTA.out, hHd, List.length_append] at htl
        have hjl : (Lib.join (Hd :: xs.map (rowL n)) [10]).length ≤ 5000 := by omega
        have HJ := hid (Any.strings_Join Tryd.lays156 Tryd.extra156 g 0 c' ((Hd :: xs.map (rowL n)).map fun d => (⟨d.toArray⟩ : ByteArray)) ⟨#[10]⟩ wr (fun j x hj => by
            rw [List.getElem?_map, Option.map_eq_some_iff] at hj
            obtain ⟨d, hd, rfl⟩ := hj
            rw [Nat.zero_add]
            exact str_cell hcur (hget j d hd)) (ltb hcur) (by rw [hB]; omega) (by rw [hB]; exact hcap) (by rw [hL]; exact Nat.le_trans hjl (by omega)))
        rw [hB, hL] at HJ
        have hjs : (⟨(Lib.join (Hd :: xs.map (rowL n)) [10]).toArray⟩ : ByteArray).size ≤ 5000 := by show (Lib.join (Hd :: xs.map (rowL n)) [10]).toArray.size ≤ 5000; simpa using hjl
        have HEND := hid (show (⟨(Lib.join (Hd :: xs.map (rowL n)) [10]).toArray⟩ : ByteArray) ++ ⟨#[10]⟩ = ⟨(tbT n false p q xs xs.length).toArray⟩ by rw [HTA.out, hHd, ba_app]; simp)
        obtain ⟨J, hJ⟩ : ∃ J, (⟨(Lib.join (Hd :: xs.map (rowL n)) [10]).toArray⟩ : ByteArray) = J := ⟨_, rfl⟩
        rw [hJ] at HJ HEND hjs
        clear hte hcap hcur hget hB hL hjl htl hJ
        go_wp2_with fail
        refine (HJ.out).mono ?_
        rintro e w9 ⟨rfl, hb⟩
        have B9 := hid (Bl.tr BW0.out hb); clear hb
        go_wp2
        go_ret
        exact ⟨by rw [← HEND.out]; rfl, B9.out⟩
  | true =>
    have hh : txtF (n : Int) 1 ++ (⟨#[32, 99, 108, 111, 115, 101, 100, 32]⟩ ++ txtF p q) = ⟨Hd.toArray⟩ := by
      rw [← hHd, txtF_mk, txtF_mk, ba_app, ba_app]
      simp [headL, txtFl]
    go_wp2_with fail
    refine (HT2.out _ (hid (T.out.keep (((Gr.refl w).al _).trans K3.out)))).mono ?_
    rintro e w4 ⟨rfl, hg4⟩
    have K4 := hid (K3.out.trans hg4); clear hg4
    have K4b := hid (alloc1 K4.out).1
    obtain ⟨_, _, _, _, _⟩ := cells5 K4b.out
    have _ := ltb K4b.out
    go_wp2_with fail
    go_loopw [4, 27] (fun t u wr => ∃ (k : Nat) (A' : Option Addr) (c' : Nat), u = .int .i64 (k : Int) ∧ t = .slice A' (k + 1) c' ∧ k ≤ xs.length ∧ Bl (w.alloc (.cells #[.int .i64 (n : Int), .slice A xs.length c, .bool true, .int .i64 p, .int .i64 q] 32)) wr ∧ wr.ownsRow (w.heap.size + 1) 9 1 (.slice A' (k + 1) c') (k + 1) (strL (Hd :: (xs.map (rowL n)).take k))) (fun _ u _ => xs.length - (intOf u).toNat)
    case atStart => exact ⟨0, some ⟨w4.heap.size, 0, none⟩, 1, rfl, rfl, by omega, (K4.out.al _).below, HM.out _ K4.out⟩
    case round =>
      obtain ⟨k, A', c', rfl, rfl, hkn, hb, hown⟩ := hrel
      have BW := hid hb; have OWN := hid hown
      have BW0 := hid (Bl.tr ((Gr.refl w).al (.cells #[.int .i64 (n : Int), .slice A xs.length c, .bool true, .int .i64 p, .int .i64 q] 32)).below hb)
      have Y5 := hid (bl_keep hb (al_top w (.cells #[.int .i64 (n : Int), .slice A xs.length c, .bool true, .int .i64 p, .int .i64 q] 32)))
      clear hb hown
      obtain ⟨_, _, _, _, _⟩ := cells5 Y5.out
      have _ := ltb Y5.out
      by_cases hlt : k < xs.length
      · obtain ⟨x, hx⟩ : ∃ x, xs[k]? = some x := ⟨xs[k], List.getElem?_eq_getElem _⟩
        have HXO := hid (HOB.out x (List.mem_of_getElem? hx))
        have HTK := hid (rowsL_take Hd hx (n := n))
        obtain ⟨ad, rfl, hcel⟩ := X.out k x hx
        have hcel2 := hcel.bl BW0.out
        obtain ⟨_, _, _, _, _, _, _, _, _⟩ := hcel2
        have hxl := txtrow_size HXO.out
        clear hcel hx
        go_wp2_with fail
        refine (HN.out x _ HXO.out).mono ?_
        rintro e w5 ⟨A5, c5, rfl, own5, hg5⟩
        have B5 := hid (Bl.tr ((Gr.refl wr).al (.cells #[.int .i8 x.c0, .int .i8 x.c1, .int .i8 x.c2, .int .i8 x.c3, .int .i8 x.c4, .int .i8 x.c5, .int .i64 x.p, .int .i64 x.q, .int .i64 x.t] 67)).below hg5.below)
        have R5 := hid (RdF.of_ownF own5)
        have T5 := hid (Joins.tab_stays pow_at T.out (Bl.tr BW0.out B5.out) (Nat.le_refl _) : Pow _)
        clear own5 hg5
        go_wp2_with fail
        refine (HW.out x HXO.out A5 c5 _ R5 T5).mono ?_
        rintro e w6 ⟨rfl, hb6⟩
        have B6 := hid (Bl.tr B5.out hb6)
        obtain ⟨S, hS⟩ : ∃ S, (⟨(rowL n x).toArray⟩ : ByteArray) = S := ⟨_, rfl⟩
        rw [hS] at HTK
        rw [hS]
        clear hb6 R5 T5 hS
        have B7 := hid (Bl.tr B6.out ((Gr.refl w6).al (.cells #[.string S] 9)).below)
        have OWN6 := hid (own_bl OWN.out B7.out)
        have NEW := hid (one_newsS (w := w6.alloc (.cells #[.string S] 9)) (b := w6.heap.size) (alloc1 (Gr.refl _)).1)
        have hb6 : w.heap.size + 1 ≤ (w6.alloc (.cells #[.string S] 9)).heap.size := by have := (Bl.tr BW.out B7.out).size; simpa using this
        go_wp2_with (at_builtin; refine (wpList_append_gr rfl _ _ 63 rfl (w.heap.size + 1) 9 i0 (.string ⟨#[]⟩) 1 16 Tryd.underlying63 hi iz0 iz1 iz2 rfl (by decide) _ (k + 1) _ rfl OWN6.out ⟨w6.heap.size, 0, none⟩ 1 1 [.string S] rfl rfl NEW.out (by simp [Value.oneCell']) (by decide) (by unfold maxLen; omega) (by omega) hb6 ?_))
        intro v' w9 own9 hgb _ _
        have B9 := hid (Below.grown (Bl.tr BW.out B7.out) hgb (by simpa using hb6) (fun i hi => by have := own_blkT OWN6.out i hi; simpa using this))
        obtain ⟨A2, c2', rfl⟩ := own_form own9
        rw [HTK.out] at own9
        have OWN9 := hid own9
        clear own9 hgb
        go_wp2_with fail
        exact ⟨⟨k + 1, A2, c2', by simp, by simp, by omega, B9.out, OWN9.out⟩, by simp [intOf]; omega⟩
      · have hke : k = xs.length := by omega
        subst hke
        have hte : (xs.map (rowL n)).take xs.length = xs.map (rowL n) := List.take_of_length_le (by simp)
        have O2 := hid OWN.out
        rw [hte] at O2
        have hcap := own_le O2.out
        obtain ⟨g, cur, rfl, hbg, hcur, hget⟩ := own_openS O2.out (by omega)
        have hB : ((Hd :: xs.map (rowL n)).map fun d => (⟨d.toArray⟩ : ByteArray)).length = xs.length + 1 := by simp
        have hL : ((Hd :: xs.map (rowL n)).map fun d => (⟨d.toArray⟩ : ByteArray)).map (·.data.toList) = Hd :: xs.map (rowL n) := by
          rw [List.map_map]
          exact (List.map_congr_left fun d _ => rfl).trans (List.map_id _)
        have htl := HTL.out
        rw [HTA.out, hHd, List.length_append] at htl
        have hjl : (Lib.join (Hd :: xs.map (rowL n)) [10]).length ≤ 5000 := by omega
        have HJ := hid (Any.strings_Join Tryd.lays156 Tryd.extra156 g 0 c' ((Hd :: xs.map (rowL n)).map fun d => (⟨d.toArray⟩ : ByteArray)) ⟨#[10]⟩ wr (fun j x hj => by
            rw [List.getElem?_map, Option.map_eq_some_iff] at hj
            obtain ⟨d, hd, rfl⟩ := hj
            rw [Nat.zero_add]
            exact str_cell hcur (hget j d hd)) (ltb hcur) (by rw [hB]; omega) (by rw [hB]; exact hcap) (by rw [hL]; exact Nat.le_trans hjl (by omega)))
        rw [hB, hL] at HJ
        have hjs : (⟨(Lib.join (Hd :: xs.map (rowL n)) [10]).toArray⟩ : ByteArray).size ≤ 5000 := by show (Lib.join (Hd :: xs.map (rowL n)) [10]).toArray.size ≤ 5000; simpa using hjl
        have HEND := hid (show (⟨(Lib.join (Hd :: xs.map (rowL n)) [10]).toArray⟩ : ByteArray) ++ ⟨#[10]⟩ = ⟨(tbT n true p q xs xs.length).toArray⟩ by rw [HTA.out, hHd, ba_app]; simp)
        obtain ⟨J, hJ⟩ : ∃ J, (⟨(Lib.join (Hd :: xs.map (rowL n)) [10]).toArray⟩ : ByteArray) = J := ⟨_, rfl⟩
        rw [hJ] at HJ HEND hjs
        clear hte hcap hcur hget hB hL hjl htl hJ
        go_wp2_with fail
        refine (HJ.out).mono ?_
        rintro e w9 ⟨rfl, hb⟩
        have B9 := hid (Bl.tr BW0.out hb); clear hb
        go_wp2
        go_ret
        exact ⟨by rw [← HEND.out]; rfl, B9.out⟩
end Go.Proofs.YtkeflpcokcfcjaaDoor
namespace Go.Proofs.YtkeflpcokcfcjaaDoor
open Go.RowKit Go.Sort

set_option maxRecDepth 20000 in
set_option maxHeartbeats 4000000 in
theorem sTbText (n : Nat) (g c j : Nat) (b : Bool) (p q : Int) (xs : List Obv) (w : World) (X1 : Hid (w.heap[j]? = some (.cells #[.int .i64 (n : Int), .slice (some ⟨g, 0, none⟩) xs.length c, .bool b, .int .i64 p, .int .i64 q] 32))) (X : Hid (RdO w (some ⟨g, 0, none⟩) xs)) (h : tblB (n : Int) b p q xs = true) :
    Calls Tryd.prog 18 #[.pointer (some ⟨j, 0, none⟩)] w fun e w' => e = .returned (.string ⟨(tbT n b p q xs xs.length).toArray⟩) ∧ Gr w w' := by
  obtain ⟨n1, n2, hl, hpq, hob⟩ := tbl_ok h
  have HT2 := hid fun (w : World) => sText p q w hpq
  have HU : Hid (∀ w : World, Calls Tryd.prog 45 #[.int .i64 (n : Int)] w fun e w' => e = .returned (.string (txt (n : Int))) ∧ Gr w w') := hid fun w => by
    rw [txt_nat]
    exact sDec n w (by omega)
  have HOB := hid hob
  have SZ := hid fun k => tbT_len (b := b) n2 hpq hob hl k
  have s1 : (txt (n : Int)).size ≤ 21 := txt_size (by omega) (by omega)
  have s2 : (txtF p q).size ≤ 43 := by rw [txtF_mk]; show (txtFl p q).toArray.size ≤ 43; simpa using txtFl_len hpq
  clear hpq hob h
  obtain ⟨_, _, _, _, _⟩ := cells5 X1.out
  have _ := ltb X1.out
  cases b with
  | false =>
    have hHd2 : Hid ((⟨(headL (n : Int) false p q ++ [10]).toArray⟩ : ByteArray) = txt (n : Int) ++ ⟨#[10]⟩) := hid (by unfold txt; rw [ba_app]; simp [headL])
    go_enter Tryd.func18, Tryd.ntmps18
    go_wp2_with fail
    refine (HU.out _).mono ?_
    rintro e w1 ⟨rfl, hg1⟩
    have K1 := hid hg1; clear hg1
    have K1b := hid (K1.out.keep X1.out)
    obtain ⟨_, _, _, _, _⟩ := cells5 K1b.out
    have _ := ltb K1b.out
    go_wp2_with fail
    go_loopw [3, 4] (fun t u wr => ∃ (k : Nat), u = .int .i64 (k : Int) ∧ t = .string ⟨(tbT n false p q xs k).toArray⟩ ∧ k ≤ xs.length ∧ Gr w wr) (fun _ u _ => xs.length - (intOf u).toNat)
    case atStart => exact ⟨0, rfl, by rw [tbT_zero, ← hHd2.out], by omega, K1.out⟩
    case round =>
      obtain ⟨k, rfl, rfl, hkn, hg⟩ := hrel
      have GW := hid hg; clear hg
      have J2 := hid (GW.out.keep X1.out)
      obtain ⟨_, _, _, _, _⟩ := cells5 J2.out
      have _ := ltb J2.out
      by_cases hlt : k < xs.length
      · obtain ⟨x, hx⟩ : ∃ x, xs[k]? = some x := ⟨xs[k], List.getElem?_eq_getElem _⟩
        have HXO := hid (HOB.out x (List.mem_of_getElem? hx))
        have HTK := hid (tbT_succ (n := n) (b := false) (p := p) (q := q) hx)
        have HX := hid hx
        have s3 := SZ.out k
        obtain ⟨S, hS⟩ : ∃ S, tbT n false p q xs k = S := ⟨_, rfl⟩
        rw [hS] at HTK s3
        rw [hS]
        clear hx hS
        go_wp2_with fail
        rename_i wq
        go_loopw [3, 5] (fun t u wr => ∃ (m : Nat), u = .int .i64 (m : Int) ∧ t = .string ⟨(S ++ coT x m).toArray⟩ ∧ m ≤ n ∧ Gr w wr) (fun _ u _ => n - (intOf u).toNat)
        case atStart => exact ⟨0, rfl, by simp [coT], by omega, GW.out⟩
        case round =>
          obtain ⟨m, rfl, rfl, hmn, hg⟩ := hrel
          have GV := hid hg; clear hg
          have J3 := hid (GV.out.keep X1.out)
          obtain ⟨_, _, _, _, _⟩ := cells5 J3.out
          have _ := ltb J3.out
          obtain ⟨ad, he, hcel⟩ := (X.out.keep GV.out) k x HX.out
          cases he
          rw [add_at] at hcel
          have HC := hid hcel; clear hcel
          have hcl := coT_len (ob_ok HXO.out).2.2 m
          by_cases hlm : m < n
          · have hc := co_cell HC.out (show m < 6 by omega)
            obtain ⟨cb1, cb2⟩ := co_rg HXO.out (show m < 6 by omega)
            have HT := hid (coT_succ (x := x) (show m < 6 by omega))
            obtain ⟨cc, hcc⟩ : ∃ cc, coAt x m = cc := ⟨_, rfl⟩
            rw [hcc] at hc HT cb1 cb2
            have HG := hid fun w => sSigned cc w (by omega) (by omega)
            have wr1 : IntKind.i64.wrap cc = cc := IntWalk.i64_in _ (by omega)
            have s4 : (⟨(S ++ coT x m).toArray⟩ : ByteArray).size ≤ 6000 := by show (S ++ coT x m).toArray.size ≤ 6000; simp; omega
            have s5 : (txt cc).size ≤ 21 := txt_size (by omega) (by omega)
            have HE := hid (show (⟨(S ++ coT x m).toArray⟩ : ByteArray) ++ (txt cc ++ ⟨#[32]⟩) = ⟨(S ++ coT x (m + 1)).toArray⟩ by rw [HT.out]; unfold txt; rw [ba_app, ba_app]; simp)
            obtain ⟨R, hR⟩ : ∃ R, (⟨(S ++ coT x m).toArray⟩ : ByteArray) = R := ⟨_, rfl⟩
            rw [hR] at HE s4
            rw [hR]
            clear hcc hcl hR
            go_wp2_with fail
            refine (HG.out _).mono ?_
            rintro e w5 ⟨rfl, hg5⟩
            have G5 := hid (GV.out.trans hg5); clear hg5
            go_wp2_with fail
            exact ⟨⟨m + 1, by simp, by rw [← HE.out], by omega, G5.out⟩, by simp [intOf]; omega⟩
          · have hke : m = n := by omega
            subst hke
            have hob2 := ob_ok HXO.out
            have hb2 := hob2.2.1
            unfold inB at hb2
            simp only [Bool.and_eq_true, decide_eq_true_eq] at hb2
            have HD := hid fun w => sText x.p x.q w hob2.1
            have HU : Hid (∀ w : World, Calls Tryd.prog 45 #[.int .i64 x.t] w fun e w' => e = .returned (.string (txt x.t)) ∧ Gr w w') := hid fun w => by
              obtain ⟨n, hn⟩ := Int.eq_ofNat_of_zero_le (show 0 ≤ x.t by omega)
              rw [hn, txt_nat]
              exact sDec n w (by omega)
            have s4 : (⟨(S ++ coT x m).toArray⟩ : ByteArray).size ≤ 6000 := by show (S ++ coT x m).toArray.size ≤ 6000; simp; omega
            have s5 : (txtF x.p x.q).size ≤ 43 := by rw [txtF_mk]; show (txtFl x.p x.q).toArray.size ≤ 43; simpa using txtFl_len hob2.1
            have s6 : (txt x.t).size ≤ 21 := txt_size (by omega) (by omega)
            have HE := hid (show (⟨(S ++ coT x m).toArray⟩ : ByteArray) ++ (((txtF x.p x.q ++ ⟨#[32]⟩) ++ txt x.t) ++ ⟨#[10]⟩) = ⟨(tbT m false p q xs (k + 1)).toArray⟩ by rw [HTK.out, rowL_is, txtF_mk]; unfold txt; rw [ba_app, ba_app, ba_app, ba_app]; simp)
            obtain ⟨R, hR⟩ : ∃ R, (⟨(S ++ coT x m).toArray⟩ : ByteArray) = R := ⟨_, rfl⟩
            rw [hR] at HE s4
            rw [hR]
            obtain ⟨f0, f1, f2, f3, f4, f5, f6, f7, f8⟩ := HC.out.blk
            clear hcl hR hb2 hob2 f0 f1 f2 f3 f4 f5
            go_wp2_with fail
            refine wp_reg0 23 (by kernel_rfl) (by kernel_rfl) ?_
            apply Exists.intro
            refine ⟨fun wb hb => ?_, ?_⟩
            · obtain ⟨_, z1, _, _, _⟩ := cells5 J3.out
              have _ := hb.atF z1; have _ := hb.atF f6; have _ := hb.atF f7; have _ := hb.atF f8
              simp only [headOps, List.contains, List.elem, reduceIte, Bool.false_eq_true]
              repeat (first | go_big_quiet_step (first | (go_at_call 46; exact Calls.of_gr (HD.out _)) | (go_at_call 45; exact Calls.of_gr (HU.out _))) | quiet_step (fail))
              exact wpQuiet_nil rfl
            intro w5 hg5
            have G5 := hid (GV.out.trans hg5); clear hg5
            go_wp2_with fail
            exact ⟨⟨k + 1, by simp, by rw [← HE.out], by omega, G5.out⟩, by simp [intOf]; omega⟩
      · have hke : k = xs.length := by omega
        subst hke
        go_wp2_with fail
        go_ret
        exact ⟨rfl, GW.out⟩
  | true =>
    have hHd2 : Hid ((⟨(headL (n : Int) true p q ++ [10]).toArray⟩ : ByteArray) = (txt (n : Int) ++ (⟨#[32, 99, 108, 111, 115, 101, 100, 32]⟩ ++ txtF p q)) ++ ⟨#[10]⟩) := hid (by rw [txtF_mk]; unfold txt; rw [ba_app, ba_app, ba_app]; simp [headL])
    have s0 : (txt (n : Int) ++ (⟨#[32, 99, 108, 111, 115, 101, 100, 32]⟩ ++ txtF p q)).size ≤ 100 := by have h8 : (⟨#[32, 99, 108, 111, 115, 101, 100, 32]⟩ : ByteArray).size = 8 := rfl; simp; omega
    go_enter Tryd.func18, Tryd.ntmps18
    go_wp2_with fail
    refine (HU.out _).mono ?_
    rintro e w1 ⟨rfl, hg1⟩
    have K1 := hid hg1; clear hg1
    have K1b := hid (K1.out.keep X1.out)
    obtain ⟨_, _, _, _, _⟩ := cells5 K1b.out
    have _ := ltb K1b.out
    go_wp2_with fail
    refine (HT2.out _).mono ?_
    rintro e w2 ⟨rfl, hg2⟩
    have K2 := hid (K1.out.trans hg2); clear hg2
    have K2b := hid (K2.out.keep X1.out)
    obtain ⟨_, _, _, _, _⟩ := cells5 K2b.out
    have _ := ltb K2b.out
    go_wp2_with fail
    go_loopw [3, 4] (fun t u wr => ∃ (k : Nat), u = .int .i64 (k : Int) ∧ t = .string ⟨(tbT n true p q xs k).toArray⟩ ∧ k ≤ xs.length ∧ Gr w wr) (fun _ u _ => xs.length - (intOf u).toNat)
    case atStart => exact ⟨0, rfl, by rw [tbT_zero, ← hHd2.out], by omega, K2.out⟩
    case round =>
      obtain ⟨k, rfl, rfl, hkn, hg⟩ := hrel
      have GW := hid hg; clear hg
      have J2 := hid (GW.out.keep X1.out)
      obtain ⟨_, _, _, _, _⟩ := cells5 J2.out
      have _ := ltb J2.out
      by_cases hlt : k < xs.length
      · obtain ⟨x, hx⟩ : ∃ x, xs[k]? = some x := ⟨xs[k], List.getElem?_eq_getElem _⟩
        have HXO := hid (HOB.out x (List.mem_of_getElem? hx))
        have HTK := hid (tbT_succ (n := n) (b := true) (p := p) (q := q) hx)
        have HX := hid hx
        have s3 := SZ.out k
        obtain ⟨S, hS⟩ : ∃ S, tbT n true p q xs k = S := ⟨_, rfl⟩
        rw [hS] at HTK s3
        rw [hS]
        clear hx hS
        go_wp2_with fail
        rename_i wq
        go_loopw [3, 5] (fun t u wr => ∃ (m : Nat), u = .int .i64 (m : Int) ∧ t = .string ⟨(S ++ coT x m).toArray⟩ ∧ m ≤ n ∧ Gr w wr) (fun _ u _ => n - (intOf u).toNat)
        case atStart => exact ⟨0, rfl, by simp [coT], by omega, GW.out⟩
        case round =>
          obtain ⟨m, rfl, rfl, hmn, hg⟩ := hrel
          have GV := hid hg; clear hg
          have J3 := hid (GV.out.keep X1.out)
          obtain ⟨_, _, _, _, _⟩ := cells5 J3.out
          have _ := ltb J3.out
          obtain ⟨ad, he, hcel⟩ := (X.out.keep GV.out) k x HX.out
          cases he
          rw [add_at] at hcel
          have HC := hid hcel; clear hcel
          have hcl := coT_len (ob_ok HXO.out).2.2 m
          by_cases hlm : m < n
          · have hc := co_cell HC.out (show m < 6 by omega)
            obtain ⟨cb1, cb2⟩ := co_rg HXO.out (show m < 6 by omega)
            have HT := hid (coT_succ (x := x) (show m < 6 by omega))
            obtain ⟨cc, hcc⟩ : ∃ cc, coAt x m = cc := ⟨_, rfl⟩
            rw [hcc] at hc HT cb1 cb2
            have HG := hid fun w => sSigned cc w (by omega) (by omega)
            have wr1 : IntKind.i64.wrap cc = cc := IntWalk.i64_in _ (by omega)
            have s4 : (⟨(S ++ coT x m).toArray⟩ : ByteArray).size ≤ 6000 := by show (S ++ coT x m).toArray.size ≤ 6000; simp; omega
            have s5 : (txt cc).size ≤ 21 := txt_size (by omega) (by omega)
            have HE := hid (show (⟨(S ++ coT x m).toArray⟩ : ByteArray) ++ (txt cc ++ ⟨#[32]⟩) = ⟨(S ++ coT x (m + 1)).toArray⟩ by rw [HT.out]; unfold txt; rw [ba_app, ba_app]; simp)
            obtain ⟨R, hR⟩ : ∃ R, (⟨(S ++ coT x m).toArray⟩ : ByteArray) = R := ⟨_, rfl⟩
            rw [hR] at HE s4
            rw [hR]
            clear hcc hcl hR
            go_wp2_with fail
            refine (HG.out _).mono ?_
            rintro e w5 ⟨rfl, hg5⟩
            have G5 := hid (GV.out.trans hg5); clear hg5
            go_wp2_with fail
            exact ⟨⟨m + 1, by simp, by rw [← HE.out], by omega, G5.out⟩, by simp [intOf]; omega⟩
          · have hke : m = n := by omega
            subst hke
            have hob2 := ob_ok HXO.out
            have hb2 := hob2.2.1
            unfold inB at hb2
            simp only [Bool.and_eq_true, decide_eq_true_eq] at hb2
            have HD := hid fun w => sText x.p x.q w hob2.1
            have HU : Hid (∀ w : World, Calls Tryd.prog 45 #[.int .i64 x.t] w fun e w' => e = .returned (.string (txt x.t)) ∧ Gr w w') := hid fun w => by
              obtain ⟨n, hn⟩ := Int.eq_ofNat_of_zero_le (show 0 ≤ x.t by omega)
              rw [hn, txt_nat]
              exact sDec n w (by omega)
            have s4 : (⟨(S ++ coT x m).toArray⟩ : ByteArray).size ≤ 6000 := by show (S ++ coT x m).toArray.size ≤ 6000; simp; omega
            have s5 : (txtF x.p x.q).size ≤ 43 := by rw [txtF_mk]; show (txtFl x.p x.q).toArray.size ≤ 43; simpa using txtFl_len hob2.1
            have s6 : (txt x.t).size ≤ 21 := txt_size (by omega) (by omega)
            have HE := hid (show (⟨(S ++ coT x m).toArray⟩ : ByteArray) ++ (((txtF x.p x.q ++ ⟨#[32]⟩) ++ txt x.t) ++ ⟨#[10]⟩) = ⟨(tbT m true p q xs (k + 1)).toArray⟩ by rw [HTK.out, rowL_is, txtF_mk]; unfold txt; rw [ba_app, ba_app, ba_app, ba_app]; simp)
            obtain ⟨R, hR⟩ : ∃ R, (⟨(S ++ coT x m).toArray⟩ : ByteArray) = R := ⟨_, rfl⟩
            rw [hR] at HE s4
            rw [hR]
            obtain ⟨f0, f1, f2, f3, f4, f5, f6, f7, f8⟩ := HC.out.blk
            clear hcl hR hb2 hob2 f0 f1 f2 f3 f4 f5
            go_wp2_with fail
            refine wp_reg0 23 (by kernel_rfl) (by kernel_rfl) ?_
            apply Exists.intro
            refine ⟨fun wb hb => ?_, ?_⟩
            · obtain ⟨_, z1, _, _, _⟩ := cells5 J3.out
              have _ := hb.atF z1; have _ := hb.atF f6; have _ := hb.atF f7; have _ := hb.atF f8
              simp only [headOps, List.contains, List.elem, reduceIte, Bool.false_eq_true]
              repeat (first | go_big_quiet_step (first | (go_at_call 46; exact Calls.of_gr (HD.out _)) | (go_at_call 45; exact Calls.of_gr (HU.out _))) | quiet_step (fail))
              exact wpQuiet_nil rfl
            intro w5 hg5
            have G5 := hid (GV.out.trans hg5); clear hg5
            go_wp2_with fail
            exact ⟨⟨k + 1, by simp, by rw [← HE.out], by omega, G5.out⟩, by simp [intOf]; omega⟩
      · have hke : k = xs.length := by omega
        subst hke
        go_wp2_with fail
        go_ret
        exact ⟨rfl, GW.out⟩
set_option maxRecDepth 20000 in
set_option maxHeartbeats 1000000 in
theorem sTableText_no (n : Int) (g c : Nat) (b : Bool) (p q : Int) (xs : List Obv) (w : World) (X : Hid (RdO w (some ⟨g, 0, none⟩) xs)) (hn : xs.length ≤ 1048576) (hw : xs.all wfE = true) (h : tblB n b p q xs = false) :
    Calls Tryd.prog 7 #[tbl n (some ⟨g, 0, none⟩) xs.length c b p q] w fun e w' => e = .returned (.string ⟨#[]⟩) ∧ Gr w w' := by
  have HO := hid fun (k : Nat) (T : TypeId) (w : World) (XB : Hid (w.heap[k]? = some (.cells #[.int .i64 n, .slice (some ⟨g, 0, none⟩) xs.length c, .bool b, .int .i64 p, .int .i64 q] T))) (X : Hid (RdO w (some ⟨g, 0, none⟩) xs)) => h ▸ sTbOk k T n g c b p q xs w XB X hn hw
  clear h hw
  go_enter Tryd.func7, Tryd.ntmps7
  go_wp2_with fail
  refine (HO.out _ _ _ (hid (alloc1 (Gr.refl _)).1) (hid (X.out.keep ((Gr.refl w).al _)))).mono ?_
  rintro e w1 ⟨rfl, hg1⟩
  obtain ⟨x1_0, hz1, g1⟩ := alloc1 hg1
  obtain ⟨_, _, _, _, _⟩ := cells5 x1_0
  have _ := fz x1_0
  have _ := ltb x1_0
  have X1_0 := hid x1_0; clear x1_0
  have G1 := hid (g1)
  clear hg1 g1
  go_wp2
  go_ret
  exact ⟨rfl, G1.out⟩
set_option maxRecDepth 20000 in
set_option maxHeartbeats 1000000 in
theorem sTableText_ok (n : Nat) (g c : Nat) (b : Bool) (p q : Int) (xs : List Obv) (w : World) (X : Hid (RdO w (some ⟨g, 0, none⟩) xs)) (hn : xs.length ≤ 1048576) (hw : xs.all wfE = true) (h : tblB (n : Int) b p q xs = true) :
    Calls Tryd.prog 7 #[tbl (n : Int) (some ⟨g, 0, none⟩) xs.length c b p q] w fun e w' => e = .returned (.string ⟨(tbT n b p q xs xs.length).toArray⟩) ∧ Gr w w' := by
  have HO := hid fun (k : Nat) (T : TypeId) (w : World) (XB : Hid (w.heap[k]? = some (.cells #[.int .i64 (n : Int), .slice (some ⟨g, 0, none⟩) xs.length c, .bool b, .int .i64 p, .int .i64 q] T))) (X : Hid (RdO w (some ⟨g, 0, none⟩) xs)) => h ▸ sTbOk k T (n : Int) g c b p q xs w XB X hn hw
  have HT := hid fun (j : Nat) (w : World) (X1 : Hid (w.heap[j]? = some (.cells #[.int .i64 (n : Int), .slice (some ⟨g, 0, none⟩) xs.length c, .bool b, .int .i64 p, .int .i64 q] 32))) (X : Hid (RdO w (some ⟨g, 0, none⟩) xs)) => sTbText n g c j b p q xs w X1 X h
  clear h hw
  go_enter Tryd.func7, Tryd.ntmps7
  go_wp2_with fail
  refine (HO.out _ _ _ (hid (alloc1 (Gr.refl _)).1) (hid (X.out.keep ((Gr.refl w).al _)))).mono ?_
  rintro e w1 ⟨rfl, hg1⟩
  obtain ⟨x1_0, hz1, g1⟩ := alloc1 hg1
  obtain ⟨_, _, _, _, _⟩ := cells5 x1_0
  have _ := fz x1_0
  have _ := ltb x1_0
  have X1_0 := hid x1_0; clear x1_0
  have G1 := hid (g1)
  clear hg1 g1
  go_wp2_with fail
  refine (HT.out _ _ (hid X1_0.out) (hid (X.out.keep G1.out))).mono ?_
  rintro e w2 ⟨rfl, hg2⟩
  have x2_1 := hg2.keep X1_0.out
  obtain ⟨_, _, _, _, _⟩ := cells5 x2_1
  have _ := fz x2_1
  have _ := ltb x2_1
  have X2_1 := hid x2_1; clear x2_1
  have G2 := hid (G1.out.trans hg2)
  clear hg2
  go_wp2
  go_ret
  exact ⟨rfl, G2.out⟩
set_option maxRecDepth 20000 in
set_option maxHeartbeats 1000000 in
theorem iTableText_no (n : Int) (A : Option Addr) (c : Nat) (b : Bool) (p q : Int) (xs : List Obv) (w : World) (X : Hid (RdO w A xs)) (hn : xs.length ≤ 1048576) (hw : xs.all wfE = true) (h : tblB n b p q xs = false) :
    Calls Tryd.prog 9 #[tbl n A xs.length c b p q] w fun e w' => e = .returned (.string ⟨#[]⟩) ∧ Bl w w' := by
  have HV := hid fun (w : World) (X : Hid (RdO w A xs)) => h ▸ iTbOk n A c b p q xs w X hn hw
  clear h hw
  go_enter Tryd.func9, Tryd.ntmps9
  go_wp2_with fail
  refine (HV.out _ (hid (X.out.keep ((Gr.refl w).al _)))).mono ?_
  rintro e w1 ⟨rfl, hg1⟩
  obtain ⟨x1_0, hz1, g1⟩ := alloc1 hg1
  obtain ⟨_, _, _, _, _⟩ := cells5 x1_0
  have _ := fz x1_0
  have _ := ltb x1_0
  have X1_0 := hid x1_0; clear x1_0
  have G1 := hid (g1)
  clear hg1 g1
  go_wp2
  go_ret
  exact ⟨rfl, G1.out.below⟩
/-- What TableText gives. -/
theorem bothTableText (n : Int) (b : Bool) (p q : Int) (xs : List Obv) (hn : xs.length ≤ 1048576) (hw : xs.all wfE = true) : ∃ S : ByteArray,
    (∀ (g c : Nat) (w : World), Hid (RdO w (some ⟨g, 0, none⟩) xs) → Calls Tryd.prog 7 #[tbl n (some ⟨g, 0, none⟩) xs.length c b p q] w fun e w' => e = .returned (.string S) ∧ Gr w w') ∧
    (∀ (g c : Nat) (w : World), Hid (RdO w (some ⟨g, 0, none⟩) xs) → Hid (Pow w) → Calls Tryd.prog 9 #[tbl n (some ⟨g, 0, none⟩) xs.length c b p q] w fun e w' => e = .returned (.string S) ∧ Bl w w') := by
  cases h : tblB n b p q xs with
  | false => exact ⟨_, fun g c w X => sTableText_no n g c b p q xs w X hn hw h, fun g c w X _ => iTableText_no n _ c b p q xs w X hn hw h⟩
  | true =>
    have h0 : 0 ≤ n := by
      unfold tblB inB at h
      simp only [Bool.and_eq_true, decide_eq_true_eq] at h
      omega
    obtain ⟨m, rfl⟩ := Int.eq_ofNat_of_zero_le h0
    exact ⟨_, fun g c w X => sTableText_ok m g c b p q xs w X hn hw h, fun g c w X T => iTbText m _ c b p q xs w X T hn hw h⟩
end Go.Proofs.YtkeflpcokcfcjaaDoor
