/- TEXTS of reports: of both sides. (The seat's ShelfJ.) -/
import Derived.Test.YtkeflpcokcfcjaaDoorJv
import Derived.Test.YtkeflpcokcfcjaaDoorTy
import Derived.Test.YtkeflpcokcfcjaaDoorAf
import Derived.Test.YtkeflpcokcfcjaaDoorSx
namespace Go.Proofs.YtkeflpcokcfcjaaDoor
open Go.RowKit Go.Sort

/-- A report: a thing, five fractions, a span. -/
structure Rpv where
  t : Int
  a : Int
  b : Int
  c : Int
  d : Int
  e : Int
  f : Int
  g : Int
  h : Int
  i : Int
  k : Int
  l : Int
  m : Int
  n : Int
  o : Int
abbrev vRp (x : Rpv) : Value := .agg #[.int .i64 x.t, .int .i64 x.a, .int .i64 x.b, .int .i64 x.c, .int .i64 x.d, .int .i64 x.e, .int .i64 x.f, .int .i64 x.g, .int .i64 x.h, .int .i64 x.i, .int .i64 x.k, .int .i64 x.l, .int .i64 x.m, .int .i64 x.n, .int .i64 x.o]
/-- Its five fractions. -/
def fsR (x : Rpv) : List (Int × Int) := [(x.a, x.b), (x.c, x.d), (x.e, x.f), (x.g, x.h), (x.i, x.k)]
def rpB (x : Rpv) : Bool := allF (fsR x) && spB x.l x.m x.n x.o
theorem cells15 {w : World} {b : Nat} {x0 x1 x2 x3 x4 x5 x6 x7 x8 x9 x10 x11 x12 x13 x14 : Value} {T : TypeId} (h : w.heap[b]? = some (.cells #[x0, x1, x2, x3, x4, x5, x6, x7, x8, x9, x10, x11, x12, x13, x14] T)) : w.cell? ⟨b, 0, none⟩ = some x0 ∧ w.cell? ⟨b, 1, none⟩ = some x1 ∧ w.cell? ⟨b, 2, none⟩ = some x2 ∧ w.cell? ⟨b, 3, none⟩ = some x3 ∧ w.cell? ⟨b, 4, none⟩ = some x4 ∧ w.cell? ⟨b, 5, none⟩ = some x5 ∧ w.cell? ⟨b, 6, none⟩ = some x6 ∧ w.cell? ⟨b, 7, none⟩ = some x7 ∧ w.cell? ⟨b, 8, none⟩ = some x8 ∧ w.cell? ⟨b, 9, none⟩ = some x9 ∧ w.cell? ⟨b, 10, none⟩ = some x10 ∧ w.cell? ⟨b, 11, none⟩ = some x11 ∧ w.cell? ⟨b, 12, none⟩ = some x12 ∧ w.cell? ⟨b, 13, none⟩ = some x13 ∧ w.cell? ⟨b, 14, none⟩ = some x14 := by
  simp [World.cell?, h]
theorem celN_rp {w : World} {b : Nat} {x : Rpv} {T : TypeId} (h : w.heap[b]? = some (.cells #[.int .i64 x.t, .int .i64 x.a, .int .i64 x.b, .int .i64 x.c, .int .i64 x.d, .int .i64 x.e, .int .i64 x.f, .int .i64 x.g, .int .i64 x.h, .int .i64 x.i, .int .i64 x.k, .int .i64 x.l, .int .i64 x.m, .int .i64 x.n, .int .i64 x.o] T)) : CelN w ⟨b, 11, none⟩ ⟨x.l, x.m, x.n, x.o⟩ := by
  obtain ⟨_, _, _, _, _, _, _, _, _, _, _, h1, h2, h3, h4⟩ := cells15 h
  exact ⟨h1, h2, h3, h4⟩
/-- The text of a fraction, if it is valid, and none otherwise. -/
def tFl (p q : Int) : List UInt8 := if okB p q then txtFl p q else []
def tSl (a b c d : Int) : List UInt8 := if spB a b c d then (txtS a b c d).data.toList else []
theorem iFTg (p q : Int) (w : World) (T : Hid (Pow w)) : Calls Tryd.prog 22 #[fr p q] w fun e w' => e = .returned (.string ⟨(tFl p q).toArray⟩) ∧ Gr w w' := by
  unfold tFl
  cases h : okB p q with
  | false => exact iFracText_no p q w h
  | true => rw [if_pos rfl, ← txtF_mk]; exact iFracText p q w T h
theorem iSTg (a b c d : Int) (w : World) (T : Hid (Pow w)) : Calls Tryd.prog 41 #[sp a b c d] w fun e w' => e = .returned (.string ⟨(tSl a b c d).toArray⟩) ∧ Gr w w' := by
  unfold tSl
  cases h : spB a b c d with
  | false => exact iSpanText_no a b c d w h
  | true => rw [if_pos rfl]; exact iSpanText a b c d w T h
/-- The words of a report as the program makes them. -/
def rpG (x : Rpv) : List (List UInt8) := Lib.itoa x.t :: (((fsR x).map fun y => tFl y.1 y.2) ++ [tSl x.l x.m x.n x.o])
theorem itoa_neT (p : Int) : Lib.itoa p ≠ [] := by
  have := txtFl_ne (p := p) (q := 1)
  simpa [txtFl] using this
theorem txtS_ne (a b c d : Int) : (txtS a b c d).data.toList ≠ [] := by
  unfold txtS
  rw [txtF_mk, txtF_mk, ba_app, ba_app]
  simp
theorem tFl_e (p q : Int) : (tFl p q).isEmpty = !okB p q := by
  unfold tFl
  cases h : okB p q with
  | false => rfl
  | true =>
    have := txtFl_ne (p := p) (q := q)
    simpa using this
theorem tSl_e (a b c d : Int) : (tSl a b c d).isEmpty = !spB a b c d := by
  unfold tSl
  cases h : spB a b c d with
  | false => rfl
  | true =>
    have := txtS_ne a b c d
    simpa using this
theorem rpG_any (x : Rpv) : (rpG x).any (·.isEmpty) = !rpB x := by
  have h0 : (Lib.itoa x.t).isEmpty = false := by
    have := itoa_neT x.t
    simpa using this
  unfold rpG rpB allF fsR
  simp only [List.map_cons, List.map_nil, List.cons_append, List.nil_append, List.any_cons, List.any_nil, List.all_cons, List.all_nil, tFl_e, tSl_e, h0]
  cases okB x.a x.b <;> cases okB x.c x.d <;> cases okB x.e x.f <;> cases okB x.g x.h <;> cases okB x.i x.k <;> cases spB x.l x.m x.n x.o <;> rfl
/-- The words of a report. -/
def rpW (x : Rpv) : List (List UInt8) := Lib.itoa x.t :: (((fsR x).map fun y => txtFl y.1 y.2) ++ [(txtS x.l x.m x.n x.o).data.toList])
theorem rpG_ok {x : Rpv} (h : rpB x = true) : rpG x = rpW x := by
  unfold rpB allF fsR at h
  simp only [List.all_cons, List.all_nil, Bool.and_eq_true] at h
  obtain ⟨⟨h1, h2, h3, h4, h5, _⟩, h6⟩ := h
  simp [rpG, rpW, fsR, tFl, tSl, h1, h2, h3, h4, h5, h6]
theorem rpW_len {x : Rpv} (h : rpB x = true) (ht : 0 ≤ x.t) (ht2 : x.t ≤ 9) : (Lib.join (rpW x) [32]).length ≤ 400 := by
  unfold rpB allF fsR at h
  simp only [List.all_cons, List.all_nil, Bool.and_eq_true] at h
  obtain ⟨⟨h1, h2, h3, h4, h5, _⟩, h6⟩ := h
  obtain ⟨h7, h8⟩ := spB_oks h6
  have a0 := Lib.itoa_length_le x.t (by omega) (by omega)
  have a1 := txtFl_len h1
  have a2 := txtFl_len h2
  have a3 := txtFl_len h3
  have a4 := txtFl_len h4
  have a5 := txtFl_len h5
  have a6 := txtFl_len h7
  have a7 := txtFl_len h8
  have e : (txtS x.l x.m x.n x.o).data.toList = txtFl x.l x.m ++ [46, 46] ++ txtFl x.n x.o := by unfold txtS; rw [txtF_mk, txtF_mk, ba_app, ba_app]; simp
  unfold rpW
  rw [e, Lib.join_cons]
  simp [fsR, Lib.joinTail]
  omega
theorem iThPl (n : Int) (w : World) : Calls Tryd.prog 39 #[.int .i64 n] w fun e w' => e = .returned (.bool (inB n 0 9)) ∧ w = w' := by
  unfold inB
  by_cases h1 : 0 ≤ n
  · go_enter Tryd.func39, Tryd.ntmps39
    go_wp2
    go_ret
    exact ⟨ret_bool (by simp [h1]; omega), rfl⟩
  · have h2 : ¬ 0 ≤ n := h1
    go_enter Tryd.func39, Tryd.ntmps39
    go_wp2
    go_ret
    exact ⟨ret_bool (by simp; omega), rfl⟩
set_option maxRecDepth 20000 in
set_option maxHeartbeats 1000000 in
theorem iIndexS0 (A : Option Addr) (c n : Nat) (L : List (List UInt8)) (w : World) (X : Hid (∀ (k : Nat) (s : List UInt8), L[k]? = some s → ∃ ad, A = some ad ∧ w.cell? (ad.add k) = some (.string ⟨s.toArray⟩))) (hn : L.length = n) (h9 : n ≤ 1000) :
    Calls Tryd.prog 69 #[.slice A n c, .string ⟨#[]⟩] w fun e w' => (∃ r : Int, e = .returned (.int .i64 r) ∧ decide (0 ≤ r) = L.any (·.isEmpty)) ∧ w = w' := by
  have HN := hid hn; clear hn
  go_enter Tryd.func69, Tryd.ntmps69
  go_wp2_with fail
  go_loopw [8] (fun u wr => ∃ (k : Nat), u = .int .i64 (k : Int) ∧ k ≤ n ∧ (L.take k).any (·.isEmpty) = false ∧ wr = w) (fun u _ => n - (intOf u).toNat)
  case atStart => exact ⟨0, rfl, by omega, by simp, by simp⟩
  case round =>
    obtain ⟨k, rfl, hk, ha, rfl⟩ := hrel
    have HA := hid ha; clear ha
    by_cases hlt : k < n
    · obtain ⟨s, hs⟩ : ∃ s, L[k]? = some s := ⟨L[k]'(by rw [HN.out]; exact hlt), List.getElem?_eq_getElem _⟩
      obtain ⟨ad, rfl, c1⟩ := X.out k s hs
      have HS := hid hs; clear hs
      cases s with
      | nil =>
        go_wp2_with fail
        go_ret
        refine ⟨⟨_, rfl, ?_⟩, rfl⟩
        have : L.any (·.isEmpty) = true := List.any_eq_true.2 ⟨[], List.mem_of_getElem? HS.out, rfl⟩
        rw [this]
        exact decide_eq_true (by omega)
      | cons y r =>
        have hne := txt_ne (S := ⟨#[]⟩) (s := ⟨(y :: r).toArray⟩) (by intro h; have := congrArg (fun b : ByteArray => b.data.toList) h; simp at this)
        have HT : Hid ((L.take (k + 1)).any (·.isEmpty) = false) := hid (by rw [List.take_add_one, HS.out]; simp [HA.out])
        go_wp2_with fail
        exact ⟨⟨k + 1, by simp, by omega, HT.out, by simp⟩, by simp [intOf]; omega⟩
    · have hke : k = n := by omega
      subst hke
      have HALL : Hid (L.any (·.isEmpty) = false) := hid (by have := HA.out; rwa [← HN.out, List.take_length] at this)
      go_wp2_with fail
      go_ret
      exact ⟨⟨_, rfl, by rw [HALL.out]; simp⟩, by simp⟩
set_option maxRecDepth 20000 in
set_option maxHeartbeats 1000000 in
theorem iContS0 (A : Option Addr) (c n : Nat) (L : List (List UInt8)) (w : World) (X : Hid (∀ (k : Nat) (s : List UInt8), L[k]? = some s → ∃ ad, A = some ad ∧ w.cell? (ad.add k) = some (.string ⟨s.toArray⟩))) (hn : L.length = n) (h9 : n ≤ 1000) :
    Calls Tryd.prog 42 #[.slice A n c, .string ⟨#[]⟩] w fun e w' => e = .returned (.bool (L.any (·.isEmpty))) ∧ w = w' := by
  have HI := hid (iIndexS0 A c n L w X hn h9)
  go_enter Tryd.func42, Tryd.ntmps42
  go_wp2_with fail
  refine HI.out.mono ?_
  rintro e w1 ⟨⟨r, rfl, hr⟩, rfl⟩
  have HR := hid hr; clear hr
  go_wp2_with fail
  go_ret
  exact ⟨ret_bool (by rw [← HR.out]), rfl⟩
end Go.Proofs.YtkeflpcokcfcjaaDoor
namespace Go.Proofs.YtkeflpcokcfcjaaDoor
open Go.RowKit Go.Sort

theorem rpG_take {x : Rpv} {k : Nat} {p q : Int} (h : (fsR x)[k]? = some (p, q)) : strL (Lib.itoa x.t :: ((fsR x).map fun y => tFl y.1 y.2).take k) ++ [Value.string ⟨(tFl p q).toArray⟩] = strL (Lib.itoa x.t :: ((fsR x).map fun y => tFl y.1 y.2).take (k + 1)) := by
  rw [List.take_add_one, List.getElem?_map, h]
  simp [strL]
theorem rpG_last (x : Rpv) : strL (Lib.itoa x.t :: ((fsR x).map fun y => tFl y.1 y.2).take 5) ++ [Value.string ⟨(tSl x.l x.m x.n x.o).toArray⟩] = strL (rpG x) := by
  simp [rpG, strL, fsR]
theorem own_neS {W : World} {base b n : Nat} {T : TypeId} {v : Value} {xs : List Value} {cs : Array Value} (h : W.ownsRow base 9 1 v n xs) (hb : W.heap[b]? = some (.cells cs T)) (hT : T ≠ 9) : v.ownBlock ≠ some b := by
  rcases h.2 with ⟨rfl, _⟩ | ⟨g, cap, cur, rfl, _, hg, _⟩
  · simp [Value.ownBlock]
  · simp only [Value.ownBlock, ne_eq, Option.some.injEq]
    rintro rfl
    rw [hg] at hb
    cases hb
    exact hT rfl
theorem own_oneT (w : World) (s : ByteArray) (base : Nat) (hb : base ≤ w.heap.size) : (w.alloc (.cells #[.string s] 9)).ownsRow base 9 1 (.slice (some ⟨w.heap.size, 0, none⟩) 1 1) 1 [.string s] :=
  ⟨rfl, .inr ⟨w.heap.size, 1, #[.string s], rfl, hb, al_top w _, Nat.le_refl _, by decide, rfl, rfl⟩⟩
set_option maxRecDepth 20000 in
set_option maxHeartbeats 1000000 in
theorem iReport_no (x : Rpv) (w : World) (h : inB x.t 0 9 = false) : Calls Tryd.prog 15 #[vRp x] w fun e w' => e = .returned (.string ⟨#[]⟩) ∧ Bl w w' := by
  have HT := hid fun w => h ▸ iThPl x.t w
  go_enter Tryd.func15, Tryd.ntmps15
  go_wp2_with fail
  refine (HT.out _).mono ?_
  rintro e w1 ⟨rfl, rfl⟩
  go_wp2
  go_ret
  exact ⟨rfl, ((Gr.refl w).al _).below⟩
set_option maxRecDepth 20000 in
set_option maxHeartbeats 4000000 in
theorem iReport (x : Rpv) (R : ByteArray) (w : World) (T : Hid (Pow w)) (h : inB x.t 0 9 = true) (hR : Hid (R = if rpB x then ⟨(Lib.join (rpW x) [32]).toArray⟩ else ⟨#[]⟩)) : Calls Tryd.prog 15 #[vRp x] w fun e w' => e = .returned (.string R) ∧ Bl w w' := by
  have hb : 0 ≤ x.t ∧ x.t ≤ 9 := by unfold inB at h; simpa using h
  have HT := hid fun w => h ▸ iThPl x.t w
  obtain ⟨i0, hi, iz0, iz1, iz2⟩ : ∃ i, Tryd.prog.info? 9 = some i ∧ i.zero = some (.string ⟨#[]⟩) ∧ i.size = 1 ∧ i.bytes = 16 := ⟨_, rfl, by kernel_rfl, rfl, rfl⟩
  have HF := hid fun (w : World) (T : Hid (Pow w)) => iFmt x.t w T (by omega) (by omega)
  have HRL := hid fun (hr : rpB x = true) => rpW_len hr hb.1 hb.2
  clear h hb
  go_enter Tryd.func15, Tryd.ntmps15
  go_wp2_with fail
  refine (HT.out _).mono ?_
  rintro e w1 ⟨rfl, rfl⟩
  have K1b := hid (al_top w (.cells #[.int .i64 x.t, .int .i64 x.a, .int .i64 x.b, .int .i64 x.c, .int .i64 x.d, .int .i64 x.e, .int .i64 x.f, .int .i64 x.g, .int .i64 x.h, .int .i64 x.i, .int .i64 x.k, .int .i64 x.l, .int .i64 x.m, .int .i64 x.n, .int .i64 x.o] 51))
  obtain ⟨z0, z1, z2, z3, z4, z5, z6, z7, z8, z9, z10, z11, z12, z13, z14⟩ := cells15 K1b.out
  have _ := ltb K1b.out
  go_wp2_with fail
  refine (HF.out _ (hid (T.out.keep ((Gr.refl w).al _)))).mono ?_
  rintro e w2 ⟨rfl, hg2⟩
  have K2 := hid hg2; clear hg2 z0 z1 z2 z3 z4 z5 z6 z7 z8 z9 z10 z11 z12 z13 z14
  have K2b := hid (K2.out.keep K1b.out)
  have W4 := hid ((Gr.refl w2).al (.cells #[.string (txt x.t)] 9))
  have K4b := hid (W4.out.keep K2b.out)
  obtain ⟨z0, z1, z2, z3, z4, z5, z6, z7, z8, z9, z10, z11, z12, z13, z14⟩ := cells15 K4b.out
  have _ := ltb K4b.out
  go_wp2_with fail
  go_loopw [3, 30] (fun t u wr => ∃ (k : Nat) (A' : Option Addr) (c' : Nat), u = .int .i64 (k : Int) ∧ t = .slice A' (k + 1) c' ∧ k ≤ 5 ∧ Gr w2 wr ∧ wr.heap[w2.heap.size + 1]? = some (.cells #[.int .i64 x.a, .int .i64 x.b, .int .i64 x.c, .int .i64 x.d, .int .i64 x.e, .int .i64 x.f, .int .i64 x.g, .int .i64 x.h, .int .i64 x.i, .int .i64 x.k] 30) ∧ wr.ownsRow w2.heap.size 9 1 (.slice A' (k + 1) c') (k + 1) (strL (Lib.itoa x.t :: ((fsR x).map fun y => tFl y.1 y.2).take k))) (fun _ u _ => 5 - (intOf u).toNat)
  case atStart => exact ⟨0, some ⟨w2.heap.size, 0, none⟩, 1, rfl, rfl, by omega, W4.out.al _, by have h := al_top (w2.alloc (.cells #[.string (txt x.t)] 9)) (.cells #[.int .i64 x.a, .int .i64 x.b, .int .i64 x.c, .int .i64 x.d, .int .i64 x.e, .int .i64 x.f, .int .i64 x.g, .int .i64 x.h, .int .i64 x.i, .int .i64 x.k] 30); have e : (w2.alloc (.cells #[.string (txt x.t)] 9)).heap.size = w2.heap.size + 1 := (by simp); rwa [e] at h, own_gr (own_oneT w2 (txt x.t) _ (Nat.le_refl _)) ((Gr.refl _).al _)⟩
  case round =>
    obtain ⟨k, A', c', rfl, rfl, hkn, hg, hy, hown⟩ := hrel
    have GW := hid hg; have OWN := hid hown; have YT := hid hy
    have XR : Hid (RdF wr (some ⟨w2.heap.size + 1, 0, none⟩) (fsR x)) := hid (RdF.of_block (xs := fsR x) hy)
    have GB := hid (K2.out.trans hg)
    clear hy
    clear hg hown
    by_cases hlt : k < 5
    · obtain ⟨⟨p, q⟩, hp⟩ : ∃ y, (fsR x)[k]? = some y := ⟨(fsR x)[k]'(by simpa [fsR] using hlt), List.getElem?_eq_getElem _⟩
      obtain ⟨ad, he, c1, c2⟩ := XR.out k p q hp
      cases he
      rw [add_at] at c1 c2
      have HTK := hid (rpG_take hp)
      have GF := hid ((Gr.refl wr).al (.cells #[.int .i64 p, .int .i64 q] 30))
      clear hp
      go_wp2_with fail
      refine (iFTg p q _ (hid (T.out.keep (((Gr.refl w).al _).trans (GB.out.trans GF.out))))).mono ?_
      rintro e w5 ⟨rfl, hg5⟩
      obtain ⟨S, hS⟩ : ∃ S, (⟨(tFl p q).toArray⟩ : ByteArray) = S := ⟨_, rfl⟩
      rw [hS] at HTK
      rw [hS]
      have G5 := hid ((GF.out.trans hg5).al (.cells #[.string S] 9)); clear hg5 hS
      have OWN5 := hid (own_gr OWN.out G5.out)
      have Y5 := hid (G5.out.keep YT.out)
      have NEW := hid (one_newsS (w := w5.alloc (.cells #[.string S] 9)) (b := w5.heap.size) (alloc1 (Gr.refl _)).1)
      have hb5 : w2.heap.size ≤ (w5.alloc (.cells #[.string S] 9)).heap.size := (GW.out.trans G5.out).size
      go_wp2_with (at_builtin; refine (wpList_append_gr rfl _ _ 63 rfl w2.heap.size 9 i0 (.string ⟨#[]⟩) 1 16 Tryd.underlying63 hi iz0 iz1 iz2 rfl (by decide) _ (k + 1) _ rfl OWN5.out ⟨w5.heap.size, 0, none⟩ 1 1 [.string S] rfl rfl NEW.out (by simp [Value.oneCell']) (by decide) (by unfold maxLen; omega) (by omega) hb5 ?_))
      intro v' w9 own9 hgb _ hgr
      obtain ⟨A2, c2', rfl⟩ := own_form own9
      rw [HTK.out] at own9
      have OWN9 := hid own9
      have G9 := hid (hgr _ (GW.out.trans G5.out) (Nat.le_refl _))
      have Y9 := hid ((hgb.block (w2.heap.size + 1) (ltb Y5.out) (Ne.symm (own_neS OWN5.out Y5.out (by decide)))).trans Y5.out)
      clear hgb
      clear own9 hgr
      go_wp2_with fail
      exact ⟨⟨k + 1, A2, c2', by simp, by simp, by omega, G9.out, Y9.out, OWN9.out⟩, by simp [intOf]; omega⟩
    · have hke : k = 5 := by omega
      subst hke
      have K5b := hid (GB.out.keep K1b.out)
      obtain ⟨z0, z1, z2, z3, z4, z5, z6, z7, z8, z9, z10, z11, z12, z13, z14⟩ := cells15 K5b.out
      have _ := ltb K5b.out
      have HTK := hid (rpG_last x)
      go_wp2_with fail
      refine (iSTg x.l x.m x.n x.o _ (hid (T.out.keep (((Gr.refl w).al _).trans GB.out)))).mono ?_
      rintro e w5 ⟨rfl, hg5⟩
      obtain ⟨S, hS⟩ : ∃ S, (⟨(tSl x.l x.m x.n x.o).toArray⟩ : ByteArray) = S := ⟨_, rfl⟩
      rw [hS] at HTK
      rw [hS]
      have G5 := hid (hg5.al (.cells #[.string S] 9)); clear hg5 hS
      have OWN5 := hid (own_gr OWN.out G5.out)
      have Y5 := hid (G5.out.keep YT.out)
      have NEW := hid (one_newsS (w := w5.alloc (.cells #[.string S] 9)) (b := w5.heap.size) (alloc1 (Gr.refl _)).1)
      have hb5 : w2.heap.size ≤ (w5.alloc (.cells #[.string S] 9)).heap.size := (GW.out.trans G5.out).size
      go_wp2_with (at_builtin; refine (wpList_append_gr rfl _ _ 63 rfl w2.heap.size 9 i0 (.string ⟨#[]⟩) 1 16 Tryd.underlying63 hi iz0 iz1 iz2 rfl (by decide) _ (5 + 1) _ rfl OWN5.out ⟨w5.heap.size, 0, none⟩ 1 1 [.string S] rfl rfl NEW.out (by simp [Value.oneCell']) (by decide) (by unfold maxLen; omega) (by omega) hb5 ?_))
      intro v' w9 own9 _ _ hgr
      obtain ⟨A2, c2', rfl⟩ := own_form own9
      rw [HTK.out] at own9
      have G9 := hid (((Gr.refl w).al (.cells #[.int .i64 x.t, .int .i64 x.a, .int .i64 x.b, .int .i64 x.c, .int .i64 x.d, .int .i64 x.e, .int .i64 x.f, .int .i64 x.g, .int .i64 x.h, .int .i64 x.i, .int .i64 x.k, .int .i64 x.l, .int .i64 x.m, .int .i64 x.n, .int .i64 x.o] 51)).trans (K2.out.trans (hgr _ (GW.out.trans G5.out) (Nat.le_refl _))))
      have hcap := own_le own9
      obtain ⟨g, cur, rfl, hbg, hcur, hget⟩ := own_openS own9 (by omega)
      have HC := hid (iContS0 (some ⟨g, 0, none⟩) c2' 7 (rpG x) w9 (hid fun j s hj => ⟨_, rfl, by rw [add_at]; have := str_cell hcur (hget j s hj); simpa using this⟩) (by simp [rpG, fsR]) (by omega))
      rw [rpG_any] at HC
      cases hr : rpB x with
      | false =>
        have HR := hid hr
        rw [hr] at HC
        clear own9 hgr hcap hcur hget hr
        go_wp2_with fail
        refine (HC.out).mono ?_
        rintro e w10 ⟨rfl, rfl⟩
        go_wp2
        go_ret
        exact ⟨by rw [hR.out, HR.out]; rfl, G9.out.below⟩
      | true =>
        have HR := hid hr
        rw [hr] at HC
        have hB : ((rpG x).map fun d => (⟨d.toArray⟩ : ByteArray)).length = 7 := by simp [rpG, fsR]
        have hL : ((rpG x).map fun d => (⟨d.toArray⟩ : ByteArray)).map (·.data.toList) = rpW x := by
          rw [List.map_map, ← rpG_ok hr]
          exact (List.map_congr_left fun d _ => rfl).trans (List.map_id _)
        have HJ := hid (Any.strings_Join Tryd.lays156 Tryd.extra156 g 0 c2' ((rpG x).map fun d => (⟨d.toArray⟩ : ByteArray)) ⟨#[32]⟩ w9 (fun j x hj => by
            rw [List.getElem?_map, Option.map_eq_some_iff] at hj
            obtain ⟨d, hd, rfl⟩ := hj
            rw [Nat.zero_add]
            exact str_cell hcur (hget j d hd)) (ltb hcur) (by rw [hB]; omega) (by rw [hB]; omega) (by rw [hL]; exact Nat.le_trans (HRL.out hr) (by omega)))
        rw [hB, hL] at HJ
        clear own9 hgr hcap hcur hget hr hB hL
        go_wp2_with fail
        refine (HC.out).mono ?_
        rintro e w10 ⟨rfl, rfl⟩
        go_wp2_with fail
        refine (HJ.out).mono ?_
        rintro e w11 ⟨rfl, hb⟩
        have B9 := hid (Bl.tr G9.out.below hb); clear hb
        go_wp2
        go_ret
        exact ⟨by rw [hR.out, HR.out]; rfl, B9.out⟩
end Go.Proofs.YtkeflpcokcfcjaaDoor
