/- RESIDUALS: ResidualsOf of the reference and of the program. -/
import Derived.Test.YtjhlpaeenjbljaaUc
import Derived.Test.YtjhlpaeenjbljaaSg
namespace Go.Proofs.Ytjhlpaeenjbljaa
open Go.RowKit Go.Sort

theorem ask_zero {n : Int} {b : Bool} {p q : Int} {xs : List Obv} {ys : List (Int × Int)} (h : askC n b p q xs ys = 0) : tblB n b p q xs = true ∧ allF ys = true ∧ (ys.length : Int) = n := by
  unfold askC at h
  split at h
  · split at h
    · rename_i h1 h2; exact ⟨h1.1, h1.2, h2⟩
    · omega
  · omega
theorem tb_obs {n : Nat} {b : Bool} {p q : Int} {xs : List Obv} (h : tblB (n : Int) b p q xs = true) : xs.length ≤ 24 ∧ 1 ≤ n ∧ n ≤ 6 ∧ xs.all (fun x => obB x n) = true := by
  unfold tblB inB at h
  simp only [Bool.and_eq_true, decide_eq_true_eq, Int.toNat_natCast] at h
  exact ⟨h.2.1, by omega, by omega, h.2.2.2.2⟩
set_option maxRecDepth 20000 in
set_option maxHeartbeats 1000000 in
theorem iAsked (n : Int) (A : Option Addr) (c : Nat) (b : Bool) (p q : Int) (xs : List Obv) (B : Option Addr) (d : Nat) (ys : List (Int × Int)) (C : Int) (w : World) (X : Hid (RdO w A xs)) (Y : Hid (RdF w B ys)) (hn : xs.length ≤ 1048576) (hm : ys.length ≤ 1048576) (hw : xs.all wfE = true) (hC : askC n b p q xs ys = C) :
    Calls Try.prog 77 #[tbl n A xs.length c b p q, .slice B ys.length d] w fun e w' => e = .returned (.int .i64 C) ∧ Gr w w' := by
  cases h1 : tblB n b p q xs with
  | false =>
    obtain rfl : C = 1 := by rw [← hC]; unfold askC; rw [if_neg (by simp [h1])]
    have HT := hid fun (w : World) (X : Hid (RdO w A xs)) => h1 ▸ iTbOk n A c b p q xs w X hn hw
    clear hC h1 hw
    go_enter Try.func77, Try.ntmps77
    go_wp2_with fail
    refine (HT.out _ (hid (X.out.keep ((Gr.refl w).al _)))).mono ?_
    rintro e w1 ⟨rfl, hg1⟩
    obtain ⟨x1_0, hz1, g1⟩ := alloc1 hg1
    obtain ⟨_, _, _, _, _⟩ := cells5 x1_0
    have _ := fz x1_0
    have _ := ltb x1_0
    have X1_0 := hid x1_0; clear x1_0
    have G1 := hid (g1)
    clear hg1 g1
    go_wp2_with fail
    go_ret
    exact ⟨rfl, G1.out⟩
  | true =>
    have HT := hid fun (w : World) (X : Hid (RdO w A xs)) => h1 ▸ iTbOk n A c b p q xs w X hn hw
    cases h2 : allF ys with
    | false =>
      obtain rfl : C = 1 := by rw [← hC]; unfold askC; rw [if_neg (by simp [h2])]
      have HF := hid fun (w' : World) (Z : Hid (RdF w' B ys)) => h2 ▸ iFracs B d ys w' Z hm
      clear hC h1 hw h2
      go_enter Try.func77, Try.ntmps77
      go_wp2_with fail
      refine (HT.out _ (hid (X.out.keep ((Gr.refl w).al _)))).mono ?_
      rintro e w1 ⟨rfl, hg1⟩
      obtain ⟨x1_0, hz1, g1⟩ := alloc1 hg1
      obtain ⟨_, _, _, _, _⟩ := cells5 x1_0
      have _ := fz x1_0
      have _ := ltb x1_0
      have X1_0 := hid x1_0; clear x1_0
      have G1 := hid (g1)
      clear hg1 g1
      go_wp2_with fail
      refine (HF.out _ (hid (Y.out.keep G1.out))).mono ?_
      rintro e w2 ⟨rfl, hg2⟩
      have x2_1 := hg2.keep X1_0.out
      obtain ⟨_, _, _, _, _⟩ := cells5 x2_1
      have _ := fz x2_1
      have _ := ltb x2_1
      have X2_1 := hid x2_1; clear x2_1
      have G2 := hid (G1.out.trans hg2)
      clear hg2
      go_wp2_with fail
      go_ret
      exact ⟨rfl, G2.out⟩
    | true =>
      have HF := hid fun (w' : World) (Z : Hid (RdF w' B ys)) => h2 ▸ iFracs B d ys w' Z hm
      clear hw
      by_cases h3 : (ys.length : Int) = n
      · obtain rfl : C = 0 := by rw [← hC]; unfold askC; rw [if_pos ⟨h1, h2⟩, if_pos h3]
        have h3' : ((ys.length : Int) == n) = true := by simpa using h3
        clear hC h1 h2
        go_enter Try.func77, Try.ntmps77
        go_wp2_with fail
        refine (HT.out _ (hid (X.out.keep ((Gr.refl w).al _)))).mono ?_
        rintro e w1 ⟨rfl, hg1⟩
        obtain ⟨x1_0, hz1, g1⟩ := alloc1 hg1
        obtain ⟨_, _, _, _, _⟩ := cells5 x1_0
        have _ := fz x1_0
        have _ := ltb x1_0
        have X1_0 := hid x1_0; clear x1_0
        have G1 := hid (g1)
        clear hg1 g1
        go_wp2_with fail
        refine (HF.out _ (hid (Y.out.keep G1.out))).mono ?_
        rintro e w2 ⟨rfl, hg2⟩
        have x2_1 := hg2.keep X1_0.out
        obtain ⟨_, _, _, _, _⟩ := cells5 x2_1
        have _ := fz x2_1
        have _ := ltb x2_1
        have X2_1 := hid x2_1; clear x2_1
        have G2 := hid (G1.out.trans hg2)
        clear hg2
        go_wp2_with fail
        go_ret
        exact ⟨rfl, G2.out⟩
      · obtain rfl : C = 2 := by rw [← hC]; unfold askC; rw [if_pos ⟨h1, h2⟩, if_neg h3]
        have h3' : ((ys.length : Int) == n) = false := by simpa using h3
        clear hC h1 h2
        go_enter Try.func77, Try.ntmps77
        go_wp2_with fail
        refine (HT.out _ (hid (X.out.keep ((Gr.refl w).al _)))).mono ?_
        rintro e w1 ⟨rfl, hg1⟩
        obtain ⟨x1_0, hz1, g1⟩ := alloc1 hg1
        obtain ⟨_, _, _, _, _⟩ := cells5 x1_0
        have _ := fz x1_0
        have _ := ltb x1_0
        have X1_0 := hid x1_0; clear x1_0
        have G1 := hid (g1)
        clear hg1 g1
        go_wp2_with fail
        refine (HF.out _ (hid (Y.out.keep G1.out))).mono ?_
        rintro e w2 ⟨rfl, hg2⟩
        have x2_1 := hg2.keep X1_0.out
        obtain ⟨_, _, _, _, _⟩ := cells5 x2_1
        have _ := fz x2_1
        have _ := ltb x2_1
        have X2_1 := hid x2_1; clear x2_1
        have G2 := hid (G1.out.trans hg2)
        clear hg2
        go_wp2_with fail
        go_ret
        exact ⟨rfl, G2.out⟩
/-! the reference -/
set_option maxRecDepth 20000 in
set_option maxHeartbeats 400000 in
theorem sRO_no (n : Int) (g c : Nat) (b : Bool) (p q : Int) (xs : List Obv) (B : Option Addr) (d : Nat) (ys : List (Int × Int)) (C : Int) (w : World) (X : Hid (RdO w (some ⟨g, 0, none⟩) xs)) (Y : Hid (RdF w B ys)) (hn : xs.length ≤ 1048576) (hm : ys.length ≤ 1048576) (hw : xs.all wfE = true) (hC : askC n b p q xs ys = C) (h0 : (C == 0) = false) :
    Calls Try.prog 24 #[tbl n (some ⟨g, 0, none⟩) xs.length c b p q, .slice B ys.length d] w fun e w' => GivesF w w' e [] C := by
  have HA := hid fun (k : Nat) (T : TypeId) (w : World) (XB : Hid (w.heap[k]? = some (.cells #[.int .i64 n, .slice (some ⟨g, 0, none⟩) xs.length c, .bool b, .int .i64 p, .int .i64 q] T))) (X : Hid (RdO w (some ⟨g, 0, none⟩) xs)) (Y : Hid (RdF w B ys)) => sTxAsk k T n g c b p q xs B d ys C w XB X Y hn hm hw hC
  clear hC hw
  go_enter Try.func24, Try.ntmps24
  go_wp2_with fail
  refine (HA.out _ _ _ (hid (alloc1 (Gr.refl _)).1) (hid (X.out.keep ((Gr.refl w).al _))) (hid (Y.out.keep ((Gr.refl w).al _)))).mono ?_
  rintro e w1 ⟨rfl, hg1⟩
  obtain ⟨x1_0, hz1, g1⟩ := alloc1 hg1
  obtain ⟨_, _, _, _, _⟩ := cells5 x1_0
  have _ := fz x1_0
  have _ := ltb x1_0
  have X1_0 := hid x1_0; clear x1_0
  have G1 := hid (g1)
  clear hg1 g1
  have hsz := G1.out.size
  go_wp2_with fail
  go_ret2
  exact ⟨_, _, rfl, madeF hsz, G1.out.al _⟩
set_option maxRecDepth 20000 in
set_option maxHeartbeats 2000000 in
theorem sRO_yes (n : Int) (g c : Nat) (b : Bool) (p q : Int) (xs : List Obv) (B : Option Addr) (d : Nat) (ys : List (Int × Int)) (w : World) (X : Hid (RdO w (some ⟨g, 0, none⟩) xs)) (Y : Hid (RdF w B ys)) (hw : xs.all wfE = true) (hC : askC n b p q xs ys = 0) :
    Calls Try.prog 24 #[tbl n (some ⟨g, 0, none⟩) xs.length c b p q, .slice B ys.length d] w fun e w' => (RsdAll xs ys ∧ GivesF w w' e (rsdL xs ys) 0) ∨ (¬ RsdAll xs ys ∧ GivesF w w' e [] 3) := by
  obtain ⟨i0, hi, iz0, iz1, iz2⟩ : ∃ i, Try.prog.info? 24 = some i ∧ i.zero = some (fr 0 0) ∧ i.size = 2 ∧ i.bytes = 16 := ⟨_, rfl, rfl, rfl, rfl⟩
  obtain ⟨ht, hall, rfl⟩ := ask_zero hC
  obtain ⟨hl24, hl1, hl6, hob⟩ := tb_obs ht
  have HA := hid fun (k : Nat) (T : TypeId) (w : World) (XB : Hid (w.heap[k]? = some (.cells #[.int .i64 (ys.length : Int), .slice (some ⟨g, 0, none⟩) xs.length c, .bool b, .int .i64 p, .int .i64 q] T))) (X : Hid (RdO w (some ⟨g, 0, none⟩) xs)) (Y : Hid (RdF w B ys)) => sTxAsk k T (ys.length : Int) g c b p q xs B d ys 0 w XB X Y (by omega) (by omega) hw hC
  have HOB := hid hob; have HALL := hid hall
  clear hC hw ht hob hall
  go_enter Try.func24, Try.ntmps24
  go_wp2_with fail
  refine (HA.out _ _ _ (hid (alloc1 (Gr.refl _)).1) (hid (X.out.keep ((Gr.refl w).al _))) (hid (Y.out.keep ((Gr.refl w).al _)))).mono ?_
  rintro e w1 ⟨rfl, hg1⟩
  obtain ⟨x1_0, hz1, g1⟩ := alloc1 hg1
  obtain ⟨_, _, _, _, _⟩ := cells5 x1_0
  have _ := fz x1_0
  have _ := ltb x1_0
  have X1_0 := hid x1_0; clear x1_0
  have G1 := hid (g1)
  clear hg1 g1
  have hw1 := G1.out.size
  go_wp2_with fail
  go_loopw [7, 8] (fun v u wr => ∃ (k : Nat) (A' : Option Addr) (c' : Nat), u = .int .i64 (k : Int) ∧ v = .slice A' k c' ∧ k ≤ xs.length ∧ Gr w1 wr ∧ wr.ownsRow w1.heap.size 24 2 (.slice A' k c') k (flatL ((rsdL xs ys).take k)) ∧ (∀ (i : Nat) (x : Obv), i < k → xs[i]? = some x → ∃ u v, rsd x ys ys.length = some (u, v))) (fun _ u _ => xs.length - (intOf u).toNat)
  case atStart => exact ⟨0, _, _, rfl, rfl, by omega, (Gr.refl _).al _, World.ownsRow_made _ #[] 0 (Nat.le_refl _) (by simp [maxLen]) (by simp), fun i x h => by omega⟩
  case round =>
    obtain ⟨k, A', c', rfl, rfl, hk, hg, hown, hdone⟩ := hrel
    have GW := hid hg; have OWN := hid hown; have HD := hid hdone
    have GV := hid (G1.out.trans hg)
    have YB := hid (hg.keep X1_0.out)
    obtain ⟨_, _, _, _, _⟩ := cells5 YB.out
    have _ := ltb YB.out
    clear hg hown hdone
    by_cases hlt : k < xs.length
    · obtain ⟨x, hx⟩ : ∃ x, xs[k]? = some x := ⟨xs[k], List.getElem?_eq_getElem _⟩
      have HX := hid hx
      obtain ⟨ad, e0, hcel⟩ := (X.out.keep GV.out) k x hx
      cases e0
      rw [add_at] at hcel
      have HXO := hid (allO_get hx HOB.out)
      have HCEL := hid hcel
      clear hx hcel
      go_wp2_with fail
      refine (sresid x ys.length ys B d g (k * 9) _ HCEL (hid (Y.out.keep GV.out)) HXO.out hl6 HALL.out).mono ?_
      rintro e w2 ⟨⟨u, v, hr, rfl⟩ | ⟨hr, rfl⟩, hg2⟩
      · have HR := hid hr
        have HTK := hid (rsdL_take HX.out HR.out)
        have OWN2 := hid (own_gr OWN.out ((hg2.al (.cells #[.int .i64 u, .int .i64 v] 24)).al (.cells #[.int .i64 u, .int .i64 v] 24)))
        have NEW := hid (one_newsF (w := (w2.alloc (.cells #[.int .i64 u, .int .i64 v] 24)).alloc (.cells #[.int .i64 u, .int .i64 v] 24)) (b := w2.heap.size + 1) (by simpa using (alloc1 (w := w2.alloc (.cells #[.int .i64 u, .int .i64 v] 24)) (A := .cells #[.int .i64 u, .int .i64 v] 24) (Gr.refl _)).1))
        have G2 := hid (((GW.out.trans hg2).al (.cells #[.int .i64 u, .int .i64 v] 24)).al (.cells #[.int .i64 u, .int .i64 v] 24))
        have hsz := G2.out.size
        clear hg2 hr OWN
        go_wp2_with (at_builtin; refine (wpList_append_gr rfl _ _ 25 rfl w1.heap.size 24 i0 (fr 0 0) 2 16 Try.underlying25 hi iz0 iz1 iz2 rfl (by decide) _ k _ rfl OWN2.out ⟨w2.heap.size + 1, 0, none⟩ 1 1 [.int .i64 u, .int .i64 v] rfl rfl NEW.out (by simp [Value.oneCell']) (by decide) (by unfold maxLen; omega) (by omega) hsz ?_))
        intro v' w4 own4 _ _ hgr
        obtain ⟨A2, c2, rfl⟩ := own_form own4
        rw [flatL_app, ← HTK.out] at own4
        have OWN4 := hid own4
        have G4 := hid (hgr _ G2.out (Nat.le_refl _))
        clear own4 hgr OWN2 NEW hsz
        go_wp2_with fail
        refine ⟨⟨k + 1, A2, c2, by simp, by simp, by omega, G4.out, OWN4.out, fun i x' hi hx' => ?_⟩, by simp [intOf]; omega⟩
        by_cases hik : i = k
        · subst hik
          have := HX.out.symm.trans hx'
          cases this
          exact ⟨u, v, HR.out⟩
        · exact HD.out i x' (by omega) hx'
      · have HR := hid hr
        have G2 := hid ((GV.out.trans hg2).al (.cells #[.int .i64 0, .int .i64 0] 24))
        have hsz := G2.out.size
        clear hg2 hr
        go_wp2_with fail
        go_ret2
        exact .inr ⟨fun h => (by obtain ⟨u, v, h⟩ := h k x HX.out; rw [HR.out] at h; cases h), _, _, rfl, by simpa using madeF hsz, G2.out.al _⟩
    · have hke : k = xs.length := by omega
      subst hke
      go_wp2_with fail
      go_ret2
      have h := OWN.out
      rw [← rsdL_len xs ys, List.take_length] at h
      exact .inl ⟨fun k x hx => HD.out k x (List.getElem?_eq_some_iff.1 hx).1 hx, A', c', by rw [rsdL_len]; rfl, own_base h hw1, GV.out⟩
/-! the program -/
set_option maxRecDepth 20000 in
set_option maxHeartbeats 400000 in
theorem iRO_no (n : Int) (A : Option Addr) (c : Nat) (b : Bool) (p q : Int) (xs : List Obv) (B : Option Addr) (d : Nat) (ys : List (Int × Int)) (C : Int) (w : World) (X : Hid (RdO w A xs)) (Y : Hid (RdF w B ys)) (hn : xs.length ≤ 1048576) (hm : ys.length ≤ 1048576) (hw : xs.all wfE = true) (hC : askC n b p q xs ys = C) (h0 : (C == 0) = false) :
    Calls Try.prog 27 #[tbl n A xs.length c b p q, .slice B ys.length d] w fun e w' => GivesF w w' e [] C := by
  have HA := hid fun (w : World) (X : Hid (RdO w A xs)) (Y : Hid (RdF w B ys)) => iAsked n A c b p q xs B d ys C w X Y hn hm hw hC
  clear hC hw
  go_enter Try.func27, Try.ntmps27
  go_wp2_with fail
  refine (HA.out _ (hid (X.out.keep (((Gr.refl w).al _).al _))) (hid (Y.out.keep (((Gr.refl w).al _).al _)))).mono ?_
  rintro e w1 ⟨rfl, hg1⟩
  obtain ⟨x1_0, x1_1, hz1, g1⟩ := alloc2 hg1
  obtain ⟨_, _, _, _, _⟩ := cells5 x1_0
  have _ := fz x1_0
  have _ := ltb x1_0
  have _ := cells1 x1_1
  have _ := fz x1_1
  have _ := ltb x1_1
  have X1_0 := hid x1_0; clear x1_0
  have X1_1 := hid x1_1; clear x1_1
  have G1 := hid (g1)
  clear hg1 g1
  go_wp2_with fail
  go_ret2
  exact ⟨_, _, rfl, own_nilF _ _, G1.out⟩
set_option maxRecDepth 20000 in
set_option maxHeartbeats 400000 in
theorem cRO (A B : Option Addr) (c d k1 k2 : Nat) (b : Bool) (p q : Int) (xs : List Obv) (ys : List (Int × Int)) (T2 : TypeId) (w : World) (X1 : Hid (w.heap[k1]? = some (.cells #[.int .i64 (ys.length : Int), .slice A xs.length c, .bool b, .int .i64 p, .int .i64 q] 50))) (X2 : Hid (w.heap[k2]? = some (.cells #[.slice B ys.length d] T2))) (X : Hid (RdO w A xs)) (Y : Hid (RdF w B ys)) (hl : xs.length ≤ 24) (hl6 : ys.length ≤ 6) (hob : xs.all (fun x => obB x ys.length) = true) (hall : allF ys = true) :
    Calls Try.prog 79 #[.pointer (some ⟨k1, 0, none⟩), .pointer (some ⟨k2, 0, none⟩)] w fun e w' => ((RsdAll xs ys ∧ ∃ A' c', e = .returned (.slice A' xs.length c') ∧ w'.ownsRow w.heap.size 24 2 (.slice A' xs.length c') xs.length (flatL (rsdL xs ys))) ∨ (¬ RsdAll xs ys ∧ ∃ x y, e = .panicked [{ v := .iface 138 (fr x y), recovered := false }])) ∧ Gr w w' := by
  have HR := hid (iresids A B c d b p q xs ys w X Y hl hl6 hob hall)
  clear hob hall
  go_enter Try.func79, Try.ntmps79
  obtain ⟨_, _, _, _, _⟩ := cells5 X1.out
  have _ := fz X1.out
  have _ := ltb X1.out
  have _ := cells1 X2.out
  have _ := fz X2.out
  have _ := ltb X2.out
  go_wp2_with fail
  refine HR.out.mono ?_
  rintro e w2 ⟨⟨hv, A', c', rfl, own⟩ | ⟨hv, x, y, rfl⟩, hg⟩
  · have OWN := hid own; have G2 := hid hg; have HV := hid hv
    clear own hg hv
    go_wp2_with fail
    go_ret
    exact ⟨.inl ⟨HV.out, A', c', rfl, OWN.out⟩, G2.out⟩
  · exact ⟨rfl, .inr ⟨hv, x, y, rfl⟩, hg⟩
set_option maxRecDepth 20000 in
set_option maxHeartbeats 1000000 in
theorem iRO_yes (n : Int) (A : Option Addr) (c : Nat) (b : Bool) (p q : Int) (xs : List Obv) (B : Option Addr) (d : Nat) (ys : List (Int × Int)) (w : World) (X : Hid (RdO w A xs)) (Y : Hid (RdF w B ys)) (hw : xs.all wfE = true) (hC : askC n b p q xs ys = 0) :
    Calls Try.prog 27 #[tbl n A xs.length c b p q, .slice B ys.length d] w fun e w' => (RsdAll xs ys ∧ GivesF w w' e (rsdL xs ys) 0) ∨ (¬ RsdAll xs ys ∧ GivesF w w' e [] 3) := by
  obtain ⟨ht, hall, rfl⟩ := ask_zero hC
  obtain ⟨hl24, hl1, hl6, hob⟩ := tb_obs ht
  have HA := hid fun (w : World) (X : Hid (RdO w A xs)) (Y : Hid (RdF w B ys)) => iAsked (ys.length : Int) A c b p q xs B d ys 0 w X Y (by omega) (by omega) hw hC
  have HF := hid fun (k1 k2 : Nat) (T2 : TypeId) (w : World) (X1 : Hid (w.heap[k1]? = some (.cells #[.int .i64 (ys.length : Int), .slice A xs.length c, .bool b, .int .i64 p, .int .i64 q] 50))) (X2 : Hid (w.heap[k2]? = some (.cells #[.slice B ys.length d] T2))) (X : Hid (RdO w A xs)) (Y : Hid (RdF w B ys)) => cRO A B c d k1 k2 b p q xs ys T2 w X1 X2 X Y hl24 hl6 hob hall
  have HLEN := hid (rsdL_len xs ys)
  clear hC hw ht hob hall
  by_cases hv : RsdAll xs ys
  · have HV := hid hv; clear hv
    go_enter Try.func27, Try.ntmps27
    go_wp2_with fail
    refine (HA.out _ (hid (X.out.keep (((Gr.refl w).al _).al _))) (hid (Y.out.keep (((Gr.refl w).al _).al _)))).mono ?_
    rintro e w1 ⟨rfl, hg1⟩
    obtain ⟨x1_0, x1_1, hz1, g1⟩ := alloc2 hg1
    obtain ⟨_, _, _, _, _⟩ := cells5 x1_0
    have _ := fz x1_0
    have _ := ltb x1_0
    have _ := cells1 x1_1
    have _ := fz x1_1
    have _ := ltb x1_1
    have X1_0 := hid x1_0; clear x1_0
    have X1_1 := hid x1_1; clear x1_1
    have G1 := hid (g1)
    clear hg1 g1
    have hsz := G1.out.size
    go_wp2_with fail
    refine (told_ok_L 79 #[.pointer (some ⟨w.heap.size, 0, none⟩), .pointer (some ⟨w.heap.size + 1, 0, none⟩)] (fun v W => ∃ A' c', v = .slice A' xs.length c' ∧ W.ownsRow w1.heap.size 24 2 (.slice A' xs.length c') xs.length (flatL (rsdL xs ys))) (fun v W b x ⟨A', c', e1, e2⟩ hb y => ⟨A', c', e1, ownF_set e2 hb y⟩) _ (fun _ => by kernel_rfl) fun w' hg' => (HF.out _ _ _ w' (hid (hg'.keep X1_0.out)) (hid (hg'.keep X1_1.out)) (hid (X.out.keep (G1.out.trans hg'))) (hid (Y.out.keep (G1.out.trans hg')))).mono ?_).mono ?_
    · rintro e w'' ⟨⟨_, A', c', rfl, own⟩ | ⟨hv, _⟩, hg⟩
      · exact ⟨_, rfl, ⟨A', c', rfl, own_base own hg'.size⟩, hg⟩
      · exact absurd HV.out hv
    rintro e w3 ⟨v, rfl, ⟨A', c', rfl, own⟩, hg3⟩
    have OWN := hid own; have G3 := hid (G1.out.trans hg3)
    clear own hg3
    go_wp2_with fail
    go_ret2
    exact .inl ⟨HV.out, A', c', by rw [HLEN.out]; rfl, by rw [HLEN.out]; exact own_base OWN.out hsz, G3.out⟩
  · have HV := hid hv; clear hv
    go_enter Try.func27, Try.ntmps27
    go_wp2_with fail
    refine (HA.out _ (hid (X.out.keep (((Gr.refl w).al _).al _))) (hid (Y.out.keep (((Gr.refl w).al _).al _)))).mono ?_
    rintro e w1 ⟨rfl, hg1⟩
    obtain ⟨x1_0, x1_1, hz1, g1⟩ := alloc2 hg1
    obtain ⟨_, _, _, _, _⟩ := cells5 x1_0
    have _ := fz x1_0
    have _ := ltb x1_0
    have _ := cells1 x1_1
    have _ := fz x1_1
    have _ := ltb x1_1
    have X1_0 := hid x1_0; clear x1_0
    have X1_1 := hid x1_1; clear x1_1
    have G1 := hid (g1)
    clear hg1 g1
    go_wp2_with fail
    refine (told_great_L 79 #[.pointer (some ⟨w.heap.size, 0, none⟩), .pointer (some ⟨w.heap.size + 1, 0, none⟩)] _ (fun _ => by kernel_rfl) fun w' hg' => (HF.out _ _ _ w' (hid (hg'.keep X1_0.out)) (hid (hg'.keep X1_1.out)) (hid (X.out.keep (G1.out.trans hg'))) (hid (Y.out.keep (G1.out.trans hg')))).mono ?_).mono ?_
    · rintro e w'' ⟨⟨hv, _⟩ | ⟨_, x, y, rfl⟩, hg⟩
      · exact absurd hv HV.out
      · exact ⟨⟨x, y, rfl⟩, hg⟩
    rintro e w3 ⟨rfl, hg3⟩
    have G3 := hid (G1.out.trans hg3)
    clear hg3
    go_wp2_with fail
    go_ret2
    exact .inr ⟨HV.out, _, _, rfl, own_nilF _ _, G3.out⟩
theorem bothResidualsOf (n : Int) (b : Bool) (p q : Int) (xs : List Obv) (ys : List (Int × Int)) (hn : xs.length ≤ 1048576) (hm : ys.length ≤ 1048576) (hw : xs.all wfE = true) : ∃ (zs : List (Int × Int)) (C : Int), zs.length ≤ 1048576 ∧
    (∀ (g : Nat) (B : Option Addr) (c d : Nat) (w : World), xs.length ≤ c → ys.length ≤ d → Hid (RdO w (some ⟨g, 0, none⟩) xs) → Hid (RdF w B ys) → Calls Try.prog 24 #[tbl n (some ⟨g, 0, none⟩) xs.length c b p q, .slice B ys.length d] w fun e w' => GivesF w w' e zs C) ∧
    (∀ (g : Nat) (B : Option Addr) (c d : Nat) (w : World), xs.length ≤ c → ys.length ≤ d → Hid (RdO w (some ⟨g, 0, none⟩) xs) → Hid (RdF w B ys) → Calls Try.prog 27 #[tbl n (some ⟨g, 0, none⟩) xs.length c b p q, .slice B ys.length d] w fun e w' => GivesF w w' e zs C) := by
  obtain ⟨C, hC⟩ : ∃ C, askC n b p q xs ys = C := ⟨_, rfl⟩
  cases h0 : (C == 0) with
  | false => exact ⟨[], C, by simp, fun g B c d w _ _ X Y => sRO_no n g c b p q xs B d ys C w X Y hn hm hw hC h0, fun g B c d w _ _ X Y => iRO_no n _ c b p q xs B d ys C w X Y hn hm hw hC h0⟩
  | true =>
    obtain rfl : C = 0 := by simpa using h0
    by_cases hv : RsdAll xs ys
    · exact ⟨rsdL xs ys, 0, by rw [rsdL_len]; omega, fun g B c d w _ _ X Y => (sRO_yes n g c b p q xs B d ys w X Y hw hC).mono fun e w' h => (pickF h).1 hv, fun g B c d w _ _ X Y => (iRO_yes n _ c b p q xs B d ys w X Y hw hC).mono fun e w' h => (pickF h).1 hv⟩
    · exact ⟨[], 3, by simp, fun g B c d w _ _ X Y => (sRO_yes n g c b p q xs B d ys w X Y hw hC).mono fun e w' h => (pickF h).2 hv, fun g B c d w _ _ X Y => (iRO_yes n _ c b p q xs B d ys w X Y hw hC).mono fun e w' h => (pickF h).2 hv⟩
end Go.Proofs.Ytjhlpaeenjbljaa
