/- READERS: CorrectReadings of both sides. -/
import Derived.Test.YtpadjkgbeijkpaaVs
import Derived.Test.YtpadjkgbeijkpaaRp
import Derived.Test.YtpadjkgbeijkpaaPc
import Derived.Test.YtpadjkgbeijkpaaSn
namespace Go.Proofs.Ytpadjkgbeijkpaa
open Go.RowKit Go.Sort

theorem rp_get {x : Rqv} {n k : Nat} (h : k < n) : (rpV x n 0)[k]? = some x := by
  unfold rpV
  rw [List.getElem?_append_left (by simpa using h)]
  simp [h]
theorem rp_len (x : Rqv) (n : Nat) : (rpV x n 0).length = n := by rw [rpV_len]; rfl
theorem rp_all {f : Rqv → Bool} {x : Rqv} {n : Nat} (h : f x = true) : (rpV x n 0).all f = true := by
  unfold rpV
  rw [List.all_eq_true]
  intro y hy
  simp at hy
  rw [hy.2, h]
theorem own_weakR {w : World} {base b0 : Nat} {e : TypeId} {size n : Nat} {v : Value} {xs : List Value} (h : w.ownsRow base e size v n xs) (hb : b0 ≤ base) : w.ownsRow b0 e size v n xs :=
  ⟨h.1, h.2.imp_right fun ⟨g, cap, cur, h1, h2, h3⟩ => ⟨g, cap, cur, h1, Nat.le_trans hb h2, h3⟩⟩
theorem iVRx (x : Rqv) (r : Bool) (w : World) (hw : wfR x = true) (h : okRd x = r) : Calls Try.prog 69 #[rdr x.nm x.b x.u x.o] w fun e w' => e = .returned (.bool r) ∧ Gr w w' := by
  obtain ⟨hb, hu⟩ := wfR_w hw
  exact h ▸ iVReader x.nm x.b x.u x.o w hb hu
theorem sOkx (x : Rqv) (r : Bool) (w : World) (hw : wfR x = true) (h : okRd x = r) (k : Nat) (T : TypeId) (X : Hid (w.heap[k]? = some (.cells #[.string x.nm, .int .i16 x.b, .int .i16 x.u, .bool x.o] T))) :
    Calls Try.prog 67 #[.pointer (some ⟨k, 0, none⟩)] w fun e w' => e = .returned (.bool r) ∧ Gr w w' := by
  obtain ⟨hb, hu⟩ := wfR_w hw
  exact h ▸ sOkR x.nm x.b x.u x.o w hb hu k T X
set_option maxRecDepth 20000 in
set_option maxHeartbeats 1000000 in
theorem iCR_1 (x : Rqv) (v : Value) (w : World) (hw : wfR x = true) (h : okRd x = false) : Calls Try.prog 34 #[rdr x.nm x.b x.u x.o, v] w fun e w' => GivesN w w' e [] 1 := by
  have HV := hid fun (w : World) => iVRx x false w hw h
  clear hw h
  go_enter Try.func34, Try.ntmps34
  go_wp2_with fail
  refine (HV.out _).mono ?_
  rintro e w1 ⟨rfl, hg1⟩
  obtain ⟨x1_0, hz1, g1⟩ := alloc1 hg1
  obtain ⟨_, _, _, _⟩ := cells4 x1_0
  have _ := fz x1_0
  have _ := ltb x1_0
  have X1_0 := hid x1_0; clear x1_0
  have G1 := hid (g1)
  clear hg1 g1
  go_wp2
  go_ret2
  exact ⟨none, 0, rfl, World.ownsRow_nil _ _ _ _, G1.out⟩
set_option maxRecDepth 20000 in
set_option maxHeartbeats 1000000 in
theorem iCR_2 (x : Rqv) (B : Option Addr) (d : Nat) (ns : List Int) (w : World) (Y : Hid (RdI w B ns)) (hw : wfR x = true) (h : okRd x = true) (hr : rdB ns = false) : Calls Try.prog 34 #[rdr x.nm x.b x.u x.o, .slice B ns.length d] w fun e w' => GivesN w w' e [] 2 := by
  have HV := hid fun (w : World) => iVRx x true w hw h
  have HR := hid fun (w : World) (Y : Hid (RdI w B ns)) => iRd_f B d ns w Y hr
  clear hw h hr
  go_enter Try.func34, Try.ntmps34
  go_wp2_with fail
  refine (HV.out _).mono ?_
  rintro e w1 ⟨rfl, hg1⟩
  obtain ⟨x1_0, hz1, g1⟩ := alloc1 hg1
  obtain ⟨_, _, _, _⟩ := cells4 x1_0
  have _ := fz x1_0
  have _ := ltb x1_0
  have X1_0 := hid x1_0; clear x1_0
  have G1 := hid (g1)
  clear hg1 g1
  go_wp2_with fail
  refine (HR.out _ (hid (Y.out.keep G1.out))).mono ?_
  rintro e w2 ⟨rfl, hg2⟩
  have x2_1 := hg2.keep X1_0.out
  obtain ⟨_, _, _, _⟩ := cells4 x2_1
  have _ := fz x2_1
  have _ := ltb x2_1
  have X2_1 := hid x2_1; clear x2_1
  have G2 := hid (G1.out.trans hg2)
  clear hg2
  go_wp2
  go_ret2
  exact ⟨none, 0, rfl, World.ownsRow_nil _ _ _ _, G2.out⟩
set_option maxRecDepth 20000 in
set_option maxHeartbeats 1000000 in
theorem iCR_3 (x : Rqv) (B : Option Addr) (d n : Nat) (ns : List Int) (R : List Spv) (C : Int) (w : World) (Y : Hid (RdI w B ns)) (hl : ns.length = n) (hw : wfR x = true) (h : okRd x = true) (hr : rdB ns = true) (hRC : (divs ns (rpV x n 0) = true ∧ R = spns ns (rpV x n 0) ∧ C = 0) ∨ (divs ns (rpV x n 0) = false ∧ R = [] ∧ C = 4)) :
    Calls Try.prog 34 #[rdr x.nm x.b x.u x.o, .slice B n d] w fun e w' => GivesN w w' e R C := by
  obtain ⟨b1, b2, b3⟩ := rd_parts hr
  have HV := hid fun (w : World) => iVRx x true w hw h
  have HR := hid fun (w : World) (Y : Hid (RdI w B ns)) => iRd_t B d ns w Y hr
  have HS := hid fun (b : Nat) (w : World) (X : Hid (RdRq w (some ⟨b, 0, none⟩) (rpV x n 0))) (Y : Hid (RdI w B ns)) => iSpansRead (some ⟨b, 0, none⟩) B n d (rpV x n 0) ns w X Y (by rw [hl, rp_len]) (by rw [rp_len]; omega) (rp_all h) b3 R C hRC
  rw [rp_len, hl] at HS
  rw [hl] at HR b1 b2
  have HP := hid fun (g : Nat) (T : TypeId) (w : World) (X : Hid (w.heap[g]? = some (.cells #[.string x.nm, .int .i16 x.b, .int .i16 x.u, .bool x.o] T))) => iRepeatR x g n T w X b1 b2
  clear hw h hr hRC b3 hl
  go_enter Try.func34, Try.ntmps34
  go_wp2_with fail
  refine (HV.out _).mono ?_
  rintro e w1 ⟨rfl, hg1⟩
  obtain ⟨x1_0, hz1, g1⟩ := alloc1 hg1
  obtain ⟨_, _, _, _⟩ := cells4 x1_0
  have _ := fz x1_0
  have _ := ltb x1_0
  have X1_0 := hid x1_0; clear x1_0
  have G1 := hid (g1)
  clear hg1 g1
  go_wp2_with fail
  refine (HR.out _ (hid (Y.out.keep G1.out))).mono ?_
  rintro e w2 ⟨rfl, hg2⟩
  have x2_1 := hg2.keep X1_0.out
  obtain ⟨_, _, _, _⟩ := cells4 x2_1
  have _ := fz x2_1
  have _ := ltb x2_1
  have X2_1 := hid x2_1; clear x2_1
  have G2 := hid (G1.out.trans hg2)
  clear hg2
  have PB := hid (alloc1 (w := w2) (A := .cells #[.string x.nm, .int .i16 x.b, .int .i16 x.u, .bool x.o] 67) (Gr.refl _)).1
  have G3 := hid (G2.out.al (.cells #[.string x.nm, .int .i16 x.b, .int .i16 x.u, .bool x.o] 67))
  go_wp2_with fail
  refine (HP.out _ _ _ PB).mono ?_
  rintro e w4 ⟨b, rfl, hbb, xb, hg⟩
  have RQ := hid (RdRq.of_block xb); have G4 := hid (G3.out.trans hg); clear xb hg
  have hsz := G4.out.size
  go_wp2_with fail
  refine (HS.out b _ RQ (hid (Y.out.keep G4.out))).mono ?_
  rintro e w5 ⟨A5, c5, rfl, own5, hg⟩
  have OWN := hid own5; have G5 := hid (G4.out.trans hg); clear own5 hg
  go_wp2
  go_ret2
  exact ⟨A5, c5, rfl, own_weakR OWN.out hsz, G5.out⟩
/-! the reference -/
set_option maxRecDepth 20000 in
set_option maxHeartbeats 1000000 in
theorem sCR_1 (x : Rqv) (v : Value) (w : World) (hw : wfR x = true) (h : okRd x = false) : Calls Try.prog 32 #[rdr x.nm x.b x.u x.o, v] w fun e w' => GivesN w w' e [] 1 := by
  have HV := hid fun (k : Nat) (T : TypeId) (w : World) (X : Hid (w.heap[k]? = some (.cells #[.string x.nm, .int .i16 x.b, .int .i16 x.u, .bool x.o] T))) => sOkx x false w hw h k T X
  clear hw h
  go_enter Try.func32, Try.ntmps32
  go_wp2_with fail
  refine (HV.out _ _ _ (hid (alloc1 (Gr.refl _)).1)).mono ?_
  rintro e w1 ⟨rfl, hg1⟩
  obtain ⟨x1_0, hz1, g1⟩ := alloc1 hg1
  obtain ⟨_, _, _, _⟩ := cells4 x1_0
  have _ := fz x1_0
  have _ := ltb x1_0
  have X1_0 := hid x1_0; clear x1_0
  have G1 := hid (g1)
  clear hg1 g1
  have hsz := G1.out.size
  go_wp2
  go_ret2
  exact ⟨_, _, rfl, World.ownsRow_made _ #[] 0 hsz (by simp [maxLen]) (by simp), G1.out.al _⟩
set_option maxRecDepth 20000 in
set_option maxHeartbeats 1000000 in
theorem sCR_2 (x : Rqv) (B : Option Addr) (d : Nat) (ns : List Int) (w : World) (Y : Hid (RdI w B ns)) (hm : ns.length ≤ 1048576) (hw : wfR x = true) (h : okRd x = true) (hr : rdB ns = false) : Calls Try.prog 32 #[rdr x.nm x.b x.u x.o, .slice B ns.length d] w fun e w' => GivesN w w' e [] 2 := by
  have HV := hid fun (k : Nat) (T : TypeId) (w : World) (X : Hid (w.heap[k]? = some (.cells #[.string x.nm, .int .i16 x.b, .int .i16 x.u, .bool x.o] T))) => sOkx x true w hw h k T X
  have HB := hid fun (w : World) (Y : Hid (RdI w B ns)) => sRead B d ns w Y hm
  have e2 : rdC ns = 2 := by unfold rdC; rw [hr]; rfl
  rw [e2] at HB
  clear hw h hr e2
  go_enter Try.func32, Try.ntmps32
  go_wp2_with fail
  refine (HV.out _ _ _ (hid (alloc1 (Gr.refl _)).1)).mono ?_
  rintro e w1 ⟨rfl, hg1⟩
  obtain ⟨x1_0, hz1, g1⟩ := alloc1 hg1
  obtain ⟨_, _, _, _⟩ := cells4 x1_0
  have _ := fz x1_0
  have _ := ltb x1_0
  have X1_0 := hid x1_0; clear x1_0
  have G1 := hid (g1)
  clear hg1 g1
  go_wp2_with fail
  refine (HB.out _ (hid (Y.out.keep G1.out))).mono ?_
  rintro e w2 ⟨rfl, hg2⟩
  have x2_1 := hg2.keep X1_0.out
  obtain ⟨_, _, _, _⟩ := cells4 x2_1
  have _ := fz x2_1
  have _ := ltb x2_1
  have X2_1 := hid x2_1; clear x2_1
  have G2 := hid (G1.out.trans hg2)
  clear hg2
  have hsz := G2.out.size
  go_wp2
  go_ret2
  exact ⟨_, _, rfl, World.ownsRow_made _ #[] 0 hsz (by simp [maxLen]) (by simp), G2.out.al _⟩
set_option maxRecDepth 20000 in
set_option maxHeartbeats 2000000 in
theorem sCR_3 (x : Rqv) (B : Option Addr) (d n : Nat) (ns : List Int) (R : List Spv) (C : Int) (w : World) (Y : Hid (RdI w B ns)) (hl : ns.length = n) (hw : wfR x = true) (h : okRd x = true) (hr : rdB ns = true) (hRC : (divs ns (rpV x n 0) = true ∧ R = spns ns (rpV x n 0) ∧ C = 0) ∨ (divs ns (rpV x n 0) = false ∧ R = [] ∧ C = 4)) :
    Calls Try.prog 32 #[rdr x.nm x.b x.u x.o, .slice B n d] w fun e w' => GivesN w w' e R C := by
  obtain ⟨i0, hi, iz0, iz1, iz2⟩ : ∃ i, Try.prog.info? 109 = some i ∧ i.zero = some (vN zN) ∧ i.size = 4 ∧ i.bytes = 32 := ⟨_, rfl, by kernel_rfl, rfl, rfl⟩
  obtain ⟨b1, b2, b3⟩ := rd_parts hr
  have HV := hid fun (k : Nat) (T : TypeId) (w : World) (X : Hid (w.heap[k]? = some (.cells #[.string x.nm, .int .i16 x.b, .int .i16 x.u, .bool x.o] T))) => sOkx x true w hw h k T X
  have HB := hid fun (w : World) (Y : Hid (RdI w B ns)) => sRead B d ns w Y (by omega)
  have e2 : rdC ns = 0 := by unfold rdC; rw [hr]; rfl
  rw [e2, hl] at HB
  rw [hl] at b1 b2
  have HL := hid hl; have HN := hid b3; have HRC := hid hRC; have HX := hid h
  clear hw h hr hRC b3 e2 hl
  go_enter Try.func32, Try.ntmps32
  go_wp2_with fail
  refine (HV.out _ _ _ (hid (alloc1 (Gr.refl _)).1)).mono ?_
  rintro e w1 ⟨rfl, hg1⟩
  obtain ⟨x1_0, hz1, g1⟩ := alloc1 hg1
  obtain ⟨_, _, _, _⟩ := cells4 x1_0
  have _ := fz x1_0
  have _ := ltb x1_0
  have X1_0 := hid x1_0; clear x1_0
  have G1 := hid (g1)
  clear hg1 g1
  go_wp2_with fail
  refine (HB.out _ (hid (Y.out.keep G1.out))).mono ?_
  rintro e w2 ⟨rfl, hg2⟩
  have x2_1 := hg2.keep X1_0.out
  obtain ⟨_, _, _, _⟩ := cells4 x2_1
  have _ := fz x2_1
  have _ := ltb x2_1
  have X2_1 := hid x2_1; clear x2_1
  have G2 := hid (G1.out.trans hg2)
  clear hg2
  have hsz2 := G2.out.size
  go_wp2_with fail
  go_loopw [7, 8] (fun t u wr => ∃ (k : Nat) (A' : Option Addr) (c' : Nat), u = .int .i64 (k : Int) ∧ t = .slice A' k c' ∧ k ≤ n ∧ Gr w2 wr ∧ wr.ownsRow w2.heap.size 109 4 (.slice A' k c') k (flN ((spns ns (rpV x n 0)).take k)) ∧ (∀ (j : Nat) (m : Int) (y : Rqv), j < k → ns[j]? = some m → (rpV x n 0)[j]? = some y → divR m y = true)) (fun _ u _ => n - (intOf u).toNat)
  case atStart => exact ⟨0, _, _, rfl, rfl, by omega, (Gr.refl _).al _, World.ownsRow_made _ #[] 0 (Nat.le_refl _) (by simp [maxLen]) (by simp), fun j m y hj => by omega⟩
  case round =>
    obtain ⟨k, A', c', rfl, rfl, hk, hg, hown, hdv⟩ := hrel
    have GW := hid hg; have OWN := hid hown; have DV := hid hdv
    have XB := hid (hg.keep X2_1.out)
    clear hg hown hdv
    by_cases hlt : k < n
    · obtain ⟨m, hq⟩ : ∃ m, ns[k]? = some m := ⟨ns[k]'(by rw [HL.out]; exact hlt), List.getElem?_eq_getElem _⟩
      obtain ⟨bd, rfl, c2⟩ := (Y.out.keep (G2.out.trans GW.out)) k m hq
      have hok := okR_bd (allI_get hq HN.out)
      have hu := okRd_u HX.out
      have HP := hid (rp_get (x := x) hlt)
      have HQ := hid hq
      have HS := hid fun (w : World) (X : Hid (CelRq w ⟨w.heap.size, 0, none⟩ x)) => trivial
      have C2 := hid c2
      obtain ⟨hu1, hu2, hu3, hu4⟩ := hu
      have HSP := hid fun (g : Nat) (w : World) (X : Hid (CelRq w ⟨g, 0, none⟩ x)) => (sSpanOf x.nm x.b x.u x.o m g 0 w X hu1 hu2 hu3 hu4 hok.1 hok.2).mono (R' := fun e w' => e = .returned (vN (spnS m x)) ∧ Gr w w') fun e w' h => ⟨by rw [h.1, spnS_v], h.2⟩
      clear hq c2 hok HS
      have hu0 : x.u ≠ 0 := by omega
      obtain ⟨r, hr⟩ : ∃ r, Int.tmod m x.u = r := ⟨_, rfl⟩
      by_cases hr0 : r = 0
      · have HD : Hid (divR m x = true) := hid (by unfold divR; rw [hr]; simpa using hr0)
        subst hr0
        have TK := hid (spns_take (n := m) (x := x) HQ.out HP.out)
        obtain ⟨S, hS⟩ : ∃ S, spnS m x = S := ⟨_, rfl⟩
        rw [hS] at TK HSP
        clear hS
        obtain ⟨_, _, _, _⟩ := cells4 XB.out
        have _ := fz XB.out
        have _ := ltb XB.out
        go_wp2_with fail
        refine wp_reg0 8 (by kernel_rfl) (by kernel_rfl) ?_
        apply Exists.intro
        refine ⟨fun wb hb => ?_, ?_⟩
        · obtain ⟨_, _, _, _⟩ := hb.at4 XB.out
          have _ := hb.atF C2.out
          simp only [headOps, List.contains, List.elem, reduceIte, Bool.false_eq_true]
          repeat (first | go_big_quiet_step (first | (fail)) | quiet_step (fail))
          exact wpQuiet_nil rfl
        intro w6 hg6
        have GR := hid hg6
        have x6_1 := hg6.keep XB.out
        obtain ⟨_, _, _, _⟩ := cells4 x6_1
        have _ := fz x6_1; have _ := ltb x6_1
        have X6_1 := hid x6_1; have G6 := hid (GW.out.trans hg6); clear x6_1 hg6
        obtain ⟨_, he, c3⟩ := (Y.out.keep (G2.out.trans G6.out)) k m HQ.out
        cases he
        have C3 := hid c3
        have XC := hid (celRq_of (k := 0) (ys := [x]) (rest := []) X6_1.out rfl)
        have O6 := hid (own_gr OWN.out GR.out)
        clear c3
        have _ := C3.out
        go_wp2_with fail
        refine (HSP.out _ _ XC).mono ?_
        rintro e w7 ⟨rfl, hg7⟩
        have GA := hid (hg7.al (.cells #[.int .i64 S.a, .int .i64 S.b, .int .i64 S.c, .int .i64 S.d] 109))
        have OWN5 := hid (own_gr O6.out GA.out)
        have NEW := hid (newsN (w := w7.alloc (.cells #[.int .i64 S.a, .int .i64 S.b, .int .i64 S.c, .int .i64 S.d] 109)) (b := w7.heap.size) (x := S) (alloc1 (Gr.refl _)).1)
        have G8 := hid (G6.out.trans GA.out)
        have hb5 := G8.out.size
        clear hg7
        go_wp2_with (at_builtin; refine (wpList_append_gr rfl _ _ 64 rfl w2.heap.size 109 i0 (vN zN) 4 32 Try.underlying64 hi iz0 iz1 iz2 rfl (by decide) _ k _ rfl OWN5.out ⟨w7.heap.size, 0, none⟩ 1 1 (cN S) rfl rfl NEW.out (cN_one S) (by decide) (by unfold maxLen; omega) (by omega) hb5 ?_))
        intro v' w9 own9 _ _ hgr
        obtain ⟨A2, c2', rfl⟩ := own_form own9
        rw [TK.out] at own9
        have OWN9 := hid own9
        have G9 := hid (hgr _ G8.out (Nat.le_refl _))
        have DV2 : Hid (∀ (j : Nat) (m : Int) (y : Rqv), j < k + 1 → ns[j]? = some m → (rpV x n 0)[j]? = some y → divR m y = true) := hid fun j m' y hj h1 h2 => by
          by_cases hjk : j = k
          · subst hjk
            rw [HQ.out] at h1
            rw [HP.out] at h2
            cases h1; cases h2
            exact HD.out
          · exact DV.out j m' y (by omega) h1 h2
        clear own9 hgr
        go_wp2_with fail
        exact ⟨⟨k + 1, A2, c2', by simp, by simp, by omega, G9.out, OWN9.out, DV2.out⟩, by simp [intOf]; omega⟩
      · have HF := hid (divs_not ns (rpV x n 0) k m x HQ.out HP.out (by unfold divR; rw [hr]; simpa using hr0))
        obtain ⟨_, _, _, _⟩ := cells4 XB.out
        have _ := fz XB.out
        have _ := ltb XB.out
        go_wp2_with fail
        refine wp_reg0 8 (by kernel_rfl) (by kernel_rfl) ?_
        apply Exists.intro
        refine ⟨fun wb hb => ?_, ?_⟩
        · obtain ⟨_, _, _, _⟩ := hb.at4 XB.out
          have _ := hb.atF C2.out
          simp only [headOps, List.contains, List.elem, reduceIte, Bool.false_eq_true]
          repeat (first | go_big_quiet_step (first | (fail)) | quiet_step (fail))
          exact wpQuiet_nil rfl
        intro w6 hg6
        have x6_1 := hg6.keep XB.out
        obtain ⟨_, _, _, _⟩ := cells4 x6_1
        have _ := fz x6_1
        have _ := ltb x6_1
        have X6_1 := hid x6_1; clear x6_1
        have G6 := hid (GW.out.trans hg6)
        clear hg6
        have hsz6 := G6.out.size
        go_wp2_with fail
        go_ret2
        obtain ⟨rfl, rfl⟩ : R = [] ∧ C = 4 := HRC.out.elim (fun h => by rw [HF.out] at h; cases h.1) (fun h => h.2)
        exact ⟨_, _, rfl, World.ownsRow_made _ #[] 0 (by omega) (by simp [maxLen]) (by simp), (G2.out.trans G6.out).al _⟩
    · have hke : k = n := by omega
      have hall : divs ns (rpV x n 0) = true := divs_all ns _ (by rw [HL.out, rp_len]) fun j m y h1 h2 => DV.out j m y (by rw [hke]; have := (List.getElem?_eq_some_iff.1 h1).1; rw [HL.out] at this; exact this) h1 h2
      have HA := hid hall; clear hall
      subst hke
      go_wp2_with fail
      go_ret2
      have h := OWN.out
      have hlen : (spns ns (rpV x k 0)).length = k := by rw [spns_len _ _ (by rw [HL.out, rp_len]), rp_len]
      rw [List.take_of_length_le (by rw [hlen]; exact Nat.le_refl _)] at h
      obtain ⟨rfl, rfl⟩ : R = spns ns (rpV x k 0) ∧ C = 0 := HRC.out.elim (fun h => h.2) (fun h => by rw [HA.out] at h; cases h.1)
      refine ⟨A', c', by rw [hlen]; rfl, ?_, G2.out.trans GW.out⟩
      rw [hlen]
      exact own_weakR h hsz2
/-- What CorrectReadings gives. -/
theorem bothCorrectReadings (x : Rqv) (ns : List Int) (hm : ns.length ≤ 1048576) (hw : wfR x = true) : ∃ (ys : List Spv) (C : Int), ys.length ≤ 64 ∧
    (∀ (B : Option Addr) (d : Nat) (w : World), Hid (RdI w B ns) → Calls Try.prog 32 #[rdr x.nm x.b x.u x.o, .slice B ns.length d] w fun e w' => GivesN w w' e ys C) ∧
    (∀ (B : Option Addr) (d : Nat) (w : World), Hid (RdI w B ns) → Calls Try.prog 34 #[rdr x.nm x.b x.u x.o, .slice B ns.length d] w fun e w' => GivesN w w' e ys C) := by
  cases h : okRd x with
  | false => exact ⟨[], 1, by simp, fun B d w _ => sCR_1 x _ w hw h, fun B d w _ => iCR_1 x _ w hw h⟩
  | true =>
    cases hr : rdB ns with
    | false => exact ⟨[], 2, by simp, fun B d w Y => sCR_2 x B d ns w Y hm hw h hr, fun B d w Y => iCR_2 x B d ns w Y hw h hr⟩
    | true =>
      obtain ⟨_, b2, _⟩ := rd_parts hr
      cases hd : divs ns (rpV x ns.length 0) with
      | true =>
        refine ⟨_, 0, ?_, fun B d w Y => sCR_3 x B d ns.length ns _ 0 w Y rfl hw h hr (.inl ⟨hd, rfl, rfl⟩), fun B d w Y => iCR_3 x B d ns.length ns _ 0 w Y rfl hw h hr (.inl ⟨hd, rfl, rfl⟩)⟩
        rw [spns_len _ _ (by rw [rp_len]), rp_len]
        exact b2
      | false => exact ⟨[], 4, by simp, fun B d w Y => sCR_3 x B d ns.length ns _ 4 w Y rfl hw h hr (.inr ⟨hd, rfl, rfl⟩), fun B d w Y => iCR_3 x B d ns.length ns _ 4 w Y rfl hw h hr (.inr ⟨hd, rfl, rfl⟩)⟩
end Go.Proofs.Ytpadjkgbeijkpaa
