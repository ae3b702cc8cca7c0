/- CHAINS: the places of the standards of which something is so; AllOn, of both sides. -/
import Derived.Test.YtadpoocafhddeaaDoorRl
namespace Go.Proofs.YtadpoocafhddeaaDoor
open Go.RowKit Go.Sort

/-- The places below n of which something is so. -/
def whL (p : Nat → Bool) (n : Nat) : List Int := ((List.range n).filter p).map fun i : Nat => (i : Int)
theorem whL_zero (p : Nat → Bool) : whL p 0 = [] := rfl
theorem whL_yes {p : Nat → Bool} {k : Nat} (h : p k = true) : whL p (k + 1) = whL p k ++ [(k : Int)] := by simp [whL, List.range_succ, List.filter_append, h]
theorem whL_no {p : Nat → Bool} {k : Nat} (h : p k = false) : whL p (k + 1) = whL p k := by simp [whL, List.range_succ, List.filter_append, h]
theorem whL_len (p : Nat → Bool) (n : Nat) : (whL p n).length ≤ n := by
  unfold whL
  rw [List.length_map]
  exact Nat.le_trans (List.length_filter_le _ _) (by simp)
theorem whL_congr {p q : Nat → Bool} {n : Nat} (h : ∀ i, i < n → p i = q i) : whL p n = whL q n := by
  unfold whL
  congr 1
  exact List.filter_congr fun i hi => h i (List.mem_range.1 hi)
theorem whL_vals (p : Nat → Bool) (k : Nat) (h : p k = true) : ((whL p k).map (Value.int .i64 ·)) ++ [.int .i64 (k : Int)] = (whL p (k + 1)).map (Value.int .i64 ·) := by rw [whL_yes h]; simp
set_option maxRecDepth 20000 in
set_option maxHeartbeats 2000000 in
theorem iWhere (B : Option Addr) (n c b f : Nat) (cap : Array Value) (p : Nat → Bool) (w : World) (h30 : n ≤ 30)
    (hen : ∀ s w, (callFunc f (#[.int .i64 s] ++ cap)).run Tryd.prog w = .ok (.enter f (#[.int .i64 s] ++ cap)) w)
    (hF : ∀ (i : Nat) (w' : World), i < n → Gr w w' → Calls Tryd.prog f (#[.int .i64 (i : Int)] ++ cap) w' fun e w'' => e = .returned (.bool (p i)) ∧ Gr w' w'') :
    Calls Tryd.prog 75 #[idxV B n c b, .func (.func f) #[] cap] w fun e w' => (∃ A c, e = .returned (.slice A (whL p n).length c) ∧ w'.ownsRow w.heap.size 2 1 (.slice A (whL p n).length c) (whL p n).length ((whL p n).map (.int .i64 ·))) ∧ Gr w w' := by
  obtain ⟨i0, hi, hz0, hz1, hz2⟩ : ∃ i, Tryd.prog.info? 2 = some i ∧ i.zero = some (.int .i64 0) ∧ i.size = 1 ∧ i.bytes = 8 := ⟨_, rfl, rfl, rfl, rfl⟩
  have HF := hid hF; clear hF
  go_enter Tryd.func75, Tryd.ntmps75
  go_wp2_with fail
  go_loopw [5, 10] (fun v u' wr => ∃ (k : Nat) (A' : Option Addr) (c' : Nat), u' = .int .i64 (k : Int) ∧ v = .slice A' (whL p k).length c' ∧ k ≤ n ∧ Gr w wr ∧ wr.ownsRow w.heap.size 2 1 (.slice A' (whL p k).length c') (whL p k).length ((whL p k).map (.int .i64 ·))) (fun _ u' _ => n - (intOf u').toNat)
  case atStart => exact ⟨0, none, 0, rfl, rfl, by omega, (Gr.refl _).al _, World.ownsRow_nil _ _ _ _⟩
  case round =>
    obtain ⟨k, A', c', rfl, rfl, hk, hg, hown⟩ := hrel
    have GW := hid hg; have OWN := hid hown
    clear hg hown
    have hwl := whL_len p k
    by_cases hlt : k < n
    · go_wp2_with fail
      refine (HF.out k _ hlt GW.out).mono ?_
      cases hp : p k with
      | true =>
        rintro e w3 ⟨rfl, hg3⟩
        have OWN3 := hid (own_gr OWN.out (hg3.al (.cells #[.int .i64 (k : Int)] 2)))
        have NEW := hid (one_news (alloc1 (Gr.refl (w3.alloc (.cells #[.int .i64 (k : Int)] 2)))).1)
        have G3 := hid ((GW.out.trans hg3).al (.cells #[.int .i64 (k : Int)] 2))
        have hsz := G3.out.size
        have HV := hid (whL_vals p k hp)
        have HP := hid hp
        clear hg3 OWN hp
        go_wp2_with (refine wpList_append_gr rfl _ _ 35 rfl w.heap.size 2 i0 (.int .i64 0) 1 8 Tryd.underlying35 hi hz0 hz1 hz2 rfl (by decide) _ _ _ rfl OWN3.out ⟨w3.heap.size, 0, none⟩ 1 1 [.int .i64 (k : Int)] rfl rfl NEW.out (by simp [Value.oneCell']) (by decide) (by unfold maxLen; omega) (by omega) hsz ?_; intro v' w4 own4 _ _ hgr; obtain ⟨A2, c2, rfl⟩ := own_form own4; rw [HV.out] at own4; have OWN4 := hid own4; have G4 := hid (hgr _ G3.out (Nat.le_refl _)); clear own4 hgr OWN3 NEW hsz)
        have hl : (whL p k).length + 1 = (whL p (k + 1)).length := by rw [whL_yes HP.out]; simp
        rw [hl] at OWN4 ⊢
        exact ⟨⟨k + 1, A2, c2, by simp, rfl, by omega, G4.out, OWN4.out⟩, by simp [intOf]; omega⟩
      | false =>
        rintro e w3 ⟨rfl, hg3⟩
        have G3 := hid (GW.out.trans hg3)
        have OWN3 := hid (own_gr OWN.out hg3)
        have HP := hid (whL_no hp)
        clear hg3 OWN hp
        go_wp2_with fail
        refine ⟨⟨k + 1, A', c', by simp, by rw [HP.out], by omega, G3.out, by rw [HP.out]; exact OWN3.out⟩, by simp [intOf]; omega⟩
    · have hke : k = n := by omega
      subst hke
      go_wp2_with fail
      go_ret
      exact ⟨⟨A', c', rfl, OWN.out⟩, GW.out⟩
/-! AllOn -/
set_option maxRecDepth 20000 in
set_option maxHeartbeats 1000000 in
theorem iGood1 (ad : Addr) (n c' b k : Nat) (y : Sdv) (d : Int) (r : Bool) (bx bd : Nat) (w : World) (hx : w.heap[bx]? = some (.cells #[.slice (some ad) n c', .map (some b)] 59)) (hd : w.heap[bd]? = some (.cells #[.int .i64 d] 2)) (CY : Hid (CelSd w (ad.add (k * 10)) y)) (hk : k < n) (hs : soundB y = true) (hr : goodB y d = r) :
    Calls Tryd.prog 76 #[.int .i64 (k : Int), .pointer (some ⟨bx, 0, none⟩), .pointer (some ⟨bd, 0, none⟩)] w fun e w' => e = .returned (.bool r) ∧ Gr w w' := by
  have HX := hid hx; have HD := hid hd; have HS := hid hs; have HR := hid hr
  clear hx hd hs hr
  go_enter Tryd.func76, Tryd.ntmps76
  obtain ⟨_, _⟩ := cells2 HX.out
  have _ := fz HX.out
  have _ := ltb HX.out
  have _ := cells1 HD.out
  have _ := fz HD.out
  have _ := ltb HD.out
  go_wp2_with fail
  refine wp_reg0 7 (by kernel_rfl) (by kernel_rfl) ?_
  apply Exists.intro
  refine ⟨fun wb hb => ?_, ?_⟩
  · obtain ⟨_, _⟩ := hb.at2 HX.out
    have _ := hb.at1 HD.out
    have _ := hb.atF CY.out.h0; have _ := hb.atF CY.out.h1; have _ := hb.atF CY.out.h2; have _ := hb.atF CY.out.h3; have _ := hb.atF CY.out.h4; have _ := hb.atF CY.out.h5; have _ := hb.atF CY.out.h6; have _ := hb.atF CY.out.h7; have _ := hb.atF CY.out.h8; have _ := hb.atF CY.out.h9
    simp only [headOps, List.contains, List.elem, reduceIte, Bool.false_eq_true]
    repeat (first | go_big_quiet_step (first | (go_at_call 43; exact Calls.of_gr (iGoodOn_is y d r _ HS.out HR.out))) | quiet_step (fail))
    exact wpQuiet_nil rfl
  intro w1 hg1
  have x1_1 := hg1.keep HX.out
  have x1_2 := hg1.keep HD.out
  obtain ⟨_, _⟩ := cells2 x1_1
  have _ := fz x1_1
  have _ := ltb x1_1
  have _ := cells1 x1_2
  have _ := fz x1_2
  have _ := ltb x1_2
  have X1_1 := hid x1_1; clear x1_1
  have X1_2 := hid x1_2; clear x1_2
  have G1 := hid (hg1)
  clear hg1
  go_wp2
  go_ret
  exact ⟨rfl, G1.out⟩
/-- Whether the standard at a place is good on a day. -/
def gdAt (xs : List Sdv) (d : Int) (i : Nat) : Bool := match xs[i]? with | some y => goodB y d | none => false
theorem gdAt_some {xs : List Sdv} {d : Int} {i : Nat} {y : Sdv} (h : xs[i]? = some y) : gdAt xs d i = goodB y d := by unfold gdAt; rw [h]
theorem ch_soundP {xs : List Sdv} (h : chP xs) : ∀ (i : Nat) (y : Sdv), xs[i]? = some y → soundB y = true := fun i y hy => (h i y hy).2.1
set_option maxRecDepth 20000 in
set_option maxHeartbeats 1000000 in
theorem iGoodOnL (B : Option Addr) (c b : Nat) (xs : List Sdv) (d : Int) (w : World) (h30 : xs.length ≤ 30) (hrd : Hid (RdSd w B xs)) (hs : Hid (∀ (i : Nat) (y : Sdv), xs[i]? = some y → soundB y = true)) :
    Calls Tryd.prog 53 #[idxV B xs.length c b, .int .i64 d] w fun e w' => (∃ A c, e = .returned (.slice A (whL (gdAt xs d) xs.length).length c) ∧ w'.ownsRow w.heap.size 2 1 (.slice A (whL (gdAt xs d) xs.length).length c) (whL (gdAt xs d) xs.length).length ((whL (gdAt xs d) xs.length).map (.int .i64 ·))) ∧ Gr w w' := by
  go_enter Tryd.func53, Tryd.ntmps53
  go_wp2_with fail
  refine (iWhere B xs.length c b 76 _ (gdAt xs d) _ h30 (fun _ _ => by kernel_rfl) ?_).mono ?_
  · intro i w' hi hg
    obtain ⟨y0, y1, _, g0⟩ := alloc2 hg
    have hy : xs[i]? = some xs[i] := List.getElem?_eq_getElem _
    obtain ⟨ad, rfl, cy⟩ := hrd.out i _ hy
    rw [gdAt_some hy]
    exact iGood1 ad xs.length c b i xs[i] d _ _ _ w' y0 y1 (hid (cy.keep g0)) hi (hs.out i _ hy) rfl
  · rintro e w1 ⟨⟨A, c1, rfl, hR⟩, hg⟩
    have G := hid (alloc2 hg).2.2.2; have HR := hid (own_base hR (show w.heap.size ≤ _ by simp; omega)); clear hg hR
    go_wp2_with fail
    go_ret
    exact ⟨⟨A, c1, rfl, HR.out⟩, G.out⟩
set_option maxRecDepth 20000 in
set_option maxHeartbeats 1000000 in
theorem iAllOn1_no (B : Option Addr) (c' : Nat) (m : Option Nat) (s : Nat) (xs : List Sdv) (d : Int) (bd : Nat) (w : World) (hd : w.heap[bd]? = some (.cells #[.int .i64 d] 2)) (h : dayB d = false) :
    Calls Tryd.prog 52 #[chnV B xs.length c' m s, .pointer (some ⟨bd, 0, none⟩)] w fun e w' => (∃ A c, e = .returned (.tuple #[.slice A 0 c, .iface 66 (.int .i64 2)]) ∧ w'.ownsRow w.heap.size 2 1 (.slice A 0 c) 0 []) ∧ Gr w w' := by
  have H := hid h; have HD := hid hd
  clear h hd
  go_enter Tryd.func52, Tryd.ntmps52
  have _ := cells1 HD.out
  have _ := fz HD.out
  have _ := ltb HD.out
  go_wp2_with fail
  refine (iDay_is d false _ H.out).mono ?_
  rintro e w1 ⟨rfl, hg1⟩
  obtain ⟨x1_0, hz1, g1⟩ := alloc1 hg1
  have x1_1 := g1.keep HD.out
  obtain ⟨_, _, _⟩ := cells3 x1_0
  have _ := fz x1_0
  have _ := ltb x1_0
  have _ := cells1 x1_1
  have _ := fz x1_1
  have _ := ltb x1_1
  have X1_0 := hid x1_0; clear x1_0
  have X1_1 := hid x1_1; clear x1_1
  have G1 := hid (g1)
  clear hg1 g1
  go_wp2
  go_ret2
  exact ⟨⟨_, _, rfl, World.ownsRow_nil _ _ _ _⟩, G1.out⟩
set_option maxRecDepth 20000 in
set_option maxHeartbeats 1000000 in
theorem iAllOn1_yes (B : Option Addr) (c' : Nat) (m : Option Nat) (s : Nat) (xs : List Sdv) (d : Int) (bd : Nat) (w : World) (h30 : xs.length ≤ 30) (hx : Hid (IdxR w B xs.length m xs)) (hs : Hid (∀ (i : Nat) (y : Sdv), xs[i]? = some y → soundB y = true)) (hd : w.heap[bd]? = some (.cells #[.int .i64 d] 2)) (h : dayB d = true) :
    Calls Tryd.prog 52 #[chnV B xs.length c' m s, .pointer (some ⟨bd, 0, none⟩)] w fun e w' => (∃ A c, e = .returned (.tuple #[.slice A (whL (gdAt xs d) xs.length).length c, .nilIface]) ∧ w'.ownsRow w.heap.size 2 1 (.slice A (whL (gdAt xs d) xs.length).length c) (whL (gdAt xs d) xs.length).length ((whL (gdAt xs d) xs.length).map (.int .i64 ·))) ∧ Gr w w' := by
  obtain ⟨_, hrd, b, rfl, hm⟩ := hx.out
  have H := hid h; have HD := hid hd; have HRD := hid hrd
  clear h hd hrd hm
  go_enter Tryd.func52, Tryd.ntmps52
  have _ := cells1 HD.out
  have _ := fz HD.out
  have _ := ltb HD.out
  go_wp2_with fail
  refine (iDay_is d true _ H.out).mono ?_
  rintro e w1 ⟨rfl, hg1⟩
  obtain ⟨x1_0, hz1, g1⟩ := alloc1 hg1
  have x1_1 := g1.keep HD.out
  obtain ⟨_, _, _⟩ := cells3 x1_0
  have _ := fz x1_0
  have _ := ltb x1_0
  have _ := cells1 x1_1
  have _ := fz x1_1
  have _ := ltb x1_1
  have X1_0 := hid x1_0; clear x1_0
  have X1_1 := hid x1_1; clear x1_1
  have G1 := hid (g1)
  clear hg1 g1
  go_wp2_with fail
  refine (iGoodOnL B c' b xs d _ h30 (hid (HRD.out.keep G1.out)) hs).mono ?_
  rintro e w2 ⟨⟨A, c1, rfl, hR⟩, hg⟩
  have HR := hid (own_base hR G1.out.size); have G2 := hid (G1.out.trans hg)
  clear hR hg
  go_wp2_with fail
  go_ret2
  exact ⟨⟨A, c1, rfl, HR.out⟩, G2.out⟩
set_option maxRecDepth 20000 in
set_option maxHeartbeats 1000000 in
theorem iAllOn_0 (A : Option Addr) (c : Nat) (xs : List Sdv) (d : Int) (w : World) (X : Hid (RdSd w A xs)) (E : Hid (ErrT w)) (hn : xs.length ≤ 1048576) (hch : ¬ chP xs) :
    Calls Tryd.prog 26 #[.slice A xs.length c, .int .i64 d] w fun e w' => GivesI w w' e [] 1 := by
  go_enter Tryd.func26, Tryd.ntmps26
  go_wp2_with fail
  refine (rc_asknoL1 52 _ A c xs _ (hid (X.out.keep ((Gr.refl w).al _))) (hid (E.out.keep ((Gr.refl w).al _))) hn hch).mono ?_
  rintro e w1 ⟨⟨A1, c1, rfl, hR⟩, hg⟩
  have G := hid (alloc1 hg).2.2; have HR := hid (own_base hR (show w.heap.size ≤ _ by simp)); clear hg hR
  go_wp2_with fail
  go_ret2
  exact ⟨A1, c1, rfl, HR.out, G.out⟩
set_option maxRecDepth 20000 in
set_option maxHeartbeats 1000000 in
theorem iAllOn_1 (A : Option Addr) (c : Nat) (xs : List Sdv) (d : Int) (w : World) (X : Hid (RdSd w A xs)) (E : Hid (ErrT w)) (hn : xs.length ≤ 1048576) (hch : chP xs) (h : dayB d = false) :
    Calls Tryd.prog 26 #[.slice A xs.length c, .int .i64 d] w fun e w' => GivesI w w' e [] 2 := by
  go_enter Tryd.func26, Tryd.ntmps26
  go_wp2_with fail
  refine (rc_askyesL1 52 _ 0 [] (.iface 66 (.int .i64 2)) 2 A c xs _ (hid (X.out.keep ((Gr.refl w).al _))) (hid (E.out.keep ((Gr.refl w).al _))) hn hch (.inr rfl) (fun _ _ => by kernel_rfl) (fun w' B c' m s hg hx => iAllOn1_no B c' m s xs d _ w' (alloc1 hg).1 h)).mono ?_
  rintro e w1 ⟨⟨A1, c1, rfl, hR⟩, hg⟩
  have G := hid (alloc1 hg).2.2; have HR := hid (own_base hR (show w.heap.size ≤ _ by simp)); clear hg hR
  go_wp2_with fail
  go_ret2
  exact ⟨A1, c1, rfl, HR.out, G.out⟩
set_option maxRecDepth 20000 in
set_option maxHeartbeats 1000000 in
theorem iAllOn_2 (A : Option Addr) (c : Nat) (xs : List Sdv) (d : Int) (w : World) (X : Hid (RdSd w A xs)) (E : Hid (ErrT w)) (hn : xs.length ≤ 1048576) (hch : chP xs) (h : dayB d = true) :
    Calls Tryd.prog 26 #[.slice A xs.length c, .int .i64 d] w fun e w' => GivesI w w' e (whL (gdAt xs d) xs.length) 0 := by
  go_enter Tryd.func26, Tryd.ntmps26
  go_wp2_with fail
  refine (rc_askyesL1 52 _ (whL (gdAt xs d) xs.length).length ((whL (gdAt xs d) xs.length).map (.int .i64 ·)) .nilIface 0 A c xs _ (hid (X.out.keep ((Gr.refl w).al _))) (hid (E.out.keep ((Gr.refl w).al _))) hn hch (.inl ⟨rfl, rfl⟩) (fun _ _ => by kernel_rfl) (fun w' B c' m s hg hx => iAllOn1_yes B c' m s xs d _ w' (ch_len hch) hx (hid (ch_soundP hch)) (alloc1 hg).1 h)).mono ?_
  rintro e w1 ⟨⟨A1, c1, rfl, hR⟩, hg⟩
  have G := hid (alloc1 hg).2.2; have HR := hid (own_base hR (show w.heap.size ≤ _ by simp)); clear hg hR
  go_wp2_with fail
  go_ret2
  exact ⟨A1, c1, rfl, HR.out, G.out⟩
/-! the reference -/
theorem own_made0 (w : World) (E : TypeId) (size base : Nat) (hb : base ≤ w.heap.size) : (w.alloc (.cells #[] E)).ownsRow base E size (.slice (some ⟨w.heap.size, 0, none⟩) 0 0) 0 [] := by
  exact ⟨by simp, .inr ⟨w.heap.size, 0, #[], rfl, hb, (alloc1 (Gr.refl _)).1, by simp⟩⟩
set_option maxRecDepth 20000 in
set_option maxHeartbeats 1000000 in
theorem sAllOn_0 (A : Option Addr) (c : Nat) (xs : List Sdv) (d : Int) (w : World) (X : Hid (RdSd w A xs)) (hc : xs.length ≤ c) (hch : ¬ chP xs) :
    Calls Tryd.prog 25 #[.slice A xs.length c, .int .i64 d] w fun e w' => GivesI w w' e [] 1 := by
  go_enter Tryd.func25, Tryd.ntmps25
  go_wp2_with fail
  refine (chainOkNo A c xs _ X hc hch).mono ?_
  rintro e w1 ⟨rfl, hg⟩
  have G := hid hg; clear hg
  go_wp2_with fail
  go_ret2
  exact ⟨_, _, rfl, own_made0 _ _ _ _ G.out.size, G.out.al _⟩
set_option maxRecDepth 20000 in
set_option maxHeartbeats 1000000 in
theorem sAllOn_1 (A : Option Addr) (c : Nat) (xs : List Sdv) (d : Int) (w : World) (X : Hid (RdSd w A xs)) (hc : xs.length ≤ c) (hch : chP xs) (h : dayB d = false) :
    Calls Tryd.prog 25 #[.slice A xs.length c, .int .i64 d] w fun e w' => GivesI w w' e [] 2 := by
  have HD := hid h; clear h
  go_enter Tryd.func25, Tryd.ntmps25
  go_wp2_with fail
  refine (chainOkYes A c xs _ X hc hch).mono ?_
  rintro e w1 ⟨rfl, hg⟩
  have G := hid hg; clear hg
  go_wp2_with fail
  refine (sDay d false _ HD.out).mono ?_
  rintro e w2 ⟨rfl, hg⟩
  have G2 := hid (G.out.trans hg); clear hg
  go_wp2_with fail
  go_ret2
  exact ⟨_, _, rfl, own_made0 _ _ _ _ G2.out.size, G2.out.al _⟩
set_option maxRecDepth 20000 in
set_option maxHeartbeats 2000000 in
theorem sAllOn_2 (A : Option Addr) (c n : Nat) (xs : List Sdv) (d : Int) (w : World) (X : Hid (RdSd w A xs)) (hn : xs.length = n) (h30 : n ≤ 30) (hc : n ≤ c) (hch : chP xs) (h : dayB d = true) :
    Calls Tryd.prog 25 #[.slice A n c, .int .i64 d] w fun e w' => GivesI w w' e (whL (gdAt xs d) n) 0 := by
  obtain ⟨i0, hi, hz0, hz1, hz2⟩ : ∃ i, Tryd.prog.info? 2 = some i ∧ i.zero = some (.int .i64 0) ∧ i.size = 1 ∧ i.bytes = 8 := ⟨_, rfl, rfl, rfl, rfl⟩
  have HD := hid h; have HL := hid hn; have HS := hid (ch_soundP hch)
  have HO := hid (fun w (X : Hid (RdSd w A xs)) => hn ▸ chainOkYes A c xs w X (hn ▸ hc) hch)
  clear hch hn h
  go_enter Tryd.func25, Tryd.ntmps25
  go_wp2_with fail
  refine (HO.out _ X).mono ?_
  rintro e w1 ⟨rfl, hg⟩
  have G := hid hg; clear hg
  go_wp2_with fail
  refine (sDay d true _ HD.out).mono ?_
  rintro e w2 ⟨rfl, hg⟩
  have G2 := hid (G.out.trans hg); clear hg
  go_wp2_with fail
  go_loopw [6, 7] (fun v u' wr => ∃ (k : Nat) (A' : Option Addr) (c' : Nat), u' = .int .i64 (k : Int) ∧ v = .slice A' (whL (gdAt xs d) k).length c' ∧ k ≤ n ∧ Gr w wr ∧ wr.ownsRow w.heap.size 2 1 (.slice A' (whL (gdAt xs d) k).length c') (whL (gdAt xs d) k).length ((whL (gdAt xs d) k).map (.int .i64 ·))) (fun _ u' _ => n - (intOf u').toNat)
  case atStart => exact ⟨0, _, _, rfl, rfl, by omega, G2.out.al _, own_made0 _ _ _ _ G2.out.size⟩
  case round =>
    obtain ⟨k, A', c', rfl, rfl, hk, hg, hown⟩ := hrel
    have GW := hid hg; have OWN := hid hown
    clear hg hown
    have hwl := whL_len (gdAt xs d) k
    by_cases hlt : k < n
    · obtain ⟨y, hy⟩ : ∃ p, xs[k]? = some p := ⟨xs[k]'(by rw [HL.out]; exact hlt), List.getElem?_eq_getElem _⟩
      obtain ⟨ad, rfl, cy⟩ := (X.out.keep GW.out) k y hy
      have hgd := gdAt_some (d := d) hy
      have CY := hid cy; have HSO := hid (HS.out k y hy)
      clear cy hy
      cases hp : goodB y d with
      | true =>
        have hpt : gdAt xs d k = true := hgd.trans hp
        have HP := hid hp
        clear hgd hp
        go_wp2_with fail
        refine (sGood _ y d true _ CY HSO.out HP.out).mono ?_
        rintro e w3 ⟨rfl, hg3⟩
        have OWN3 := hid (own_gr OWN.out (hg3.al (.cells #[.int .i64 (k : Int)] 2))); have NEW := hid (one_news (alloc1 (Gr.refl (w3.alloc (.cells #[.int .i64 (k : Int)] 2)))).1); have G3 := hid ((GW.out.trans hg3).al (.cells #[.int .i64 (k : Int)] 2)); have hsz := G3.out.size; clear hg3 OWN
        go_wp2_with (refine wpList_append_gr rfl _ _ 35 rfl w.heap.size 2 i0 (.int .i64 0) 1 8 Tryd.underlying35 hi hz0 hz1 hz2 rfl (by decide) _ _ _ rfl OWN3.out ⟨w3.heap.size, 0, none⟩ 1 1 [.int .i64 (k : Int)] rfl rfl NEW.out (by simp [Value.oneCell']) (by decide) (by unfold maxLen; omega) (by omega) hsz ?_; intro v' w4 own4 _ _ hgr; obtain ⟨A2, c2, rfl⟩ := own_form own4; rw [whL_vals (gdAt xs d) k hpt] at own4; have OWN4 := hid own4; have G4 := hid (hgr _ G3.out (Nat.le_refl _)); clear own4 hgr OWN3 NEW hsz)
        have hl : (whL (gdAt xs d) k).length + 1 = (whL (gdAt xs d) (k + 1)).length := by rw [whL_yes hpt]; simp
        rw [hl] at OWN4 ⊢
        exact ⟨⟨k + 1, A2, c2, by simp, rfl, by omega, G4.out, OWN4.out⟩, by simp [intOf]; omega⟩
      | false =>
        have HPF := hid (whL_no (p := gdAt xs d) (k := k) (hgd.trans hp))
        have HP := hid hp
        clear hgd hp
        go_wp2_with (go_at_call 38; refine (sGood _ y d false _ CY HSO.out HP.out).mono ?_; rintro e w3 ⟨rfl, hg3⟩; have OWN3 := hid (own_gr OWN.out hg3); have G3 := hid (GW.out.trans hg3); clear hg3 OWN)
        refine ⟨⟨k + 1, A', c', by simp, by rw [HPF.out], by omega, G3.out, by rw [HPF.out]; exact OWN3.out⟩, by simp [intOf]; omega⟩
    · have hke : k = n := by omega
      subst hke
      go_wp2_with fail
      go_ret2
      exact ⟨A', c', rfl, OWN.out, GW.out⟩
theorem bothAllOn (xs : List Sdv) (d : Int) (hn : xs.length ≤ 1048576) : ∃ (ys : List Int) (C : Int), ys.length ≤ 1048576 ∧
    (∀ (A : Option Addr) (c : Nat) (w : World), xs.length ≤ c → Hid (RdSd w A xs) → Calls Tryd.prog 25 #[.slice A xs.length c, .int .i64 d] w fun e w' => GivesI w w' e ys C) ∧
    (∀ (A : Option Addr) (c : Nat) (w : World), xs.length ≤ c → Hid (RdSd w A xs) → Hid (ErrT w) → Calls Tryd.prog 26 #[.slice A xs.length c, .int .i64 d] w fun e w' => GivesI w w' e ys C) := by
  by_cases hch : chP xs
  · cases hd : dayB d with
    | false => exact ⟨[], 2, by simp, fun A c w hc X => sAllOn_1 A c xs d w X hc hch hd, fun A c w _ X E => iAllOn_1 A c xs d w X E hn hch hd⟩
    | true => exact ⟨_, 0, Nat.le_trans (whL_len _ _) hn, fun A c w hc X => sAllOn_2 A c _ xs d w X rfl (ch_len hch) hc hch hd, fun A c w _ X E => iAllOn_2 A c xs d w X E hn hch hd⟩
  · exact ⟨[], 1, by simp, fun A c w hc X => sAllOn_0 A c xs d w X hc hch, fun A c w _ X E => iAllOn_0 A c xs d w X E hn hch⟩
end Go.Proofs.YtadpoocafhddeaaDoor
