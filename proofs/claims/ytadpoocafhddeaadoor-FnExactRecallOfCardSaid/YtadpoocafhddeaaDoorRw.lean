/- CHAINS: the places of the standards of which something is so; AllOn, of both sides. -/
import Derived.Test.YtadpoocafhddeaaDoorRx
import Derived.Test.YtadpoocafhddeaaDoorPu
namespace Go.Proofs.YtadpoocafhddeaaDoor
open Go.RowKit Go.Sort

/-- The places below n of which something is so. -/
def whL (p : Nat → Bool) (n : Nat) : List Int := ((List.range n).filter p).map fun i : Nat => (i : Int)
theorem whL_zero (p : Nat → Bool) : whL p 0 = [] := rfl
theorem whL_yes {p : Nat → Bool} {k : Nat} (h : p k = true) : whL p (k + 1) = whL p k ++ [(k : Int)] := by simp [whL, List.range_succ, List.filter_append, h]
theorem whL_no {p : Nat → Bool} {k : Nat} (h : p k = false) : whL p (k + 1) = whL p k := by simp [whL, List.range_succ, List.filter_append, h]
theorem whL_len (p : Nat → Bool) (n : Nat) : (whL p n).length ≤ n := by
  unfold whL
  rw [List.length_map]
  exact Nat.le_trans (List.length_filter_le _ _) (by simp)
theorem whL_congr {p q : Nat → Bool} {n : Nat} (h : ∀ i, i < n → p i = q i) : whL p n = whL q n := by
  unfold whL
  congr 1
  exact List.filter_congr fun i hi => h i (List.mem_range.1 hi)
theorem whL_vals (p : Nat → Bool) (k : Nat) (h : p k = true) : ((whL p k).map (Value.int .i64 ·)) ++ [.int .i64 (k : Int)] = (whL p (k + 1)).map (Value.int .i64 ·) := by rw [whL_yes h]; simp
set_option maxRecDepth 20000 in
set_option maxHeartbeats 2000000 in
theorem iWhere (B : Option Addr) (n c b f : Nat) (cap : Array Value) (p : Nat → Bool) (w : World) (h30 : n ≤ 30)
    (hen : ∀ s w, (callFunc f (#[.int .i64 s] ++ cap)).run Tryd.prog w = .ok (.enter f (#[.int .i64 s] ++ cap)) w)
    (hF : ∀ (i : Nat) (w' : World), i < n → Gr w w' → Calls Tryd.prog f (#[.int .i64 (i : Int)] ++ cap) w' fun e w'' => e = .returned (.bool (p i)) ∧ Gr w' w'') :
    Calls Tryd.prog 75 #[idxV B n c b, .func (.func f) #[] cap] w fun e w' => (∃ A c, e = .returned (.slice A (whL p n).length c) ∧ w'.ownsRow w.heap.size 2 1 (.slice A (whL p n).length c) (whL p n).length ((whL p n).map (.int .i64 ·))) ∧ Gr w w' := by
  obtain ⟨i0, hi, hz0, hz1, hz2⟩ : ∃ i, Tryd.prog.info? 2 = some i ∧ i.zero = some (.int .i64 0) ∧ i.size = 1 ∧ i.bytes = 8 := ⟨_, rfl, rfl, rfl, rfl⟩
  have HF := hid hF; clear hF
  go_enter Tryd.func75, Tryd.ntmps75
  go_wp2_with fail
  go_loopw [5, 10] (fun v u' wr => ∃ (k : Nat) (A' : Option Addr) (c' : Nat), u' = .int .i64 (k : Int) ∧ v = .slice A' (whL p k).length c' ∧ k ≤ n ∧ Gr w wr ∧ wr.ownsRow w.heap.size 2 1 (.slice A' (whL p k).length c') (whL p k).length ((whL p k).map (.int .i64 ·))) (fun _ u' _ => n - (intOf u').toNat)
  case atStart => exact ⟨0, none, 0, rfl, rfl, by omega, (Gr.refl _).al _, World.ownsRow_nil _ _ _ _⟩
  case round =>
    obtain ⟨k, A', c', rfl, rfl, hk, hg, hown⟩ := hrel
    have GW := hid hg; have OWN := hid hown
    clear hg hown
    have hwl := whL_len p k
    by_cases hlt : k < n
    · go_wp2_with fail
      refine (HF.out k _ hlt GW.out).mono ?_
      cases hp : p k with
      | true =>
        rintro e w3 ⟨rfl, hg3⟩
        have OWN3 := hid (own_gr OWN.out (hg3.al (.cells #[.int .i64 (k : Int)] 2)))
        have NEW := hid (one_news (alloc1 (Gr.refl (w3.alloc (.cells #[.int .i64 (k : Int)] 2)))).1)
        have G3 := hid ((GW.out.trans hg3).al (.cells #[.int .i64 (k : Int)] 2))
        have hsz := G3.out.size
        have HV := hid (whL_vals p k hp)
        have HP := hid hp
        clear hg3 OWN hp
        go_wp2_with (refine wpList_append_gr rfl _ _ 35 rfl w.heap.size 2 i0 (.int .i64 0) 1 8 Tryd.underlying35 hi hz0 hz1 hz2 rfl (by decide) _ _ _ rfl OWN3.out ⟨w3.heap.size, 0, none⟩ 1 1 [.int .i64 (k : Int)] rfl rfl NEW.out (by simp [Value.oneCell']) (by decide) (by unfold maxLen; omega) (by omega) hsz ?_; intro v' w4 own4 _ _ hgr; obtain ⟨A2, c2, rfl⟩ := own_form own4; rw [HV.out] at own4; have OWN4 := hid own4; have G4 := hid (hgr _ G3.out (Nat.le_refl _)); clear own4 hgr OWN3 NEW hsz)
        have hl : (whL p k).length + 1 = (whL p (k + 1)).length := by rw [whL_yes HP.out]; simp
        rw [hl] at OWN4 ⊢
        exact ⟨⟨k + 1, A2, c2, by simp, rfl, by omega, G4.out, OWN4.out⟩, by simp [intOf]; omega⟩
      | false =>
        rintro e w3 ⟨rfl, hg3⟩
        have G3 := hid (GW.out.trans hg3)
        have OWN3 := hid (own_gr OWN.out hg3)
        have HP := hid (whL_no hp)
        clear hg3 OWN hp
        go_wp2_with fail
        refine ⟨⟨k + 1, A', c', by simp, by rw [HP.out], by omega, G3.out, by rw [HP.out]; exact OWN3.out⟩, by simp [intOf]; omega⟩
    · have hke : k = n := by omega
      subst hke
      go_wp2_with fail
      go_ret
      exact ⟨⟨A', c', rfl, OWN.out⟩, GW.out⟩
/-! AllOn -/
set_option maxRecDepth 20000 in
set_option maxHeartbeats 1000000 in
theorem iGood1 (ad : Addr) (n c' b k : Nat) (y : Sdv) (d : Int) (r : Bool) (bx bd : Nat) (w : World) (hx : w.heap[bx]? = some (.cells #[.slice (some ad) n c', .map (some b)] 59)) (hd : w.heap[bd]? = some (.cells #[.int .i64 d] 2)) (CY : Hid (CelSd w (ad.add (k * 10)) y)) (hk : k < n) (hs : soundB y = true) (hr : goodB y d = r) :
    Calls Tryd.prog 76 #[.int .i64 (k : Int), .pointer (some ⟨bx, 0, none⟩), .pointer (some ⟨bd, 0, none⟩)] w fun e w' => e = .returned (.bool r) ∧ Gr w w' := by
  have HX := hid hx; have HD := hid hd; have HS := hid hs; have HR := hid hr
  clear hx hd hs hr
  go_enter Tryd.func76, Tryd.ntmps76
  obtain ⟨_, _⟩ := cells2 HX.out
  have _ := fz HX.out
  have _ := ltb HX.out
  have _ := cells1 HD.out
  have _ := fz HD.out
  have _ := ltb HD.out
  go_wp2_with fail
  refine wp_reg0 7 (by kernel_rfl) (by kernel_rfl) ?_
  apply Exists.intro
  refine ⟨fun wb hb => ?_, ?_⟩
  · obtain ⟨_, _⟩ := hb.at2 HX.out
    have _ := hb.at1 HD.out
    have _ := hb.atF CY.out.h0; have _ := hb.atF CY.out.h1; have _ := hb.atF CY.out.h2; have _ := hb.atF CY.out.h3; have _ := hb.atF CY.out.h4; have _ := hb.atF CY.out.h5; have _ := hb.atF CY.out.h6; have _ := hb.atF CY.out.h7; have _ := hb.atF CY.out.h8; have _ := hb.atF CY.out.h9
    simp only [headOps, List.contains, List.elem, reduceIte, Bool.false_eq_true]
    repeat (first | go_big_quiet_step (first | (go_at_call 43; exact Calls.of_gr (iGoodOn_is y d r _ HS.out HR.out))) | quiet_step (fail))
    exact wpQuiet_nil rfl
  intro w1 hg1
  have x1_1 := hg1.keep HX.out
  have x1_2 := hg1.keep HD.out
  obtain ⟨_, _⟩ := cells2 x1_1
  have _ := fz x1_1
  have _ := ltb x1_1
  have _ := cells1 x1_2
  have _ := fz x1_2
  have _ := ltb x1_2
  have X1_1 := hid x1_1; clear x1_1
  have X1_2 := hid x1_2; clear x1_2
  have G1 := hid (hg1)
  clear hg1
  go_wp2
  go_ret
  exact ⟨rfl, G1.out⟩
/-- Whether the standard at a place is good on a day. -/
def gdAt (xs : List Sdv) (d : Int) (i : Nat) : Bool := match xs[i]? with | some y => goodB y d | none => false
theorem gdAt_some {xs : List Sdv} {d : Int} {i : Nat} {y : Sdv} (h : xs[i]? = some y) : gdAt xs d i = goodB y d := by unfold gdAt; rw [h]
theorem ch_soundP {xs : List Sdv} (h : chP xs) : ∀ (i : Nat) (y : Sdv), xs[i]? = some y → soundB y = true := fun i y hy => (h i y hy).2.1
set_option maxRecDepth 20000 in
set_option maxHeartbeats 1000000 in
theorem iGoodOnL (B : Option Addr) (c b : Nat) (xs : List Sdv) (d : Int) (w : World) (h30 : xs.length ≤ 30) (hrd : Hid (RdSd w B xs)) (hs : Hid (∀ (i : Nat) (y : Sdv), xs[i]? = some y → soundB y = true)) :
    Calls Tryd.prog 53 #[idxV B xs.length c b, .int .i64 d] w fun e w' => (∃ A c, e = .returned (.slice A (whL (gdAt xs d) xs.length).length c) ∧ w'.ownsRow w.heap.size 2 1 (.slice A (whL (gdAt xs d) xs.length).length c) (whL (gdAt xs d) xs.length).length ((whL (gdAt xs d) xs.length).map (.int .i64 ·))) ∧ Gr w w' := by
  go_enter Tryd.func53, Tryd.ntmps53
  go_wp2_with fail
  refine (iWhere B xs.length c b 76 _ (gdAt xs d) _ h30 (fun _ _ => by kernel_rfl) ?_).mono ?_
  · intro i w' hi hg
    obtain ⟨y0, y1, _, g0⟩ := alloc2 hg
    have hy : xs[i]? = some xs[i] := List.getElem?_eq_getElem _
    obtain ⟨ad, rfl, cy⟩ := hrd.out i _ hy
    rw [gdAt_some hy]
    exact iGood1 ad xs.length c b i xs[i] d _ _ _ w' y0 y1 (hid (cy.keep g0)) hi (hs.out i _ hy) rfl
  · rintro e w1 ⟨⟨A, c1, rfl, hR⟩, hg⟩
    have G := hid (alloc2 hg).2.2.2; have HR := hid (own_base hR (show w.heap.size ≤ _ by simp; omega)); clear hg hR
    go_wp2_with fail
    go_ret
    exact ⟨⟨A, c1, rfl, HR.out⟩, G.out⟩
set_option maxRecDepth 20000 in
set_option maxHeartbeats 1000000 in
theorem iAllOn1_no (B : Option Addr) (c' : Nat) (m : Option Nat) (s : Nat) (xs : List Sdv) (d : Int) (bd : Nat) (w : World) (hd : w.heap[bd]? = some (.cells #[.int .i64 d] 2)) (h : dayB d = false) :
    Calls Tryd.prog 52 #[chnV B xs.length c' m s, .pointer (some ⟨bd, 0, none⟩)] w fun e w' => (∃ A c, e = .returned (.tuple #[.slice A 0 c, .iface 66 (.int .i64 2)]) ∧ w'.ownsRow w.heap.size 2 1 (.slice A 0 c) 0 []) ∧ Gr w w' := by
  have H := hid h; have HD := hid hd
  clear h hd
  go_enter Tryd.func52, Tryd.ntmps52
  have _ := cells1 HD.out
  have _ := fz HD.out
  have _ := ltb HD.out
  go_wp2_with fail
  refine (iDay_is d false _ H.out).mono ?_
  rintro e w1 ⟨rfl, hg1⟩
  obtain ⟨x1_0, hz1, g1⟩ := alloc1 hg1
  have x1_1 := g1.keep HD.out
  obtain ⟨_, _, _⟩ := cells3 x1_0
  have _ := fz x1_0
  have _ := ltb x1_0
  have _ := cells1 x1_1
  have _ := fz x1_1
  have _ := ltb x1_1
  have X1_0 := hid x1_0; clear x1_0
  have X1_1 := hid x1_1; clear x1_1
  have G1 := hid (g1)
  clear hg1 g1
  go_wp2
  go_ret2
  exact ⟨⟨_, _, rfl, World.ownsRow_nil _ _ _ _⟩, G1.out⟩
set_option maxRecDepth 20000 in
set_option maxHeartbeats 1000000 in
theorem iAllOn1_yes (B : Option Addr) (c' : Nat) (m : Option Nat) (s : Nat) (xs : List Sdv) (d : Int) (bd : Nat) (w : World) (h30 : xs.length ≤ 30) (hx : Hid (IdxR w B xs.length m xs)) (hs : Hid (∀ (i : Nat) (y : Sdv), xs[i]? = some y → soundB y = true)) (hd : w.heap[bd]? = some (.cells #[.int .i64 d] 2)) (h : dayB d = true) :
    Calls Tryd.prog 52 #[chnV B xs.length c' m s, .pointer (some ⟨bd, 0, none⟩)] w fun e w' => (∃ A c, e = .returned (.tuple #[.slice A (whL (gdAt xs d) xs.length).length c, .nilIface]) ∧ w'.ownsRow w.heap.size 2 1 (.slice A (whL (gdAt xs d) xs.length).length c) (whL (gdAt xs d) xs.length).length ((whL (gdAt xs d) xs.length).map (.int .i64 ·))) ∧ Gr w w' := by
  obtain ⟨_, hrd, b, rfl, hm⟩ := hx.out
  have H := hid h; have HD := hid hd; have HRD := hid hrd
  clear h hd hrd hm
  go_enter Tryd.func52, Tryd.ntmps52
  have _ := cells1 HD.out
  have _ := fz HD.out
  have _ := ltb HD.out
  go_wp2_with fail
  refine (iDay_is d true _ H.out).mono ?_
  rintro e w1 ⟨rfl, hg1⟩
  obtain ⟨x1_0, hz1, g1⟩ := alloc1 hg1
  have x1_1 := g1.keep HD.out
  obtain ⟨_, _, _⟩ := cells3 x1_0
  have _ := fz x1_0
  have _ := ltb x1_0
  have _ := cells1 x1_1
  have _ := fz x1_1
  have _ := ltb x1_1
  have X1_0 := hid x1_0; clear x1_0
  have X1_1 := hid x1_1; clear x1_1
  have G1 := hid (g1)
  clear hg1 g1
  go_wp2_with fail
  refine (iGoodOnL B c' b xs d _ h30 (hid (HRD.out.keep G1.out)) hs).mono ?_
  rintro e w2 ⟨⟨A, c1, rfl, hR⟩, hg⟩
  have HR := hid (own_base hR G1.out.size); have G2 := hid (G1.out.trans hg)
  clear hR hg
  go_wp2_with fail
  go_ret2
  exact ⟨⟨A, c1, rfl, HR.out⟩, G2.out⟩
set_option maxRecDepth 20000 in
set_option maxHeartbeats 1000000 in
theorem iAllOn_0 (A : Option Addr) (c : Nat) (xs : List Sdv) (d : Int) (w : World) (X : Hid (RdSd w A xs)) (E : Hid (ErrT w)) (hn : xs.length ≤ 1048576) (hch : ¬ chP xs) :
    Calls Tryd.prog 26 #[.slice A xs.length c, .int .i64 d] w fun e w' => GivesI w w' e [] 1 := by
  go_enter Tryd.func26, Tryd.ntmps26
  go_wp2_with fail
  refine (rc_asknoL1 52 _ A c xs _ (hid (X.out.keep ((Gr.refl w).al _))) (hid (E.out.keep ((Gr.refl w).al _))) hn hch).mono ?_
  rintro e w1 ⟨⟨A1, c1, rfl, hR⟩, hg⟩
  have G := hid (alloc1 hg).2.2; have HR := hid (own_base hR (show w.heap.size ≤ _ by simp)); clear hg hR
  go_wp2_with fail
  go_ret2
  exact ⟨A1, c1, rfl, HR.out, G.out⟩
set_option maxRecDepth 20000 in
set_option maxHeartbeats 1000000 in
theorem iAllOn_1 (A : Option Addr) (c : Nat) (xs : List Sdv) (d : Int) (w : World) (X : Hid (RdSd w A xs)) (E : Hid (ErrT w)) (hn : xs.length ≤ 1048576) (hch : chP xs) (h : dayB d = false) :
    Calls Tryd.prog 26 #[.slice A xs.length c, .int .i64 d] w fun e w' => GivesI w w' e [] 2 := by
  go_enter Tryd.func26, Tryd.ntmps26
  go_wp2_with fail
  refine (rc_askyesL1 52 _ 0 [] (.iface 66 (.int .i64 2)) 2 A c xs _ (hid (X.out.keep ((Gr.refl w).al _))) (hid (E.out.keep ((Gr.refl w).al _))) hn hch (.inr rfl) (fun _ _ => by kernel_rfl) (fun w' B c' m s hg hx => iAllOn1_no B c' m s xs d _ w' (alloc1 hg).1 h)).mono ?_
  rintro e w1 ⟨⟨A1, c1, rfl, hR⟩, hg⟩
  have G := hid (alloc1 hg).2.2; have HR := hid (own_base hR (show w.heap.size ≤ _ by simp)); clear hg hR
  go_wp2_with fail
  go_ret2
  exact ⟨A1, c1, rfl, HR.out, G.out⟩
set_option maxRecDepth 20000 in
set_option maxHeartbeats 1000000 in
theorem iAllOn_2 (A : Option Addr) (c : Nat) (xs : List Sdv) (d : Int) (w : World) (X : Hid (RdSd w A xs)) (E : Hid (ErrT w)) (hn : xs.length ≤ 1048576) (hch : chP xs) (h : dayB d = true) :
    Calls Tryd.prog 26 #[.slice A xs.length c, .int .i64 d] w fun e w' => GivesI w w' e (whL (gdAt xs d) xs.length) 0 := by
  go_enter Tryd.func26, Tryd.ntmps26
  go_wp2_with fail
  refine (rc_askyesL1 52 _ (whL (gdAt xs d) xs.length).length ((whL (gdAt xs d) xs.length).map (.int .i64 ·)) .nilIface 0 A c xs _ (hid (X.out.keep ((Gr.refl w).al _))) (hid (E.out.keep ((Gr.refl w).al _))) hn hch (.inl ⟨rfl, rfl⟩) (fun _ _ => by kernel_rfl) (fun w' B c' m s hg hx => iAllOn1_yes B c' m s xs d _ w' (ch_len hch) hx (hid (ch_soundP hch)) (alloc1 hg).1 h)).mono ?_
  rintro e w1 ⟨⟨A1, c1, rfl, hR⟩, hg⟩
  have G := hid (alloc1 hg).2.2; have HR := hid (own_base hR (show w.heap.size ≤ _ by simp)); clear hg hR
  go_wp2_with fail
  go_ret2
  exact ⟨A1, c1, rfl, HR.out, G.out⟩
/-! the reference -/
theorem own_made0 (w : World) (E : TypeId) (size base : Nat) (hb : base ≤ w.heap.size) : (w.alloc (.cells #[] E)).ownsRow base E size (.slice (some ⟨w.heap.size, 0, none⟩) 0 0) 0 [] := by
  exact ⟨by simp, .inr ⟨w.heap.size, 0, #[], rfl, hb, (alloc1 (Gr.refl _)).1, by simp⟩⟩
set_option maxRecDepth 20000 in
set_option maxHeartbeats 1000000 in
theorem sAllOn_0 (A : Option Addr) (c : Nat) (xs : List Sdv) (d : Int) (w : World) (X : Hid (RdSd w A xs)) (hc : xs.length ≤ c) (hch : ¬ chP xs) :
    Calls Tryd.prog 25 #[.slice A xs.length c, .int .i64 d] w fun e w' => GivesI w w' e [] 1 := by
  go_enter Tryd.func25, Tryd.ntmps25
  go_wp2_with fail
  refine (chainOkNo A c xs _ X hc hch).mono ?_
  rintro e w1 ⟨rfl, hg⟩
  have G := hid hg; clear hg
  go_wp2_with fail
  go_ret2
  exact ⟨_, _, rfl, own_made0 _ _ _ _ G.out.size, G.out.al _⟩
set_option maxRecDepth 20000 in
set_option maxHeartbeats 1000000 in
theorem sAllOn_1 (A : Option Addr) (c : Nat) (xs : List Sdv) (d : Int) (w : World) (X : Hid (RdSd w A xs)) (hc : xs.length ≤ c) (hch : chP xs) (h : dayB d = false) :
    Calls Tryd.prog 25 #[.slice A xs.length c, .int .i64 d] w fun e w' => GivesI w w' e [] 2 := by
  have HD := hid h; clear h
  go_enter Tryd.func25, Tryd.ntmps25
  go_wp2_with fail
  refine (chainOkYes A c xs _ X hc hch).mono ?_
  rintro e w1 ⟨rfl, hg⟩
  have G := hid hg; clear hg
  go_wp2_with fail
  refine (sDay d false _ HD.out).mono ?_
  rintro e w2 ⟨rfl, hg⟩
  have G2 := hid (G.out.trans hg); clear hg
  go_wp2_with fail
  go_ret2
  exact ⟨_, _, rfl, own_made0 _ _ _ _ G2.out.size, G2.out.al _⟩
set_option maxRecDepth 20000 in
set_option maxHeartbeats 2000000 in
theorem sAllOn_2 (A : Option Addr) (c n : Nat) (xs : List Sdv) (d : Int) (w : World) (X : Hid (RdSd w A xs)) (hn : xs.length = n) (h30 : n ≤ 30) (hc : n ≤ c) (hch : chP xs) (h : dayB d = true) :
    Calls Tryd.prog 25 #[.slice A n c, .int .i64 d] w fun e w' => GivesI w w' e (whL (gdAt xs d) n) 0 := by
  obtain ⟨i0, hi, hz0, hz1, hz2⟩ : ∃ i, Tryd.prog.info? 2 = some i ∧ i.zero = some (.int .i64 0) ∧ i.size = 1 ∧ i.bytes = 8 := ⟨_, rfl, rfl, rfl, rfl⟩
  have HD := hid h; have HL := hid hn; have HS := hid (ch_soundP hch)
  have HO := hid (fun w (X : Hid (RdSd w A xs)) => hn ▸ chainOkYes A c xs w X (hn ▸ hc) hch)
  clear hch hn h
  go_enter Tryd.func25, Tryd.ntmps25
  go_wp2_with fail
  refine (HO.out _ X).mono ?_
  rintro e w1 ⟨rfl, hg⟩
  have G := hid hg; clear hg
  go_wp2_with fail
  refine (sDay d true _ HD.out).mono ?_
  rintro e w2 ⟨rfl, hg⟩
  have G2 := hid (G.out.trans hg); clear hg
  go_wp2_with fail
  go_loopw [6, 7] (fun v u' wr => ∃ (k : Nat) (A' : Option Addr) (c' : Nat), u' = .int .i64 (k : Int) ∧ v = .slice A' (whL (gdAt xs d) k).length c' ∧ k ≤ n ∧ Gr w wr ∧ wr.ownsRow w.heap.size 2 1 (.slice A' (whL (gdAt xs d) k).length c') (whL (gdAt xs d) k).length ((whL (gdAt xs d) k).map (.int .i64 ·))) (fun _ u' _ => n - (intOf u').toNat)
  case atStart => exact ⟨0, _, _, rfl, rfl, by omega, G2.out.al _, own_made0 _ _ _ _ G2.out.size⟩
  case round =>
    obtain ⟨k, A', c', rfl, rfl, hk, hg, hown⟩ := hrel
    have GW := hid hg; have OWN := hid hown
    clear hg hown
    have hwl := whL_len (gdAt xs d) k
    by_cases hlt : k < n
    · obtain ⟨y, hy⟩ : ∃ p, xs[k]? = some p := ⟨xs[k]'(by rw [HL.out]; exact hlt), List.getElem?_eq_getElem _⟩
      obtain ⟨ad, rfl, cy⟩ := (X.out.keep GW.out) k y hy
      have hgd := gdAt_some (d := d) hy
      have CY := hid cy; have HSO := hid (HS.out k y hy)
      clear cy hy
      cases hp : goodB y d with
      | true =>
        have hpt : gdAt xs d k = true := hgd.trans hp
        have HP := hid hp
        clear hgd hp
        go_wp2_with fail
        refine (sGood _ y d true _ CY HSO.out HP.out).mono ?_
        rintro e w3 ⟨rfl, hg3⟩
        have OWN3 := hid (own_gr OWN.out (hg3.al (.cells #[.int .i64 (k : Int)] 2))); have NEW := hid (one_news (alloc1 (Gr.refl (w3.alloc (.cells #[.int .i64 (k : Int)] 2)))).1); have G3 := hid ((GW.out.trans hg3).al (.cells #[.int .i64 (k : Int)] 2)); have hsz := G3.out.size; clear hg3 OWN
        go_wp2_with (refine wpList_append_gr rfl _ _ 35 rfl w.heap.size 2 i0 (.int .i64 0) 1 8 Tryd.underlying35 hi hz0 hz1 hz2 rfl (by decide) _ _ _ rfl OWN3.out ⟨w3.heap.size, 0, none⟩ 1 1 [.int .i64 (k : Int)] rfl rfl NEW.out (by simp [Value.oneCell']) (by decide) (by unfold maxLen; omega) (by omega) hsz ?_; intro v' w4 own4 _ _ hgr; obtain ⟨A2, c2, rfl⟩ := own_form own4; rw [whL_vals (gdAt xs d) k hpt] at own4; have OWN4 := hid own4; have G4 := hid (hgr _ G3.out (Nat.le_refl _)); clear own4 hgr OWN3 NEW hsz)
        have hl : (whL (gdAt xs d) k).length + 1 = (whL (gdAt xs d) (k + 1)).length := by rw [whL_yes hpt]; simp
        rw [hl] at OWN4 ⊢
        exact ⟨⟨k + 1, A2, c2, by simp, rfl, by omega, G4.out, OWN4.out⟩, by simp [intOf]; omega⟩
      | false =>
        have HPF := hid (whL_no (p := gdAt xs d) (k := k) (hgd.trans hp))
        have HP := hid hp
        clear hgd hp
        go_wp2_with (go_at_call 38; refine (sGood _ y d false _ CY HSO.out HP.out).mono ?_; rintro e w3 ⟨rfl, hg3⟩; have OWN3 := hid (own_gr OWN.out hg3); have G3 := hid (GW.out.trans hg3); clear hg3 OWN)
        refine ⟨⟨k + 1, A', c', by simp, by rw [HPF.out], by omega, G3.out, by rw [HPF.out]; exact OWN3.out⟩, by simp [intOf]; omega⟩
    · have hke : k = n := by omega
      subst hke
      go_wp2_with fail
      go_ret2
      exact ⟨A', c', rfl, OWN.out, GW.out⟩
theorem bothAllOn (xs : List Sdv) (d : Int) (hn : xs.length ≤ 1048576) : ∃ (ys : List Int) (C : Int), ys.length ≤ 1048576 ∧
    (∀ (A : Option Addr) (c : Nat) (w : World), xs.length ≤ c → Hid (RdSd w A xs) → Calls Tryd.prog 25 #[.slice A xs.length c, .int .i64 d] w fun e w' => GivesI w w' e ys C) ∧
    (∀ (A : Option Addr) (c : Nat) (w : World), xs.length ≤ c → Hid (RdSd w A xs) → Hid (ErrT w) → Calls Tryd.prog 26 #[.slice A xs.length c, .int .i64 d] w fun e w' => GivesI w w' e ys C) := by
  by_cases hch : chP xs
  · cases hd : dayB d with
    | false => exact ⟨[], 2, by simp, fun A c w hc X => sAllOn_1 A c xs d w X hc hch hd, fun A c w _ X E => iAllOn_1 A c xs d w X E hn hch hd⟩
    | true => exact ⟨_, 0, Nat.le_trans (whL_len _ _) hn, fun A c w hc X => sAllOn_2 A c _ xs d w X rfl (ch_len hch) hc hch hd, fun A c w _ X E => iAllOn_2 A c xs d w X E hn hch hd⟩
  · exact ⟨[], 1, by simp, fun A c w hc X => sAllOn_0 A c xs d w X hc hch, fun A c w _ X E => iAllOn_0 A c xs d w X E hn hch⟩
end Go.Proofs.YtadpoocafhddeaaDoor
namespace Go.Proofs.YtadpoocafhddeaaDoor
open Go.RowKit Go.Sort Go.Shelf

/-- The first k pairs from both ends have changed their places. -/
def RevTo (ys zs : List Int) (k : Nat) : Prop := zs.length = ys.length ∧ ∀ m, m < ys.length → zs[m]? = if m < k ∨ ys.length - k ≤ m then ys[ys.length - 1 - m]? else ys[m]?
theorem revTo_zero (ys : List Int) : RevTo ys ys 0 := ⟨rfl, fun m hm => by rw [if_neg (by omega)]⟩
theorem revTo_step {ys zs : List Int} {k : Nat} {p q : Int} (h : RevTo ys zs k) (hk : 2 * k + 1 < ys.length) (hp : zs[k]? = some p) (hq : zs[ys.length - 1 - k]? = some q) : RevTo ys ((zs.set k q).set (ys.length - 1 - k) p) (k + 1) := by
  obtain ⟨h1, h2⟩ := h
  have e1 := h2 k (by omega)
  have e2 := h2 (ys.length - 1 - k) (by omega)
  rw [if_neg (by omega), hp] at e1
  rw [if_neg (by omega), hq] at e2
  refine ⟨by simp [h1], fun m hm => ?_⟩
  rw [List.getElem?_set, List.getElem?_set]
  by_cases c1 : ys.length - 1 - k = m
  · rw [if_pos c1, if_pos (by simp; omega), if_pos (by omega), show ys.length - 1 - m = k by omega]
    exact e1
  · rw [if_neg c1]
    by_cases c2 : k = m
    · rw [if_pos c2, if_pos (by omega), if_pos (by omega), ← c2]
      exact e2
    · rw [if_neg c2, h2 m hm]
      by_cases c3 : m < k ∨ ys.length - k ≤ m
      · rw [if_pos c3, if_pos (by omega)]
      · rw [if_neg c3, if_neg (by omega)]
theorem revTo_done {ys zs : List Int} {k : Nat} (h : RevTo ys zs k) (hk : ys.length ≤ 2 * k + 1) (hk2 : 2 * k ≤ ys.length) : zs = ys.reverse := by
  obtain ⟨h1, h2⟩ := h
  apply List.ext_getElem?
  intro m
  by_cases hm : m < ys.length
  · rw [h2 m hm, List.getElem?_reverse hm]
    by_cases c : m < k ∨ ys.length - k ≤ m
    · rw [if_pos c]
    · rw [if_neg c, show ys.length - 1 - m = m by omega]
  · rw [List.getElem?_eq_none (by omega), List.getElem?_eq_none (by simp; omega)]
set_option maxRecDepth 20000 in
set_option maxHeartbeats 2000000 in
theorem iReverse_block (g c n : Nat) (ys : List Int) (rest : List Value) (w : World) (X : Hid (w.heap[g]? = some (.cells (intR ys rest) 2))) (hn : ys.length = n) (h64 : n ≤ 64) :
    Calls Tryd.prog 74 #[.slice (some ⟨g, 0, none⟩) n c] w fun e w' => e = .returned (.tuple #[]) ∧ w'.heap[g]? = some (.cells (intR ys.reverse rest) 2) ∧ Only g w w' := by
  have HN := hid hn
  clear hn
  go_enter Tryd.func74, Tryd.ntmps74
  go_wp2_with fail
  go_loopw [2, 3] (fun u v wr => ∃ (k : Nat) (zs : List Int), u = .int .i64 (k : Int) ∧ v = .int .i64 ((n : Int) - 1 - (k : Int)) ∧ 2 * k ≤ n ∧ RevTo ys zs k ∧ wr.heap[g]? = some (.cells (intR zs rest) 2) ∧ Only g w wr) (fun u _ _ => n - (intOf u).toNat)
  case atStart => exact ⟨0, ys, rfl, by simp, by omega, revTo_zero ys, X.out, Only.refl _ _⟩
  case round =>
    obtain ⟨k, zs, rfl, rfl, hk, hrv, x0, ho⟩ := hrel
    have HR := hid hrv; have X0 := hid x0; have HO := hid ho
    have ZL := hid (hrv.1.trans HN.out)
    clear hrv x0 ho
    by_cases hlt : 2 * k + 1 < n
    · obtain ⟨p, hp⟩ : ∃ p, zs[k]? = some p := ⟨zs[k]'(by rw [ZL.out]; omega), List.getElem?_eq_getElem _⟩
      obtain ⟨q, hq⟩ : ∃ q, zs[n - 1 - k]? = some q := ⟨zs[n - 1 - k]'(by rw [ZL.out]; omega), List.getElem?_eq_getElem _⟩
      obtain ⟨l, hl⟩ : ∃ l : Nat, l = n - 1 - k := ⟨_, rfl⟩
      rw [← hl] at hq
      have hle : (n : Int) - 1 - (k : Int) = (l : Int) := by omega
      have hkl : k < l := by omega
      have hln : l < n := by omega
      have hlk : l = ys.length - 1 - k := by rw [HN.out]; exact hl
      have STEP := hid (revTo_step HR.out (by rw [HN.out]; omega) hp (by rw [← hlk]; exact hq))
      rw [← hlk] at STEP
      have C1 := hid (intR_cell X0.out hp); have C2 := hid (intR_cell X0.out hq)
      have HP := hid hp; have HQ := hid hq
      have HLE := hid hle
      rw [hle]
      clear hp hq hl hlk hle
      have s1 := intR_store p (intR_store q X0.out (k := k) (by rw [ZL.out]; omega)) (k := l) (by rw [List.length_set, ZL.out]; omega)
      have S1 := hid s1
      have _ := C1.out; have _ := C2.out
      have f5 := fz X0.out
      clear s1
      go_wp2_with fail
      go_region
      have OO := hid ((HO.out.set k (.int .i64 q)).set l (.int .i64 p))
      have S3 := hid (show ((wr.setCell ⟨g, k, none⟩ (.int .i64 q)).setCell ⟨g, l, none⟩ (.int .i64 p)).drew.heap[g]? = _ from S1.out)
      have O3 : Hid (Only g w ((wr.setCell ⟨g, k, none⟩ (.int .i64 q)).setCell ⟨g, l, none⟩ (.int .i64 p)).drew) := hid ⟨fun j o hj ho => OO.out.1 j o hj ho, fun W0 h0 hs => (OO.out.2 W0 h0 hs).trans (Gr.drewN _ 1)⟩
      clear S1 OO
      go_wp2_with fail
      refine ⟨⟨k + 1, _, by simp, ?_, by omega, STEP.out, S3.out, O3.out⟩, by simp [intOf]; omega⟩
      have := HLE.out
      simp
      omega
    · have hke : n ≤ 2 * k + 1 := by omega
      have hz := revTo_done HR.out (by rw [HN.out]; exact hke) (by rw [HN.out]; exact hk)
      have hnl : ¬ (k : Int) < (n : Int) - 1 - (k : Int) := by omega
      rw [hz] at X0
      go_wp2_with fail
      go_end0
      exact ⟨rfl, X0.out, HO.out⟩
/-- The places from a standard up to the first one. -/
inductive UpR (xs : List Sdv) : Int → List Int → Prop where
  | nil : UpR xs (-1) []
  | cons {j : Nat} {y : Sdv} {L : List Int} : xs[j]? = some y → y.f < (j : Int) → UpR xs y.f L → UpR xs (j : Int) ((j : Int) :: L)
def upAt (L : List Int) (k : Nat) : Int := (L[k]?).getD (-1)
theorem upR_zero {xs : List Sdv} {i : Int} {L : List Int} (h : UpR xs i L) : upAt L 0 = i := by cases h <;> rfl
theorem upR_ge {xs : List Sdv} {i : Int} {L : List Int} (h : UpR xs i L) : -1 ≤ i := by cases h <;> omega
theorem upR_get {xs : List Sdv} {i : Int} {L : List Int} (h : UpR xs i L) : ∀ (k : Nat) (p : Int), L[k]? = some p → ∃ (j : Nat) (y : Sdv), p = (j : Int) ∧ xs[j]? = some y ∧ upAt L (k + 1) = y.f ∧ y.f < (j : Int) ∧ -1 ≤ y.f := by
  induction h with
  | nil => intro k p hp; simp at hp
  | cons hy hlt hu ih =>
    intro k p hp
    cases k with
    | zero =>
      cases hp
      exact ⟨_, _, rfl, hy, upR_zero hu, hlt, upR_ge hu⟩
    | succ k => exact ih k p hp
theorem upR_ex {xs : List Sdv} (h : chP xs) : ∀ (n j : Nat), j < n → j < xs.length → ∃ L, UpR xs (j : Int) L ∧ 0 < L.length ∧ L.length ≤ j + 1
  | 0, j, hj, _ => by omega
  | n + 1, j, hj, hl => by
    have hy : xs[j]? = some xs[j] := List.getElem?_eq_getElem _
    obtain ⟨_, _, _, h4⟩ := h j _ hy
    rcases h4 with h4 | ⟨k, z, h5, h6, _⟩
    · exact ⟨[(j : Int)], .cons hy (by omega) (by rw [h4]; exact .nil), by simp, by simp⟩
    · rw [List.getElem?_take] at h6
      split at h6
      · rename_i hkj
        obtain ⟨L, hL, h0, h1⟩ := upR_ex h n k (by omega) (by omega)
        exact ⟨(j : Int) :: L, .cons hy (by omega) (by rw [h5]; exact hL), by simp, by simp; omega⟩
      · cases h6
set_option maxRecDepth 100000 in
set_option maxHeartbeats 2000000 in
theorem up_hands (n : Nat) (hn : 1 ≤ n) (A : Option Addr) (nl c b bx bi : Nat) (xs : List Sdv) (i : Int) (L : List Int) (I : Nat → World → Prop) (w : World) (hxl : xs.length = nl) (hL : Hid (UpR xs i L))
    (hI : ∀ k W, I k W → W.heap[bi]? = some (.cells #[.int .i64 i] 2) ∧ W.heap[bx]? = some (.cells #[.slice A nl c, .map (some b)] 59) ∧ RdSd W A xs) :
    Hands Fence.wide n Tryd.prog 90 #[.pointer (some ⟨bi, 0, none⟩), .pointer (some ⟨bx, 0, none⟩)] (encI L) L.length I none w := by
  intro l J W1 _ hJg hJI hY h0
  have HY := hid hY; have HXL := hid hxl
  have HI := hid (fun k W h => hI k W (hJI k W h))
  clear hY hJg hJI hI hxl
  have hb0 := (HI.out 0 W1 h0).1
  have _ := cells1 hb0
  refine callsIn_of_wp Tryd.func90 rfl trivial ?_ rfl
  simp only [Tryd.ntmps90, List.size_toArray, List.length_cons, List.length_nil, Nat.reduceAdd, Nat.reduceSub, Array.replicate_succ, Array.replicate_zero, List.push_toArray, List.append_toArray, List.nil_append, List.cons_append]
  gi_wp2
  gi_loopw [4] (fun u wr => ∃ k : Nat, k ≤ L.length ∧ u = .int .i64 (upAt L k) ∧ J k wr) (fun u _ => (intOf u + 1).toNat)
  case atStart => exact ⟨0, Nat.zero_le _, by rw [upR_zero hL.out], h0⟩
  case round =>
    obtain ⟨k, hk, rfl, hJ⟩ := hrel
    by_cases hlt : k < L.length
    · obtain ⟨p, hp⟩ : ∃ p, L[k]? = some p := ⟨L[k], List.getElem?_eq_getElem _⟩
      obtain ⟨j, y, rfl, hy, hn1, hn2, hn3⟩ := upR_get hL.out k p hp
      have hat : upAt L k = (j : Int) := by unfold upAt; rw [hp]; rfl
      obtain ⟨fn, tmps, assign, body, hyd, hR⟩ := HY.out k wr hJ hlt
      rw [encI_at hp] at hyd
      have hne : ¬ (j : Int) = -1 := by omega
      have hjl : j < nl := by rw [← HXL.out]; exact (List.getElem?_eq_some_iff.1 hy).1
      have HY2 := hid hy; have HN := hid hn1
      clear hp hy hJ hn1
      rw [hat]
      gi_wp2
      refine hR.mono ?_
      rintro e W3 ⟨rfl, hJ3⟩
      obtain ⟨_, hbx, hr3⟩ := HI.out (k + 1) W3 hJ3
      obtain ⟨ad, rfl, cy⟩ := hr3 j y HY2.out
      obtain ⟨_, _⟩ := cells2 hbx
      have _ := cy.h1
      have HJ3 := hid hJ3
      clear hbx hr3 cy hJ3
      gi_wp2
      refine ⟨⟨k + 1, by omega, by rw [HN.out], HJ3.out⟩, by simp [intOf]; omega⟩
    · obtain rfl : k = L.length := by omega
      have hat : upAt L L.length = -1 := by unfold upAt; rw [List.getElem?_eq_none (Nat.le_refl _)]; rfl
      rw [hat]
      have HJ := hid hJ; clear hJ
      gi_wp2
      all_goals
        refine ⟨fun _ h => (by cases h), ?_⟩
        apply_assumption
        gi_wp2
        go_end0
        exact ⟨⟨_, rfl⟩, HJ.out⟩
set_option maxHeartbeats 400000 in
theorem iUp (A : Option Addr) (n c b : Nat) (i : Int) (w : World) :
    Calls Tryd.prog 73 #[idxV A n c b, .int .i64 i] w fun e w' => e = .returned (.func (.func 90) #[] #[.pointer (some ⟨w.heap.size + 1, 0, none⟩), .pointer (some ⟨w.heap.size, 0, none⟩)]) ∧ w'.heap[w.heap.size + 1]? = some (.cells #[.int .i64 i] 2) ∧ w'.heap[w.heap.size]? = some (.cells #[.slice A n c, .map (some b)] 59) ∧ Gr w w' := by
  go_enter Tryd.func73, Tryd.ntmps73
  go_wp2_with fail
  go_ret
  have h := alloc2 (Gr.refl ((w.alloc (.cells #[.slice A n c, .map (some b)] 59)).alloc (.cells #[.int .i64 i] 2)))
  exact ⟨rfl, h.2.1, h.1, h.2.2.2⟩
theorem iReverse (A : Option Addr) (c base : Nat) (ys : List Int) (w : World) (h0 : 0 < ys.length) (h64 : ys.length ≤ 64) (O : Hid (w.ownsRow base 2 1 (.slice A ys.length c) ys.length (ys.map (.int .i64 ·)))) :
    Calls Tryd.prog 74 #[.slice A ys.length c] w fun e w' => e = .returned (.tuple #[]) ∧ w'.ownsRow base 2 1 (.slice A ys.reverse.length c) ys.reverse.length (ys.reverse.map (.int .i64 ·)) ∧ ∃ g, base ≤ g ∧ Only g w w' := by
  obtain ⟨g, rest, rfl, hb, hg, hc, hl⟩ := own_open O.out h0
  refine (iReverse_block g c ys.length ys rest w (hid hg) rfl h64).mono ?_
  rintro e w' ⟨rfl, hx, ho⟩
  exact ⟨rfl, own_close hb hx hc (by rw [List.length_reverse]; exact hl), g, hb, ho⟩
set_option maxRecDepth 20000 in
set_option maxHeartbeats 1000000 in
theorem iPath (A : Option Addr) (n c b : Nat) (xs : List Sdv) (i : Int) (L : List Int) (w : World) (hl : L.length ≤ 64) (h0 : 0 < L.length) (hxl : xs.length = n) (hL : Hid (UpR xs i L)) (X : Hid (RdSd w A xs)) :
    Calls Tryd.prog 49 #[idxV A n c b, .int .i64 i] w fun e w' => (∃ A c, e = .returned (.slice A L.reverse.length c) ∧ w'.ownsRow w.heap.size 2 1 (.slice A L.reverse.length c) L.reverse.length (L.reverse.map (.int .i64 ·))) ∧ Gr w w' := by
  have HXL := hid hxl; clear hxl
  go_enter Tryd.func49, Tryd.ntmps49
  go_wp2_with fail
  refine (iUp A n c b i _).mono ?_
  rintro e w1 ⟨rfl, b1, b2, hg1⟩
  simp only [World.size_alloc] at b1 b2 ⊢
  have B1 := hid b1; have B2 := hid b2; have G1 := hid (((Gr.refl w).al _).trans hg1)
  clear b1 b2 hg1
  go_wp2_with fail
  refine (collectI 90 _ L w1 hl (fun _ _ => by kernel_rfl) fun I w2 hg2 hI => up_hands 4 (by omega) A n c b _ _ xs i L I w2 HXL.out hL fun k W h => ⟨(hI k W h).keep B1.out, (hI k W h).keep B2.out, X.out.keep (G1.out.trans (hI k W h))⟩).mono ?_
  rintro e w2 ⟨v, rfl, ho, hg2⟩
  obtain ⟨A2, c2, rfl⟩ := own_form ho
  have HO := hid (own_base ho (G1.out.size)); have G2 := hid (G1.out.trans hg2)
  clear ho hg2 B1 B2
  go_wp2_with fail
  refine (iReverse A2 c2 _ L _ h0 hl HO).mono ?_
  rintro e w3 ⟨rfl, ho, g, hb, on⟩
  have HO3 := hid ho; have G3 := hid (on.2 w G2.out hb)
  clear ho on HO
  go_wp2_with fail
  go_ret
  exact ⟨⟨A2, c2, by rw [List.length_reverse]; rfl, HO3.out⟩, G3.out⟩
set_option maxRecDepth 20000 in
set_option maxHeartbeats 1000000 in
theorem iPathTo1_no (B : Option Addr) (c' : Nat) (m : Option Nat) (s : Nat) (xs : List Sdv) (i : Int) (bi : Nat) (w : World) (hx : Hid (IdxR w B xs.length m xs)) (hi : w.heap[bi]? = some (.cells #[.int .i64 i] 2)) (h : hasB xs.length i = false) :
    Calls Tryd.prog 48 #[chnV B xs.length c' m s, .pointer (some ⟨bi, 0, none⟩)] w fun e w' => (∃ A c, e = .returned (.tuple #[.slice A 0 c, .iface 66 (.int .i64 2)]) ∧ w'.ownsRow w.heap.size 2 1 (.slice A 0 c) 0 []) ∧ Gr w w' := by
  obtain ⟨_, hr, b, rfl, hm⟩ := hx.out
  have H := hid h; have HI := hid hi
  clear h hi hr hm
  go_enter Tryd.func48, Tryd.ntmps48
  have _ := cells1 HI.out
  have _ := fz HI.out
  have _ := ltb HI.out
  go_wp2_with fail
  refine (iHas_is B xs.length c' b i false _ H.out).mono ?_
  rintro e w1 ⟨rfl, hg1⟩
  obtain ⟨x1_0, hz1, g1⟩ := alloc1 hg1
  have x1_1 := g1.keep HI.out
  obtain ⟨_, _, _⟩ := cells3 x1_0
  have _ := fz x1_0
  have _ := ltb x1_0
  have _ := cells1 x1_1
  have _ := fz x1_1
  have _ := ltb x1_1
  have X1_0 := hid x1_0; clear x1_0
  have X1_1 := hid x1_1; clear x1_1
  have G1 := hid (g1)
  clear hg1 g1
  go_wp2
  go_ret2
  exact ⟨⟨_, _, rfl, World.ownsRow_nil _ _ _ _⟩, G1.out⟩
set_option maxRecDepth 20000 in
set_option maxHeartbeats 1000000 in
theorem iPathTo1_yes (B : Option Addr) (c' : Nat) (m : Option Nat) (s : Nat) (xs : List Sdv) (i : Int) (L : List Int) (bi : Nat) (w : World) (hl : L.length ≤ 64) (h0 : 0 < L.length) (hL : Hid (UpR xs i L)) (hx : Hid (IdxR w B xs.length m xs)) (hi : w.heap[bi]? = some (.cells #[.int .i64 i] 2)) (h : hasB xs.length i = true) :
    Calls Tryd.prog 48 #[chnV B xs.length c' m s, .pointer (some ⟨bi, 0, none⟩)] w fun e w' => (∃ A c, e = .returned (.tuple #[.slice A L.reverse.length c, .nilIface]) ∧ w'.ownsRow w.heap.size 2 1 (.slice A L.reverse.length c) L.reverse.length (L.reverse.map (.int .i64 ·))) ∧ Gr w w' := by
  obtain ⟨_, hrd, b, rfl, hm⟩ := hx.out
  have H := hid h; have HI := hid hi; have HRD := hid hrd
  clear h hi hrd hm
  go_enter Tryd.func48, Tryd.ntmps48
  have _ := cells1 HI.out
  have _ := fz HI.out
  have _ := ltb HI.out
  go_wp2_with fail
  refine (iHas_is B xs.length c' b i true _ H.out).mono ?_
  rintro e w1 ⟨rfl, hg1⟩
  obtain ⟨x1_0, hz1, g1⟩ := alloc1 hg1
  have x1_1 := g1.keep HI.out
  obtain ⟨_, _, _⟩ := cells3 x1_0
  have _ := fz x1_0
  have _ := ltb x1_0
  have _ := cells1 x1_1
  have _ := fz x1_1
  have _ := ltb x1_1
  have X1_0 := hid x1_0; clear x1_0
  have X1_1 := hid x1_1; clear x1_1
  have G1 := hid (g1)
  clear hg1 g1
  go_wp2_with fail
  refine (iPath B xs.length c' b xs i L _ hl h0 rfl hL (hid (HRD.out.keep G1.out))).mono ?_
  rintro e w2 ⟨⟨A, c1, rfl, hR⟩, hg⟩
  have HR := hid (own_base hR G1.out.size); have G2 := hid (G1.out.trans hg)
  clear hR hg
  go_wp2_with fail
  go_ret2
  exact ⟨⟨A, c1, by rw [List.length_reverse]; rfl, HR.out⟩, G2.out⟩
set_option maxRecDepth 20000 in
set_option maxHeartbeats 1000000 in
theorem iPathTo_0 (A : Option Addr) (c : Nat) (xs : List Sdv) (i : Int) (w : World) (X : Hid (RdSd w A xs)) (E : Hid (ErrT w)) (hn : xs.length ≤ 1048576) (hch : ¬ chP xs) :
    Calls Tryd.prog 20 #[.slice A xs.length c, .int .i64 i] w fun e w' => GivesI w w' e [] 1 := by
  go_enter Tryd.func20, Tryd.ntmps20
  go_wp2_with fail
  refine (rc_asknoL1 48 _ A c xs _ (hid (X.out.keep ((Gr.refl w).al _))) (hid (E.out.keep ((Gr.refl w).al _))) hn hch).mono ?_
  rintro e w1 ⟨⟨A1, c1, rfl, hR⟩, hg⟩
  have G := hid (alloc1 hg).2.2; have HR := hid (own_base hR (show w.heap.size ≤ _ by simp)); clear hg hR
  go_wp2_with fail
  go_ret2
  exact ⟨A1, c1, rfl, HR.out, G.out⟩
set_option maxRecDepth 20000 in
set_option maxHeartbeats 1000000 in
theorem iPathTo_1 (A : Option Addr) (c : Nat) (xs : List Sdv) (i : Int) (w : World) (X : Hid (RdSd w A xs)) (E : Hid (ErrT w)) (hn : xs.length ≤ 1048576) (hch : chP xs) (h : hasB xs.length i = false) :
    Calls Tryd.prog 20 #[.slice A xs.length c, .int .i64 i] w fun e w' => GivesI w w' e [] 2 := by
  go_enter Tryd.func20, Tryd.ntmps20
  go_wp2_with fail
  refine (rc_askyesL1 48 _ 0 [] (.iface 66 (.int .i64 2)) 2 A c xs _ (hid (X.out.keep ((Gr.refl w).al _))) (hid (E.out.keep ((Gr.refl w).al _))) hn hch (.inr rfl) (fun _ _ => by kernel_rfl) (fun w' B c' m s hg hx => iPathTo1_no B c' m s xs i _ w' hx (alloc1 hg).1 h)).mono ?_
  rintro e w1 ⟨⟨A1, c1, rfl, hR⟩, hg⟩
  have G := hid (alloc1 hg).2.2; have HR := hid (own_base hR (show w.heap.size ≤ _ by simp)); clear hg hR
  go_wp2_with fail
  go_ret2
  exact ⟨A1, c1, rfl, HR.out, G.out⟩
set_option maxRecDepth 20000 in
set_option maxHeartbeats 1000000 in
theorem iPathTo_2 (A : Option Addr) (c : Nat) (xs : List Sdv) (i : Int) (L : List Int) (w : World) (X : Hid (RdSd w A xs)) (E : Hid (ErrT w)) (hn : xs.length ≤ 1048576) (hch : chP xs) (hl : L.length ≤ 64) (h0 : 0 < L.length) (hL : Hid (UpR xs i L)) (h : hasB xs.length i = true) :
    Calls Tryd.prog 20 #[.slice A xs.length c, .int .i64 i] w fun e w' => GivesI w w' e L.reverse 0 := by
  go_enter Tryd.func20, Tryd.ntmps20
  go_wp2_with fail
  refine (rc_askyesL1 48 _ L.reverse.length (L.reverse.map (.int .i64 ·)) .nilIface 0 A c xs _ (hid (X.out.keep ((Gr.refl w).al _))) (hid (E.out.keep ((Gr.refl w).al _))) hn hch (.inl ⟨rfl, rfl⟩) (fun _ _ => by kernel_rfl) (fun w' B c' m s hg hx => iPathTo1_yes B c' m s xs i L _ w' hl h0 hL hx (alloc1 hg).1 h)).mono ?_
  rintro e w1 ⟨⟨A1, c1, rfl, hR⟩, hg⟩
  have G := hid (alloc1 hg).2.2; have HR := hid (own_base hR (show w.heap.size ≤ _ by simp)); clear hg hR
  go_wp2_with fail
  go_ret2
  exact ⟨A1, c1, by rw [List.length_reverse]; rfl, HR.out, G.out⟩
/-! the reference -/
set_option maxRecDepth 20000 in
set_option maxHeartbeats 2000000 in
theorem sPath (A : Option Addr) (n c : Nat) (xs : List Sdv) (hxl : xs.length = n) (h30 : n ≤ 30) : ∀ (L : List Int) (i : Int) (w : World), UpR xs i L → L.length ≤ 64 → Hid (RdSd w A xs) →
    Calls Tryd.prog 46 #[.slice A n c, .int .i64 i] w fun e w' => (∃ A c, e = .returned (.slice A L.reverse.length c) ∧ w'.ownsRow w.heap.size 2 1 (.slice A L.reverse.length c) L.reverse.length (L.reverse.map (.int .i64 ·))) ∧ Gr w w'
  | [], i, w, hL, _, X => by
    cases hL
    go_enter Tryd.func46, Tryd.ntmps46
    go_wp2
    go_ret
    exact ⟨⟨_, _, rfl, own_made0 _ _ _ _ (Nat.le_refl _)⟩, (Gr.refl _).al _⟩
  | a :: L, i, w, hL, h64, X => by
    obtain ⟨i0, hi, hz0, hz1, hz2⟩ : ∃ i, Tryd.prog.info? 2 = some i ∧ i.zero = some (.int .i64 0) ∧ i.size = 1 ∧ i.bytes = 8 := ⟨_, rfl, rfl, rfl, rfl⟩
    cases hL with
    | @cons j y _ hy hlt hu =>
      have hlen : L.length ≤ 63 := by simp at h64; omega
      have IH := hid (fun w (X : Hid (RdSd w A xs)) => sPath A n c xs hxl h30 L y.f w hu (by omega) X)
      obtain ⟨ad, rfl, cy⟩ := X.out j y hy
      have hjn : j < n := by rw [← hxl]; exact (List.getElem?_eq_some_iff.1 hy).1
      have _ := cy.h1
      have HLR : Hid ((((j : Int) :: L).reverse).length = L.length + 1) := hid (by simp)
      clear cy hy hlt hu hxl h64
      go_enter Tryd.func46, Tryd.ntmps46
      go_wp2_with fail
      refine (IH.out _ (hid (X.out))).mono ?_
      rintro e w1 ⟨⟨A2, c2, rfl, hR⟩, hg⟩
      rw [List.length_reverse] at hR ⊢
      have OWN3 := hid (own_gr hR ((Gr.refl w1).al (.cells #[.int .i64 (j : Int)] 2)))
      have NEW := hid (one_news (alloc1 (Gr.refl (w1.alloc (.cells #[.int .i64 (j : Int)] 2)))).1)
      have G3 := hid (hg.al (.cells #[.int .i64 (j : Int)] 2))
      have hsz := G3.out.size
      clear hg hR
      go_wp2_with (refine wpList_append_gr rfl _ _ 35 rfl w.heap.size 2 i0 (.int .i64 0) 1 8 Tryd.underlying35 hi hz0 hz1 hz2 rfl (by decide) _ _ _ rfl OWN3.out ⟨w1.heap.size, 0, none⟩ 1 1 [.int .i64 (j : Int)] rfl rfl NEW.out (by simp [Value.oneCell']) (by decide) (by unfold maxLen; omega) (by omega) hsz ?_; intro v' w4 own4 _ _ hgr; obtain ⟨A3, c3, rfl⟩ := own_form own4; have OWN4 := hid own4; have G4 := hid (hgr _ G3.out (Nat.le_refl _)); clear own4 hgr OWN3 NEW hsz)
      go_ret
      rw [HLR.out]
      refine ⟨⟨A3, c3, rfl, ?_⟩, G4.out⟩
      have h := OWN4.out
      simpa using h
set_option maxRecDepth 20000 in
set_option maxHeartbeats 1000000 in
theorem sPathTo_no (A : Option Addr) (c : Nat) (xs : List Sdv) (i C : Int) (w : World) (h0 : C = 1 ∨ C = 2) (hS : Calls Tryd.prog 37 #[.slice A xs.length c, .int .i64 i, .int .i64 0] w fun e w' => e = .returned (.int .i64 C) ∧ Gr w w') :
    Calls Tryd.prog 19 #[.slice A xs.length c, .int .i64 i] w fun e w' => GivesI w w' e [] C := by
  have HS := hid hS; clear hS
  go_enter Tryd.func19, Tryd.ntmps19
  go_wp2_with fail
  refine HS.out.mono ?_
  rintro e w1 ⟨rfl, hg⟩
  have G := hid hg; clear hg
  rcases h0 with rfl | rfl
  all_goals
    go_wp2_with fail
    go_ret2
    exact ⟨_, _, rfl, own_made0 _ _ _ _ G.out.size, G.out.al _⟩
set_option maxRecDepth 20000 in
set_option maxHeartbeats 1000000 in
theorem sPathTo_yes (A : Option Addr) (c n : Nat) (xs : List Sdv) (i : Int) (L : List Int) (w : World) (hxl : xs.length = n) (h30 : n ≤ 30) (hl : L.length ≤ 64) (hL : Hid (UpR xs i L)) (X : Hid (RdSd w A xs)) (hS : Calls Tryd.prog 37 #[.slice A n c, .int .i64 i, .int .i64 0] w fun e w' => e = .returned (.int .i64 0) ∧ Gr w w') :
    Calls Tryd.prog 19 #[.slice A n c, .int .i64 i] w fun e w' => GivesI w w' e L.reverse 0 := by
  have HS := hid hS; clear hS
  have HXL := hid hxl; clear hxl
  go_enter Tryd.func19, Tryd.ntmps19
  go_wp2_with fail
  refine HS.out.mono ?_
  rintro e w1 ⟨rfl, hg⟩
  have G := hid hg; clear hg
  go_wp2_with fail
  refine (sPath A n c xs HXL.out h30 L i _ hL.out hl (hid (X.out.keep G.out))).mono ?_
  rintro e w2 ⟨⟨A2, c2, rfl, hR⟩, hg⟩
  have HR := hid (own_base hR G.out.size); have G2 := hid (G.out.trans hg)
  clear hR hg
  go_wp2_with fail
  go_ret2
  exact ⟨A2, c2, by rw [List.length_reverse]; rfl, HR.out, G2.out⟩
theorem bothPathTo (xs : List Sdv) (i : Int) (hn : xs.length ≤ 1048576) : ∃ (ys : List Int) (C : Int), ys.length ≤ 1048576 ∧
    (∀ (A : Option Addr) (c : Nat) (w : World), xs.length ≤ c → Hid (RdSd w A xs) → Calls Tryd.prog 19 #[.slice A xs.length c, .int .i64 i] w fun e w' => GivesI w w' e ys C) ∧
    (∀ (A : Option Addr) (c : Nat) (w : World), xs.length ≤ c → Hid (RdSd w A xs) → Hid (ErrT w) → Calls Tryd.prog 20 #[.slice A xs.length c, .int .i64 i] w fun e w' => GivesI w w' e ys C) := by
  by_cases hch : chP xs
  · cases hh : hasB xs.length i with
    | false => exact ⟨[], 2, by simp, fun A c w hc X => sPathTo_no A c xs i 2 w (.inr rfl) (chainAt1 A c xs i 0 w X hn hc hch hh), fun A c w _ X E => iPathTo_1 A c xs i w X E hn hch hh⟩
    | true =>
      have h8 := hh
      unfold hasB at h8
      simp only [Bool.and_eq_true, decide_eq_true_eq] at h8
      obtain ⟨k, rfl⟩ : ∃ k : Nat, i = (k : Int) := ⟨i.toNat, by omega⟩
      have hlt : k < xs.length := by omega
      have h30 := ch_len hch
      obtain ⟨L, hL, h0, h1⟩ := upR_ex hch (k + 1) k (by omega) hlt
      exact ⟨L.reverse, 0, by rw [List.length_reverse]; omega, fun A c w hc X => sPathTo_yes A c _ xs k L w rfl h30 (by omega) (hid hL) X (chainAt2 A c xs k 0 true 0 w X hn hc hch hh (by decide) (.inl ⟨rfl, rfl⟩)), fun A c w _ X E => iPathTo_2 A c xs k L w X E hn hch (by omega) h0 (hid hL) hh⟩
  · exact ⟨[], 1, by simp, fun A c w hc X => sPathTo_no A c xs i 1 w (.inl rfl) (chainAt0 A c xs i 0 w X hc hch), fun A c w _ X E => iPathTo_0 A c xs i w X E hn hch⟩
end Go.Proofs.YtadpoocafhddeaaDoor
