/- CHAINS: one more in an index, of the program. -/
import Derived.Test.YtadpoocafhddeaaDoorCi
namespace Go.Proofs.YtadpoocafhddeaaDoor
open Go.RowKit Go.Sort
/-! one more -/
theorem own_neSd {W : World} {base b n : Nat} {v : Value} {xs : List Value} {cs : Array Value} (h : W.ownsRow base 54 10 v n xs) (hb : W.heap[b]? = some (.cells cs 59)) : v.ownBlock ≠ some b := by
  rcases h.2 with ⟨rfl, _⟩ | ⟨g, cap, cur, rfl, _, h3, _⟩
  · simp [Value.ownBlock]
  · intro he
    have : g = b := by simpa [Value.ownBlock] using he
    subst this
    rw [h3] at hb
    cases hb
theorem own_neMSd {W : World} {base b n : Nat} {v : Value} {xs : List Value} {D : List ByteArray} (h : W.ownsRow base 54 10 v n xs) (hb : W.heap[b]? = some (mapN D)) : v.ownBlock ≠ some b := by
  rcases h.2 with ⟨rfl, _⟩ | ⟨g, cap, cur, rfl, _, h3, _⟩
  · simp [Value.ownBlock]
  · intro he
    have : g = b := by simpa [Value.ownBlock] using he
    subst this
    rw [h3] at hb
    cases hb
theorem own_otherSd {W W' : World} {base b n : Nat} {v : Value} {xs : List Value} (h : W.ownsRow base 54 10 v n xs) (hb : v.ownBlock ≠ some b) (hs : ∀ j, j ≠ b → W'.heap[j]? = W.heap[j]?) : W'.ownsRow base 54 10 v n xs := by
  refine ⟨h.1, ?_⟩
  rcases h.2 with h0 | ⟨g, cap, cur, h1, h2, h3, h4⟩
  · exact .inl h0
  · refine .inr ⟨g, cap, cur, h1, h2, ?_, h4⟩
    rw [hs g fun e => hb (by rw [h1, e]; rfl)]
    exact h3
/-- A new name is written into the map. -/
theorem ix_set {w0 w W : World} {bi bm base c : Nat} {A : Option Addr} {P : List Sdv} (h : Ix w0 w bi bm base A c P) (o : Obj) (hW : W = { w with heap := w.heap.setIfInBounds bm o }) :
    Gr w0 W ∧ W.heap[bi]? = some (.cells #[.slice A P.length c, .map (some bm)] 59) ∧ W.heap[bm]? = some o ∧ W.ownsRow base 54 10 (.slice A P.length c) P.length (flSd P) ∧ W.heap.size = w.heap.size ∧ ∀ j o', j ≠ bm → w.heap[j]? = some o' → W.heap[j]? = some o' := by
  obtain ⟨s1, s2⟩ := MapKept.heap_set (o' := o) h.xm
  have hne : bi ≠ bm := by
    rintro rfl
    have := h.xi
    rw [h.xm] at this
    cases this
  subst hW
  have hs : ∀ j, j ≠ bm → ({ w with heap := w.heap.setIfInBounds bm o } : World).heap[j]? = w.heap[j]? := fun j hj => s2 j hj
  refine ⟨h.g.heap rfl rfl rfl rfl (by simp) fun k hk => hs k (by have := h.hm; omega), (hs bi hne).trans h.xi, s1, own_otherSd h.own (own_neMSd h.own h.xm) hs, by simp, fun j o' hj ho => (hs j hj).trans ho⟩
theorem cSd_news {w : World} {b : Nat} {x : Sdv} {T : TypeId} (h : w.heap[b]? = some (.cells (cSd x).toArray T)) : ∀ (j : Nat) (u : Value), (cSd x)[j]? = some u → w.cell? ((⟨b, 0, none⟩ : Addr).add j) = some u := fun j u hj => by
  rw [add_at]
  simp [World.cell?, h, hj]
theorem ix_new {w0 w : World} {bi bm base c n : Nat} {A B : Option Addr} {cb : Nat} {P : List Sdv} {x : Sdv} (hi : w0.heap.size ≤ bi) (b0 : w0.heap.size ≤ base) (hm : w0.heap.size ≤ bm) (b1 : base ≤ w.heap.size) (hg : Gr w0 w) (hx : w.heap[bi]? = some (.cells #[.slice B n cb, .map (some bm)] 59)) (hm2 : w.heap[bm]? = some (mapN (nms P ++ [x.nm]))) (own : w.ownsRow base 54 10 (.slice A (P.length + 1) c) (P.length + 1) (flSd (P ++ [x]))) (hl : (P ++ [x]).length = P.length + 1) :
    Ix w0 (w.setCell ⟨bi, 0, none⟩ (.slice A (P.length + 1) c)) bi bm base A c (P ++ [x]) := by
  have hne : bm ≠ bi := by
    rintro rfl
    rw [hx] at hm2
    cases hm2
  have hs : ∀ j, j ≠ bi → (w.setCell ⟨bi, 0, none⟩ (.slice A (P.length + 1) c)).heap[j]? = w.heap[j]? := fun j hj => Below.heap_setCell _ _ _ _ hj
  refine ⟨hg.setCell hi _, b0, by simpa using b1, hi, hm, ?_, ?_, ?_⟩
  · rw [hl]
    have := Joins.block_setCell (i := 0) hx (.slice A (P.length + 1) c)
    simpa using this
  · rw [hs bm hne, nms_app]
    exact hm2
  · rw [hl]
    exact own_otherSd own (own_neSd own hx) hs
set_option maxRecDepth 20000 in
set_option maxHeartbeats 2000000 in
theorem iAdd_6 (w0 w : World) (bi bm base c : Nat) (A : Option Addr) (P : List Sdv) (x : Sdv) (X : Hid (Ix w0 w bi bm base A c P)) (h : P.length < 30) (hs : soundB x = true) (hk : x.nm ∉ nms P) (hf : x.f = -1) :
    Calls Tryd.prog 84 #[.pointer (some ⟨bi, 0, none⟩), vSd x] w fun e w' => e = .returned (.bool true) ∧ ∃ A' c', Ix w0 w' bi bm base A' c' (P ++ [x]) := by
  obtain ⟨i0, hi, iz0, iz1, iz2⟩ : ∃ i, Tryd.prog.info? 54 = some i ∧ i.zero = some (vSd zSd) ∧ i.size = 10 ∧ i.bytes = 88 := ⟨_, rfl, rfl, rfl, rfl⟩
  obtain ⟨nm, f, a, b, e, d, p, q, m, g⟩ := x
  simp only at hf hk
  subst hf
  obtain ⟨_, _⟩ := cells2 X.out.xi
  have _ := ltb X.out.xi
  have hp : ((P.length : Int) == 30) = false := by simpa using (show ¬ (P.length : Int) = 30 by omega)
  have HS := hid hs; have HK := hid hk; have HI := hid X.out.hi; have HB0 := hid X.out.b0; have HM := hid X.out.hm
  clear hs hk
  go_enter Tryd.func84, Tryd.ntmps84
  go_wp2_with fail
  refine (iSound_is _ true _ HS.out).mono ?_
  rintro e w1 ⟨rfl, hg1⟩
  obtain ⟨x1_0, hz1, g1⟩ := alloc1 hg1
  obtain ⟨_, _, _, _, _, _, _, _, _, _⟩ := cells10 x1_0
  have _ := fz x1_0
  have _ := ltb x1_0
  have X1_0 := hid x1_0; clear x1_0
  have G1 := hid (g1)
  clear hg1 g1
  have IX1 := hid (X.out.keep G1.out)
  have l1 := lookNo bm HK.out w1.drew (IX1.out.keep (Gr.drew _)).xm
  obtain ⟨_, _⟩ := cells2 IX1.out.xi
  have _ := ltb IX1.out.xi
  go_wp2_with fail
  go_region
  go_wp2_with fail
  refine wp_reg0 26 (by kernel_rfl) (by kernel_rfl) ?_
  apply Exists.intro
  refine ⟨fun wb hb => ?_, ?_⟩
  · simp only [headOps, List.contains, List.elem, reduceIte, Bool.false_eq_true]
    repeat (first | go_big_quiet_step (first | (fail)) | quiet_step (fail))
    exact wpQuiet_nil rfl
  intro w2 hg2
  have IX2 := hid (IX1.out.keep ((Gr.drew _).trans hg2)); have B2 := hid (((Gr.drew w1).trans hg2).keep X1_0.out)
  have hbi : w.heap.size ≠ bm := fun e => by have := ltb X.out.xm; omega
  have hbb : w.heap.size ≠ bi := fun e => by have := ltb X.out.xi; omega
  have IXD := hid (IX2.out.keep (Gr.drew _))
  have up := updN nm (nms P) bm w2.drew IXD.out.xm HK.out
  rw [nms_len] at up
  obtain ⟨W1, hW1⟩ : ∃ W1, W1 = ({ w2.drew with heap := w2.drew.heap.setIfInBounds bm (mapN (nms P ++ [nm])) } : World) := ⟨_, rfl⟩
  obtain ⟨gs, xs1, ms1, os1, zs1, ot1⟩ := ix_set IXD.out _ hW1
  rw [← hW1] at up
  have GS := hid gs; have XS1 := hid xs1; have MS1 := hid ms1; have OS1 := hid os1
  have BX1 := hid (ot1 _ _ hbi ((Gr.drew w2).keep B2.out))
  have hb1 := Nat.le_trans IXD.out.b1 (Nat.le_of_eq zs1.symm)
  have HB1 := hid hb1
  obtain ⟨_, _⟩ := cells2 IX2.out.xi
  have _ := ltb IX2.out.xi
  obtain ⟨_, _, _, _, _, _, _, _, _, _⟩ := cells10 B2.out
  clear hg2 gs xs1 ms1 os1 zs1 ot1 hW1 hb1
  go_wp2_with fail
  go_region
  obtain ⟨_, _⟩ := cells2 XS1.out
  have _ := ltb XS1.out
  obtain ⟨_, _, _, _, _, _, _, _, _, _⟩ := cells10 BX1.out
  have OWN4 := hid (own_gr (own_gr OS1.out (Gr.drew W1)) ((Gr.refl W1.drew).al (.cells #[.string nm, .int .i64 (-1), .int .i64 a, .int .i64 b, .int .i64 e, .int .i64 d, .int .i64 p, .int .i64 q, .int .i64 m, .int .i64 g] 54)))
  have NEW := hid (cSd_news (x := ⟨nm, (-1), a, b, e, d, p, q, m, g⟩) (w := W1.drew.alloc (.cells #[.string nm, .int .i64 (-1), .int .i64 a, .int .i64 b, .int .i64 e, .int .i64 d, .int .i64 p, .int .i64 q, .int .i64 m, .int .i64 g] 54)) (b := W1.heap.size) (T := 54) (alloc1 (w := W1.drew) (A := .cells #[.string nm, .int .i64 (-1), .int .i64 a, .int .i64 b, .int .i64 e, .int .i64 d, .int .i64 p, .int .i64 q, .int .i64 m, .int .i64 g] 54) (Gr.refl _)).1)
  have GA := hid ((GS.out.trans (Gr.drew W1)).al (.cells #[.string nm, .int .i64 (-1), .int .i64 a, .int .i64 b, .int .i64 e, .int .i64 d, .int .i64 p, .int .i64 q, .int .i64 m, .int .i64 g] 54))
  have YA := hid (((Gr.drew W1).al (.cells #[.string nm, .int .i64 (-1), .int .i64 a, .int .i64 b, .int .i64 e, .int .i64 d, .int .i64 p, .int .i64 q, .int .i64 m, .int .i64 g] 54)).keep XS1.out)
  have MA := hid (((Gr.drew W1).al (.cells #[.string nm, .int .i64 (-1), .int .i64 a, .int .i64 b, .int .i64 e, .int .i64 d, .int .i64 p, .int .i64 q, .int .i64 m, .int .i64 g] 54)).keep MS1.out)
  have hsz4 : base ≤ (W1.drew.alloc (.cells #[.string nm, .int .i64 (-1), .int .i64 a, .int .i64 b, .int .i64 e, .int .i64 d, .int .i64 p, .int .i64 q, .int .i64 m, .int .i64 g] 54)).heap.size := by have := HB1.out; simp; omega
  have hne := own_neSd OWN4.out YA.out
  have hnm := own_neMSd OWN4.out MA.out
  clear IX1 IX2 IXD l1 up B2 X G1
  go_wp2_with fail
  go_region_law (first
    | (refine (step_append_gr rfl (.tmp 74) (.tmp 76) 26 rfl base 54 i0 (vSd zSd) 10 88 Tryd.underlying26 hi iz0 iz1 iz2 rfl (by decide) _ P.length _ rfl OWN4.out ⟨W1.heap.size, 0, none⟩ 1 1 (cSd ⟨nm, -1, a, b, e, d, p, q, m, g⟩) rfl rfl NEW.out (cSd_one _) (by decide) (by unfold maxLen; omega) (by omega) hsz4 ?_); intro v' w5 own5 hgb _ hgr; obtain ⟨A2, c2, rfl⟩ := own_form own5; rw [flSd_app] at own5; have y5 := (hgb.block bi (ltb YA.out) (Ne.symm hne)).trans YA.out; have m5 := (hgb.block bm (ltb MA.out) (Ne.symm hnm)).trans MA.out; have OWN5 := hid own5; have Y5 := hid y5; have M5 := hid m5; have G5 := hid (hgr _ GA.out HB0.out); have SZ5 := hid (Nat.le_trans hsz4 hgb.size); obtain ⟨_, _⟩ := cells2 Y5.out; have _ := fz Y5.out; have _ := ltb Y5.out; clear own5 y5 m5 hgb hgr hne hnm hsz4))
  all_goals
    go_wp2_with fail
    go_ret
    refine ⟨rfl, A2, c2, ?_⟩
    exact ix_new HI.out HB0.out HM.out SZ5.out G5.out Y5.out M5.out OWN5.out (by simp)
set_option maxRecDepth 20000 in
set_option maxHeartbeats 2000000 in
theorem iAdd_7 (w0 w : World) (bi bm base c : Nat) (A : Option Addr) (P : List Sdv) (x y : Sdv) (k : Nat) (X : Hid (Ix w0 w bi bm base A c P)) (h : P.length < 30) (hs : soundB x = true) (hk : x.nm ∉ nms P) (hf : x.f = (k : Int)) (hh : hasB P.length (k : Int) = true) (hy : P[k]? = some y) (hys : soundB y = true) (hg : goodB y x.m = true) :
    Calls Tryd.prog 84 #[.pointer (some ⟨bi, 0, none⟩), vSd x] w fun e w' => e = .returned (.bool true) ∧ ∃ A' c', Ix w0 w' bi bm base A' c' (P ++ [x]) := by
  obtain ⟨i0, hi, iz0, iz1, iz2⟩ : ∃ i, Tryd.prog.info? 54 = some i ∧ i.zero = some (vSd zSd) ∧ i.size = 10 ∧ i.bytes = 88 := ⟨_, rfl, rfl, rfl, rfl⟩
  obtain ⟨nm, f, a, b, e, d, p, q, m, g⟩ := x
  simp only at hf hk hg
  subst hf
  obtain ⟨_, _⟩ := cells2 X.out.xi
  have _ := ltb X.out.xi
  have hp : ((P.length : Int) == 30) = false := by simpa using (show ¬ (P.length : Int) = 30 by omega)
  have hf1 : ((k : Int) == -1) = false := by simp
  have hkl : k < P.length := (List.getElem?_eq_some_iff.1 hy).1
  have HH := hid hh; have HYS := hid hys; have HG := hid hg; have HY := hid hy
  have HS := hid hs; have HK := hid hk; have HI := hid X.out.hi; have HB0 := hid X.out.b0; have HM := hid X.out.hm
  clear hs hk hh hys hg hy
  go_enter Tryd.func84, Tryd.ntmps84
  go_wp2_with fail
  refine (iSound_is _ true _ HS.out).mono ?_
  rintro e w1 ⟨rfl, hg1⟩
  obtain ⟨x1_0, hz1, g1⟩ := alloc1 hg1
  obtain ⟨_, _, _, _, _, _, _, _, _, _⟩ := cells10 x1_0
  have _ := fz x1_0
  have _ := ltb x1_0
  have X1_0 := hid x1_0; clear x1_0
  have G1 := hid (g1)
  clear hg1 g1
  have IX1 := hid (X.out.keep G1.out)
  have l1 := lookNo bm HK.out w1.drew (IX1.out.keep (Gr.drew _)).xm
  have XI := hid (IX1.out.keep (Gr.drew _)).xi
  obtain ⟨c0, c1, c2, c3, c4, c5, c6, c7, c8, c9⟩ := cells10 X1_0.out
  have C1 := hid c1; have C8 := hid c8
  obtain ⟨ad, rfl, cy⟩ := (IX1.out.keep (Gr.drew _)).rd k y HY.out
  have CY := hid cy
  obtain ⟨_, _⟩ := cells2 IX1.out.xi
  have _ := ltb IX1.out.xi
  clear cy
  go_wp2_with fail
  go_region
  go_wp2_with fail
  refine wp_reg0 26 (by kernel_rfl) (by kernel_rfl) ?_
  apply Exists.intro
  refine ⟨fun wb hb => ?_, ?_⟩
  · obtain ⟨_, _⟩ := hb.at2 XI.out
    have _ := hb.atF C1.out; have _ := hb.atF C8.out
    have _ := hb.atF CY.out.h0; have _ := hb.atF CY.out.h1; have _ := hb.atF CY.out.h2; have _ := hb.atF CY.out.h3; have _ := hb.atF CY.out.h4; have _ := hb.atF CY.out.h5; have _ := hb.atF CY.out.h6; have _ := hb.atF CY.out.h7; have _ := hb.atF CY.out.h8; have _ := hb.atF CY.out.h9
    simp only [headOps, List.contains, List.elem, reduceIte, Bool.false_eq_true]
    repeat (first | go_big_quiet_step (first | (go_at_call 41; exact Calls.of_gr (iHas_is _ P.length c bm (k : Int) true _ HH.out)) | (go_at_call 43; exact Calls.of_gr (iGoodOn_is y m true _ HYS.out HG.out))) | quiet_step (fail))
    exact wpQuiet_nil rfl
  intro w2 hg2
  have IX2 := hid (IX1.out.keep ((Gr.drew _).trans hg2)); have B2 := hid (((Gr.drew w1).trans hg2).keep X1_0.out)
  have hbi : w.heap.size ≠ bm := fun e => by have := ltb X.out.xm; omega
  have hbb : w.heap.size ≠ bi := fun e => by have := ltb X.out.xi; omega
  have IXD := hid (IX2.out.keep (Gr.drew _))
  have up := updN nm (nms P) bm w2.drew IXD.out.xm HK.out
  rw [nms_len] at up
  obtain ⟨W1, hW1⟩ : ∃ W1, W1 = ({ w2.drew with heap := w2.drew.heap.setIfInBounds bm (mapN (nms P ++ [nm])) } : World) := ⟨_, rfl⟩
  obtain ⟨gs, xs1, ms1, os1, zs1, ot1⟩ := ix_set IXD.out _ hW1
  rw [← hW1] at up
  have GS := hid gs; have XS1 := hid xs1; have MS1 := hid ms1; have OS1 := hid os1
  have BX1 := hid (ot1 _ _ hbi ((Gr.drew w2).keep B2.out))
  have hb1 := Nat.le_trans IXD.out.b1 (Nat.le_of_eq zs1.symm)
  have HB1 := hid hb1
  obtain ⟨_, _⟩ := cells2 IX2.out.xi
  have _ := ltb IX2.out.xi
  obtain ⟨_, _, _, _, _, _, _, _, _, _⟩ := cells10 B2.out
  clear hg2 gs xs1 ms1 os1 zs1 ot1 hW1 hb1
  go_wp2_with fail
  go_region
  obtain ⟨_, _⟩ := cells2 XS1.out
  have _ := ltb XS1.out
  obtain ⟨_, _, _, _, _, _, _, _, _, _⟩ := cells10 BX1.out
  have OWN4 := hid (own_gr (own_gr OS1.out (Gr.drew W1)) ((Gr.refl W1.drew).al (.cells #[.string nm, .int .i64 (k : Int), .int .i64 a, .int .i64 b, .int .i64 e, .int .i64 d, .int .i64 p, .int .i64 q, .int .i64 m, .int .i64 g] 54)))
  have NEW := hid (cSd_news (x := ⟨nm, (k : Int), a, b, e, d, p, q, m, g⟩) (w := W1.drew.alloc (.cells #[.string nm, .int .i64 (k : Int), .int .i64 a, .int .i64 b, .int .i64 e, .int .i64 d, .int .i64 p, .int .i64 q, .int .i64 m, .int .i64 g] 54)) (b := W1.heap.size) (T := 54) (alloc1 (w := W1.drew) (A := .cells #[.string nm, .int .i64 (k : Int), .int .i64 a, .int .i64 b, .int .i64 e, .int .i64 d, .int .i64 p, .int .i64 q, .int .i64 m, .int .i64 g] 54) (Gr.refl _)).1)
  have GA := hid ((GS.out.trans (Gr.drew W1)).al (.cells #[.string nm, .int .i64 (k : Int), .int .i64 a, .int .i64 b, .int .i64 e, .int .i64 d, .int .i64 p, .int .i64 q, .int .i64 m, .int .i64 g] 54))
  have YA := hid (((Gr.drew W1).al (.cells #[.string nm, .int .i64 (k : Int), .int .i64 a, .int .i64 b, .int .i64 e, .int .i64 d, .int .i64 p, .int .i64 q, .int .i64 m, .int .i64 g] 54)).keep XS1.out)
  have MA := hid (((Gr.drew W1).al (.cells #[.string nm, .int .i64 (k : Int), .int .i64 a, .int .i64 b, .int .i64 e, .int .i64 d, .int .i64 p, .int .i64 q, .int .i64 m, .int .i64 g] 54)).keep MS1.out)
  have hsz4 : base ≤ (W1.drew.alloc (.cells #[.string nm, .int .i64 (k : Int), .int .i64 a, .int .i64 b, .int .i64 e, .int .i64 d, .int .i64 p, .int .i64 q, .int .i64 m, .int .i64 g] 54)).heap.size := by have := HB1.out; simp; omega
  have hne := own_neSd OWN4.out YA.out
  have hnm := own_neMSd OWN4.out MA.out
  clear IX1 IX2 IXD l1 up B2 X G1
  go_wp2_with fail
  go_region_law (first
    | (refine (step_append_gr rfl (.tmp 74) (.tmp 76) 26 rfl base 54 i0 (vSd zSd) 10 88 Tryd.underlying26 hi iz0 iz1 iz2 rfl (by decide) _ P.length _ rfl OWN4.out ⟨W1.heap.size, 0, none⟩ 1 1 (cSd ⟨nm, (k : Int), a, b, e, d, p, q, m, g⟩) rfl rfl NEW.out (cSd_one _) (by decide) (by unfold maxLen; omega) (by omega) hsz4 ?_); intro v' w5 own5 hgb _ hgr; obtain ⟨A2, c2, rfl⟩ := own_form own5; rw [flSd_app] at own5; have y5 := (hgb.block bi (ltb YA.out) (Ne.symm hne)).trans YA.out; have m5 := (hgb.block bm (ltb MA.out) (Ne.symm hnm)).trans MA.out; have OWN5 := hid own5; have Y5 := hid y5; have M5 := hid m5; have G5 := hid (hgr _ GA.out HB0.out); have SZ5 := hid (Nat.le_trans hsz4 hgb.size); obtain ⟨_, _⟩ := cells2 Y5.out; have _ := fz Y5.out; have _ := ltb Y5.out; clear own5 y5 m5 hgb hgr hne hnm hsz4))
  all_goals
    go_wp2_with fail
    go_ret
    refine ⟨rfl, A2, c2, ?_⟩
    exact ix_new HI.out HB0.out HM.out SZ5.out G5.out Y5.out M5.out OWN5.out (by simp)
end Go.Proofs.YtadpoocafhddeaaDoor
