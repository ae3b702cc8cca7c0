/- BENCHES: ValidBench of the reference, of both sides. -/
import Derived.Test.YtflfjedimcbfeaaBf
import Derived.Test.YtflfjedimcbfeaaBs
import Derived.Laws.StructEq
namespace Go.Proofs.Ytflfjedimcbfeaa
open Go.RowKit Go.Sort

theorem eqlTg (a b : ByteArray) (r : Bool) (h : (a == b) = r) : (a.toList == b.toList) = r := by
  rw [← beq_toListBytes]
  exact h
theorem tgB_within (x : Tgv) : tgB x = (nmB x.nm 12 && (withinB x.p x.q 100000 && grB x.a x.b)) := by
  unfold tgB withinB lenB
  cases nmB x.nm 12 <;> cases okB x.p x.q <;> simp [Bool.and_assoc]
theorem sWithin_is (a b : Int) (r : Bool) (w : World) (h : withinB a b 100000 = r) : Calls Try.prog 71 #[fr a b, .int .i64 100000] w fun e w' => e = .returned (.bool r) ∧ Gr w w' := h ▸ swithin a b 100000 w (by decide)
theorem sName7_is (s : ByteArray) (r : Bool) (w : World) (hs : s.size ≤ 9223372036854775807) (h : nmB s 12 = r) : Calls Try.prog 70 #[.string s] w fun e w' => e = .returned (.bool r) ∧ Gr w w' := h ▸ sName7 s w hs
theorem known_take {ts : List Tgv} {k : Nat} {y : Tgv} (s : ByteArray) (h : ts[k]? = some y) : knownB (tnm (ts.take (k + 1))) s = (knownB (tnm (ts.take k)) s || s == y.nm) := by
  unfold knownB tnm
  rw [List.take_add_one, h]
  simp
theorem known_mono {ts : List Tgv} {k i : Nat} {s : ByteArray} (hki : k ≤ i) (h : knownB (tnm (ts.take k)) s = true) : knownB (tnm (ts.take i)) s = true := by
  rw [known_iff] at h ⊢
  unfold tnm at h ⊢
  rw [List.mem_map] at h ⊢
  obtain ⟨y, hy, he⟩ := h
  exact ⟨y, List.mem_of_mem_take (i := k) (by rw [List.take_take, Nat.min_eq_left hki]; exact hy), he⟩
set_option maxRecDepth 20000 in
set_option maxHeartbeats 4000000 in
theorem sVB (a b : Int) (A : Option Addr) (c j : Nat) (xs : List (Int × Int)) (N : Int) (kb : Bool) (u v : Int) (g d : Nat) (ts : List Tgv) (r : Bool) (w : World) (XJ : Hid (w.heap[j]? = some (.cells (bncA a b A xs.length c N kb u v (some ⟨g, 0, none⟩) ts.length d) 41))) (X : Hid (RdF w A xs)) (T : Hid (RdTg w (some ⟨g, 0, none⟩) ts)) (hn : xs.length ≤ 1048576) (hm : ts.length ≤ 1048576) (hz : ∀ x ∈ ts, x.nm.size ≤ 9223372036854775807) (hr : benB a b xs N u v ts = r) :
    Calls Try.prog 34 #[.pointer (some ⟨j, 0, none⟩)] w fun e w' => e = .returned (.bool r) ∧ Gr w w' := by
  have HZ := hid hz; clear hz
  unfold benB at hr
  cases h1 : sclB a b xs with
  | false =>
    obtain rfl : r = false := by rw [← hr, h1]; simp
    have HS := hid fun (w : World) (XJ : Hid (w.heap[j]? = some (.cells (bncA a b A xs.length c N kb u v (some ⟨g, 0, none⟩) ts.length d) 41))) (X : Hid (RdF w A xs)) => h1 ▸ sScOk8 (.int .i64 N) (.bool kb) (.int .i64 u) (.int .i64 v) (.slice (some ⟨g, 0, none⟩) ts.length d) a b A c j xs w XJ X hn
    clear h1 hr
    go_enter Try.func34, Try.ntmps34
    obtain ⟨_, _, _, _, _, _, _, _⟩ := cells8 XJ.out
    have _ := fz XJ.out
    have _ := ltb XJ.out
    go_wp2_with fail
    refine (HS.out _ XJ X).mono ?_
    rintro e w1 ⟨rfl, hg1⟩
    have x1_1 := hg1.keep XJ.out
    obtain ⟨_, _, _, _, _, _, _, _⟩ := cells8 x1_1
    have _ := fz x1_1
    have _ := ltb x1_1
    have X1_1 := hid x1_1; clear x1_1
    have G1 := hid (hg1)
    clear hg1
    go_wp2_with fail
    go_ret
    exact ⟨rfl, G1.out⟩
  | true =>
  have HS := hid fun (w : World) (XJ : Hid (w.heap[j]? = some (.cells (bncA a b A xs.length c N kb u v (some ⟨g, 0, none⟩) ts.length d) 41))) (X : Hid (RdF w A xs)) => h1 ▸ sScOk8 (.int .i64 N) (.bool kb) (.int .i64 u) (.int .i64 v) (.slice (some ⟨g, 0, none⟩) ts.length d) a b A c j xs w XJ X hn
  cases h2 : inB N 2 40 with
  | false =>
    obtain rfl : r = false := by rw [← hr, h2]; simp
    have HV := hid fun (w : World) (XJ : Hid (w.heap[j]? = some (.cells (bncA a b A xs.length c N kb u v (some ⟨g, 0, none⟩) ts.length d) 41))) => h2 ▸ sVernAt8 (.int .i64 a) (.int .i64 b) (.slice A xs.length c) (.int .i64 u) (.int .i64 v) (.slice (some ⟨g, 0, none⟩) ts.length d) N kb w j XJ
    clear h1 h2 hr
    go_enter Try.func34, Try.ntmps34
    obtain ⟨_, _, _, _, _, _, _, _⟩ := cells8 XJ.out
    have _ := fz XJ.out
    have _ := ltb XJ.out
    go_wp2_with fail
    refine (HS.out _ XJ X).mono ?_
    rintro e w1 ⟨rfl, hg1⟩
    have x1_1 := hg1.keep XJ.out
    obtain ⟨_, _, _, _, _, _, _, _⟩ := cells8 x1_1
    have _ := fz x1_1
    have _ := ltb x1_1
    have X1_1 := hid x1_1; clear x1_1
    have G1 := hid (hg1)
    clear hg1
    go_wp2_with fail
    refine (HV.out _ X1_1).mono ?_
    rintro e w2 ⟨rfl, hg2⟩
    have x2_1 := hg2.keep X1_1.out
    obtain ⟨_, _, _, _, _, _, _, _⟩ := cells8 x2_1
    have _ := fz x2_1
    have _ := ltb x2_1
    have X2_1 := hid x2_1; clear x2_1
    have G2 := hid (G1.out.trans hg2)
    clear hg2
    go_wp2_with fail
    go_ret
    exact ⟨rfl, G2.out⟩
  | true =>
  have HV := hid fun (w : World) (XJ : Hid (w.heap[j]? = some (.cells (bncA a b A xs.length c N kb u v (some ⟨g, 0, none⟩) ts.length d) 41))) => h2 ▸ sVernAt8 (.int .i64 a) (.int .i64 b) (.slice A xs.length c) (.int .i64 u) (.int .i64 v) (.slice (some ⟨g, 0, none⟩) ts.length d) N kb w j XJ
  cases h3 : grB u v with
  | false =>
    obtain rfl : r = false := by rw [← hr, h3]; simp
    have H3 := hid h3; clear h1 h2 h3 hr
    go_enter Try.func34, Try.ntmps34
    obtain ⟨_, _, _, _, _, _, _, _⟩ := cells8 XJ.out
    have _ := fz XJ.out
    have _ := ltb XJ.out
    go_wp2_with fail
    refine (HS.out _ XJ X).mono ?_
    rintro e w1 ⟨rfl, hg1⟩
    have x1_1 := hg1.keep XJ.out
    obtain ⟨_, _, _, _, _, _, _, _⟩ := cells8 x1_1
    have _ := fz x1_1
    have _ := ltb x1_1
    have X1_1 := hid x1_1; clear x1_1
    have G1 := hid (hg1)
    clear hg1
    go_wp2_with fail
    refine (HV.out _ X1_1).mono ?_
    rintro e w2 ⟨rfl, hg2⟩
    have x2_1 := hg2.keep X1_1.out
    obtain ⟨_, _, _, _, _, _, _, _⟩ := cells8 x2_1
    have _ := fz x2_1
    have _ := ltb x2_1
    have X2_1 := hid x2_1; clear x2_1
    have G2 := hid (G1.out.trans hg2)
    clear hg2
    go_wp2_with fail
    refine (sGrows_is u v false _ H3.out).mono ?_
    rintro e w3 ⟨rfl, hg3⟩
    have x3_1 := hg3.keep X2_1.out
    obtain ⟨_, _, _, _, _, _, _, _⟩ := cells8 x3_1
    have _ := fz x3_1
    have _ := ltb x3_1
    have X3_1 := hid x3_1; clear x3_1
    have G3 := hid (G2.out.trans hg3)
    clear hg3
    go_wp2_with fail
    go_ret
    exact ⟨rfl, G3.out⟩
  | true =>
  by_cases h4 : ts.length ≤ 10
  · have h4' : (ts.length : Int) ≤ 10 := by omega
    rw [h1, h2, h3, decide_eq_true h4] at hr
    simp only [Bool.true_and] at hr
    have H3 := hid h3; have HR := hid hr; clear h1 h2 h3 hr
    go_enter Try.func34, Try.ntmps34
    obtain ⟨_, _, _, _, _, _, _, _⟩ := cells8 XJ.out
    have _ := fz XJ.out
    have _ := ltb XJ.out
    go_wp2_with fail
    refine (HS.out _ XJ X).mono ?_
    rintro e w1 ⟨rfl, hg1⟩
    have x1_1 := hg1.keep XJ.out
    obtain ⟨_, _, _, _, _, _, _, _⟩ := cells8 x1_1
    have _ := fz x1_1
    have _ := ltb x1_1
    have X1_1 := hid x1_1; clear x1_1
    have G1 := hid (hg1)
    clear hg1
    go_wp2_with fail
    refine (HV.out _ X1_1).mono ?_
    rintro e w2 ⟨rfl, hg2⟩
    have x2_1 := hg2.keep X1_1.out
    obtain ⟨_, _, _, _, _, _, _, _⟩ := cells8 x2_1
    have _ := fz x2_1
    have _ := ltb x2_1
    have X2_1 := hid x2_1; clear x2_1
    have G2 := hid (G1.out.trans hg2)
    clear hg2
    go_wp2_with fail
    refine (sGrows_is u v true _ H3.out).mono ?_
    rintro e w3 ⟨rfl, hg3⟩
    have x3_1 := hg3.keep X2_1.out
    obtain ⟨_, _, _, _, _, _, _, _⟩ := cells8 x3_1
    have _ := fz x3_1
    have _ := ltb x3_1
    have X3_1 := hid x3_1; clear x3_1
    have G3 := hid (G2.out.trans hg3)
    clear hg3
    go_wp2_with fail
    go_loopw [3] (fun U wr => ∃ (k : Nat), U = .int .i64 (k : Int) ∧ k ≤ ts.length ∧ Gr w3 wr ∧ tgG (tnm (ts.take k)) (ts.drop k) = r) (fun U _ => ts.length - (intOf U).toNat)
    case atStart => exact ⟨0, rfl, by omega, Gr.refl _, HR.out⟩
    case round =>
      obtain ⟨i, rfl, hi, g0, hs⟩ := hrel
      have GW := hid g0; have HS := hid hs; have GV := hid (G3.out.trans g0)
      have Y3 := hid (g0.keep X3_1.out)
      clear g0 hs
      by_cases hlt : i < ts.length
      · obtain ⟨x, hx⟩ : ∃ x, ts[i]? = some x := ⟨ts[i], List.getElem?_eq_getElem _⟩
        obtain ⟨ad, e0, hcel⟩ := (T.out.keep GV.out) i x hx
        cases e0
        rw [add_at] at hcel
        have HCEL := hid hcel
        have hzx := HZ.out x (List.mem_of_getElem? hx)
        have hst := HS.out
        rw [tgG_drop hx, tgB_within] at hst
        have HST := hid hst; have HX := hid hx; have HZX := hid hzx
        clear hst hx hcel hzx
        cases hb1 : nmB x.nm 12 with
        | false =>
          obtain rfl : r = false := by rw [← HST.out, hb1]; simp
          have HB1 := hid hb1; clear hb1
          obtain ⟨_, _, _, _, _⟩ := HCEL.out.blk
          obtain ⟨_, _, _, _, _, _, _, _⟩ := cells8 Y3.out
          have _ := fz Y3.out
          have _ := ltb Y3.out
          go_wp2_with fail
          refine (sName7_is x.nm false _ HZX.out HB1.out).mono ?_
          rintro e w6 ⟨rfl, hg6⟩
          have x6_1 := hg6.keep Y3.out
          obtain ⟨_, _, _, _, _, _, _, _⟩ := cells8 x6_1
          have _ := fz x6_1
          have _ := ltb x6_1
          have X6_1 := hid x6_1; clear x6_1
          have G6 := hid (GW.out.trans hg6)
          clear hg6
          go_wp2_with fail
          go_ret
          exact ⟨rfl, G3.out.trans G6.out⟩
        | true =>
        cases hb2 : withinB x.p x.q 100000 with
        | false =>
          obtain rfl : r = false := by rw [← HST.out, hb2]; simp
          have HB1 := hid hb1; have HB2 := hid hb2; clear hb1 hb2
          obtain ⟨_, _, _, _, _⟩ := HCEL.out.blk
          obtain ⟨_, _, _, _, _, _, _, _⟩ := cells8 Y3.out
          have _ := fz Y3.out
          have _ := ltb Y3.out
          go_wp2_with fail
          refine (sName7_is x.nm true _ HZX.out HB1.out).mono ?_
          rintro e w6 ⟨rfl, hg6⟩
          have x6_1 := hg6.keep Y3.out
          obtain ⟨_, _, _, _, _, _, _, _⟩ := cells8 x6_1
          have _ := fz x6_1
          have _ := ltb x6_1
          have X6_1 := hid x6_1; clear x6_1
          have G6 := hid (GW.out.trans hg6)
          clear hg6
          obtain ⟨ad6, e6, hc6⟩ := (T.out.keep (G3.out.trans G6.out)) i x HX.out
          cases e6
          rw [add_at] at hc6
          obtain ⟨_, _, _, _, _⟩ := hc6.blk
          clear hc6
          go_wp2_with fail
          refine (sWithin_is x.p x.q false _ HB2.out).mono ?_
          rintro e w7 ⟨rfl, hg7⟩
          have x7_1 := hg7.keep X6_1.out
          obtain ⟨_, _, _, _, _, _, _, _⟩ := cells8 x7_1
          have _ := fz x7_1
          have _ := ltb x7_1
          have X7_1 := hid x7_1; clear x7_1
          have G7 := hid (G6.out.trans hg7)
          clear hg7
          go_wp2_with fail
          go_ret
          exact ⟨rfl, G3.out.trans G7.out⟩
        | true =>
        cases hb3 : grB x.a x.b with
        | false =>
          obtain rfl : r = false := by rw [← HST.out, hb3]; simp
          have HB1 := hid hb1; have HB2 := hid hb2; have HB3 := hid hb3; clear hb1 hb2 hb3
          obtain ⟨_, _, _, _, _⟩ := HCEL.out.blk
          obtain ⟨_, _, _, _, _, _, _, _⟩ := cells8 Y3.out
          have _ := fz Y3.out
          have _ := ltb Y3.out
          go_wp2_with fail
          refine (sName7_is x.nm true _ HZX.out HB1.out).mono ?_
          rintro e w6 ⟨rfl, hg6⟩
          have x6_1 := hg6.keep Y3.out
          obtain ⟨_, _, _, _, _, _, _, _⟩ := cells8 x6_1
          have _ := fz x6_1
          have _ := ltb x6_1
          have X6_1 := hid x6_1; clear x6_1
          have G6 := hid (GW.out.trans hg6)
          clear hg6
          obtain ⟨ad6, e6, hc6⟩ := (T.out.keep (G3.out.trans G6.out)) i x HX.out
          cases e6
          rw [add_at] at hc6
          obtain ⟨_, _, _, _, _⟩ := hc6.blk
          clear hc6
          go_wp2_with fail
          refine (sWithin_is x.p x.q true _ HB2.out).mono ?_
          rintro e w7 ⟨rfl, hg7⟩
          have x7_1 := hg7.keep X6_1.out
          obtain ⟨_, _, _, _, _, _, _, _⟩ := cells8 x7_1
          have _ := fz x7_1
          have _ := ltb x7_1
          have X7_1 := hid x7_1; clear x7_1
          have G7 := hid (G6.out.trans hg7)
          clear hg7
          obtain ⟨ad7, e7, hc7⟩ := (T.out.keep (G3.out.trans G7.out)) i x HX.out
          cases e7
          rw [add_at] at hc7
          obtain ⟨_, _, _, _, _⟩ := hc7.blk
          clear hc7
          go_wp2_with fail
          refine (sGrows_is x.a x.b false _ HB3.out).mono ?_
          rintro e w8 ⟨rfl, hg8⟩
          have x8_1 := hg8.keep X7_1.out
          obtain ⟨_, _, _, _, _, _, _, _⟩ := cells8 x8_1
          have _ := fz x8_1
          have _ := ltb x8_1
          have X8_1 := hid x8_1; clear x8_1
          have G8 := hid (G7.out.trans hg8)
          clear hg8
          go_wp2_with fail
          go_ret
          exact ⟨rfl, G3.out.trans G8.out⟩
        | true =>
          have hst := HST.out
          rw [hb1, hb2, hb3] at hst
          simp only [Bool.true_and] at hst
          have HST2 := hid hst
          have HB1 := hid hb1; have HB2 := hid hb2; have HB3 := hid hb3; clear hb1 hb2 hb3 hst
          obtain ⟨_, _, _, _, _⟩ := HCEL.out.blk
          obtain ⟨_, _, _, _, _, _, _, _⟩ := cells8 Y3.out
          have _ := fz Y3.out
          have _ := ltb Y3.out
          go_wp2_with fail
          refine (sName7_is x.nm true _ HZX.out HB1.out).mono ?_
          rintro e w6 ⟨rfl, hg6⟩
          have x6_1 := hg6.keep Y3.out
          obtain ⟨_, _, _, _, _, _, _, _⟩ := cells8 x6_1
          have _ := fz x6_1
          have _ := ltb x6_1
          have X6_1 := hid x6_1; clear x6_1
          have G6 := hid (GW.out.trans hg6)
          clear hg6
          obtain ⟨ad6, e6, hc6⟩ := (T.out.keep (G3.out.trans G6.out)) i x HX.out
          cases e6
          rw [add_at] at hc6
          obtain ⟨_, _, _, _, _⟩ := hc6.blk
          clear hc6
          go_wp2_with fail
          refine (sWithin_is x.p x.q true _ HB2.out).mono ?_
          rintro e w7 ⟨rfl, hg7⟩
          have x7_1 := hg7.keep X6_1.out
          obtain ⟨_, _, _, _, _, _, _, _⟩ := cells8 x7_1
          have _ := fz x7_1
          have _ := ltb x7_1
          have X7_1 := hid x7_1; clear x7_1
          have G7 := hid (G6.out.trans hg7)
          clear hg7
          obtain ⟨ad7, e7, hc7⟩ := (T.out.keep (G3.out.trans G7.out)) i x HX.out
          cases e7
          rw [add_at] at hc7
          obtain ⟨_, _, _, _, _⟩ := hc7.blk
          clear hc7
          go_wp2_with fail
          refine (sGrows_is x.a x.b true _ HB3.out).mono ?_
          rintro e w8 ⟨rfl, hg8⟩
          have x8_1 := hg8.keep X7_1.out
          obtain ⟨_, _, _, _, _, _, _, _⟩ := cells8 x8_1
          have _ := fz x8_1
          have _ := ltb x8_1
          have X8_1 := hid x8_1; clear x8_1
          have G8 := hid (G7.out.trans hg8)
          clear hg8
          go_wp2_with fail
          go_loopw [5] (fun U wr => ∃ (k : Nat), U = .int .i64 (k : Int) ∧ k ≤ i ∧ Gr w8 wr ∧ knownB (tnm (ts.take k)) x.nm = false) (fun U _ => i - (intOf U).toNat)
          case atStart => exact ⟨0, rfl, by omega, Gr.refl _, rfl⟩
          case round =>
            obtain ⟨k, rfl, hk, hgi, hkn⟩ := hrel
            have HKN := hid hkn; have GI := hid hgi; have GT := hid (G8.out.trans hgi); have XI := hid (hgi.keep X8_1.out)
            obtain ⟨_, _, _, _, _, _, _, _⟩ := cells8 XI.out
            have _ := ltb XI.out
            clear hkn hgi
            by_cases hki : k < i
            · obtain ⟨y, hy⟩ : ∃ y, ts[k]? = some y := ⟨ts[k]'(by omega), List.getElem?_eq_getElem _⟩
              obtain ⟨ad8, e8, hc8⟩ := (T.out.keep (G3.out.trans GT.out)) i x HX.out
              cases e8
              obtain ⟨ad9, e9, hc9⟩ := (T.out.keep (G3.out.trans GT.out)) k y hy
              cases e9
              rw [add_at] at hc8 hc9
              have hkt := known_take x.nm hy
              rw [HKN.out, Bool.false_or] at hkt
              have C8 := hid hc8.h0; have C9 := hid hc9.h0; have HKT := hid hkt
              clear hc8 hc9 hkt hy
              cases he : (x.nm == y.nm) with
              | true =>
                obtain rfl : r = false := by
                  rw [← HST2.out, known_mono (show k + 1 ≤ i by omega) (by rw [HKT.out, he])]; rfl
                have he2 := eqlTg y.nm x.nm true (by rw [← he]; rw [Bool.eq_iff_iff, strEqK, strEqK]; exact eq_comm)
                clear he
                go_wp2_with fail
                refine wp_reg0 12 (by kernel_rfl) (by kernel_rfl) ?_
                apply Exists.intro
                refine ⟨fun wb hb => ?_, ?_⟩
                · obtain ⟨_, _, _, _, _, _, _, _⟩ := hb.at8 XI.out
                  have _ := hb.atF C8.out; have _ := hb.atF C9.out
                  simp only [headOps, List.contains, List.elem, reduceIte, Bool.false_eq_true]
                  repeat (first | go_big_quiet_step (first | (fail)) | quiet_step (fail))
                  exact wpQuiet_nil rfl
                intro w9 hg9
                have G9 := hid (GT.out.trans hg9); clear hg9
                go_wp2_with fail
                go_ret
                exact ⟨rfl, G3.out.trans G9.out⟩
              | false =>
                have he2 := eqlTg y.nm x.nm false (by rw [← he]; rw [Bool.eq_iff_iff, strEqK, strEqK]; exact eq_comm)
                have HE := hid he; clear he
                go_wp2_with fail
                refine wp_reg0 12 (by kernel_rfl) (by kernel_rfl) ?_
                apply Exists.intro
                refine ⟨fun wb hb => ?_, ?_⟩
                · obtain ⟨_, _, _, _, _, _, _, _⟩ := hb.at8 XI.out
                  have _ := hb.atF C8.out; have _ := hb.atF C9.out
                  simp only [headOps, List.contains, List.elem, reduceIte, Bool.false_eq_true]
                  repeat (first | go_big_quiet_step (first | (fail)) | quiet_step (fail))
                  exact wpQuiet_nil rfl
                intro w9 hg9
                have G9 := hid (GI.out.trans hg9); clear hg9
                go_wp2_with fail
                exact ⟨⟨k + 1, by simp, by omega, G9.out, by rw [HKT.out, HE.out]⟩, by simp [intOf]; omega⟩
            · obtain rfl : k = i := by omega
              have hst := HST2.out
              rw [HKN.out] at hst
              simp only [Bool.not_false, Bool.true_and] at hst
              have HST3 := hid hst; clear hst
              go_wp2_with fail
              exact ⟨⟨k + 1, by simp, by omega, G8.out.trans GI.out, HST3.out⟩, by simp [intOf]; omega⟩
      · have hke : i = ts.length := by omega
        have hr1 : r = true := by rw [← HS.out, hke, List.drop_of_length_le (Nat.le_refl _)]; rfl
        subst hr1
        obtain ⟨_, _, _, _, _, _, _, _⟩ := cells8 Y3.out
        have _ := fz Y3.out
        have _ := ltb Y3.out
        go_wp2_with fail
        go_ret
        exact ⟨rfl, GV.out⟩
  · have h4' : ¬ (ts.length : Int) ≤ 10 := by omega
    obtain rfl : r = false := by rw [← hr, decide_eq_false h4]; simp
    have H3 := hid h3; clear h1 h2 h3 hr
    go_enter Try.func34, Try.ntmps34
    obtain ⟨_, _, _, _, _, _, _, _⟩ := cells8 XJ.out
    have _ := fz XJ.out
    have _ := ltb XJ.out
    go_wp2_with fail
    refine (HS.out _ XJ X).mono ?_
    rintro e w1 ⟨rfl, hg1⟩
    have x1_1 := hg1.keep XJ.out
    obtain ⟨_, _, _, _, _, _, _, _⟩ := cells8 x1_1
    have _ := fz x1_1
    have _ := ltb x1_1
    have X1_1 := hid x1_1; clear x1_1
    have G1 := hid (hg1)
    clear hg1
    go_wp2_with fail
    refine (HV.out _ X1_1).mono ?_
    rintro e w2 ⟨rfl, hg2⟩
    have x2_1 := hg2.keep X1_1.out
    obtain ⟨_, _, _, _, _, _, _, _⟩ := cells8 x2_1
    have _ := fz x2_1
    have _ := ltb x2_1
    have X2_1 := hid x2_1; clear x2_1
    have G2 := hid (G1.out.trans hg2)
    clear hg2
    go_wp2_with fail
    refine (sGrows_is u v true _ H3.out).mono ?_
    rintro e w3 ⟨rfl, hg3⟩
    have x3_1 := hg3.keep X2_1.out
    obtain ⟨_, _, _, _, _, _, _, _⟩ := cells8 x3_1
    have _ := fz x3_1
    have _ := ltb x3_1
    have X3_1 := hid x3_1; clear x3_1
    have G3 := hid (G2.out.trans hg3)
    clear hg3
    go_wp2_with fail
    go_ret
    exact ⟨rfl, G3.out⟩
set_option maxRecDepth 20000 in
set_option maxHeartbeats 400000 in
theorem sVBench (a b : Int) (A : Option Addr) (c : Nat) (xs : List (Int × Int)) (N : Int) (kb : Bool) (u v : Int) (g d : Nat) (ts : List Tgv) (r : Bool) (w : World) (X : Hid (RdF w A xs)) (T : Hid (RdTg w (some ⟨g, 0, none⟩) ts)) (hn : xs.length ≤ 1048576) (hm : ts.length ≤ 1048576) (hz : ∀ x ∈ ts, x.nm.size ≤ 9223372036854775807) (hr : benB a b xs N u v ts = r) :
    Calls Try.prog 10 #[bnc a b A xs.length c N kb u v (some ⟨g, 0, none⟩) ts.length d] w fun e w' => e = .returned (.bool r) ∧ Gr w w' := by
  have HB := hid fun (w : World) (j : Nat) (XJ : Hid (w.heap[j]? = some (.cells (bncA a b A xs.length c N kb u v (some ⟨g, 0, none⟩) ts.length d) 41))) (X : Hid (RdF w A xs)) (T : Hid (RdTg w (some ⟨g, 0, none⟩) ts)) => sVB a b A c j xs N kb u v g d ts r w XJ X T hn hm hz hr
  clear hz hr
  go_enter Try.func10, Try.ntmps10
  go_wp2_with fail
  refine (HB.out _ _ (hid (alloc1 (Gr.refl _)).1) (hid (X.out.keep ((Gr.refl w).al _))) (hid (T.out.keep ((Gr.refl w).al _)))).mono ?_
  rintro e w1 ⟨rfl, hg1⟩
  obtain ⟨x1_0, hz1, g1⟩ := alloc1 hg1
  obtain ⟨_, _, _, _, _, _, _, _⟩ := cells8 x1_0
  have _ := fz x1_0
  have _ := ltb x1_0
  have X1_0 := hid x1_0; clear x1_0
  have G1 := hid (g1)
  clear hg1 g1
  go_wp2
  go_ret
  exact ⟨rfl, G1.out⟩
theorem bothValidBench (a b : Int) (xs : List (Int × Int)) (N : Int) (kb : Bool) (u v : Int) (ts : List Tgv) (hn : xs.length ≤ 1048576) (hm : ts.length ≤ 1048576) (hz : ∀ x ∈ ts, x.nm.size ≤ 9223372036854775807) : ∃ R : Bool,
    (∀ (A : Option Addr) (g c d : Nat) (w : World), Hid (RdF w A xs) → Hid (RdTg w (some ⟨g, 0, none⟩) ts) → Calls Try.prog 10 #[bnc a b A xs.length c N kb u v (some ⟨g, 0, none⟩) ts.length d] w fun e w' => e = .returned (.bool R) ∧ Gr w w') ∧
    (∀ (A : Option Addr) (g c d : Nat) (w : World), Hid (RdF w A xs) → Hid (RdTg w (some ⟨g, 0, none⟩) ts) → Calls Try.prog 12 #[bnc a b A xs.length c N kb u v (some ⟨g, 0, none⟩) ts.length d] w fun e w' => e = .returned (.bool R) ∧ Gr w w') :=
  ⟨_, fun A g c d w X T => sVBench a b A c xs N kb u v g d ts _ w X T hn hm hz rfl, fun A _ c d w X T => iVB a b A c xs N kb u v _ d ts _ w X T hn hm rfl⟩
end Go.Proofs.Ytflfjedimcbfeaa
namespace Go.Proofs.Ytflfjedimcbfeaa
open Go.RowKit Go.Sort

abbrev sho (t a b c d : Int) : Value := .agg #[.int .i64 t, .int .i64 a, .int .i64 b, .int .i64 c, .int .i64 d]
def wmB (p q : Int) : Bool := decide ((p.natAbs : Int) ≤ 100 * q)
def shB (n : Nat) (t a b c d : Int) : Bool := inB t 0 ((n : Int) - 1) && (okB a b && (wmB a b && okB c d))
theorem wm_gt (p q : Int) : (!gtB p (100 * q)) = wmB p q := by
  unfold gtB wmB
  rw [Bool.eq_iff_iff]
  simp
  omega
theorem wm_gt2 {p q : Int} {r : Bool} (h : wmB p q = r) : gtB p (100 * q) = !r := by
  rw [← h, ← wm_gt]; simp
set_option maxRecDepth 20000 in
set_option maxHeartbeats 600000 in
theorem iWarm (p q : Int) (r : Bool) (w : World) (h : (okB p q && wmB p q) = r) : Calls Try.prog 53 #[fr p q] w fun e w' => e = .returned (.bool r) ∧ Gr w w' := by
  cases h1 : okB p q with
  | false =>
    obtain rfl : r = false := by rw [← h, h1]; rfl
    have H1 := hid h1; clear h h1
    go_enter Try.func53, Try.ntmps53
    go_wp2_with fail
    refine (iFracOk p q false _ H1.out).mono ?_
    rintro e w1 ⟨rfl, hg1⟩
    obtain ⟨x1_0, hz1, g1⟩ := alloc1 hg1
    obtain ⟨_, _⟩ := cells2 x1_0
    have _ := fz x1_0
    have _ := ltb x1_0
    have X1_0 := hid x1_0; clear x1_0
    have G1 := hid (g1)
    clear hg1 g1
    go_wp2
    go_ret
    exact ⟨rfl, G1.out⟩
  | true =>
    obtain ⟨b1, b2, b3, b4⟩ := okB_bd h1
    rw [h1, Bool.true_and] at h
    have hg := wm_gt2 h
    have H1 := hid h1; have HG := hid hg; clear h h1 hg
    have hq : IntKind.i64.wrap (100 * q) = 100 * q := IntWalk.i64_in _ (by omega)
    go_enter Try.func53, Try.ntmps53
    go_wp2_with fail
    refine (iFracOk p q true _ H1.out).mono ?_
    rintro e w1 ⟨rfl, hg1⟩
    obtain ⟨x1_0, hz1, g1⟩ := alloc1 hg1
    obtain ⟨_, _⟩ := cells2 x1_0
    have _ := fz x1_0
    have _ := ltb x1_0
    have X1_0 := hid x1_0; clear x1_0
    have G1 := hid (g1)
    clear hg1 g1
    go_wp2_with fail
    refine (gt_any p (100 * q) _ (by omega) (by omega)).mono ?_
    rintro e w2 ⟨rfl, rfl⟩
    rw [HG.out]
    cases r
    all_goals
      go_wp2_with fail
      go_ret
      exact ⟨rfl, G1.out⟩
set_option maxRecDepth 20000 in
set_option maxHeartbeats 600000 in
theorem iHasB (a b : Int) (A : Option Addr) (m c : Nat) (N : Int) (kb : Bool) (u v : Int) (B : Option Addr) (n d : Nat) (t : Int) (r : Bool) (w : World) (h : inB t 0 ((n : Int) - 1) = r) :
    Calls Try.prog 52 #[bnc a b A m c N kb u v B n d, .int .i64 t] w fun e w' => e = .returned (.bool r) ∧ Gr w w' := by
  unfold inB at h
  by_cases h1 : 0 ≤ t
  · by_cases h2 : t < (n : Int)
    · obtain rfl : r = true := by rw [← h]; simp; omega
      clear h
      go_enter Try.func52, Try.ntmps52
      go_wp2
      go_ret
      exact ⟨rfl, Gr.alloc _ _⟩
    · obtain rfl : r = false := by rw [← h]; simp; omega
      clear h
      go_enter Try.func52, Try.ntmps52
      go_wp2
      go_ret
      exact ⟨rfl, Gr.alloc _ _⟩
  · obtain rfl : r = false := by rw [← h]; simp; omega
    clear h
    go_enter Try.func52, Try.ntmps52
    go_wp2
    go_ret
    exact ⟨rfl, Gr.alloc _ _⟩

set_option maxRecDepth 20000 in
set_option maxHeartbeats 1000000 in
theorem sShot_0 (a0 b0 : Int) (A : Option Addr) (m e0 : Nat) (N : Int) (kb : Bool) (u v : Int) (B : Option Addr) (n d0 : Nat) (j i : Nat) (t a b c d : Int) (_r : Bool) (w : World) (XJ : Hid (w.heap[j]? = some (.cells (bncA a0 b0 A m e0 N kb u v B n d0) 41))) (XI : Hid (w.heap[i]? = some (.cells #[.int .i64 t, .int .i64 a, .int .i64 b, .int .i64 c, .int .i64 d] 53))) (hn : (n : Int) ≤ 1048576)  (h1 : inB t 0 ((n : Int) - 1) = false) :
    Calls Try.prog 51 #[.pointer (some ⟨j, 0, none⟩), .pointer (some ⟨i, 0, none⟩)] w fun e w' => e = .returned (.bool false) ∧ Gr w w' := by
  have hwr : IntKind.i64.wrap ((n : Int) - 1) = (n : Int) - 1 := IntWalk.i64_in _ (by omega)
  have Hh1 := hid h1; clear h1
  go_enter Try.func51, Try.ntmps51
  obtain ⟨_, _, _, _, _, _, _, _⟩ := cells8 XJ.out
  have _ := fz XJ.out
  have _ := ltb XJ.out
  obtain ⟨_, _, _, _, _⟩ := cells5 XI.out
  have _ := fz XI.out
  have _ := ltb XI.out
  go_wp2_with fail
  refine wp_reg0 40 (by kernel_rfl) (by kernel_rfl) ?_
  apply Exists.intro
  refine ⟨fun wb hb => ?_, ?_⟩
  · obtain ⟨_, _, _, _, _, _, _, _⟩ := hb.at8 XJ.out
    obtain ⟨_, _, _, _, _⟩ := hb.at5 XI.out
    simp only [headOps, List.contains, List.elem, reduceIte, Bool.false_eq_true]
    repeat (first | go_big_quiet_step (first | (go_at_call 84; exact Calls.of_gr (in_f _ _ _ _ Hh1.out))) | quiet_step (fail))
    exact wpQuiet_nil rfl
  intro w1 hg1
  have x1_1 := hg1.keep XJ.out
  have x1_2 := hg1.keep XI.out
  obtain ⟨_, _, _, _, _, _, _, _⟩ := cells8 x1_1
  have _ := fz x1_1
  have _ := ltb x1_1
  obtain ⟨_, _, _, _, _⟩ := cells5 x1_2
  have _ := fz x1_2
  have _ := ltb x1_2
  have X1_1 := hid x1_1; clear x1_1
  have X1_2 := hid x1_2; clear x1_2
  have G1 := hid (hg1)
  clear hg1
  go_wp2_with fail
  go_ret
  exact ⟨rfl, G1.out⟩
set_option maxRecDepth 20000 in
set_option maxHeartbeats 1000000 in
theorem sShot_1 (a0 b0 : Int) (A : Option Addr) (m e0 : Nat) (N : Int) (kb : Bool) (u v : Int) (B : Option Addr) (n d0 : Nat) (j i : Nat) (t a b c d : Int) (_r : Bool) (w : World) (XJ : Hid (w.heap[j]? = some (.cells (bncA a0 b0 A m e0 N kb u v B n d0) 41))) (XI : Hid (w.heap[i]? = some (.cells #[.int .i64 t, .int .i64 a, .int .i64 b, .int .i64 c, .int .i64 d] 53))) (hn : (n : Int) ≤ 1048576) (h1 : inB t 0 ((n : Int) - 1) = true) (h2 : okB a b = false) :
    Calls Try.prog 51 #[.pointer (some ⟨j, 0, none⟩), .pointer (some ⟨i, 0, none⟩)] w fun e w' => e = .returned (.bool false) ∧ Gr w w' := by
  have hwr : IntKind.i64.wrap ((n : Int) - 1) = (n : Int) - 1 := IntWalk.i64_in _ (by omega)
  have Hh1 := hid h1; clear h1
  have Hh2 := hid h2; clear h2
  go_enter Try.func51, Try.ntmps51
  obtain ⟨_, _, _, _, _, _, _, _⟩ := cells8 XJ.out
  have _ := fz XJ.out
  have _ := ltb XJ.out
  obtain ⟨_, _, _, _, _⟩ := cells5 XI.out
  have _ := fz XI.out
  have _ := ltb XI.out
  go_wp2_with fail
  refine wp_reg0 40 (by kernel_rfl) (by kernel_rfl) ?_
  apply Exists.intro
  refine ⟨fun wb hb => ?_, ?_⟩
  · obtain ⟨_, _, _, _, _, _, _, _⟩ := hb.at8 XJ.out
    obtain ⟨_, _, _, _, _⟩ := hb.at5 XI.out
    simp only [headOps, List.contains, List.elem, reduceIte, Bool.false_eq_true]
    repeat (first | go_big_quiet_step (first | (go_at_call 84; exact Calls.of_gr (in_t _ _ _ _ Hh1.out)) | (go_at_call 85; exact Calls.of_gr (sok_f _ _ _ Hh2.out))) | quiet_step (fail))
    exact wpQuiet_nil rfl
  intro w1 hg1
  have x1_1 := hg1.keep XJ.out
  have x1_2 := hg1.keep XI.out
  obtain ⟨_, _, _, _, _, _, _, _⟩ := cells8 x1_1
  have _ := fz x1_1
  have _ := ltb x1_1
  obtain ⟨_, _, _, _, _⟩ := cells5 x1_2
  have _ := fz x1_2
  have _ := ltb x1_2
  have X1_1 := hid x1_1; clear x1_1
  have X1_2 := hid x1_2; clear x1_2
  have G1 := hid (hg1)
  clear hg1
  go_wp2_with fail
  go_ret
  exact ⟨rfl, G1.out⟩
set_option maxRecDepth 20000 in
set_option maxHeartbeats 1000000 in
theorem sShot_2 (a0 b0 : Int) (A : Option Addr) (m e0 : Nat) (N : Int) (kb : Bool) (u v : Int) (B : Option Addr) (n d0 : Nat) (j i : Nat) (t a b c d : Int) (_r : Bool) (w : World) (XJ : Hid (w.heap[j]? = some (.cells (bncA a0 b0 A m e0 N kb u v B n d0) 41))) (XI : Hid (w.heap[i]? = some (.cells #[.int .i64 t, .int .i64 a, .int .i64 b, .int .i64 c, .int .i64 d] 53))) (hn : (n : Int) ≤ 1048576) (h1 : inB t 0 ((n : Int) - 1) = true) (h2 : okB a b = true) (h3 : wmB a b = false) :
    Calls Try.prog 51 #[.pointer (some ⟨j, 0, none⟩), .pointer (some ⟨i, 0, none⟩)] w fun e w' => e = .returned (.bool false) ∧ Gr w w' := by
  have hwr : IntKind.i64.wrap ((n : Int) - 1) = (n : Int) - 1 := IntWalk.i64_in _ (by omega)
  obtain ⟨q1, q2, q3, q4⟩ := okB_bd h2
  have hwq : IntKind.i64.wrap (100 * b) = 100 * b := IntWalk.i64_in _ (by omega)
  have ha1 : -9223372036854775807 ≤ a := by omega
  have ha2 : a ≤ 9223372036854775807 := by omega
  have Hh1 := hid h1; clear h1
  have Hh2 := hid h2; clear h2
  have Hh3 := hid h3; clear h3
  have hw3 : decide ((a.natAbs : Int) ≤ 100 * b) = false := Hh3.out
  go_enter Try.func51, Try.ntmps51
  obtain ⟨_, _, _, _, _, _, _, _⟩ := cells8 XJ.out
  have _ := fz XJ.out
  have _ := ltb XJ.out
  obtain ⟨_, _, _, _, _⟩ := cells5 XI.out
  have _ := fz XI.out
  have _ := ltb XI.out
  go_wp2_with fail
  refine wp_reg0 40 (by kernel_rfl) (by kernel_rfl) ?_
  apply Exists.intro
  refine ⟨fun wb hb => ?_, ?_⟩
  · obtain ⟨_, _, _, _, _, _, _, _⟩ := hb.at8 XJ.out
    obtain ⟨_, _, _, _, _⟩ := hb.at5 XI.out
    simp only [headOps, List.contains, List.elem, reduceIte, Bool.false_eq_true]
    repeat (first | go_big_quiet_step (first | (go_at_call 84; exact Calls.of_gr (in_t _ _ _ _ Hh1.out)) | (go_at_call 85; exact Calls.of_gr (sok_t _ _ _ Hh2.out)) | (go_at_call 86; exact Calls.of_same (abs_any _ _ ha1 ha2))) | quiet_step (fail))
    exact wpQuiet_nil rfl
  intro w1 hg1
  have x1_1 := hg1.keep XJ.out
  have x1_2 := hg1.keep XI.out
  obtain ⟨_, _, _, _, _, _, _, _⟩ := cells8 x1_1
  have _ := fz x1_1
  have _ := ltb x1_1
  obtain ⟨_, _, _, _, _⟩ := cells5 x1_2
  have _ := fz x1_2
  have _ := ltb x1_2
  have X1_1 := hid x1_1; clear x1_1
  have X1_2 := hid x1_2; clear x1_2
  have G1 := hid (hg1)
  clear hg1
  go_wp2_with fail
  go_ret
  exact ⟨rfl, G1.out⟩
set_option maxRecDepth 20000 in
set_option maxHeartbeats 1000000 in
theorem sShot_3 (a0 b0 : Int) (A : Option Addr) (m e0 : Nat) (N : Int) (kb : Bool) (u v : Int) (B : Option Addr) (n d0 : Nat) (j i : Nat) (t a b c d : Int) (r : Bool) (w : World) (XJ : Hid (w.heap[j]? = some (.cells (bncA a0 b0 A m e0 N kb u v B n d0) 41))) (XI : Hid (w.heap[i]? = some (.cells #[.int .i64 t, .int .i64 a, .int .i64 b, .int .i64 c, .int .i64 d] 53))) (hn : (n : Int) ≤ 1048576) (h1 : inB t 0 ((n : Int) - 1) = true) (h2 : okB a b = true) (h3 : wmB a b = true) (h4 : okB c d = r) :
    Calls Try.prog 51 #[.pointer (some ⟨j, 0, none⟩), .pointer (some ⟨i, 0, none⟩)] w fun e w' => e = .returned (.bool r) ∧ Gr w w' := by
  have hwr : IntKind.i64.wrap ((n : Int) - 1) = (n : Int) - 1 := IntWalk.i64_in _ (by omega)
  obtain ⟨q1, q2, q3, q4⟩ := okB_bd h2
  have hwq : IntKind.i64.wrap (100 * b) = 100 * b := IntWalk.i64_in _ (by omega)
  have ha1 : -9223372036854775807 ≤ a := by omega
  have ha2 : a ≤ 9223372036854775807 := by omega
  have Hh1 := hid h1; clear h1
  have Hh2 := hid h2; clear h2
  have Hh3 := hid h3; clear h3
  have Hh4 := hid h4; clear h4
  have hw3 : decide ((a.natAbs : Int) ≤ 100 * b) = true := Hh3.out
  go_enter Try.func51, Try.ntmps51
  obtain ⟨_, _, _, _, _, _, _, _⟩ := cells8 XJ.out
  have _ := fz XJ.out
  have _ := ltb XJ.out
  obtain ⟨_, _, _, _, _⟩ := cells5 XI.out
  have _ := fz XI.out
  have _ := ltb XI.out
  go_wp2_with fail
  refine wp_reg0 40 (by kernel_rfl) (by kernel_rfl) ?_
  apply Exists.intro
  refine ⟨fun wb hb => ?_, ?_⟩
  · obtain ⟨_, _, _, _, _, _, _, _⟩ := hb.at8 XJ.out
    obtain ⟨_, _, _, _, _⟩ := hb.at5 XI.out
    have h2 := Hh2.out; have h4 := Hh4.out
    simp only [headOps, List.contains, List.elem, reduceIte, Bool.false_eq_true]
    repeat (first | go_big_quiet_step (first | (go_at_call 84; exact Calls.of_gr (in_t _ _ _ _ Hh1.out)) | (go_at_call 85; exact Calls.of_gr (sok_any _ _ _)) | (go_at_call 86; exact Calls.of_same (abs_any _ _ ha1 ha2))) | quiet_step (fail))
    exact wpQuiet_nil rfl
  intro w1 hg1
  have x1_1 := hg1.keep XJ.out
  have x1_2 := hg1.keep XI.out
  obtain ⟨_, _, _, _, _, _, _, _⟩ := cells8 x1_1
  have _ := fz x1_1
  have _ := ltb x1_1
  obtain ⟨_, _, _, _, _⟩ := cells5 x1_2
  have _ := fz x1_2
  have _ := ltb x1_2
  have X1_1 := hid x1_1; clear x1_1
  have X1_2 := hid x1_2; clear x1_2
  have G1 := hid (hg1)
  clear hg1
  go_wp2_with fail
  go_ret
  exact ⟨rfl, G1.out⟩
theorem sShot (a0 b0 : Int) (A : Option Addr) (m e0 : Nat) (N : Int) (kb : Bool) (u v : Int) (B : Option Addr) (n d0 : Nat) (j i : Nat) (t a b c d : Int) (r : Bool) (w : World) (XJ : Hid (w.heap[j]? = some (.cells (bncA a0 b0 A m e0 N kb u v B n d0) 41))) (XI : Hid (w.heap[i]? = some (.cells #[.int .i64 t, .int .i64 a, .int .i64 b, .int .i64 c, .int .i64 d] 53))) (hn : (n : Int) ≤ 1048576) (hr : shB n t a b c d = r) :
    Calls Try.prog 51 #[.pointer (some ⟨j, 0, none⟩), .pointer (some ⟨i, 0, none⟩)] w fun e w' => e = .returned (.bool r) ∧ Gr w w' := by
  unfold shB at hr
  cases h1 : inB t 0 ((n : Int) - 1) with
  | false => obtain rfl : r = false := by rw [← hr, h1]; rfl
             exact sShot_0 a0 b0 A m e0 N kb u v B n d0 j i t a b c d false w XJ XI hn h1
  | true =>
  cases h2 : okB a b with
  | false => obtain rfl : r = false := by rw [← hr, h1, h2]; rfl
             exact sShot_1 a0 b0 A m e0 N kb u v B n d0 j i t a b c d false w XJ XI hn h1 h2
  | true =>
  cases h3 : wmB a b with
  | false => obtain rfl : r = false := by rw [← hr, h1, h2, h3]; rfl
             exact sShot_2 a0 b0 A m e0 N kb u v B n d0 j i t a b c d false w XJ XI hn h1 h2 h3
  | true => exact sShot_3 a0 b0 A m e0 N kb u v B n d0 j i t a b c d r w XJ XI hn h1 h2 h3 (by rw [← hr, h1, h2, h3]; rfl)
def vshB (a b : Int) (xs : List (Int × Int)) (N u v : Int) (ts : List Tgv) (h0 h1 h2 h3 h4 : Int) : Bool := benB a b xs N u v ts && shB ts.length h0 h1 h2 h3 h4
set_option maxRecDepth 20000 in
set_option maxHeartbeats 1000000 in
theorem sVShot (a b : Int) (A : Option Addr) (c : Nat) (xs : List (Int × Int)) (N : Int) (kb : Bool) (u v : Int) (g d : Nat) (ts : List Tgv) (h0 h1 h2 h3 h4 : Int) (r : Bool) (w : World) (X : Hid (RdF w A xs)) (T : Hid (RdTg w (some ⟨g, 0, none⟩) ts)) (hn : xs.length ≤ 1048576) (hm : ts.length ≤ 1048576) (hz : ∀ x ∈ ts, x.nm.size ≤ 9223372036854775807) (hr : vshB a b xs N u v ts h0 h1 h2 h3 h4 = r) :
    Calls Try.prog 18 #[bnc a b A xs.length c N kb u v (some ⟨g, 0, none⟩) ts.length d, sho h0 h1 h2 h3 h4] w fun e w' => e = .returned (.bool r) ∧ Gr w w' := by
  unfold vshB at hr
  obtain ⟨v1, hb⟩ : ∃ v1, benB a b xs N u v ts = v1 := ⟨_, rfl⟩
  have HV := hid fun (w : World) (j : Nat) (XJ : Hid (w.heap[j]? = some (.cells (bncA a b A xs.length c N kb u v (some ⟨g, 0, none⟩) ts.length d) 41))) (X : Hid (RdF w A xs)) (T : Hid (RdTg w (some ⟨g, 0, none⟩) ts)) => sVB a b A c j xs N kb u v g d ts v1 w XJ X T hn hm hz hb
  rw [hb] at hr
  clear hb hz
  cases v1 with
  | false =>
    obtain rfl : r = false := by rw [← hr]; rfl
    go_enter Try.func18, Try.ntmps18
    go_wp2_with fail
    refine (HV.out _ _ (hid (alloc2 (Gr.refl _)).1) (hid (X.out.keep (((Gr.refl w).al _).al _))) (hid (T.out.keep (((Gr.refl w).al _).al _)))).mono ?_
    rintro e w1 ⟨rfl, hg1⟩
    obtain ⟨x1_0, x1_1, hz1, g1⟩ := alloc2 hg1
    obtain ⟨_, _, _, _, _, _, _, _⟩ := cells8 x1_0
    have _ := fz x1_0
    have _ := ltb x1_0
    obtain ⟨_, _, _, _, _⟩ := cells5 x1_1
    have _ := fz x1_1
    have _ := ltb x1_1
    have X1_0 := hid x1_0; clear x1_0
    have X1_1 := hid x1_1; clear x1_1
    have G1 := hid (g1)
    clear hg1 g1
    go_wp2
    go_ret
    exact ⟨rfl, G1.out⟩
  | true =>
    rw [Bool.true_and] at hr
    have HR := hid hr; clear hr
    go_enter Try.func18, Try.ntmps18
    go_wp2_with fail
    refine (HV.out _ _ (hid (alloc2 (Gr.refl _)).1) (hid (X.out.keep (((Gr.refl w).al _).al _))) (hid (T.out.keep (((Gr.refl w).al _).al _)))).mono ?_
    rintro e w1 ⟨rfl, hg1⟩
    obtain ⟨x1_0, x1_1, hz1, g1⟩ := alloc2 hg1
    obtain ⟨_, _, _, _, _, _, _, _⟩ := cells8 x1_0
    have _ := fz x1_0
    have _ := ltb x1_0
    obtain ⟨_, _, _, _, _⟩ := cells5 x1_1
    have _ := fz x1_1
    have _ := ltb x1_1
    have X1_0 := hid x1_0; clear x1_0
    have X1_1 := hid x1_1; clear x1_1
    have G1 := hid (g1)
    clear hg1 g1
    go_wp2_with fail
    refine (sShot a b A xs.length c N kb u v _ ts.length d _ _ h0 h1 h2 h3 h4 r _ (hid X1_0.out) (hid X1_1.out) (by omega) HR.out).mono ?_
    rintro e w2 ⟨rfl, hg2⟩
    have x2_1 := hg2.keep X1_0.out
    have x2_2 := hg2.keep X1_1.out
    obtain ⟨_, _, _, _, _, _, _, _⟩ := cells8 x2_1
    have _ := fz x2_1
    have _ := ltb x2_1
    obtain ⟨_, _, _, _, _⟩ := cells5 x2_2
    have _ := fz x2_2
    have _ := ltb x2_2
    have X2_1 := hid x2_1; clear x2_1
    have X2_2 := hid x2_2; clear x2_2
    have G2 := hid (G1.out.trans hg2)
    clear hg2
    go_wp2
    go_ret
    exact ⟨rfl, G2.out⟩
set_option maxRecDepth 20000 in
set_option maxHeartbeats 1000000 in
theorem iVShot (a b : Int) (A : Option Addr) (c : Nat) (xs : List (Int × Int)) (N : Int) (kb : Bool) (u v : Int) (B : Option Addr) (d : Nat) (ts : List Tgv) (h0 h1 h2 h3 h4 : Int) (r : Bool) (w : World) (X : Hid (RdF w A xs)) (T : Hid (RdTg w B ts)) (hn : xs.length ≤ 1048576) (hm : ts.length ≤ 1048576) (hr : vshB a b xs N u v ts h0 h1 h2 h3 h4 = r) :
    Calls Try.prog 20 #[bnc a b A xs.length c N kb u v B ts.length d, sho h0 h1 h2 h3 h4] w fun e w' => e = .returned (.bool r) ∧ Gr w w' := by
  unfold vshB shB at hr
  cases g1 : benB a b xs N u v ts with
  | false =>
    obtain rfl : r = false := by rw [← hr, g1]; rfl
    have H1 := hid g1; clear g1 hr
    go_enter Try.func20, Try.ntmps20
    go_wp2_with fail
    refine (iVB a b A c xs N kb u v B d ts false _ (hid (X.out.keep (((Gr.refl w).al _).al _))) (hid (T.out.keep (((Gr.refl w).al _).al _))) hn hm H1.out).mono ?_
    rintro e w1 ⟨rfl, hg1⟩
    obtain ⟨x1_0, x1_1, hz1, g1⟩ := alloc2 hg1
    obtain ⟨_, _, _, _, _, _, _, _⟩ := cells8 x1_0
    have _ := fz x1_0
    have _ := ltb x1_0
    obtain ⟨_, _, _, _, _⟩ := cells5 x1_1
    have _ := fz x1_1
    have _ := ltb x1_1
    have X1_0 := hid x1_0; clear x1_0
    have X1_1 := hid x1_1; clear x1_1
    have G1 := hid (g1)
    clear hg1 g1
    go_wp2
    go_ret
    exact ⟨rfl, G1.out⟩
  | true =>
  cases g2 : inB h0 0 ((ts.length : Int) - 1) with
  | false =>
    obtain rfl : r = false := by rw [← hr, g1, g2]; rfl
    have H1 := hid g1; have H2 := hid g2; clear g1 g2 hr
    go_enter Try.func20, Try.ntmps20
    go_wp2_with fail
    refine (iVB a b A c xs N kb u v B d ts true _ (hid (X.out.keep (((Gr.refl w).al _).al _))) (hid (T.out.keep (((Gr.refl w).al _).al _))) hn hm H1.out).mono ?_
    rintro e w1 ⟨rfl, hg1⟩
    obtain ⟨x1_0, x1_1, hz1, g1⟩ := alloc2 hg1
    obtain ⟨_, _, _, _, _, _, _, _⟩ := cells8 x1_0
    have _ := fz x1_0
    have _ := ltb x1_0
    obtain ⟨_, _, _, _, _⟩ := cells5 x1_1
    have _ := fz x1_1
    have _ := ltb x1_1
    have X1_0 := hid x1_0; clear x1_0
    have X1_1 := hid x1_1; clear x1_1
    have G1 := hid (g1)
    clear hg1 g1
    go_wp2_with fail
    refine (iHasB _ _ _ _ _ _ _ _ _ _ _ _ _ _ _ H2.out).mono ?_
    rintro e w2 ⟨rfl, hg2⟩
    have x2_1 := hg2.keep X1_0.out
    have x2_2 := hg2.keep X1_1.out
    obtain ⟨_, _, _, _, _, _, _, _⟩ := cells8 x2_1
    have _ := fz x2_1
    have _ := ltb x2_1
    obtain ⟨_, _, _, _, _⟩ := cells5 x2_2
    have _ := fz x2_2
    have _ := ltb x2_2
    have X2_1 := hid x2_1; clear x2_1
    have X2_2 := hid x2_2; clear x2_2
    have G2 := hid (G1.out.trans hg2)
    clear hg2
    go_wp2
    go_ret
    exact ⟨rfl, G2.out⟩
  | true =>
  cases g3 : (okB h1 h2 && wmB h1 h2) with
  | false =>
    obtain rfl : r = false := by rw [← hr, g1, g2, ← Bool.and_assoc (okB h1 h2), g3]; rfl
    have H1 := hid g1; have H2 := hid g2; have H3 := hid g3; clear g1 g2 g3 hr
    go_enter Try.func20, Try.ntmps20
    go_wp2_with fail
    refine (iVB a b A c xs N kb u v B d ts true _ (hid (X.out.keep (((Gr.refl w).al _).al _))) (hid (T.out.keep (((Gr.refl w).al _).al _))) hn hm H1.out).mono ?_
    rintro e w1 ⟨rfl, hg1⟩
    obtain ⟨x1_0, x1_1, hz1, g1⟩ := alloc2 hg1
    obtain ⟨_, _, _, _, _, _, _, _⟩ := cells8 x1_0
    have _ := fz x1_0
    have _ := ltb x1_0
    obtain ⟨_, _, _, _, _⟩ := cells5 x1_1
    have _ := fz x1_1
    have _ := ltb x1_1
    have X1_0 := hid x1_0; clear x1_0
    have X1_1 := hid x1_1; clear x1_1
    have G1 := hid (g1)
    clear hg1 g1
    go_wp2_with fail
    refine (iHasB _ _ _ _ _ _ _ _ _ _ _ _ _ _ _ H2.out).mono ?_
    rintro e w2 ⟨rfl, hg2⟩
    have x2_1 := hg2.keep X1_0.out
    have x2_2 := hg2.keep X1_1.out
    obtain ⟨_, _, _, _, _, _, _, _⟩ := cells8 x2_1
    have _ := fz x2_1
    have _ := ltb x2_1
    obtain ⟨_, _, _, _, _⟩ := cells5 x2_2
    have _ := fz x2_2
    have _ := ltb x2_2
    have X2_1 := hid x2_1; clear x2_1
    have X2_2 := hid x2_2; clear x2_2
    have G2 := hid (G1.out.trans hg2)
    clear hg2
    go_wp2_with fail
    refine (iWarm _ _ _ _ H3.out).mono ?_
    rintro e w3 ⟨rfl, hg3⟩
    have x3_1 := hg3.keep X2_1.out
    have x3_2 := hg3.keep X2_2.out
    obtain ⟨_, _, _, _, _, _, _, _⟩ := cells8 x3_1
    have _ := fz x3_1
    have _ := ltb x3_1
    obtain ⟨_, _, _, _, _⟩ := cells5 x3_2
    have _ := fz x3_2
    have _ := ltb x3_2
    have X3_1 := hid x3_1; clear x3_1
    have X3_2 := hid x3_2; clear x3_2
    have G3 := hid (G2.out.trans hg3)
    clear hg3
    go_wp2
    go_ret
    exact ⟨rfl, G3.out⟩
  | true =>
    rw [g1, g2, ← Bool.and_assoc (okB h1 h2), g3] at hr
    simp only [Bool.true_and] at hr
    have H1 := hid g1; have H2 := hid g2; have H3 := hid g3; have H4 := hid hr; clear g1 g2 g3 hr
    go_enter Try.func20, Try.ntmps20
    go_wp2_with fail
    refine (iVB a b A c xs N kb u v B d ts true _ (hid (X.out.keep (((Gr.refl w).al _).al _))) (hid (T.out.keep (((Gr.refl w).al _).al _))) hn hm H1.out).mono ?_
    rintro e w1 ⟨rfl, hg1⟩
    obtain ⟨x1_0, x1_1, hz1, g1⟩ := alloc2 hg1
    obtain ⟨_, _, _, _, _, _, _, _⟩ := cells8 x1_0
    have _ := fz x1_0
    have _ := ltb x1_0
    obtain ⟨_, _, _, _, _⟩ := cells5 x1_1
    have _ := fz x1_1
    have _ := ltb x1_1
    have X1_0 := hid x1_0; clear x1_0
    have X1_1 := hid x1_1; clear x1_1
    have G1 := hid (g1)
    clear hg1 g1
    go_wp2_with fail
    refine (iHasB _ _ _ _ _ _ _ _ _ _ _ _ _ _ _ H2.out).mono ?_
    rintro e w2 ⟨rfl, hg2⟩
    have x2_1 := hg2.keep X1_0.out
    have x2_2 := hg2.keep X1_1.out
    obtain ⟨_, _, _, _, _, _, _, _⟩ := cells8 x2_1
    have _ := fz x2_1
    have _ := ltb x2_1
    obtain ⟨_, _, _, _, _⟩ := cells5 x2_2
    have _ := fz x2_2
    have _ := ltb x2_2
    have X2_1 := hid x2_1; clear x2_1
    have X2_2 := hid x2_2; clear x2_2
    have G2 := hid (G1.out.trans hg2)
    clear hg2
    go_wp2_with fail
    refine (iWarm _ _ _ _ H3.out).mono ?_
    rintro e w3 ⟨rfl, hg3⟩
    have x3_1 := hg3.keep X2_1.out
    have x3_2 := hg3.keep X2_2.out
    obtain ⟨_, _, _, _, _, _, _, _⟩ := cells8 x3_1
    have _ := fz x3_1
    have _ := ltb x3_1
    obtain ⟨_, _, _, _, _⟩ := cells5 x3_2
    have _ := fz x3_2
    have _ := ltb x3_2
    have X3_1 := hid x3_1; clear x3_1
    have X3_2 := hid x3_2; clear x3_2
    have G3 := hid (G2.out.trans hg3)
    clear hg3
    go_wp2_with fail
    refine (iFracOk _ _ _ _ H4.out).mono ?_
    rintro e w4 ⟨rfl, hg4⟩
    have x4_1 := hg4.keep X3_1.out
    have x4_2 := hg4.keep X3_2.out
    obtain ⟨_, _, _, _, _, _, _, _⟩ := cells8 x4_1
    have _ := fz x4_1
    have _ := ltb x4_1
    obtain ⟨_, _, _, _, _⟩ := cells5 x4_2
    have _ := fz x4_2
    have _ := ltb x4_2
    have X4_1 := hid x4_1; clear x4_1
    have X4_2 := hid x4_2; clear x4_2
    have G4 := hid (G3.out.trans hg4)
    clear hg4
    go_wp2
    go_ret
    exact ⟨rfl, G4.out⟩
theorem bothValidShot (a b : Int) (xs : List (Int × Int)) (N : Int) (kb : Bool) (u v : Int) (ts : List Tgv) (h0 h1 h2 h3 h4 : Int) (hn : xs.length ≤ 1048576) (hm : ts.length ≤ 1048576) (hz : ∀ x ∈ ts, x.nm.size ≤ 9223372036854775807) : ∃ R0 : Bool,
    (∀ (A : Option Addr) (g c d : Nat) (w : World), Hid (RdF w A xs) → Hid (RdTg w (some ⟨g, 0, none⟩) ts) → Calls Try.prog 18 #[bnc a b A xs.length c N kb u v (some ⟨g, 0, none⟩) ts.length d, sho h0 h1 h2 h3 h4] w fun x w' => x = .returned (.bool R0) ∧ Gr w w') ∧
    (∀ (A : Option Addr) (g c d : Nat) (w : World), Hid (RdF w A xs) → Hid (RdTg w (some ⟨g, 0, none⟩) ts) → Calls Try.prog 20 #[bnc a b A xs.length c N kb u v (some ⟨g, 0, none⟩) ts.length d, sho h0 h1 h2 h3 h4] w fun x w' => x = .returned (.bool R0) ∧ Gr w w') :=
  ⟨_, fun A g c d w X T => sVShot a b A c xs N kb u v g d ts h0 h1 h2 h3 h4 _ w X T hn hm hz rfl, fun A _ c d w X T => iVShot a b A c xs N kb u v _ d ts h0 h1 h2 h3 h4 _ w X T hn hm rfl⟩
/-! the law's side -/
set_option maxRecDepth 20000 in
set_option maxHeartbeats 400000 in
theorem toSho_any (t a b c d : Int) (w : World) : Calls Try.prog 19 #[sho t a b c d] w fun e w' => e = .returned (sho t a b c d) ∧ Gr w w' := by
  go_enter Try.func19, Try.ntmps19
  go_wp2_with fail
  refine (toFrac_any _ _ _).mono ?_
  rintro e w1 ⟨rfl, hg1⟩
  obtain ⟨x1_0, x1_1, x1_2, hz1, g1⟩ := alloc3 hg1
  obtain ⟨_, _, _, _, _⟩ := cells5 x1_0
  have _ := fz x1_0
  have _ := ltb x1_0
  obtain ⟨_, _, _, _, _⟩ := cells5 x1_1
  have _ := fz x1_1
  have _ := ltb x1_1
  obtain ⟨_, _, _, _, _⟩ := cells5 x1_2
  have _ := fz x1_2
  have _ := ltb x1_2
  have X1_0 := hid x1_0; clear x1_0
  have X1_1 := hid x1_1; clear x1_1
  have X1_2 := hid x1_2; clear x1_2
  have G1 := hid (g1)
  clear hg1 g1
  go_wp2_with fail
  refine (toFrac_any _ _ _).mono ?_
  rintro e w2 ⟨rfl, hg2⟩
  obtain ⟨_, _⟩ := hg2.same
  have hzs2 := hg2.size
  simp at hzs2
  have _ : w.heap.size < w2.heap.size := by omega
  have _ : w.heap.size + 1 < w2.heap.size := by omega
  have _ : w.heap.size + 1 + 1 < w2.heap.size := by omega
  have G2 := hid ((((G1.out).setCell (by simp <;> omega) _).setCell (by simp <;> omega) _).trans hg2); clear hg2
  go_wp2
  refine bodyPost_ret (v := sho t a b c d) (by simp [results, Try.results19, go_sem, *]) rfl ⟨rfl, ?_⟩
  exact (((((((G2.out).setCell (by simp <;> omega) _).setCell (by simp <;> omega) _).setCell (by simp <;> omega) _).setCell (by simp <;> omega) _).setCell (by simp <;> omega) _).setCell (by simp <;> omega) _).setCell (by simp <;> omega) _
end Go.Proofs.Ytflfjedimcbfeaa
