/- BENCHES: the bench as a value; ValidBench of the program. -/
import Derived.Test.YtgfopfomhgfcaaaGreatDoorTg
import Derived.Test.YtgfopfomhgfcaaaGreatDoorSho
import Derived.Test.YtgfopfomhgfcaaaGreatDoorSkk
import Derived.Laws.StructEq
namespace Go.Proofs.YtgfopfomhgfcaaaGreatDoor
open Go.RowKit Go.Sort

abbrev bnc (a b : Int) (A : Option Addr) (m c : Nat) (N : Int) (k : Bool) (u v : Int) (B : Option Addr) (l d : Nat) : Value := .agg #[.int .i64 a, .int .i64 b, .slice A m c, .int .i64 N, .bool k, .int .i64 u, .int .i64 v, .slice B l d]
abbrev bncA (a b : Int) (A : Option Addr) (m c : Nat) (N : Int) (k : Bool) (u v : Int) (B : Option Addr) (l d : Nat) : Array Value := #[.int .i64 a, .int .i64 b, .slice A m c, .int .i64 N, .bool k, .int .i64 u, .int .i64 v, .slice B l d]
def knownB (D : List ByteArray) (s : ByteArray) : Bool := D.any (fun y => s == y)
theorem known_iff (D : List ByteArray) (s : ByteArray) : knownB D s = true ↔ s ∈ D := by
  unfold knownB
  rw [List.any_eq_true]
  constructor
  · rintro ⟨y, hy, he⟩
    rw [strEqK] at he
    subst he
    exact hy
  · intro h
    exact ⟨s, h, (strEqK s s).2 rfl⟩
/-- things behind those with the names D: sound, and with new names -/
def tgG : List ByteArray → List Tgv → Bool
  | _, [] => true
  | D, x :: r => tgB x && (!knownB D x.nm && tgG (D ++ [x.nm]) r)
def tnm (ts : List Tgv) : List ByteArray := ts.map (·.nm)
theorem tgG_drop {ts : List Tgv} {k : Nat} {x : Tgv} (h : ts[k]? = some x) : tgG (tnm (ts.take k)) (ts.drop k) = (tgB x && (!knownB (tnm (ts.take k)) x.nm && tgG (tnm (ts.take (k + 1))) (ts.drop (k + 1)))) := by
  have hk : k < ts.length := (List.getElem?_eq_some_iff.1 h).1
  have e : ts[k] = x := by have := List.getElem?_eq_getElem hk; rw [h] at this; exact (Option.some.inj this).symm
  rw [List.drop_eq_getElem_cons hk, e]
  show (tgB x && (!knownB (tnm (ts.take k)) x.nm && tgG (tnm (ts.take k) ++ [x.nm]) (ts.drop (k + 1)))) = _
  rw [show tnm (ts.take k) ++ [x.nm] = tnm (ts.take (k + 1)) by unfold tnm; rw [List.take_add_one, h]; simp]
def benB (a b : Int) (xs : List (Int × Int)) (N u v : Int) (ts : List Tgv) : Bool := sclB a b xs && (inB N 2 40 && (grB u v && (decide (ts.length ≤ 10) && tgG [] ts)))
theorem gr_setK {w W : World} {m : Nat} {o : Obj} (o' : Obj) (h : Gr w W) (hge : w.heap.size ≤ m) (hr : W.heap[m]? = some o) : Gr w { W with heap := W.heap.setIfInBounds m o' } :=
  h.heap rfl rfl rfl rfl (by simp) fun k hk => (MapKept.heap_set hr).2 k (by omega)
set_option maxRecDepth 20000 in
set_option maxHeartbeats 2000000 in
theorem iVB (a b : Int) (A : Option Addr) (c : Nat) (xs : List (Int × Int)) (N : Int) (kb : Bool) (u v : Int) (B : Option Addr) (d : Nat) (ts : List Tgv) (r : Bool) (w : World) (X : Hid (RdF w A xs)) (T : Hid (RdTg w B ts)) (hn : xs.length ≤ 1048576) (hm : ts.length ≤ 1048576) (hr : benB a b xs N u v ts = r) :
    Calls Tryz.prog 34 #[bnc a b A xs.length c N kb u v B ts.length d] w fun e w' => e = .returned (.bool r) ∧ Gr w w' := by
  have hmk : ∀ w : World, (Instr.makeMap 131 none).run Tryz.prog w = .ok (.map (some w.heap.size)) (w.alloc (.map #[] 0)) := fun w => rfl
  unfold benB at hr
  cases h1 : sclB a b xs with
  | false =>
    obtain rfl : r = false := by rw [← hr, h1]; simp
    have H1 := hid h1; clear h1 hr
    go_enter Tryz.func34, Tryz.ntmps34
    go_wp2_with fail
    refine (iScF a b A c xs _ (hid (X.out.keep ((Gr.refl w).al _))) hn H1.out).mono ?_
    rintro e w1 ⟨rfl, hg1⟩
    obtain ⟨x1_0, hz1, g1⟩ := alloc1 hg1
    obtain ⟨_, _, _, _, _, _, _, _⟩ := cells8 x1_0
    have _ := fz x1_0
    have _ := ltb x1_0
    have X1_0 := hid x1_0; clear x1_0
    have G1 := hid (g1)
    clear hg1 g1
    go_wp2_with fail
    go_ret
    exact ⟨rfl, G1.out⟩
  | true =>
  cases h2 : inB N 2 40 with
  | false =>
    obtain rfl : r = false := by rw [← hr, h2]; simp
    have H1 := hid h1; have H2 := hid h2; clear h1 h2 hr
    go_enter Tryz.func34, Tryz.ntmps34
    go_wp2_with fail
    refine (iScT a b A c xs _ (hid (X.out.keep ((Gr.refl w).al _))) hn H1.out).mono ?_
    rintro e w1 ⟨rfl, hg1⟩
    obtain ⟨x1_0, hz1, g1⟩ := alloc1 hg1
    obtain ⟨_, _, _, _, _, _, _, _⟩ := cells8 x1_0
    have _ := fz x1_0
    have _ := ltb x1_0
    have X1_0 := hid x1_0; clear x1_0
    have G1 := hid (g1)
    clear hg1 g1
    go_wp2_with fail
    refine (iVernF N kb _ H2.out).mono ?_
    rintro e w2 ⟨rfl, hg2⟩
    have x2_1 := hg2.keep X1_0.out
    obtain ⟨_, _, _, _, _, _, _, _⟩ := cells8 x2_1
    have _ := fz x2_1
    have _ := ltb x2_1
    have X2_1 := hid x2_1; clear x2_1
    have G2 := hid (G1.out.trans hg2)
    clear hg2
    go_wp2_with fail
    go_ret
    exact ⟨rfl, G2.out⟩
  | true =>
  cases h3 : grB u v with
  | false =>
    obtain rfl : r = false := by rw [← hr, h3]; simp
    have H1 := hid h1; have H2 := hid h2; have H3 := hid h3; clear h1 h2 h3 hr
    go_enter Tryz.func34, Tryz.ntmps34
    go_wp2_with fail
    refine (iScT a b A c xs _ (hid (X.out.keep ((Gr.refl w).al _))) hn H1.out).mono ?_
    rintro e w1 ⟨rfl, hg1⟩
    obtain ⟨x1_0, hz1, g1⟩ := alloc1 hg1
    obtain ⟨_, _, _, _, _, _, _, _⟩ := cells8 x1_0
    have _ := fz x1_0
    have _ := ltb x1_0
    have X1_0 := hid x1_0; clear x1_0
    have G1 := hid (g1)
    clear hg1 g1
    go_wp2_with fail
    refine (iVernT N kb _ H2.out).mono ?_
    rintro e w2 ⟨rfl, hg2⟩
    have x2_1 := hg2.keep X1_0.out
    obtain ⟨_, _, _, _, _, _, _, _⟩ := cells8 x2_1
    have _ := fz x2_1
    have _ := ltb x2_1
    have X2_1 := hid x2_1; clear x2_1
    have G2 := hid (G1.out.trans hg2)
    clear hg2
    go_wp2_with fail
    refine (iGrowth_is u v false _ H3.out).mono ?_
    rintro e w3 ⟨rfl, hg3⟩
    have x3_1 := hg3.keep X2_1.out
    obtain ⟨_, _, _, _, _, _, _, _⟩ := cells8 x3_1
    have _ := fz x3_1
    have _ := ltb x3_1
    have X3_1 := hid x3_1; clear x3_1
    have G3 := hid (G2.out.trans hg3)
    clear hg3
    go_wp2_with fail
    go_ret
    exact ⟨rfl, G3.out⟩
  | true =>
  by_cases h4 : ts.length ≤ 10
  · have h4' : (ts.length : Int) ≤ 10 := by omega
    rw [h1, h2, h3, decide_eq_true h4] at hr
    simp only [Bool.true_and] at hr
    have H1 := hid h1; have H2 := hid h2; have H3 := hid h3; have HR := hid hr; clear h1 h2 h3 hr
    go_enter Tryz.func34, Tryz.ntmps34
    go_wp2_with fail
    refine (iScT a b A c xs _ (hid (X.out.keep ((Gr.refl w).al _))) hn H1.out).mono ?_
    rintro e w1 ⟨rfl, hg1⟩
    obtain ⟨x1_0, hz1, g1⟩ := alloc1 hg1
    obtain ⟨_, _, _, _, _, _, _, _⟩ := cells8 x1_0
    have _ := fz x1_0
    have _ := ltb x1_0
    have X1_0 := hid x1_0; clear x1_0
    have G1 := hid (g1)
    clear hg1 g1
    go_wp2_with fail
    refine (iVernT N kb _ H2.out).mono ?_
    rintro e w2 ⟨rfl, hg2⟩
    have x2_1 := hg2.keep X1_0.out
    obtain ⟨_, _, _, _, _, _, _, _⟩ := cells8 x2_1
    have _ := fz x2_1
    have _ := ltb x2_1
    have X2_1 := hid x2_1; clear x2_1
    have G2 := hid (G1.out.trans hg2)
    clear hg2
    go_wp2_with fail
    refine (iGrowth_is u v true _ H3.out).mono ?_
    rintro e w3 ⟨rfl, hg3⟩
    have x3_1 := hg3.keep X2_1.out
    obtain ⟨_, _, _, _, _, _, _, _⟩ := cells8 x3_1
    have _ := fz x3_1
    have _ := ltb x3_1
    have X3_1 := hid x3_1; clear x3_1
    have G3 := hid (G2.out.trans hg3)
    clear hg3
    go_wp2_with fail
    go_loopw [32] (fun U wr => ∃ (k : Nat), U = .int .i64 (k : Int) ∧ k ≤ ts.length ∧ Gr w3 wr ∧ wr.heap[w3.heap.size]? = some (mapK (tnm (ts.take k))) ∧ tgG (tnm (ts.take k)) (ts.drop k) = r) (fun U _ => ts.length - (intOf U).toNat)
    case atStart => exact ⟨0, rfl, by omega, (Gr.refl _).al _, (alloc1 (Gr.refl _)).1, HR.out⟩
    case round =>
      obtain ⟨k, rfl, hk, g0, hmap, hs⟩ := hrel
      have GW := hid g0; have HM := hid hmap; have HS := hid hs; have GV := hid (G3.out.trans g0)
      clear g0 hmap hs hmk
      by_cases hlt : k < ts.length
      · obtain ⟨x, hx⟩ : ∃ x, ts[k]? = some x := ⟨ts[k], List.getElem?_eq_getElem _⟩
        obtain ⟨ad, rfl, hcel⟩ := (T.out.keep GV.out) k x hx
        obtain ⟨_, _, _, _, _⟩ := hcel
        have hst := HS.out
        rw [tgG_drop hx] at hst
        have HST := hid hst; have HX := hid hx
        clear hst hx
        cases hb : tgB x with
        | false =>
          obtain rfl : r = false := by rw [← HST.out, hb]; simp
          have HB := hid hb; clear hb
          go_wp2_with fail
          refine (iThing x false _ HB.out).mono ?_
          rintro e w5 ⟨rfl, hg5⟩
          have G5 := hid ((GV.out.al _).trans hg5); clear hg5
          go_wp2_with fail
          go_ret
          exact ⟨rfl, G5.out⟩
        | true =>
          have hst := HST.out
          rw [hb, Bool.true_and] at hst
          have HB := hid hb; have HST2 := hid hst; clear hb hst
          rcases lookK x.nm (tnm (ts.take k)) w3.heap.size with ⟨j, hj, _, hl⟩ | ⟨hno, hl⟩
          · obtain rfl : r = false := by rw [← HST2.out, (known_iff _ _).2 (List.mem_of_getElem? hj)]; simp
            have HL := hid hl; clear hj hl
            go_wp2_with fail
            refine (iThing x true _ HB.out).mono ?_
            rintro e w5 ⟨rfl, hg5⟩
            have XB := hid (alloc1 hg5).1
            have g5 := (alloc1 hg5).2.2
            have hlk := HL.out w5 (g5.keep HM.out)
            have G5 := hid (GV.out.trans g5)
            obtain ⟨_, _, _, _, _⟩ := cells5 XB.out
            have _ := ltb XB.out
            clear hg5 g5
            go_wp2_with fail
            go_ret
            exact ⟨rfl, G5.out⟩
          · have hkn : knownB (tnm (ts.take k)) x.nm = false := by
              cases hh : knownB (tnm (ts.take k)) x.nm with
              | false => rfl
              | true => exact absurd ((known_iff _ _).1 hh) hno
            have hst := HST2.out
            rw [hkn] at hst
            simp only [Bool.not_false, Bool.true_and] at hst
            have HST3 := hid hst; have HL := hid hl; have HNO := hid hno
            clear hst hl hno hkn
            go_wp2_with fail
            refine (iThing x true _ HB.out).mono ?_
            rintro e w5 ⟨rfl, hg5⟩
            have XB := hid (alloc1 hg5).1
            have g5 := (alloc1 hg5).2.2
            have M5 := hid (g5.keep HM.out)
            have hlk := HL.out w5 M5.out
            have hup := updK x.nm (tnm (ts.take k)) w3.heap.size w5 M5.out HNO.out
            obtain ⟨W1, hW1⟩ : ∃ W1, W1 = ({ w5 with heap := w5.heap.setIfInBounds w3.heap.size (mapK (tnm (ts.take k) ++ [x.nm])) } : World) := ⟨_, rfl⟩
            have gW : Gr w3 W1 := by rw [hW1]; exact gr_setK _ (GW.out.trans g5) (Nat.le_refl _) M5.out
            have mW : W1.heap[w3.heap.size]? = some (mapK (tnm (ts.take (k + 1)))) := by
              rw [show tnm (ts.take (k + 1)) = tnm (ts.take k) ++ [x.nm] by unfold tnm; rw [List.take_add_one, HX.out]; simp, hW1]
              exact (MapKept.heap_set M5.out).1
            rw [← hW1] at hup
            have GWW := hid gW; have MW := hid mW
            obtain ⟨_, _, _, _, _⟩ := cells5 XB.out
            have _ := ltb XB.out
            clear hg5 g5 hW1 gW mW
            go_wp2_with fail
            exact ⟨⟨k + 1, by simp, by omega, GWW.out, MW.out, HST3.out⟩, by simp [intOf]; omega⟩
      · have hke : k = ts.length := by omega
        have hr1 : r = true := by rw [← HS.out, hke, List.drop_of_length_le (Nat.le_refl _)]; rfl
        subst hr1
        go_wp2_with fail
        go_ret
        exact ⟨rfl, GV.out⟩
  · have h4' : ¬ (ts.length : Int) ≤ 10 := by omega
    obtain rfl : r = false := by rw [← hr, decide_eq_false h4]; simp
    have H1 := hid h1; have H2 := hid h2; have H3 := hid h3; clear h1 h2 h3 hr
    go_enter Tryz.func34, Tryz.ntmps34
    go_wp2_with fail
    refine (iScT a b A c xs _ (hid (X.out.keep ((Gr.refl w).al _))) hn H1.out).mono ?_
    rintro e w1 ⟨rfl, hg1⟩
    obtain ⟨x1_0, hz1, g1⟩ := alloc1 hg1
    obtain ⟨_, _, _, _, _, _, _, _⟩ := cells8 x1_0
    have _ := fz x1_0
    have _ := ltb x1_0
    have X1_0 := hid x1_0; clear x1_0
    have G1 := hid (g1)
    clear hg1 g1
    go_wp2_with fail
    refine (iVernT N kb _ H2.out).mono ?_
    rintro e w2 ⟨rfl, hg2⟩
    have x2_1 := hg2.keep X1_0.out
    obtain ⟨_, _, _, _, _, _, _, _⟩ := cells8 x2_1
    have _ := fz x2_1
    have _ := ltb x2_1
    have X2_1 := hid x2_1; clear x2_1
    have G2 := hid (G1.out.trans hg2)
    clear hg2
    go_wp2_with fail
    refine (iGrowth_is u v true _ H3.out).mono ?_
    rintro e w3 ⟨rfl, hg3⟩
    have x3_1 := hg3.keep X2_1.out
    obtain ⟨_, _, _, _, _, _, _, _⟩ := cells8 x3_1
    have _ := fz x3_1
    have _ := ltb x3_1
    have X3_1 := hid x3_1; clear x3_1
    have G3 := hid (G2.out.trans hg3)
    clear hg3
    go_wp2_with fail
    go_ret
    exact ⟨rfl, G3.out⟩
end Go.Proofs.YtgfopfomhgfcaaaGreatDoor
namespace Go.Proofs.YtgfopfomhgfcaaaGreatDoor
open Go.RowKit Go.Sort

theorem eqlTg (a b : ByteArray) (r : Bool) (h : (a == b) = r) : (a.toList == b.toList) = r := by
  rw [← beq_toListBytes]
  exact h
theorem tgB_within (x : Tgv) : tgB x = (nmB x.nm 12 && (withinB x.p x.q 100000 && grB x.a x.b)) := by
  unfold tgB withinB lenB
  cases nmB x.nm 12 <;> cases okB x.p x.q <;> simp [Bool.and_assoc]
theorem sWithin_is (a b : Int) (r : Bool) (w : World) (h : withinB a b 100000 = r) : Calls Tryz.prog 71 #[fr a b, .int .i64 100000] w fun e w' => e = .returned (.bool r) ∧ Gr w w' := h ▸ swithin a b 100000 w (by decide)
theorem sName7_is (s : ByteArray) (r : Bool) (w : World) (hs : s.size ≤ 9223372036854775807) (h : nmB s 12 = r) : Calls Tryz.prog 70 #[.string s] w fun e w' => e = .returned (.bool r) ∧ Gr w w' := h ▸ sName7 s w hs
theorem known_take {ts : List Tgv} {k : Nat} {y : Tgv} (s : ByteArray) (h : ts[k]? = some y) : knownB (tnm (ts.take (k + 1))) s = (knownB (tnm (ts.take k)) s || s == y.nm) := by
  unfold knownB tnm
  rw [List.take_add_one, h]
  simp
theorem known_mono {ts : List Tgv} {k i : Nat} {s : ByteArray} (hki : k ≤ i) (h : knownB (tnm (ts.take k)) s = true) : knownB (tnm (ts.take i)) s = true := by
  rw [known_iff] at h ⊢
  unfold tnm at h ⊢
  rw [List.mem_map] at h ⊢
  obtain ⟨y, hy, he⟩ := h
  exact ⟨y, List.mem_of_mem_take (i := k) (by rw [List.take_take, Nat.min_eq_left hki]; exact hy), he⟩
set_option maxRecDepth 20000 in
set_option maxHeartbeats 4000000 in
theorem sVB (a b : Int) (A : Option Addr) (c j : Nat) (xs : List (Int × Int)) (N : Int) (kb : Bool) (u v : Int) (g d : Nat) (ts : List Tgv) (r : Bool) (w : World) (XJ : Hid (w.heap[j]? = some (.cells (bncA a b A xs.length c N kb u v (some ⟨g, 0, none⟩) ts.length d) 41))) (X : Hid (RdF w A xs)) (T : Hid (RdTg w (some ⟨g, 0, none⟩) ts)) (hn : xs.length ≤ 1048576) (hm : ts.length ≤ 1048576) (hz : ∀ x ∈ ts, x.nm.size ≤ 9223372036854775807) (hr : benB a b xs N u v ts = r) :
    Calls Tryz.prog 28 #[.pointer (some ⟨j, 0, none⟩)] w fun e w' => e = .returned (.bool r) ∧ Gr w w' := by
  have HZ := hid hz; clear hz
  unfold benB at hr
  cases h1 : sclB a b xs with
  | false =>
    obtain rfl : r = false := by rw [← hr, h1]; simp
    have HS := hid fun (w : World) (XJ : Hid (w.heap[j]? = some (.cells (bncA a b A xs.length c N kb u v (some ⟨g, 0, none⟩) ts.length d) 41))) (X : Hid (RdF w A xs)) => h1 ▸ sScOk8 (.int .i64 N) (.bool kb) (.int .i64 u) (.int .i64 v) (.slice (some ⟨g, 0, none⟩) ts.length d) a b A c j xs w XJ X hn
    clear h1 hr
    go_enter Tryz.func28, Tryz.ntmps28
    obtain ⟨_, _, _, _, _, _, _, _⟩ := cells8 XJ.out
    have _ := fz XJ.out
    have _ := ltb XJ.out
    go_wp2_with fail
    refine (HS.out _ XJ X).mono ?_
    rintro e w1 ⟨rfl, hg1⟩
    have x1_1 := hg1.keep XJ.out
    obtain ⟨_, _, _, _, _, _, _, _⟩ := cells8 x1_1
    have _ := fz x1_1
    have _ := ltb x1_1
    have X1_1 := hid x1_1; clear x1_1
    have G1 := hid (hg1)
    clear hg1
    go_wp2_with fail
    go_ret
    exact ⟨rfl, G1.out⟩
  | true =>
  have HS := hid fun (w : World) (XJ : Hid (w.heap[j]? = some (.cells (bncA a b A xs.length c N kb u v (some ⟨g, 0, none⟩) ts.length d) 41))) (X : Hid (RdF w A xs)) => h1 ▸ sScOk8 (.int .i64 N) (.bool kb) (.int .i64 u) (.int .i64 v) (.slice (some ⟨g, 0, none⟩) ts.length d) a b A c j xs w XJ X hn
  cases h2 : inB N 2 40 with
  | false =>
    obtain rfl : r = false := by rw [← hr, h2]; simp
    have HV := hid fun (w : World) (XJ : Hid (w.heap[j]? = some (.cells (bncA a b A xs.length c N kb u v (some ⟨g, 0, none⟩) ts.length d) 41))) => h2 ▸ sVernAt8 (.int .i64 a) (.int .i64 b) (.slice A xs.length c) (.int .i64 u) (.int .i64 v) (.slice (some ⟨g, 0, none⟩) ts.length d) N kb w j XJ
    clear h1 h2 hr
    go_enter Tryz.func28, Tryz.ntmps28
    obtain ⟨_, _, _, _, _, _, _, _⟩ := cells8 XJ.out
    have _ := fz XJ.out
    have _ := ltb XJ.out
    go_wp2_with fail
    refine (HS.out _ XJ X).mono ?_
    rintro e w1 ⟨rfl, hg1⟩
    have x1_1 := hg1.keep XJ.out
    obtain ⟨_, _, _, _, _, _, _, _⟩ := cells8 x1_1
    have _ := fz x1_1
    have _ := ltb x1_1
    have X1_1 := hid x1_1; clear x1_1
    have G1 := hid (hg1)
    clear hg1
    go_wp2_with fail
    refine (HV.out _ X1_1).mono ?_
    rintro e w2 ⟨rfl, hg2⟩
    have x2_1 := hg2.keep X1_1.out
    obtain ⟨_, _, _, _, _, _, _, _⟩ := cells8 x2_1
    have _ := fz x2_1
    have _ := ltb x2_1
    have X2_1 := hid x2_1; clear x2_1
    have G2 := hid (G1.out.trans hg2)
    clear hg2
    go_wp2_with fail
    go_ret
    exact ⟨rfl, G2.out⟩
  | true =>
  have HV := hid fun (w : World) (XJ : Hid (w.heap[j]? = some (.cells (bncA a b A xs.length c N kb u v (some ⟨g, 0, none⟩) ts.length d) 41))) => h2 ▸ sVernAt8 (.int .i64 a) (.int .i64 b) (.slice A xs.length c) (.int .i64 u) (.int .i64 v) (.slice (some ⟨g, 0, none⟩) ts.length d) N kb w j XJ
  cases h3 : grB u v with
  | false =>
    obtain rfl : r = false := by rw [← hr, h3]; simp
    have H3 := hid h3; clear h1 h2 h3 hr
    go_enter Tryz.func28, Tryz.ntmps28
    obtain ⟨_, _, _, _, _, _, _, _⟩ := cells8 XJ.out
    have _ := fz XJ.out
    have _ := ltb XJ.out
    go_wp2_with fail
    refine (HS.out _ XJ X).mono ?_
    rintro e w1 ⟨rfl, hg1⟩
    have x1_1 := hg1.keep XJ.out
    obtain ⟨_, _, _, _, _, _, _, _⟩ := cells8 x1_1
    have _ := fz x1_1
    have _ := ltb x1_1
    have X1_1 := hid x1_1; clear x1_1
    have G1 := hid (hg1)
    clear hg1
    go_wp2_with fail
    refine (HV.out _ X1_1).mono ?_
    rintro e w2 ⟨rfl, hg2⟩
    have x2_1 := hg2.keep X1_1.out
    obtain ⟨_, _, _, _, _, _, _, _⟩ := cells8 x2_1
    have _ := fz x2_1
    have _ := ltb x2_1
    have X2_1 := hid x2_1; clear x2_1
    have G2 := hid (G1.out.trans hg2)
    clear hg2
    go_wp2_with fail
    refine (sGrows_is u v false _ H3.out).mono ?_
    rintro e w3 ⟨rfl, hg3⟩
    have x3_1 := hg3.keep X2_1.out
    obtain ⟨_, _, _, _, _, _, _, _⟩ := cells8 x3_1
    have _ := fz x3_1
    have _ := ltb x3_1
    have X3_1 := hid x3_1; clear x3_1
    have G3 := hid (G2.out.trans hg3)
    clear hg3
    go_wp2_with fail
    go_ret
    exact ⟨rfl, G3.out⟩
  | true =>
  by_cases h4 : ts.length ≤ 10
  · have h4' : (ts.length : Int) ≤ 10 := by omega
    rw [h1, h2, h3, decide_eq_true h4] at hr
    simp only [Bool.true_and] at hr
    have H3 := hid h3; have HR := hid hr; clear h1 h2 h3 hr
    go_enter Tryz.func28, Tryz.ntmps28
    obtain ⟨_, _, _, _, _, _, _, _⟩ := cells8 XJ.out
    have _ := fz XJ.out
    have _ := ltb XJ.out
    go_wp2_with fail
    refine (HS.out _ XJ X).mono ?_
    rintro e w1 ⟨rfl, hg1⟩
    have x1_1 := hg1.keep XJ.out
    obtain ⟨_, _, _, _, _, _, _, _⟩ := cells8 x1_1
    have _ := fz x1_1
    have _ := ltb x1_1
    have X1_1 := hid x1_1; clear x1_1
    have G1 := hid (hg1)
    clear hg1
    go_wp2_with fail
    refine (HV.out _ X1_1).mono ?_
    rintro e w2 ⟨rfl, hg2⟩
    have x2_1 := hg2.keep X1_1.out
    obtain ⟨_, _, _, _, _, _, _, _⟩ := cells8 x2_1
    have _ := fz x2_1
    have _ := ltb x2_1
    have X2_1 := hid x2_1; clear x2_1
    have G2 := hid (G1.out.trans hg2)
    clear hg2
    go_wp2_with fail
    refine (sGrows_is u v true _ H3.out).mono ?_
    rintro e w3 ⟨rfl, hg3⟩
    have x3_1 := hg3.keep X2_1.out
    obtain ⟨_, _, _, _, _, _, _, _⟩ := cells8 x3_1
    have _ := fz x3_1
    have _ := ltb x3_1
    have X3_1 := hid x3_1; clear x3_1
    have G3 := hid (G2.out.trans hg3)
    clear hg3
    go_wp2_with fail
    go_loopw [3] (fun U wr => ∃ (k : Nat), U = .int .i64 (k : Int) ∧ k ≤ ts.length ∧ Gr w3 wr ∧ tgG (tnm (ts.take k)) (ts.drop k) = r) (fun U _ => ts.length - (intOf U).toNat)
    case atStart => exact ⟨0, rfl, by omega, Gr.refl _, HR.out⟩
    case round =>
      obtain ⟨i, rfl, hi, g0, hs⟩ := hrel
      have GW := hid g0; have HS := hid hs; have GV := hid (G3.out.trans g0)
      have Y3 := hid (g0.keep X3_1.out)
      clear g0 hs
      by_cases hlt : i < ts.length
      · obtain ⟨x, hx⟩ : ∃ x, ts[i]? = some x := ⟨ts[i], List.getElem?_eq_getElem _⟩
        obtain ⟨ad, e0, hcel⟩ := (T.out.keep GV.out) i x hx
        cases e0
        rw [add_at] at hcel
        have HCEL := hid hcel
        have hzx := HZ.out x (List.mem_of_getElem? hx)
        have hst := HS.out
        rw [tgG_drop hx, tgB_within] at hst
        have HST := hid hst; have HX := hid hx; have HZX := hid hzx
        clear hst hx hcel hzx
        cases hb1 : nmB x.nm 12 with
        | false =>
          obtain rfl : r = false := by rw [← HST.out, hb1]; simp
          have HB1 := hid hb1; clear hb1
          obtain ⟨_, _, _, _, _⟩ := HCEL.out.blk
          obtain ⟨_, _, _, _, _, _, _, _⟩ := cells8 Y3.out
          have _ := fz Y3.out
          have _ := ltb Y3.out
          go_wp2_with fail
          refine (sName7_is x.nm false _ HZX.out HB1.out).mono ?_
          rintro e w6 ⟨rfl, hg6⟩
          have x6_1 := hg6.keep Y3.out
          obtain ⟨_, _, _, _, _, _, _, _⟩ := cells8 x6_1
          have _ := fz x6_1
          have _ := ltb x6_1
          have X6_1 := hid x6_1; clear x6_1
          have G6 := hid (GW.out.trans hg6)
          clear hg6
          go_wp2_with fail
          go_ret
          exact ⟨rfl, G3.out.trans G6.out⟩
        | true =>
        cases hb2 : withinB x.p x.q 100000 with
        | false =>
          obtain rfl : r = false := by rw [← HST.out, hb2]; simp
          have HB1 := hid hb1; have HB2 := hid hb2; clear hb1 hb2
          obtain ⟨_, _, _, _, _⟩ := HCEL.out.blk
          obtain ⟨_, _, _, _, _, _, _, _⟩ := cells8 Y3.out
          have _ := fz Y3.out
          have _ := ltb Y3.out
          go_wp2_with fail
          refine (sName7_is x.nm true _ HZX.out HB1.out).mono ?_
          rintro e w6 ⟨rfl, hg6⟩
          have x6_1 := hg6.keep Y3.out
          obtain ⟨_, _, _, _, _, _, _, _⟩ := cells8 x6_1
          have _ := fz x6_1
          have _ := ltb x6_1
          have X6_1 := hid x6_1; clear x6_1
          have G6 := hid (GW.out.trans hg6)
          clear hg6
          obtain ⟨ad6, e6, hc6⟩ := (T.out.keep (G3.out.trans G6.out)) i x HX.out
          cases e6
          rw [add_at] at hc6
          obtain ⟨_, _, _, _, _⟩ := hc6.blk
          clear hc6
          go_wp2_with fail
          refine (sWithin_is x.p x.q false _ HB2.out).mono ?_
          rintro e w7 ⟨rfl, hg7⟩
          have x7_1 := hg7.keep X6_1.out
          obtain ⟨_, _, _, _, _, _, _, _⟩ := cells8 x7_1
          have _ := fz x7_1
          have _ := ltb x7_1
          have X7_1 := hid x7_1; clear x7_1
          have G7 := hid (G6.out.trans hg7)
          clear hg7
          go_wp2_with fail
          go_ret
          exact ⟨rfl, G3.out.trans G7.out⟩
        | true =>
        cases hb3 : grB x.a x.b with
        | false =>
          obtain rfl : r = false := by rw [← HST.out, hb3]; simp
          have HB1 := hid hb1; have HB2 := hid hb2; have HB3 := hid hb3; clear hb1 hb2 hb3
          obtain ⟨_, _, _, _, _⟩ := HCEL.out.blk
          obtain ⟨_, _, _, _, _, _, _, _⟩ := cells8 Y3.out
          have _ := fz Y3.out
          have _ := ltb Y3.out
          go_wp2_with fail
          refine (sName7_is x.nm true _ HZX.out HB1.out).mono ?_
          rintro e w6 ⟨rfl, hg6⟩
          have x6_1 := hg6.keep Y3.out
          obtain ⟨_, _, _, _, _, _, _, _⟩ := cells8 x6_1
          have _ := fz x6_1
          have _ := ltb x6_1
          have X6_1 := hid x6_1; clear x6_1
          have G6 := hid (GW.out.trans hg6)
          clear hg6
          obtain ⟨ad6, e6, hc6⟩ := (T.out.keep (G3.out.trans G6.out)) i x HX.out
          cases e6
          rw [add_at] at hc6
          obtain ⟨_, _, _, _, _⟩ := hc6.blk
          clear hc6
          go_wp2_with fail
          refine (sWithin_is x.p x.q true _ HB2.out).mono ?_
          rintro e w7 ⟨rfl, hg7⟩
          have x7_1 := hg7.keep X6_1.out
          obtain ⟨_, _, _, _, _, _, _, _⟩ := cells8 x7_1
          have _ := fz x7_1
          have _ := ltb x7_1
          have X7_1 := hid x7_1; clear x7_1
          have G7 := hid (G6.out.trans hg7)
          clear hg7
          obtain ⟨ad7, e7, hc7⟩ := (T.out.keep (G3.out.trans G7.out)) i x HX.out
          cases e7
          rw [add_at] at hc7
          obtain ⟨_, _, _, _, _⟩ := hc7.blk
          clear hc7
          go_wp2_with fail
          refine (sGrows_is x.a x.b false _ HB3.out).mono ?_
          rintro e w8 ⟨rfl, hg8⟩
          have x8_1 := hg8.keep X7_1.out
          obtain ⟨_, _, _, _, _, _, _, _⟩ := cells8 x8_1
          have _ := fz x8_1
          have _ := ltb x8_1
          have X8_1 := hid x8_1; clear x8_1
          have G8 := hid (G7.out.trans hg8)
          clear hg8
          go_wp2_with fail
          go_ret
          exact ⟨rfl, G3.out.trans G8.out⟩
        | true =>
          have hst := HST.out
          rw [hb1, hb2, hb3] at hst
          simp only [Bool.true_and] at hst
          have HST2 := hid hst
          have HB1 := hid hb1; have HB2 := hid hb2; have HB3 := hid hb3; clear hb1 hb2 hb3 hst
          obtain ⟨_, _, _, _, _⟩ := HCEL.out.blk
          obtain ⟨_, _, _, _, _, _, _, _⟩ := cells8 Y3.out
          have _ := fz Y3.out
          have _ := ltb Y3.out
          go_wp2_with fail
          refine (sName7_is x.nm true _ HZX.out HB1.out).mono ?_
          rintro e w6 ⟨rfl, hg6⟩
          have x6_1 := hg6.keep Y3.out
          obtain ⟨_, _, _, _, _, _, _, _⟩ := cells8 x6_1
          have _ := fz x6_1
          have _ := ltb x6_1
          have X6_1 := hid x6_1; clear x6_1
          have G6 := hid (GW.out.trans hg6)
          clear hg6
          obtain ⟨ad6, e6, hc6⟩ := (T.out.keep (G3.out.trans G6.out)) i x HX.out
          cases e6
          rw [add_at] at hc6
          obtain ⟨_, _, _, _, _⟩ := hc6.blk
          clear hc6
          go_wp2_with fail
          refine (sWithin_is x.p x.q true _ HB2.out).mono ?_
          rintro e w7 ⟨rfl, hg7⟩
          have x7_1 := hg7.keep X6_1.out
          obtain ⟨_, _, _, _, _, _, _, _⟩ := cells8 x7_1
          have _ := fz x7_1
          have _ := ltb x7_1
          have X7_1 := hid x7_1; clear x7_1
          have G7 := hid (G6.out.trans hg7)
          clear hg7
          obtain ⟨ad7, e7, hc7⟩ := (T.out.keep (G3.out.trans G7.out)) i x HX.out
          cases e7
          rw [add_at] at hc7
          obtain ⟨_, _, _, _, _⟩ := hc7.blk
          clear hc7
          go_wp2_with fail
          refine (sGrows_is x.a x.b true _ HB3.out).mono ?_
          rintro e w8 ⟨rfl, hg8⟩
          have x8_1 := hg8.keep X7_1.out
          obtain ⟨_, _, _, _, _, _, _, _⟩ := cells8 x8_1
          have _ := fz x8_1
          have _ := ltb x8_1
          have X8_1 := hid x8_1; clear x8_1
          have G8 := hid (G7.out.trans hg8)
          clear hg8
          go_wp2_with fail
          go_loopw [5] (fun U wr => ∃ (k : Nat), U = .int .i64 (k : Int) ∧ k ≤ i ∧ Gr w8 wr ∧ knownB (tnm (ts.take k)) x.nm = false) (fun U _ => i - (intOf U).toNat)
          case atStart => exact ⟨0, rfl, by omega, Gr.refl _, rfl⟩
          case round =>
            obtain ⟨k, rfl, hk, hgi, hkn⟩ := hrel
            have HKN := hid hkn; have GI := hid hgi; have GT := hid (G8.out.trans hgi); have XI := hid (hgi.keep X8_1.out)
            obtain ⟨_, _, _, _, _, _, _, _⟩ := cells8 XI.out
            have _ := ltb XI.out
            clear hkn hgi
            by_cases hki : k < i
            · obtain ⟨y, hy⟩ : ∃ y, ts[k]? = some y := ⟨ts[k]'(by omega), List.getElem?_eq_getElem _⟩
              obtain ⟨ad8, e8, hc8⟩ := (T.out.keep (G3.out.trans GT.out)) i x HX.out
              cases e8
              obtain ⟨ad9, e9, hc9⟩ := (T.out.keep (G3.out.trans GT.out)) k y hy
              cases e9
              rw [add_at] at hc8 hc9
              have hkt := known_take x.nm hy
              rw [HKN.out, Bool.false_or] at hkt
              have C8 := hid hc8.h0; have C9 := hid hc9.h0; have HKT := hid hkt
              clear hc8 hc9 hkt hy
              cases he : (x.nm == y.nm) with
              | true =>
                obtain rfl : r = false := by
                  rw [← HST2.out, known_mono (show k + 1 ≤ i by omega) (by rw [HKT.out, he])]; rfl
                have he2 := eqlTg y.nm x.nm true (by rw [← he]; rw [Bool.eq_iff_iff, strEqK, strEqK]; exact eq_comm)
                clear he
                go_wp2_with fail
                refine wp_reg0 12 (by kernel_rfl) (by kernel_rfl) ?_
                apply Exists.intro
                refine ⟨fun wb hb => ?_, ?_⟩
                · obtain ⟨_, _, _, _, _, _, _, _⟩ := hb.at8 XI.out
                  have _ := hb.atF C8.out; have _ := hb.atF C9.out
                  simp only [headOps, List.contains, List.elem, reduceIte, Bool.false_eq_true]
                  repeat (first | go_big_quiet_step (first | (fail)) | quiet_step (fail))
                  exact wpQuiet_nil rfl
                intro w9 hg9
                have G9 := hid (GT.out.trans hg9); clear hg9
                go_wp2_with fail
                go_ret
                exact ⟨rfl, G3.out.trans G9.out⟩
              | false =>
                have he2 := eqlTg y.nm x.nm false (by rw [← he]; rw [Bool.eq_iff_iff, strEqK, strEqK]; exact eq_comm)
                have HE := hid he; clear he
                go_wp2_with fail
                refine wp_reg0 12 (by kernel_rfl) (by kernel_rfl) ?_
                apply Exists.intro
                refine ⟨fun wb hb => ?_, ?_⟩
                · obtain ⟨_, _, _, _, _, _, _, _⟩ := hb.at8 XI.out
                  have _ := hb.atF C8.out; have _ := hb.atF C9.out
                  simp only [headOps, List.contains, List.elem, reduceIte, Bool.false_eq_true]
                  repeat (first | go_big_quiet_step (first | (fail)) | quiet_step (fail))
                  exact wpQuiet_nil rfl
                intro w9 hg9
                have G9 := hid (GI.out.trans hg9); clear hg9
                go_wp2_with fail
                exact ⟨⟨k + 1, by simp, by omega, G9.out, by rw [HKT.out, HE.out]⟩, by simp [intOf]; omega⟩
            · obtain rfl : k = i := by omega
              have hst := HST2.out
              rw [HKN.out] at hst
              simp only [Bool.not_false, Bool.true_and] at hst
              have HST3 := hid hst; clear hst
              go_wp2_with fail
              exact ⟨⟨k + 1, by simp, by omega, G8.out.trans GI.out, HST3.out⟩, by simp [intOf]; omega⟩
      · have hke : i = ts.length := by omega
        have hr1 : r = true := by rw [← HS.out, hke, List.drop_of_length_le (Nat.le_refl _)]; rfl
        subst hr1
        obtain ⟨_, _, _, _, _, _, _, _⟩ := cells8 Y3.out
        have _ := fz Y3.out
        have _ := ltb Y3.out
        go_wp2_with fail
        go_ret
        exact ⟨rfl, GV.out⟩
  · have h4' : ¬ (ts.length : Int) ≤ 10 := by omega
    obtain rfl : r = false := by rw [← hr, decide_eq_false h4]; simp
    have H3 := hid h3; clear h1 h2 h3 hr
    go_enter Tryz.func28, Tryz.ntmps28
    obtain ⟨_, _, _, _, _, _, _, _⟩ := cells8 XJ.out
    have _ := fz XJ.out
    have _ := ltb XJ.out
    go_wp2_with fail
    refine (HS.out _ XJ X).mono ?_
    rintro e w1 ⟨rfl, hg1⟩
    have x1_1 := hg1.keep XJ.out
    obtain ⟨_, _, _, _, _, _, _, _⟩ := cells8 x1_1
    have _ := fz x1_1
    have _ := ltb x1_1
    have X1_1 := hid x1_1; clear x1_1
    have G1 := hid (hg1)
    clear hg1
    go_wp2_with fail
    refine (HV.out _ X1_1).mono ?_
    rintro e w2 ⟨rfl, hg2⟩
    have x2_1 := hg2.keep X1_1.out
    obtain ⟨_, _, _, _, _, _, _, _⟩ := cells8 x2_1
    have _ := fz x2_1
    have _ := ltb x2_1
    have X2_1 := hid x2_1; clear x2_1
    have G2 := hid (G1.out.trans hg2)
    clear hg2
    go_wp2_with fail
    refine (sGrows_is u v true _ H3.out).mono ?_
    rintro e w3 ⟨rfl, hg3⟩
    have x3_1 := hg3.keep X2_1.out
    obtain ⟨_, _, _, _, _, _, _, _⟩ := cells8 x3_1
    have _ := fz x3_1
    have _ := ltb x3_1
    have X3_1 := hid x3_1; clear x3_1
    have G3 := hid (G2.out.trans hg3)
    clear hg3
    go_wp2_with fail
    go_ret
    exact ⟨rfl, G3.out⟩
end Go.Proofs.YtgfopfomhgfcaaaGreatDoor
namespace Go.Proofs.YtgfopfomhgfcaaaGreatDoor
open Go.RowKit Go.Sort

def wmB (p q : Int) : Bool := decide ((p.natAbs : Int) ≤ 100 * q)
def shB (n : Nat) (t a b c d : Int) : Bool := inB t 0 ((n : Int) - 1) && (okB a b && (wmB a b && okB c d))
theorem wm_gt (p q : Int) : (!gtB p (100 * q)) = wmB p q := by
  unfold gtB wmB
  rw [Bool.eq_iff_iff]
  simp
  omega
theorem wm_gt2 {p q : Int} {r : Bool} (h : wmB p q = r) : gtB p (100 * q) = !r := by
  rw [← h, ← wm_gt]; simp
def vshB (a b : Int) (xs : List (Int × Int)) (N u v : Int) (ts : List Tgv) (h0 h1 h2 h3 h4 : Int) : Bool := benB a b xs N u v ts && shB ts.length h0 h1 h2 h3 h4
/-! the law's side -/
end Go.Proofs.YtgfopfomhgfcaaaGreatDoor
