/- BENCHES: the bench as a value; ValidBench of the program. -/
import Derived.Test.YtflfjedimcbfeaaBe
import Derived.Test.YtflfjedimcbfeaaB8
import Derived.Test.YtflfjedimcbfeaaSkk
namespace Go.Proofs.Ytflfjedimcbfeaa
open Go.RowKit Go.Sort

abbrev bnc (a b : Int) (A : Option Addr) (m c : Nat) (N : Int) (k : Bool) (u v : Int) (B : Option Addr) (l d : Nat) : Value := .agg #[.int .i64 a, .int .i64 b, .slice A m c, .int .i64 N, .bool k, .int .i64 u, .int .i64 v, .slice B l d]
abbrev bncA (a b : Int) (A : Option Addr) (m c : Nat) (N : Int) (k : Bool) (u v : Int) (B : Option Addr) (l d : Nat) : Array Value := #[.int .i64 a, .int .i64 b, .slice A m c, .int .i64 N, .bool k, .int .i64 u, .int .i64 v, .slice B l d]
def knownB (D : List ByteArray) (s : ByteArray) : Bool := D.any (fun y => s == y)
theorem known_iff (D : List ByteArray) (s : ByteArray) : knownB D s = true ↔ s ∈ D := by
  unfold knownB
  rw [List.any_eq_true]
  constructor
  · rintro ⟨y, hy, he⟩
    rw [strEqK] at he
    subst he
    exact hy
  · intro h
    exact ⟨s, h, (strEqK s s).2 rfl⟩
/-- things behind those with the names D: sound, and with new names -/
def tgG : List ByteArray → List Tgv → Bool
  | _, [] => true
  | D, x :: r => tgB x && (!knownB D x.nm && tgG (D ++ [x.nm]) r)
def tnm (ts : List Tgv) : List ByteArray := ts.map (·.nm)
theorem tgG_drop {ts : List Tgv} {k : Nat} {x : Tgv} (h : ts[k]? = some x) : tgG (tnm (ts.take k)) (ts.drop k) = (tgB x && (!knownB (tnm (ts.take k)) x.nm && tgG (tnm (ts.take (k + 1))) (ts.drop (k + 1)))) := by
  have hk : k < ts.length := (List.getElem?_eq_some_iff.1 h).1
  have e : ts[k] = x := by have := List.getElem?_eq_getElem hk; rw [h] at this; exact (Option.some.inj this).symm
  rw [List.drop_eq_getElem_cons hk, e]
  show (tgB x && (!knownB (tnm (ts.take k)) x.nm && tgG (tnm (ts.take k) ++ [x.nm]) (ts.drop (k + 1)))) = _
  rw [show tnm (ts.take k) ++ [x.nm] = tnm (ts.take (k + 1)) by unfold tnm; rw [List.take_add_one, h]; simp]
def benB (a b : Int) (xs : List (Int × Int)) (N u v : Int) (ts : List Tgv) : Bool := sclB a b xs && (inB N 2 40 && (grB u v && (decide (ts.length ≤ 10) && tgG [] ts)))
theorem gr_setK {w W : World} {m : Nat} {o : Obj} (o' : Obj) (h : Gr w W) (hge : w.heap.size ≤ m) (hr : W.heap[m]? = some o) : Gr w { W with heap := W.heap.setIfInBounds m o' } :=
  h.heap rfl rfl rfl rfl (by simp) fun k hk => (MapKept.heap_set hr).2 k (by omega)
set_option maxRecDepth 20000 in
set_option maxHeartbeats 2000000 in
theorem iVB (a b : Int) (A : Option Addr) (c : Nat) (xs : List (Int × Int)) (N : Int) (kb : Bool) (u v : Int) (B : Option Addr) (d : Nat) (ts : List Tgv) (r : Bool) (w : World) (X : Hid (RdF w A xs)) (T : Hid (RdTg w B ts)) (hn : xs.length ≤ 1048576) (hm : ts.length ≤ 1048576) (hr : benB a b xs N u v ts = r) :
    Calls Try.prog 12 #[bnc a b A xs.length c N kb u v B ts.length d] w fun e w' => e = .returned (.bool r) ∧ Gr w w' := by
  have hmk : ∀ w : World, (Instr.makeMap 78 none).run Try.prog w = .ok (.map (some w.heap.size)) (w.alloc (.map #[] 0)) := fun w => rfl
  unfold benB at hr
  cases h1 : sclB a b xs with
  | false =>
    obtain rfl : r = false := by rw [← hr, h1]; simp
    have H1 := hid h1; clear h1 hr
    go_enter Try.func12, Try.ntmps12
    go_wp2_with fail
    refine (iScF a b A c xs _ (hid (X.out.keep ((Gr.refl w).al _))) hn H1.out).mono ?_
    rintro e w1 ⟨rfl, hg1⟩
    obtain ⟨x1_0, hz1, g1⟩ := alloc1 hg1
    obtain ⟨_, _, _, _, _, _, _, _⟩ := cells8 x1_0
    have _ := fz x1_0
    have _ := ltb x1_0
    have X1_0 := hid x1_0; clear x1_0
    have G1 := hid (g1)
    clear hg1 g1
    go_wp2_with fail
    go_ret
    exact ⟨rfl, G1.out⟩
  | true =>
  cases h2 : inB N 2 40 with
  | false =>
    obtain rfl : r = false := by rw [← hr, h2]; simp
    have H1 := hid h1; have H2 := hid h2; clear h1 h2 hr
    go_enter Try.func12, Try.ntmps12
    go_wp2_with fail
    refine (iScT a b A c xs _ (hid (X.out.keep ((Gr.refl w).al _))) hn H1.out).mono ?_
    rintro e w1 ⟨rfl, hg1⟩
    obtain ⟨x1_0, hz1, g1⟩ := alloc1 hg1
    obtain ⟨_, _, _, _, _, _, _, _⟩ := cells8 x1_0
    have _ := fz x1_0
    have _ := ltb x1_0
    have X1_0 := hid x1_0; clear x1_0
    have G1 := hid (g1)
    clear hg1 g1
    go_wp2_with fail
    refine (iVernF N kb _ H2.out).mono ?_
    rintro e w2 ⟨rfl, hg2⟩
    have x2_1 := hg2.keep X1_0.out
    obtain ⟨_, _, _, _, _, _, _, _⟩ := cells8 x2_1
    have _ := fz x2_1
    have _ := ltb x2_1
    have X2_1 := hid x2_1; clear x2_1
    have G2 := hid (G1.out.trans hg2)
    clear hg2
    go_wp2_with fail
    go_ret
    exact ⟨rfl, G2.out⟩
  | true =>
  cases h3 : grB u v with
  | false =>
    obtain rfl : r = false := by rw [← hr, h3]; simp
    have H1 := hid h1; have H2 := hid h2; have H3 := hid h3; clear h1 h2 h3 hr
    go_enter Try.func12, Try.ntmps12
    go_wp2_with fail
    refine (iScT a b A c xs _ (hid (X.out.keep ((Gr.refl w).al _))) hn H1.out).mono ?_
    rintro e w1 ⟨rfl, hg1⟩
    obtain ⟨x1_0, hz1, g1⟩ := alloc1 hg1
    obtain ⟨_, _, _, _, _, _, _, _⟩ := cells8 x1_0
    have _ := fz x1_0
    have _ := ltb x1_0
    have X1_0 := hid x1_0; clear x1_0
    have G1 := hid (g1)
    clear hg1 g1
    go_wp2_with fail
    refine (iVernT N kb _ H2.out).mono ?_
    rintro e w2 ⟨rfl, hg2⟩
    have x2_1 := hg2.keep X1_0.out
    obtain ⟨_, _, _, _, _, _, _, _⟩ := cells8 x2_1
    have _ := fz x2_1
    have _ := ltb x2_1
    have X2_1 := hid x2_1; clear x2_1
    have G2 := hid (G1.out.trans hg2)
    clear hg2
    go_wp2_with fail
    refine (iGrowth_is u v false _ H3.out).mono ?_
    rintro e w3 ⟨rfl, hg3⟩
    have x3_1 := hg3.keep X2_1.out
    obtain ⟨_, _, _, _, _, _, _, _⟩ := cells8 x3_1
    have _ := fz x3_1
    have _ := ltb x3_1
    have X3_1 := hid x3_1; clear x3_1
    have G3 := hid (G2.out.trans hg3)
    clear hg3
    go_wp2_with fail
    go_ret
    exact ⟨rfl, G3.out⟩
  | true =>
  by_cases h4 : ts.length ≤ 10
  · have h4' : (ts.length : Int) ≤ 10 := by omega
    rw [h1, h2, h3, decide_eq_true h4] at hr
    simp only [Bool.true_and] at hr
    have H1 := hid h1; have H2 := hid h2; have H3 := hid h3; have HR := hid hr; clear h1 h2 h3 hr
    go_enter Try.func12, Try.ntmps12
    go_wp2_with fail
    refine (iScT a b A c xs _ (hid (X.out.keep ((Gr.refl w).al _))) hn H1.out).mono ?_
    rintro e w1 ⟨rfl, hg1⟩
    obtain ⟨x1_0, hz1, g1⟩ := alloc1 hg1
    obtain ⟨_, _, _, _, _, _, _, _⟩ := cells8 x1_0
    have _ := fz x1_0
    have _ := ltb x1_0
    have X1_0 := hid x1_0; clear x1_0
    have G1 := hid (g1)
    clear hg1 g1
    go_wp2_with fail
    refine (iVernT N kb _ H2.out).mono ?_
    rintro e w2 ⟨rfl, hg2⟩
    have x2_1 := hg2.keep X1_0.out
    obtain ⟨_, _, _, _, _, _, _, _⟩ := cells8 x2_1
    have _ := fz x2_1
    have _ := ltb x2_1
    have X2_1 := hid x2_1; clear x2_1
    have G2 := hid (G1.out.trans hg2)
    clear hg2
    go_wp2_with fail
    refine (iGrowth_is u v true _ H3.out).mono ?_
    rintro e w3 ⟨rfl, hg3⟩
    have x3_1 := hg3.keep X2_1.out
    obtain ⟨_, _, _, _, _, _, _, _⟩ := cells8 x3_1
    have _ := fz x3_1
    have _ := ltb x3_1
    have X3_1 := hid x3_1; clear x3_1
    have G3 := hid (G2.out.trans hg3)
    clear hg3
    go_wp2_with fail
    go_loopw [32] (fun U wr => ∃ (k : Nat), U = .int .i64 (k : Int) ∧ k ≤ ts.length ∧ Gr w3 wr ∧ wr.heap[w3.heap.size]? = some (mapK (tnm (ts.take k))) ∧ tgG (tnm (ts.take k)) (ts.drop k) = r) (fun U _ => ts.length - (intOf U).toNat)
    case atStart => exact ⟨0, rfl, by omega, (Gr.refl _).al _, (alloc1 (Gr.refl _)).1, HR.out⟩
    case round =>
      obtain ⟨k, rfl, hk, g0, hmap, hs⟩ := hrel
      have GW := hid g0; have HM := hid hmap; have HS := hid hs; have GV := hid (G3.out.trans g0)
      clear g0 hmap hs hmk
      by_cases hlt : k < ts.length
      · obtain ⟨x, hx⟩ : ∃ x, ts[k]? = some x := ⟨ts[k], List.getElem?_eq_getElem _⟩
        obtain ⟨ad, rfl, hcel⟩ := (T.out.keep GV.out) k x hx
        obtain ⟨_, _, _, _, _⟩ := hcel
        have hst := HS.out
        rw [tgG_drop hx] at hst
        have HST := hid hst; have HX := hid hx
        clear hst hx
        cases hb : tgB x with
        | false =>
          obtain rfl : r = false := by rw [← HST.out, hb]; simp
          have HB := hid hb; clear hb
          go_wp2_with fail
          refine (iThing x false _ HB.out).mono ?_
          rintro e w5 ⟨rfl, hg5⟩
          have G5 := hid ((GV.out.al _).trans hg5); clear hg5
          go_wp2_with fail
          go_ret
          exact ⟨rfl, G5.out⟩
        | true =>
          have hst := HST.out
          rw [hb, Bool.true_and] at hst
          have HB := hid hb; have HST2 := hid hst; clear hb hst
          rcases lookK x.nm (tnm (ts.take k)) w3.heap.size with ⟨j, hj, _, hl⟩ | ⟨hno, hl⟩
          · obtain rfl : r = false := by rw [← HST2.out, (known_iff _ _).2 (List.mem_of_getElem? hj)]; simp
            have HL := hid hl; clear hj hl
            go_wp2_with fail
            refine (iThing x true _ HB.out).mono ?_
            rintro e w5 ⟨rfl, hg5⟩
            have XB := hid (alloc1 hg5).1
            have g5 := (alloc1 hg5).2.2
            have hlk := HL.out w5 (g5.keep HM.out)
            have G5 := hid (GV.out.trans g5)
            obtain ⟨_, _, _, _, _⟩ := cells5 XB.out
            have _ := ltb XB.out
            clear hg5 g5
            go_wp2_with fail
            go_ret
            exact ⟨rfl, G5.out⟩
          · have hkn : knownB (tnm (ts.take k)) x.nm = false := by
              cases hh : knownB (tnm (ts.take k)) x.nm with
              | false => rfl
              | true => exact absurd ((known_iff _ _).1 hh) hno
            have hst := HST2.out
            rw [hkn] at hst
            simp only [Bool.not_false, Bool.true_and] at hst
            have HST3 := hid hst; have HL := hid hl; have HNO := hid hno
            clear hst hl hno hkn
            go_wp2_with fail
            refine (iThing x true _ HB.out).mono ?_
            rintro e w5 ⟨rfl, hg5⟩
            have XB := hid (alloc1 hg5).1
            have g5 := (alloc1 hg5).2.2
            have M5 := hid (g5.keep HM.out)
            have hlk := HL.out w5 M5.out
            have hup := updK x.nm (tnm (ts.take k)) w3.heap.size w5 M5.out HNO.out
            obtain ⟨W1, hW1⟩ : ∃ W1, W1 = ({ w5 with heap := w5.heap.setIfInBounds w3.heap.size (mapK (tnm (ts.take k) ++ [x.nm])) } : World) := ⟨_, rfl⟩
            have gW : Gr w3 W1 := by rw [hW1]; exact gr_setK _ (GW.out.trans g5) (Nat.le_refl _) M5.out
            have mW : W1.heap[w3.heap.size]? = some (mapK (tnm (ts.take (k + 1)))) := by
              rw [show tnm (ts.take (k + 1)) = tnm (ts.take k) ++ [x.nm] by unfold tnm; rw [List.take_add_one, HX.out]; simp, hW1]
              exact (MapKept.heap_set M5.out).1
            rw [← hW1] at hup
            have GWW := hid gW; have MW := hid mW
            obtain ⟨_, _, _, _, _⟩ := cells5 XB.out
            have _ := ltb XB.out
            clear hg5 g5 hW1 gW mW
            go_wp2_with fail
            exact ⟨⟨k + 1, by simp, by omega, GWW.out, MW.out, HST3.out⟩, by simp [intOf]; omega⟩
      · have hke : k = ts.length := by omega
        have hr1 : r = true := by rw [← HS.out, hke, List.drop_of_length_le (Nat.le_refl _)]; rfl
        subst hr1
        go_wp2_with fail
        go_ret
        exact ⟨rfl, GV.out⟩
  · have h4' : ¬ (ts.length : Int) ≤ 10 := by omega
    obtain rfl : r = false := by rw [← hr, decide_eq_false h4]; simp
    have H1 := hid h1; have H2 := hid h2; have H3 := hid h3; clear h1 h2 h3 hr
    go_enter Try.func12, Try.ntmps12
    go_wp2_with fail
    refine (iScT a b A c xs _ (hid (X.out.keep ((Gr.refl w).al _))) hn H1.out).mono ?_
    rintro e w1 ⟨rfl, hg1⟩
    obtain ⟨x1_0, hz1, g1⟩ := alloc1 hg1
    obtain ⟨_, _, _, _, _, _, _, _⟩ := cells8 x1_0
    have _ := fz x1_0
    have _ := ltb x1_0
    have X1_0 := hid x1_0; clear x1_0
    have G1 := hid (g1)
    clear hg1 g1
    go_wp2_with fail
    refine (iVernT N kb _ H2.out).mono ?_
    rintro e w2 ⟨rfl, hg2⟩
    have x2_1 := hg2.keep X1_0.out
    obtain ⟨_, _, _, _, _, _, _, _⟩ := cells8 x2_1
    have _ := fz x2_1
    have _ := ltb x2_1
    have X2_1 := hid x2_1; clear x2_1
    have G2 := hid (G1.out.trans hg2)
    clear hg2
    go_wp2_with fail
    refine (iGrowth_is u v true _ H3.out).mono ?_
    rintro e w3 ⟨rfl, hg3⟩
    have x3_1 := hg3.keep X2_1.out
    obtain ⟨_, _, _, _, _, _, _, _⟩ := cells8 x3_1
    have _ := fz x3_1
    have _ := ltb x3_1
    have X3_1 := hid x3_1; clear x3_1
    have G3 := hid (G2.out.trans hg3)
    clear hg3
    go_wp2_with fail
    go_ret
    exact ⟨rfl, G3.out⟩
end Go.Proofs.Ytflfjedimcbfeaa
