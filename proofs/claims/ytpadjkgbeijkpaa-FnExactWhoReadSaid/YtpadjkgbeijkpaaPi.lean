/- WALKS: Explains, of the program and of the reference. -/
import Derived.Test.YtpadjkgbeijkpaaPh
import Derived.Test.YtpadjkgbeijkpaaAf
import Derived.Test.YtpadjkgbeijkpaaPa
import Derived.Test.YtpadjkgbeijkpaaIv
namespace Go.Proofs.Ytpadjkgbeijkpaa
open Go.RowKit Go.Sort

set_option maxRecDepth 20000 in
set_option maxHeartbeats 1000000 in
theorem sValues (A : Option Addr) (c : Nat) (xs : List (Int × Int)) (w : World) (X : Hid (RdF w A xs)) (hn : xs.length ≤ 1048576) :
    Calls Try.prog 150 #[.slice A xs.length c] w fun e w' => e = .returned (.bool (allF xs)) ∧ Gr w w' := by
  go_enter Try.func150, Try.ntmps150
  go_wp2_with fail
  go_loopw [3] (fun u wr => ∃ (k : Nat), u = .int .i64 (k : Int) ∧ k ≤ xs.length ∧ Gr w wr ∧ (xs.take k).all (fun x => okB x.1 x.2) = true) (fun u _ => xs.length - (intOf u).toNat)
  case atStart => exact ⟨0, rfl, by omega, Gr.refl _, rfl⟩
  case round =>
    obtain ⟨k, rfl, hk, g0, ha⟩ := hrel
    have GW := hid g0; have HA := hid ha; clear g0 ha
    by_cases hlt : k < xs.length
    · obtain ⟨⟨p, q⟩, hpq⟩ : ∃ pq, xs[k]? = some pq := ⟨xs[k], List.getElem?_eq_getElem _⟩
      obtain ⟨ad, rfl, c1, c2⟩ := (X.out.keep GW.out) k p q hpq
      have HP := hid hpq; clear hpq
      cases hx : okB p q with
      | true =>
        have HX := hid hx; clear hx
        go_wp2_with fail
        refine (sok_t _ _ _ HX.out).mono ?_
        rintro e w1 ⟨rfl, hg1⟩
        have G1 := hid (GW.out.trans hg1)
        clear hg1
        go_wp2_with fail
        exact ⟨⟨k + 1, by simp, by omega, G1.out, all_take HP.out HA.out HX.out⟩, by simp [intOf]; omega⟩
      | false =>
        have HX := hid hx; clear hx
        go_wp2_with fail
        refine (sok_f _ _ _ HX.out).mono ?_
        rintro e w1 ⟨rfl, hg1⟩
        have G1 := hid (GW.out.trans hg1)
        clear hg1
        go_wp2
        go_ret
        exact ⟨ret_bool (by unfold allF; rw [all_not HP.out HX.out]), G1.out⟩
    · have hke : k = xs.length := by omega
      have hall : allF xs = true := by
        have h := HA.out
        rw [hke] at h
        simpa [allF] using h
      have HALL := hid hall
      clear hke hall
      go_wp2
      go_ret
      exact ⟨ret_bool (by rw [HALL.out]), GW.out⟩
theorem iFracs_is (A : Option Addr) (c : Nat) (xs : List (Int × Int)) (r : Bool) (w : World) (X : Hid (RdF w A xs)) (hn : xs.length ≤ 1048576) (h : allF xs = r) :
    Calls Try.prog 81 #[.slice A xs.length c] w fun e w' => e = .returned (.bool r) ∧ Gr w w' := h ▸ iFracs A c xs w X hn
theorem sValues_is (A : Option Addr) (c : Nat) (xs : List (Int × Int)) (r : Bool) (w : World) (X : Hid (RdF w A xs)) (hn : xs.length ≤ 1048576) (h : allF xs = r) :
    Calls Try.prog 150 #[.slice A xs.length c] w fun e w' => e = .returned (.bool r) ∧ Gr w w' := h ▸ sValues A c xs w X hn

/-- The code of values and readings. -/
def prC (xs : List (Int × Int)) (ys : List Int) : Int := if allF xs then (if rdB ys && decide (xs.length = ys.length) then 0 else 2) else 1
abbrev tv (A : Option Addr) (n c : Nat) (B : Option Addr) (m cb : Nat) : Value := .agg #[.slice A n c, .slice B m cb]
set_option maxRecDepth 20000 in
set_option maxHeartbeats 600000 in
theorem iTrial_1 (A B : Option Addr) (c cb m : Nat) (xs : List (Int × Int)) (w : World) (X : Hid (RdF w A xs)) (hn : xs.length ≤ 1048576) (h : allF xs = false) :
    Calls Try.prog 110 #[.slice A xs.length c, .slice B m cb] w fun e w' => e = .returned (.tuple #[tv none 0 0 none 0 0, .int .i64 1]) ∧ Gr w w' := by
  have H := hid h; clear h
  go_enter Try.func110, Try.ntmps110
  go_wp2_with fail
  refine (iFracs_is A c xs false _ (hid (X.out.keep ((Gr.refl w).al _))) hn H.out).mono ?_
  rintro e w1 ⟨rfl, hg1⟩
  obtain ⟨x1_0, hz1, g1⟩ := alloc1 hg1
  obtain ⟨_, _⟩ := cells2 x1_0
  have _ := fz x1_0
  have _ := ltb x1_0
  have X1_0 := hid x1_0; clear x1_0
  have G1 := hid (g1)
  clear hg1 g1
  go_wp2
  refine bodyPost_ret (v := .tuple #[tv none 0 0 none 0 0, .int .i64 1]) (by simp [results, Try.results110, go_sem, *]) rfl ⟨rfl, ?_⟩
  exact ((G1.out).setCell (by simp <;> omega) _).setCell (by simp <;> omega) _
set_option maxRecDepth 20000 in
set_option maxHeartbeats 600000 in
theorem iTrial_2 (A B : Option Addr) (c cb m : Nat) (xs : List (Int × Int)) (w : World) (X : Hid (RdF w A xs)) (hn : xs.length ≤ 1048576) (h : allF xs = true) (hl : xs.length ≠ m) :
    Calls Try.prog 110 #[.slice A xs.length c, .slice B m cb] w fun e w' => e = .returned (.tuple #[tv none 0 0 none 0 0, .int .i64 2]) ∧ Gr w w' := by
  have H := hid h; clear h
  have hd : ((xs.length : Int) == (m : Int)) = false := beq_eq_false_iff_ne.2 (by omega)
  have hd2 : ((xs.length : Int) != (m : Int)) = true := bne_iff_ne.2 (by omega)
  go_enter Try.func110, Try.ntmps110
  go_wp2_with fail
  refine (iFracs_is A c xs true _ (hid (X.out.keep ((Gr.refl w).al _))) hn H.out).mono ?_
  rintro e w1 ⟨rfl, hg1⟩
  obtain ⟨x1_0, hz1, g1⟩ := alloc1 hg1
  obtain ⟨_, _⟩ := cells2 x1_0
  have _ := fz x1_0
  have _ := ltb x1_0
  have X1_0 := hid x1_0; clear x1_0
  have G1 := hid (g1)
  clear hg1 g1
  go_wp2
  refine bodyPost_ret (v := .tuple #[tv none 0 0 none 0 0, .int .i64 2]) (by simp [results, Try.results110, go_sem, *]) rfl ⟨rfl, ?_⟩
  exact ((G1.out).setCell (by simp <;> omega) _).setCell (by simp <;> omega) _
set_option maxRecDepth 20000 in
set_option maxHeartbeats 600000 in
theorem iTrial_3 (A B : Option Addr) (c cb n : Nat) (xs : List (Int × Int)) (ys : List Int) (w : World) (X : Hid (RdF w A xs)) (Y : Hid (RdI w B ys)) (hn : n ≤ 1048576) (h : allF xs = true) (hx : xs.length = n) (hy : ys.length = n) (hr : rdB ys = false) :
    Calls Try.prog 110 #[.slice A n c, .slice B n cb] w fun e w' => e = .returned (.tuple #[tv none 0 0 none 0 0, .int .i64 2]) ∧ Gr w w' := by
  have HF := hid fun (w' : World) (Z : Hid (RdF w' A xs)) => iFracs_is A c xs true w' Z (by omega) h
  have HR := hid fun (w' : World) (Z : Hid (RdI w' B ys)) => iRd_f B cb ys w' Z hr
  rw [hx] at HF
  rw [hy] at HR
  clear h hx hy hr
  go_enter Try.func110, Try.ntmps110
  go_wp2_with fail
  refine (HF.out _ (hid (X.out.keep ((Gr.refl w).al _)))).mono ?_
  rintro e w1 ⟨rfl, hg1⟩
  obtain ⟨x1_0, hz1, g1⟩ := alloc1 hg1
  obtain ⟨_, _⟩ := cells2 x1_0
  have _ := fz x1_0
  have _ := ltb x1_0
  have X1_0 := hid x1_0; clear x1_0
  have G1 := hid (g1)
  clear hg1 g1
  go_wp2_with fail
  refine (HR.out _ (hid (Y.out.keep G1.out))).mono ?_
  rintro e w2 ⟨rfl, hg2⟩
  have x2_1 := hg2.keep X1_0.out
  obtain ⟨_, _⟩ := cells2 x2_1
  have _ := fz x2_1
  have _ := ltb x2_1
  have X2_1 := hid x2_1; clear x2_1
  have G2 := hid (G1.out.trans hg2)
  clear hg2
  go_wp2
  refine bodyPost_ret (v := .tuple #[tv none 0 0 none 0 0, .int .i64 2]) (by simp [results, Try.results110, go_sem, *]) rfl ⟨rfl, ?_⟩
  exact ((G2.out).setCell (by simp <;> omega) _).setCell (by simp <;> omega) _
set_option maxRecDepth 20000 in
set_option maxHeartbeats 600000 in
theorem iTrial_ok (A B : Option Addr) (c cb n : Nat) (xs : List (Int × Int)) (ys : List Int) (w : World) (X : Hid (RdF w A xs)) (Y : Hid (RdI w B ys)) (hn : n ≤ 1048576) (h : allF xs = true) (hx : xs.length = n) (hy : ys.length = n) (hr : rdB ys = true) :
    Calls Try.prog 110 #[.slice A n c, .slice B n cb] w fun e w' => e = .returned (.tuple #[tv A n c B n cb, .int .i64 0]) ∧ Gr w w' := by
  have HF := hid fun (w' : World) (Z : Hid (RdF w' A xs)) => iFracs_is A c xs true w' Z (by omega) h
  have HR := hid fun (w' : World) (Z : Hid (RdI w' B ys)) => iRd_t B cb ys w' Z hr
  rw [hx] at HF
  rw [hy] at HR
  clear h hx hy hr
  go_enter Try.func110, Try.ntmps110
  go_wp2_with fail
  refine (HF.out _ (hid (X.out.keep ((Gr.refl w).al _)))).mono ?_
  rintro e w1 ⟨rfl, hg1⟩
  obtain ⟨x1_0, hz1, g1⟩ := alloc1 hg1
  obtain ⟨_, _⟩ := cells2 x1_0
  have _ := fz x1_0
  have _ := ltb x1_0
  have X1_0 := hid x1_0; clear x1_0
  have G1 := hid (g1)
  clear hg1 g1
  go_wp2_with fail
  refine (HR.out _ (hid (Y.out.keep G1.out))).mono ?_
  rintro e w2 ⟨rfl, hg2⟩
  have x2_1 := hg2.keep X1_0.out
  obtain ⟨_, _⟩ := cells2 x2_1
  have _ := fz x2_1
  have _ := ltb x2_1
  have X2_1 := hid x2_1; clear x2_1
  have G2 := hid (G1.out.trans hg2)
  clear hg2
  go_wp2
  refine bodyPost_ret (v := .tuple #[tv A n c B n cb, .int .i64 0]) (by simp [results, Try.results110, go_sem, *]) rfl ⟨rfl, ?_⟩
  exact ((G2.out).setCell (by simp <;> omega) _).setCell (by simp <;> omega) _

/-! what a guess reads -/
def hit (b u : Int) (o : Bool) (xs : List (Int × Int)) (ys : List Int) (i : Nat) : Bool :=
  match xs[i]?, ys[i]? with
  | some x, some y => decide (rdV b u o x.1 x.2 = y)
  | _, _ => false
theorem hit_of {b u : Int} {o : Bool} {xs : List (Int × Int)} {ys : List Int} {i : Nat} {p q y : Int} (h1 : xs[i]? = some (p, q)) (h2 : ys[i]? = some y) : hit b u o xs ys i = decide (rdV b u o p q = y) := by
  unfold hit
  rw [h1, h2]
def exB (b u : Int) (o : Bool) (xs : List (Int × Int)) (ys : List Int) (k : Nat) : Bool := (List.range k).all (hit b u o xs ys)
def hiN (b u : Int) (o : Bool) (xs : List (Int × Int)) (ys : List Int) (k : Nat) : Nat := ((List.range k).filter (hit b u o xs ys)).length
theorem exB_succ (b u : Int) (o : Bool) (xs : List (Int × Int)) (ys : List Int) (k : Nat) : exB b u o xs ys (k + 1) = (exB b u o xs ys k && hit b u o xs ys k) := by
  unfold exB
  rw [List.range_succ, List.all_append]
  simp
theorem hiN_succ (b u : Int) (o : Bool) (xs : List (Int × Int)) (ys : List Int) (k : Nat) : hiN b u o xs ys (k + 1) = hiN b u o xs ys k + if hit b u o xs ys k then 1 else 0 := by
  unfold hiN
  rw [List.range_succ, List.filter_append, List.length_append]
  congr 1
  rw [List.filter_cons]
  split <;> simp
theorem hiN_le (b u : Int) (o : Bool) (xs : List (Int × Int)) (ys : List Int) (k : Nat) : hiN b u o xs ys k ≤ k := by
  have := List.length_filter_le (hit b u o xs ys) (List.range k)
  simpa [hiN] using this
theorem exB_hiN (b u : Int) (o : Bool) (xs : List (Int × Int)) (ys : List Int) : ∀ k, exB b u o xs ys k = decide (hiN b u o xs ys k = k)
  | 0 => by simp [exB, hiN]
  | k + 1 => by
    rw [exB_succ, hiN_succ, exB_hiN b u o xs ys k]
    have := hiN_le b u o xs ys k
    cases hit b u o xs ys k with
    | true => simp
    | false => simp; omega
theorem exB_mono {b u : Int} {o : Bool} {xs : List (Int × Int)} {ys : List Int} {k n : Nat} (h : k < n) (hk : hit b u o xs ys k = false) : exB b u o xs ys n = false := by
  cases he : exB b u o xs ys n with
  | false => rfl
  | true =>
    unfold exB at he
    have := List.all_eq_true.1 he k (List.mem_range.2 h)
    rw [hk] at this
    cases this
end Go.Proofs.Ytpadjkgbeijkpaa
