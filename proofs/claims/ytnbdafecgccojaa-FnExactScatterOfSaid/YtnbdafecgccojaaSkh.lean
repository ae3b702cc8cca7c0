/- WALKS: MarkAt and LeastCount, of the program and of the reference. -/
import Derived.Test.YtnbdafecgccojaaSkf
import Derived.Test.YtnbdafecgccojaaW
import Derived.Test.YtnbdafecgccojaaH
import Derived.Test.YtnbdafecgccojaaFu
import Derived.Test.YtnbdafecgccojaaC1
namespace Go.Proofs.Ytnbdafecgccojaa
open Go.RowKit Go.Sort

theorem sScT (a b : Int) (A : Option Addr) (c j : Nat) (xs : List (Int × Int)) (w : World) (X1 : Hid (w.heap[j]? = some (.cells #[.int .i64 a, .int .i64 b, .slice A xs.length c] 37))) (X : Hid (RdF w A xs)) (hn : xs.length ≤ 1048576) (h : sclB a b xs = true) :
    Calls Try.prog 83 #[.pointer (some ⟨j, 0, none⟩)] w fun e w' => e = .returned (.bool true) ∧ Gr w w' := (sScOk a b A c j xs w X1 X hn).mono fun _ _ ⟨he, hg⟩ => ⟨by rw [he, h], hg⟩
theorem sScF (a b : Int) (A : Option Addr) (c j : Nat) (xs : List (Int × Int)) (w : World) (X1 : Hid (w.heap[j]? = some (.cells #[.int .i64 a, .int .i64 b, .slice A xs.length c] 37))) (X : Hid (RdF w A xs)) (hn : xs.length ≤ 1048576) (h : sclB a b xs = false) :
    Calls Try.prog 83 #[.pointer (some ⟨j, 0, none⟩)] w fun e w' => e = .returned (.bool false) ∧ Gr w w' := (sScOk a b A c j xs w X1 X hn).mono fun _ _ ⟨he, hg⟩ => ⟨by rw [he, h], hg⟩
theorem iScT (a b : Int) (A : Option Addr) (c : Nat) (xs : List (Int × Int)) (w : World) (X : Hid (RdF w A xs)) (hn : xs.length ≤ 1048576) (h : sclB a b xs = true) :
    Calls Try.prog 72 #[scl a b A xs.length c] w fun e w' => e = .returned (.bool true) ∧ Gr w w' := (iScOk a b A c xs w X hn).mono fun _ _ ⟨he, hg⟩ => ⟨by rw [he, h], hg⟩
theorem iScF (a b : Int) (A : Option Addr) (c : Nat) (xs : List (Int × Int)) (w : World) (X : Hid (RdF w A xs)) (hn : xs.length ≤ 1048576) (h : sclB a b xs = false) :
    Calls Try.prog 72 #[scl a b A xs.length c] w fun e w' => e = .returned (.bool false) ∧ Gr w w' := (iScOk a b A c xs w X hn).mono fun _ _ ⟨he, hg⟩ => ⟨by rw [he, h], hg⟩
/-- What a valid scale is. -/
structure Scl (a b : Int) (xs : List (Int × Int)) : Prop where
  unit : okB a b = true
  pos : 0 < a
  lo : 2 ≤ xs.length
  hi : xs.length ≤ 60
  ok : ∀ (k : Nat) (p q : Int), xs[k]? = some (p, q) → okB p q = true
  mark : AllMk a b xs
  all : xs.all (fun x => okB x.1 x.2) = true
theorem scl_of {a b : Int} {xs : List (Int × Int)} (h : sclB a b xs = true) : Scl a b xs := by
  unfold sclB withinB at h
  simp only [Bool.and_eq_true, decide_eq_true_eq] at h
  obtain ⟨⟨h1, h2, _⟩, h3, h4⟩ := h
  obtain ⟨h5, h6⟩ := allE_split.1 h4
  obtain ⟨l1, l2⟩ := in_bd h3
  exact ⟨h1, h2, by omega, by omega, fun k p q hk => (h5 k p q hk).1, h6, all_of fun k p q hk => (h5 k p q hk).1⟩
end Go.Proofs.Ytnbdafecgccojaa
namespace Go.Proofs.Ytnbdafecgccojaa
open Go.RowKit Go.Sort

theorem absI_bd {p q : Int} (h : okB p q = true) : okB (absI p) q = true := by
  obtain ⟨b1, b2, b3, b4⟩ := okB_bd h
  rw [okB_iff] at h ⊢
  unfold Ok at h ⊢
  unfold absI
  obtain ⟨h1, h2, h3, h4, h5⟩ := h
  refine ⟨h1, h2, by omega, by omega, ?_⟩
  simpa [Int.gcd] using h5
set_option maxHeartbeats 400000 in
theorem ssize (p q : Int) (w : World) (h : okB p q = true) :
    Calls Try.prog 224 #[fr p q] w fun e w' => e = .returned (fr (absI p) q) ∧ Gr w w' := by
  obtain ⟨b1, b2, b3, b4⟩ := okB_bd h
  unfold absI
  clear h
  by_cases h : p < 0
  · have e : ((p.natAbs : Nat) : Int) = -p := by omega
    rw [e]
    go_enter Try.func224, Try.ntmps224
    go_wp2_with fail
    refine (sneg _ _ _ b3 b4).mono ?_
    rintro e w1 ⟨rfl, hg1⟩
    obtain ⟨x1_0, x1_1, hz1, g1⟩ := alloc2 hg1
    obtain ⟨_, _⟩ := cells2 x1_0
    have _ := fz x1_0
    have _ := ltb x1_0
    obtain ⟨_, _⟩ := cells2 x1_1
    have _ := fz x1_1
    have _ := ltb x1_1
    have X1_0 := hid x1_0; clear x1_0
    have X1_1 := hid x1_1; clear x1_1
    have G1 := hid (g1)
    clear hg1 g1
    go_wp2
    refine bodyPost_ret (v := fr (-p) q) (by simp [results, Try.results224, go_sem, *]) rfl ⟨rfl, ?_⟩
    exact ((G1.out).setCell (by simp <;> omega) _).setCell (by simp <;> omega) _
  · have e : ((p.natAbs : Nat) : Int) = p := by omega
    rw [e]
    go_enter Try.func224, Try.ntmps224
    go_wp2_with fail
    refine bodyPost_ret (v := fr p q) (by simp [results, Try.results224, go_sem]) rfl ⟨rfl, (Gr.alloc _ _).al _⟩
theorem isize_gr (p q : Int) (w : World) (h : okB p q = true) :
    Calls Try.prog 225 #[fr p q] w fun e w' => e = .returned (fr (absI p) q) ∧ Gr w w' := by
  obtain ⟨b1, b2, b3, b4⟩ := okB_bd h
  exact isize p q w (by omega) (by omega)
/-- The greatest size from P / Q on. -/
def wst : List (Int × Int) → Int → Int → Int × Int
  | [], P, Q => (P, Q)
  | x :: r, P, Q => wst r (mxP P Q (absI x.1) x.2) (mxQ P Q (absI x.1) x.2)
theorem wst_step {xs : List (Int × Int)} {k : Nat} {p q P Q : Int} (h : xs[k]? = some (p, q)) :
    wst (xs.drop k) P Q = wst (xs.drop (k + 1)) (mxP P Q (absI p) q) (mxQ P Q (absI p) q) := by
  have hk : k < xs.length := (List.getElem?_eq_some_iff.1 h).1
  have e : xs[k] = (p, q) := (List.getElem?_eq_some_iff.1 h).2
  rw [List.drop_eq_getElem_cons hk, e]
  rfl
theorem wst_ok : ∀ (xs : List (Int × Int)) (P Q : Int), okB P Q = true → xs.all (fun x => okB x.1 x.2) = true → okB (wst xs P Q).1 (wst xs P Q).2 = true
  | [], P, Q, h, _ => h
  | x :: r, P, Q, h, hx => by
    simp only [List.all_cons, Bool.and_eq_true] at hx
    exact wst_ok r _ _ (ok_mx h (absI_bd hx.1)) hx.2
set_option maxRecDepth 20000 in
set_option maxHeartbeats 1000000 in
/-- impl.Scale.worst -/
theorem iworst (a b : Int) (A : Option Addr) (c : Nat) (xs : List (Int × Int)) (U V : Int) (w : World) (X : Hid (RdF w A xs)) (hn : xs.length ≤ 1048576) (hall : xs.all (fun x => okB x.1 x.2) = true) (hw : wst xs 0 1 = (U, V)) :
    Calls Try.prog 157 #[scl a b A xs.length c] w fun e w' => e = .returned (fr U V) ∧ Gr w w' := by
  have HR := hid hw; clear hw
  have HALL := hid hall; clear hall
  go_enter Try.func157, Try.ntmps157
  go_wp2_with fail
  refine (fit_ok 0 1 _ gt01 (by decide)).mono ?_
  rintro e w1 ⟨rfl, hg1⟩
  obtain ⟨x1_0, x1_1, hz1, g1⟩ := alloc2 hg1
  obtain ⟨_, _, _⟩ := cells3 x1_0
  have _ := fz x1_0
  have _ := ltb x1_0
  obtain ⟨_, _⟩ := cells2 x1_1
  have _ := fz x1_1
  have _ := ltb x1_1
  have X1_0 := hid x1_0; clear x1_0
  have X1_1 := hid x1_1; clear x1_1
  have G1 := hid (g1)
  clear hg1 g1
  go_wp2_with fail
  go_loopw [10] (fun u wr => ∃ (k : Nat) (P Q : Int), u = .int .i64 (k : Int) ∧ k ≤ xs.length ∧ Gr w wr ∧ wr.heap[w.heap.size + 1]? = some (.cells #[.int .i64 0, .int .i64 0] 30) ∧ wr.heap[w1.heap.size]? = some (.cells #[.int .i64 P, .int .i64 Q] 30) ∧ okB P Q = true ∧ wst (xs.drop k) P Q = (U, V)) (fun u _ => xs.length - (intOf u).toNat)
  case atStart => exact ⟨0, 0, 1, rfl, by omega, (G1.out).al _, ((Gr.refl _).al _).keep X1_1.out, (alloc1 (Gr.refl _)).1, ok01, HR.out⟩
  case round =>
    obtain ⟨k, P, Q, rfl, hk, g0, y2, y3, hok, hs⟩ := hrel
    have HX := hid (X.out.keep g0)
    have GW := hid g0; have Y2 := hid y2; have Y3 := hid y3; have HOK := hid hok
    clear g0 y2 y3 hok
    by_cases hlt : k < xs.length
    · obtain ⟨⟨p, q⟩, hpq⟩ : ∃ pq, xs[k]? = some pq := ⟨xs[k], List.getElem?_eq_getElem _⟩
      obtain ⟨ad, rfl, c1, c2⟩ := HX.out k p q hpq
      have hx := hid (all_get hpq HALL.out)
      rw [wst_step hpq] at hs
      obtain ⟨P2, eP⟩ : ∃ P2, mxP P Q (absI p) q = P2 := ⟨_, rfl⟩
      obtain ⟨Q2, eQ⟩ : ∃ Q2, mxQ P Q (absI p) q = Q2 := ⟨_, rfl⟩
      have AD : ∀ w, Calls Try.prog 231 #[fr P Q, fr (absI p) q] w fun e w' => e = .returned (fr P2 Q2) ∧ Gr w w' := fun w => eP ▸ eQ ▸ igreatest P Q (absI p) q w HOK.out (absI_bd hx.out)
      have HOK2 : okB P2 Q2 = true := eP ▸ eQ ▸ ok_mx HOK.out (absI_bd hx.out)
      rw [eP, eQ] at hs
      have AD := hid AD; have HOK2 := hid HOK2; have HS := hid hs
      clear eP eQ hs hpq
      obtain ⟨_, _⟩ := cells2 Y2.out
      have _ := fz Y2.out
      have _ := ltb Y2.out
      obtain ⟨_, _⟩ := cells2 Y3.out
      have _ := fz Y3.out
      have _ := ltb Y3.out
      go_wp2_with fail
      refine wp_reg0 4 (by kernel_rfl) (by kernel_rfl) ?_
      apply Exists.intro
      refine ⟨fun wb hb => ?_, ?_⟩
      · obtain ⟨_, _⟩ := hb.at2 (((Gr.refl _).al _).keep Y2.out)
        obtain ⟨_, _⟩ := hb.at2 (((Gr.refl _).al _).keep Y3.out)
        obtain ⟨_, _⟩ := hb.at2 (alloc1 (Gr.refl _)).1
        simp only [headOps, List.contains, List.elem, reduceIte, Bool.false_eq_true]
        repeat (first | go_big_quiet_step (first | (go_at_call 225; exact Calls.of_gr (isize_gr _ _ _ hx.out)) | (go_at_call 231; exact Calls.of_gr (AD.out _))) | quiet_step (fail))
        exact wpQuiet_nil rfl
      intro w6 hg6
      obtain ⟨x6_0, hz6, g6⟩ := alloc1 hg6
      have x6_1 := g6.keep Y2.out
      have x6_2 := g6.keep Y3.out
      obtain ⟨_, _⟩ := cells2 x6_1
      have _ := fz x6_1
      have _ := ltb x6_1
      obtain ⟨_, _⟩ := cells2 x6_2
      have _ := fz x6_2
      have _ := ltb x6_2
      obtain ⟨_, _⟩ := cells2 x6_0
      have _ := fz x6_0
      have _ := ltb x6_0
      have X6_1 := hid x6_1; clear x6_1
      have X6_2 := hid x6_2; clear x6_2
      have X6_0 := hid x6_0; clear x6_0
      have G6 := hid (GW.out.trans g6)
      clear hg6 g6
      go_wp2_with fail
      exact ⟨⟨k + 1, P2, Q2, by simp, by omega, (G6.out.setCell (by simp; omega) _).setCell (by simp; omega) _, set2_old X6_1.out (by omega), set2_new X6_2.out, HOK2.out, HS.out⟩, by simp [intOf]; omega⟩
    · have hke : xs.drop k = [] := List.drop_eq_nil_of_le (by omega)
      rw [hke] at hs
      have e1 : P = U := congrArg Prod.fst hs
      have e2 : Q = V := congrArg Prod.snd hs
      subst e1 e2
      clear hs hke
      obtain ⟨_, _⟩ := cells2 Y2.out
      have _ := fz Y2.out
      have _ := ltb Y2.out
      obtain ⟨_, _⟩ := cells2 Y3.out
      have _ := fz Y3.out
      have _ := ltb Y3.out
      go_wp2
      refine bodyPost_ret (v := fr P Q) (by simp [results, Try.results157, go_sem, *]) rfl ⟨rfl, ?_⟩
      exact ((GW.out).setCell (by simp <;> omega) _).setCell (by simp <;> omega) _
set_option maxRecDepth 20000 in
set_option maxHeartbeats 1000000 in
/-- spec.l02Worst -/
theorem sworst (a b : Int) (A : Option Addr) (c j : Nat) (xs : List (Int × Int)) (U V : Int) (w : World) (X1 : Hid (w.heap[j]? = some (.cells #[.int .i64 a, .int .i64 b, .slice A xs.length c] 37))) (X : Hid (RdF w A xs)) (hn : xs.length ≤ 1048576) (hall : xs.all (fun x => okB x.1 x.2) = true) (hw : wst xs 0 1 = (U, V)) :
    Calls Try.prog 145 #[.pointer (some ⟨j, 0, none⟩)] w fun e w' => e = .returned (fr U V) ∧ Gr w w' := by
  have HR := hid hw; clear hw
  have HALL := hid hall; clear hall
  go_enter Try.func145, Try.ntmps145
  obtain ⟨_, _, _⟩ := cells3 X1.out
  have _ := fz X1.out
  have _ := ltb X1.out
  go_wp2_with fail
  refine (swhole1 _ _).mono ?_
  rintro e w1 ⟨rfl, hg1⟩
  obtain ⟨x1_0, hz1, g1⟩ := alloc1 hg1
  have x1_1 := g1.keep X1.out
  obtain ⟨_, _⟩ := cells2 x1_0
  have _ := fz x1_0
  have _ := ltb x1_0
  obtain ⟨_, _, _⟩ := cells3 x1_1
  have _ := fz x1_1
  have _ := ltb x1_1
  have X1_0 := hid x1_0; clear x1_0
  have X1_1 := hid x1_1; clear x1_1
  have G1 := hid (g1)
  clear hg1 g1
  go_wp2_with fail
  go_loopw [4] (fun u wr => ∃ (k : Nat) (P Q : Int), u = .int .i64 (k : Int) ∧ k ≤ xs.length ∧ Gr w wr ∧ wr.heap[w.heap.size]? = some (.cells #[.int .i64 0, .int .i64 0] 30) ∧ wr.heap[w1.heap.size]? = some (.cells #[.int .i64 P, .int .i64 Q] 30) ∧ okB P Q = true ∧ wst (xs.drop k) P Q = (U, V)) (fun u _ => xs.length - (intOf u).toNat)
  case atStart => exact ⟨0, 0, 1, rfl, by omega, (G1.out).al _, ((Gr.refl _).al _).keep X1_0.out, (alloc1 (Gr.refl _)).1, ok01, HR.out⟩
  case round =>
    obtain ⟨k, P, Q, rfl, hk, g0, y2, y3, hok, hs⟩ := hrel
    have HX := hid (X.out.keep g0); have Y1 := hid (g0.keep X1.out)
    have hjl : j < w.heap.size := ltb X1.out
    have GW := hid g0; have Y2 := hid y2; have Y3 := hid y3; have HOK := hid hok
    clear g0 y2 y3 hok
    by_cases hlt : k < xs.length
    · obtain ⟨⟨p, q⟩, hpq⟩ : ∃ pq, xs[k]? = some pq := ⟨xs[k], List.getElem?_eq_getElem _⟩
      obtain ⟨ad, rfl, c1, c2⟩ := HX.out k p q hpq
      have C1 := hid c1; have C2 := hid c2
      have hx := hid (all_get hpq HALL.out)
      rw [wst_step hpq] at hs
      obtain ⟨P2, eP⟩ : ∃ P2, mxP P Q (absI p) q = P2 := ⟨_, rfl⟩
      obtain ⟨Q2, eQ⟩ : ∃ Q2, mxQ P Q (absI p) q = Q2 := ⟨_, rfl⟩
      have AD : ∀ w, Calls Try.prog 218 #[fr P Q, fr (absI p) q] w fun e w' => e = .returned (fr P2 Q2) ∧ Gr w w' := fun w => eP ▸ eQ ▸ smore P Q (absI p) q w HOK.out (absI_bd hx.out)
      have HOK2 : okB P2 Q2 = true := eP ▸ eQ ▸ ok_mx HOK.out (absI_bd hx.out)
      rw [eP, eQ] at hs
      have AD := hid AD; have HOK2 := hid HOK2; have HS := hid hs
      clear eP eQ hs hpq c1 c2
      obtain ⟨_, _⟩ := cells2 Y2.out
      have _ := fz Y2.out
      have _ := ltb Y2.out
      obtain ⟨_, _⟩ := cells2 Y3.out
      have _ := fz Y3.out
      have _ := ltb Y3.out
      obtain ⟨_, _, _⟩ := cells3 Y1.out
      have _ := fz Y1.out
      have _ := ltb Y1.out
      go_wp2_with fail
      refine wp_reg0 10 (by kernel_rfl) (by kernel_rfl) ?_
      apply Exists.intro
      refine ⟨fun wb hb => ?_, ?_⟩
      · obtain ⟨_, _⟩ := hb.at2 Y2.out
        obtain ⟨_, _⟩ := hb.at2 Y3.out
        obtain ⟨_, _, _⟩ := hb.at3 Y1.out
        have _ := hb.atF C1.out; have _ := hb.atF C2.out
        simp only [headOps, List.contains, List.elem, reduceIte, Bool.false_eq_true]
        repeat (first | go_big_quiet_step (first | (go_at_call 224; exact Calls.of_gr (ssize _ _ _ hx.out)) | (go_at_call 218; exact Calls.of_gr (AD.out _))) | quiet_step (fail))
        exact wpQuiet_nil rfl
      intro w6 hg6
      have x6_1 := hg6.keep Y2.out
      have x6_2 := hg6.keep Y3.out
      have x6_3 := hg6.keep Y1.out
      obtain ⟨_, _⟩ := cells2 x6_1
      have _ := fz x6_1
      have _ := ltb x6_1
      obtain ⟨_, _⟩ := cells2 x6_2
      have _ := fz x6_2
      have _ := ltb x6_2
      obtain ⟨_, _, _⟩ := cells3 x6_3
      have _ := fz x6_3
      have _ := ltb x6_3
      have X6_1 := hid x6_1; clear x6_1
      have X6_2 := hid x6_2; clear x6_2
      have X6_3 := hid x6_3; clear x6_3
      have G6 := hid (GW.out.trans hg6)
      clear hg6
      go_wp2_with fail
      exact ⟨⟨k + 1, P2, Q2, by simp, by omega, (G6.out.setCell (by simp; omega) _).setCell (by simp; omega) _, set2_old X6_1.out (by omega), set2_new X6_2.out, HOK2.out, HS.out⟩, by simp [intOf]; omega⟩
    · have hke : xs.drop k = [] := List.drop_eq_nil_of_le (by omega)
      rw [hke] at hs
      have e1 : P = U := congrArg Prod.fst hs
      have e2 : Q = V := congrArg Prod.snd hs
      subst e1 e2
      clear hs hke
      obtain ⟨_, _⟩ := cells2 Y2.out
      have _ := fz Y2.out
      have _ := ltb Y2.out
      obtain ⟨_, _⟩ := cells2 Y3.out
      have _ := fz Y3.out
      have _ := ltb Y3.out
      obtain ⟨_, _, _⟩ := cells3 Y1.out
      have _ := fz Y1.out
      have _ := ltb Y1.out
      go_wp2
      refine bodyPost_ret (v := fr P Q) (by simp [results, Try.results145, go_sem, *]) rfl ⟨rfl, ?_⟩
      exact ((GW.out).setCell (by simp <;> omega) _).setCell (by simp <;> omega) _
end Go.Proofs.Ytnbdafecgccojaa
namespace Go.Proofs.Ytnbdafecgccojaa
open Go.RowKit Go.Sort

def lcB (a b n : Int) : Bool := okB (redP (a * 1) (b * n)) (redQ (a * 1) (b * n))
theorem vern_bd {n : Int} (h : inB n 2 40 = true) : okB n 1 = true ∧ n ≠ 0 := by
  obtain ⟨h1, h2⟩ := in_bd h
  exact ⟨ok_whole (by omega) (by omega), by omega⟩
theorem iVernGr (n : Int) (r : Bool) (w : World) : Calls Try.prog 73 #[vn n r] w fun e w' => e = .returned (.bool (inB n 2 40)) ∧ Gr w w' := iValidVernier n r w
end Go.Proofs.Ytnbdafecgccojaa
