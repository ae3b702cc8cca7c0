/- PLACES BY NAMES: a map from names to places, of the call's own. -/
import Derived.Test.YtadpoocafhddeaaDoorIs
import Derived.Test.YtadpoocafhddeaaDoorB0
import Derived.WideKeyEntry
import Derived.Test.YtadpoocafhddeaaDoorCv
import Derived.Test.YtadpoocafhddeaaDoorSa
import Derived.Deep.RegionLaw
namespace Go.Proofs.YtadpoocafhddeaaDoor
open Go.RowKit Go.Sort

/-- The entries of a map with the names D, in the order in which they came: each has its place. -/
def entsN : Nat → List ByteArray → List MapEntry
  | _, [] => []
  | b, s :: r => ⟨.string s, .int .i64 (b : Int), b⟩ :: entsN (b + 1) r
theorem entsN_len : ∀ (b : Nat) (D : List ByteArray), (entsN b D).length = D.length
  | _, [] => rfl
  | b, s :: r => by simp [entsN, entsN_len (b + 1) r]
theorem entsN_app (s : ByteArray) : ∀ (D : List ByteArray) (b : Nat), entsN b (D ++ [s]) = entsN b D ++ [⟨.string s, .int .i64 ((b + D.length : Nat) : Int), b + D.length⟩]
  | [], b => by simp [entsN]
  | y :: r, b => by
    have := entsN_app s r (b + 1)
    simp only [List.cons_append, entsN, this, List.length_cons]
    rw [show b + (r.length + 1) = b + 1 + r.length by omega]
def mapN (D : List ByteArray) : Obj := .map (entsN 0 D).toArray D.length
theorem strEqN (a b : ByteArray) : (a == b) = true ↔ a = b := by
  obtain ⟨x⟩ := a; obtain ⟨y⟩ := b
  constructor
  · intro h
    have : (x == y) = true := h
    exact congrArg _ (by simpa using this)
  · intro h
    cases h
    show (x == x) = true
    simp
theorem findNowN (s : ByteArray) : ∀ (D : List ByteArray) (b i : Nat),
    (∃ j : Nat, D[j]? = some s ∧ (∀ k, k < j → D[k]? ≠ some s) ∧ Instr.findNow .string (.string s) (entsN b D) i = some (some (i + j, .int .i64 ((b + j : Nat) : Int)))) ∨ (s ∉ D ∧ Instr.findNow .string (.string s) (entsN b D) i = some none)
  | [], b, i => .inr ⟨by simp, rfl⟩
  | y :: r, b, i => by
    by_cases h : s = y
    · subst h
      have e : (s == s) = true := (strEqN s s).2 rfl
      exact .inl ⟨0, rfl, fun k hk => by omega, by simp [entsN, Instr.findNow, Instr.sameNow, e]⟩
    · have e : (s == y) = false := by
        cases he : (s == y) with
        | false => rfl
        | true => exact absurd ((strEqN s y).1 he) h
      rcases findNowN s r (b + 1) (i + 1) with ⟨j, h1, h2, h3⟩ | ⟨h1, h2⟩
      · refine .inl ⟨j + 1, by simpa using h1, fun k hk => ?_, ?_⟩
        · cases k with
          | zero => simpa using fun h' => h h'.symm
          | succ k => simpa using h2 k (by omega)
        · simp only [entsN, Instr.findNow, Instr.sameNow, e]
          rw [show i + (j + 1) = i + 1 + j by omega, show b + (j + 1) = b + 1 + j by omega]
          exact h3
      · refine .inr ⟨by simp [h, h1], ?_⟩
        simp only [entsN, Instr.findNow, Instr.sameNow, e]
        exact h2
theorem keyOkN (b : Bool) (s : ByteArray) (w : World) : (Instr.checkKey b 10000 9 (.string s)).run Tryd.prog w = .ok () w := by kernel_rfl
theorem findN (s : ByteArray) (D : List ByteArray) :
    (∃ j : Nat, D[j]? = some s ∧ (∀ k, k < j → D[k]? ≠ some s) ∧ ∀ w, (Instr.findKey 9 (.string s) (entsN 0 D)).run Tryd.prog w = .ok (some (j, .int .i64 (j : Int))) w) ∨ (s ∉ D ∧ ∀ w, (Instr.findKey 9 (.string s) (entsN 0 D)).run Tryd.prog w = .ok none w) := by
  have hu : Tryd.prog.underlying 9 = some .string := by kernel_rfl
  rcases findNowN s D 0 0 with ⟨j, h1, h2, h3⟩ | ⟨h1, h2⟩
  · rw [Nat.zero_add] at h3
    exact .inl ⟨j, h1, h2, fun w => by simp [Instr.findKey, run_underlying hu, h3, Result.andThen]⟩
  · exact .inr ⟨h1, fun w => by simp [Instr.findKey, run_underlying hu, h2, Result.andThen]⟩
/-- A look-up that tells whether there is one. -/
theorem lookN (s : ByteArray) (D : List ByteArray) (m : Nat) :
    (∃ j : Nat, D[j]? = some s ∧ (∀ k, k < j → D[k]? ≠ some s) ∧ ∀ w : World, w.heap[m]? = some (mapN D) → (Instr.lookup 57 (.map (some m)) (.string s) true).run Tryd.prog w = .ok (.tuple #[.int .i64 (j : Int), .bool true]) w) ∨
    (s ∉ D ∧ ∀ w : World, w.heap[m]? = some (mapN D) → (Instr.lookup 57 (.map (some m)) (.string s) true).run Tryd.prog w = .ok (.tuple #[.int .i64 0, .bool false]) w) := by
  have hu : Tryd.prog.underlying 57 = some (.map 9 2) := by kernel_rfl
  have hz : ∀ w, (zeroValue 2).run Tryd.prog w = .ok (.int .i64 0) w := fun w => by kernel_rfl
  rcases findN s D with ⟨j, h1, h2, hj⟩ | ⟨hn, hj⟩
  · refine .inl ⟨j, h1, h2, fun w hm => ?_⟩
    unfold mapN at hm
    simp [Instr.lookup, run_underlying hu, MapKept.run_getObj_map hm, keyOkN, hj, Result.andThen]
  · refine .inr ⟨hn, fun w hm => ?_⟩
    unfold mapN at hm
    simp [Instr.lookup, run_underlying hu, MapKept.run_getObj_map hm, keyOkN, hj, hz, Result.andThen]
/-- A new name is put behind the others. -/
theorem updN (s : ByteArray) (D : List ByteArray) (m : Nat) (w : World) (hm : w.heap[m]? = some (mapN D)) (hn : s ∉ D) :
    (Instr.mapUpdate 57 (.map (some m)) (.string s) (.int .i64 (D.length : Int))).run Tryd.prog w = .ok () { w with heap := w.heap.setIfInBounds m (mapN (D ++ [s])) } := by
  have hu : Tryd.prog.underlying 57 = some (.map 9 2) := by kernel_rfl
  unfold mapN at hm
  rcases findN s D with ⟨j, h1, _⟩ | ⟨_, hj⟩
  · exact absurd (List.mem_of_getElem? h1) hn
  · have hp : mapN (D ++ [s]) = .map ((entsN 0 D).toArray.push ⟨.string s, .int .i64 (D.length : Int), D.length⟩) (D.length + 1) := by
      unfold mapN
      rw [entsN_app]
      simp
    rw [hp]
    simp [Instr.mapUpdate, run_underlying hu, MapKept.run_getObj_map hm, keyOkN, hj, MapKept.run_setObj_map _ hm, Result.andThen]
end Go.Proofs.YtadpoocafhddeaaDoor
namespace Go.Proofs.YtadpoocafhddeaaDoor
open Go.RowKit Go.Sort

def nms (P : List Sdv) : List ByteArray := P.map (·.nm)
/-- An index that holds the standards P. -/
structure Ix (w0 w : World) (bi bm base : Nat) (A : Option Addr) (c : Nat) (P : List Sdv) : Prop where
  g : Gr w0 w
  b0 : w0.heap.size ≤ base
  b1 : base ≤ w.heap.size
  hi : w0.heap.size ≤ bi
  hm : w0.heap.size ≤ bm
  xi : w.heap[bi]? = some (.cells #[.slice A P.length c, .map (some bm)] 59)
  xm : w.heap[bm]? = some (mapN (nms P))
  own : w.ownsRow base 54 10 (.slice A P.length c) P.length (flSd P)
theorem Ix.keep {w0 w w' : World} {bi bm base c : Nat} {A : Option Addr} {P : List Sdv} (h : Ix w0 w bi bm base A c P) (hg : Gr w w') : Ix w0 w' bi bm base A c P :=
  ⟨h.g.trans hg, h.b0, Nat.le_trans h.b1 hg.size, h.hi, h.hm, hg.keep h.xi, hg.keep h.xm, own_gr h.own hg⟩
theorem Ix.rd {w0 w : World} {bi bm base c : Nat} {A : Option Addr} {P : List Sdv} (h : Ix w0 w bi bm base A c P) : RdSd w A P := RdSd.of_own h.own
/-- A standard that may come behind others. -/
def stepP (P : List Sdv) (x : Sdv) : Prop := P.length ≠ 30 ∧ soundB x = true ∧ x.nm ∉ nms P ∧ (x.f = -1 ∨ ∃ (k : Nat) (y : Sdv), x.f = (k : Int) ∧ P[k]? = some y ∧ goodB y x.m = true)
theorem nms_len (P : List Sdv) : (nms P).length = P.length := by simp [nms]
theorem nms_app (P : List Sdv) (x : Sdv) : nms (P ++ [x]) = nms P ++ [x.nm] := by simp [nms]
theorem has_lt {n : Nat} {k : Nat} (h : k < n) : hasB n (k : Int) = true := by unfold hasB; simp; omega
set_option maxRecDepth 20000 in
set_option maxHeartbeats 1000000 in
theorem iAdd_1 (w0 w : World) (bi bm base c : Nat) (A : Option Addr) (P : List Sdv) (x : Sdv) (X : Hid (Ix w0 w bi bm base A c P)) (h : P.length = 30) :
    Calls Tryd.prog 84 #[.pointer (some ⟨bi, 0, none⟩), vSd x] w fun e w' => e = .returned (.bool false) ∧ Gr w w' := by
  obtain ⟨_, _⟩ := cells2 X.out.xi
  have _ := ltb X.out.xi
  have hp : ((P.length : Int) == 30) = true := by simpa using (show (P.length : Int) = 30 by omega)
  clear h
  go_enter Tryd.func84, Tryd.ntmps84
  go_wp2
  go_ret
  exact ⟨rfl, (Gr.refl _).al _⟩
set_option maxRecDepth 20000 in
set_option maxHeartbeats 1000000 in
theorem iAdd_2 (w0 w : World) (bi bm base c : Nat) (A : Option Addr) (P : List Sdv) (x : Sdv) (X : Hid (Ix w0 w bi bm base A c P)) (h : P.length ≠ 30) (hs : soundB x = false) :
    Calls Tryd.prog 84 #[.pointer (some ⟨bi, 0, none⟩), vSd x] w fun e w' => e = .returned (.bool false) ∧ Gr w w' := by
  obtain ⟨_, _⟩ := cells2 X.out.xi
  have _ := ltb X.out.xi
  have hp : ((P.length : Int) == 30) = false := by simpa using (show ¬ (P.length : Int) = 30 by omega)
  have HS := hid hs
  clear h hs
  go_enter Tryd.func84, Tryd.ntmps84
  go_wp2_with fail
  refine (iSound_is x false _ HS.out).mono ?_
  rintro e w1 ⟨rfl, hg1⟩
  obtain ⟨x1_0, hz1, g1⟩ := alloc1 hg1
  obtain ⟨_, _, _, _, _, _, _, _, _, _⟩ := cells10 x1_0
  have _ := fz x1_0
  have _ := ltb x1_0
  have X1_0 := hid x1_0; clear x1_0
  have G1 := hid (g1)
  clear hg1 g1
  go_wp2
  go_ret
  exact ⟨rfl, G1.out⟩
set_option maxRecDepth 20000 in
set_option maxHeartbeats 1000000 in
theorem iAdd_3 (w0 w : World) (bi bm base c : Nat) (A : Option Addr) (P : List Sdv) (x : Sdv) (X : Hid (Ix w0 w bi bm base A c P)) (h : P.length ≠ 30) (hs : soundB x = true) (hk : x.nm ∈ nms P) :
    Calls Tryd.prog 84 #[.pointer (some ⟨bi, 0, none⟩), vSd x] w fun e w' => e = .returned (.bool false) ∧ Gr w w' := by
  obtain ⟨_, _⟩ := cells2 X.out.xi
  have _ := ltb X.out.xi
  have hp : ((P.length : Int) == 30) = false := by simpa using (show ¬ (P.length : Int) = 30 by omega)
  have HS := hid hs
  obtain ⟨j, hj⟩ : ∃ j : Nat, ∀ w : World, w.heap[bm]? = some (mapN (nms P)) → (Instr.lookup 57 (.map (some bm)) (.string x.nm) true).run Tryd.prog w = .ok (.tuple #[.int .i64 (j : Int), .bool true]) w := by
    rcases lookN x.nm (nms P) bm with ⟨j, _, _, h3⟩ | ⟨h1, _⟩
    · exact ⟨j, h3⟩
    · exact absurd hk h1
  have HJ := hid hj
  clear h hs hk hj
  go_enter Tryd.func84, Tryd.ntmps84
  go_wp2_with fail
  refine (iSound_is x true _ HS.out).mono ?_
  rintro e w1 ⟨rfl, hg1⟩
  obtain ⟨x1_0, hz1, g1⟩ := alloc1 hg1
  obtain ⟨_, _, _, _, _, _, _, _, _, _⟩ := cells10 x1_0
  have _ := fz x1_0
  have _ := ltb x1_0
  have X1_0 := hid x1_0; clear x1_0
  have G1 := hid (g1)
  clear hg1 g1
  have IX1 := hid (X.out.keep G1.out)
  have l1 := HJ.out w1.drew (IX1.out.keep (Gr.drew _)).xm
  obtain ⟨_, _⟩ := cells2 IX1.out.xi
  have _ := ltb IX1.out.xi
  go_wp2_with fail
  go_region
  go_wp2_with fail
  refine wp_reg0 26 (by kernel_rfl) (by kernel_rfl) ?_
  apply Exists.intro
  refine ⟨fun wb hb => ?_, ?_⟩
  · simp only [headOps, List.contains, List.elem, reduceIte, Bool.false_eq_true]
    repeat (first | go_big_quiet_step (first | (fail)) | quiet_step (fail))
    exact wpQuiet_nil rfl
  intro w2 hg2
  have G2 := hid ((G1.out.trans (Gr.drew _)).trans hg2)
  clear hg2
  go_wp2
  go_ret
  exact ⟨rfl, G2.out⟩
theorem lookNo {s : ByteArray} {D : List ByteArray} (m : Nat) (h : s ∉ D) (w : World) (hm : w.heap[m]? = some (mapN D)) : (Instr.lookup 57 (.map (some m)) (.string s) true).run Tryd.prog w = .ok (.tuple #[.int .i64 0, .bool false]) w := by
  rcases lookN s D m with ⟨j, h1, _⟩ | ⟨_, h2⟩
  · exact absurd (List.mem_of_getElem? h1) h
  · exact h2 w hm
set_option maxRecDepth 20000 in
set_option maxHeartbeats 1000000 in
theorem iAdd_4 (w0 w : World) (bi bm base c : Nat) (A : Option Addr) (P : List Sdv) (x : Sdv) (X : Hid (Ix w0 w bi bm base A c P)) (h : P.length ≠ 30) (hs : soundB x = true) (hk : x.nm ∉ nms P) (hf : x.f ≠ -1) (hh : hasB P.length x.f = false) :
    Calls Tryd.prog 84 #[.pointer (some ⟨bi, 0, none⟩), vSd x] w fun e w' => e = .returned (.bool false) ∧ Gr w w' := by
  obtain ⟨_, _⟩ := cells2 X.out.xi
  have _ := ltb X.out.xi
  have hp : ((P.length : Int) == 30) = false := by simpa using (show ¬ (P.length : Int) = 30 by omega)
  have hf1 : (x.f == -1) = false := by simpa using hf
  have HS := hid hs; have HK := hid hk; have HH := hid hh
  clear h hs hk hf hh
  go_enter Tryd.func84, Tryd.ntmps84
  go_wp2_with fail
  refine (iSound_is x true _ HS.out).mono ?_
  rintro e w1 ⟨rfl, hg1⟩
  obtain ⟨x1_0, hz1, g1⟩ := alloc1 hg1
  obtain ⟨_, _, _, _, _, _, _, _, _, _⟩ := cells10 x1_0
  have _ := fz x1_0
  have _ := ltb x1_0
  have X1_0 := hid x1_0; clear x1_0
  have G1 := hid (g1)
  clear hg1 g1
  have IX1 := hid (X.out.keep G1.out)
  have l1 := lookNo bm HK.out w1.drew (IX1.out.keep (Gr.drew _)).xm
  have XI := hid (IX1.out.keep (Gr.drew _)).xi
  obtain ⟨c0, c1, c2, c3, c4, c5, c6, c7, c8, c9⟩ := cells10 X1_0.out
  have C1 := hid c1; have C8 := hid c8
  obtain ⟨_, _⟩ := cells2 IX1.out.xi
  have _ := ltb IX1.out.xi
  go_wp2_with fail
  go_region
  go_wp2_with fail
  refine wp_reg0 26 (by kernel_rfl) (by kernel_rfl) ?_
  apply Exists.intro
  refine ⟨fun wb hb => ?_, ?_⟩
  · obtain ⟨_, _⟩ := hb.at2 XI.out
    have _ := hb.atF C1.out
    simp only [headOps, List.contains, List.elem, reduceIte, Bool.false_eq_true]
    repeat (first | go_big_quiet_step (first | (go_at_call 41; exact Calls.of_gr (iHas_is A P.length c bm x.f false _ HH.out))) | quiet_step (fail))
    exact wpQuiet_nil rfl
  intro w2 hg2
  have G2 := hid ((G1.out.trans (Gr.drew _)).trans hg2)
  clear hg2
  go_wp2
  go_ret
  exact ⟨rfl, G2.out⟩
set_option maxRecDepth 20000 in
set_option maxHeartbeats 1000000 in
theorem iAdd_5 (w0 w : World) (bi bm base c : Nat) (A : Option Addr) (P : List Sdv) (x y : Sdv) (k : Nat) (X : Hid (Ix w0 w bi bm base A c P)) (h : P.length ≠ 30) (hs : soundB x = true) (hk : x.nm ∉ nms P) (hf : x.f = (k : Int)) (hh : hasB P.length (k : Int) = true) (hy : P[k]? = some y) (hys : soundB y = true) (hg : goodB y x.m = false) :
    Calls Tryd.prog 84 #[.pointer (some ⟨bi, 0, none⟩), vSd x] w fun e w' => e = .returned (.bool false) ∧ Gr w w' := by
  obtain ⟨nm, f, a, b, e, d, p, q, m, g⟩ := x
  simp only at hf hk hg
  subst hf
  obtain ⟨_, _⟩ := cells2 X.out.xi
  have _ := ltb X.out.xi
  have hp : ((P.length : Int) == 30) = false := by simpa using (show ¬ (P.length : Int) = 30 by omega)
  have hf1 : ((k : Int) == -1) = false := by simp
  have hkl : k < P.length := (List.getElem?_eq_some_iff.1 hy).1
  have HS := hid hs; have HK := hid hk; have HH := hid hh; have HYS := hid hys; have HG := hid hg; have HY := hid hy
  clear h hs hk hh hys hg hy
  go_enter Tryd.func84, Tryd.ntmps84
  go_wp2_with fail
  refine (iSound_is _ true _ HS.out).mono ?_
  rintro e w1 ⟨rfl, hg1⟩
  obtain ⟨x1_0, hz1, g1⟩ := alloc1 hg1
  obtain ⟨_, _, _, _, _, _, _, _, _, _⟩ := cells10 x1_0
  have _ := fz x1_0
  have _ := ltb x1_0
  have X1_0 := hid x1_0; clear x1_0
  have G1 := hid (g1)
  clear hg1 g1
  have IX1 := hid (X.out.keep G1.out)
  have l1 := lookNo bm HK.out w1.drew (IX1.out.keep (Gr.drew _)).xm
  have XI := hid (IX1.out.keep (Gr.drew _)).xi
  obtain ⟨c0, c1, c2, c3, c4, c5, c6, c7, c8, c9⟩ := cells10 X1_0.out
  have C1 := hid c1; have C8 := hid c8
  obtain ⟨ad, rfl, cy⟩ := (IX1.out.keep (Gr.drew _)).rd k y HY.out
  have CY := hid cy
  obtain ⟨_, _⟩ := cells2 IX1.out.xi
  have _ := ltb IX1.out.xi
  clear cy
  go_wp2_with fail
  go_region
  go_wp2_with fail
  refine wp_reg0 26 (by kernel_rfl) (by kernel_rfl) ?_
  apply Exists.intro
  refine ⟨fun wb hb => ?_, ?_⟩
  · obtain ⟨_, _⟩ := hb.at2 XI.out
    have _ := hb.atF C1.out; have _ := hb.atF C8.out
    have _ := hb.atF CY.out.h0; have _ := hb.atF CY.out.h1; have _ := hb.atF CY.out.h2; have _ := hb.atF CY.out.h3; have _ := hb.atF CY.out.h4; have _ := hb.atF CY.out.h5; have _ := hb.atF CY.out.h6; have _ := hb.atF CY.out.h7; have _ := hb.atF CY.out.h8; have _ := hb.atF CY.out.h9
    simp only [headOps, List.contains, List.elem, reduceIte, Bool.false_eq_true]
    repeat (first | go_big_quiet_step (first | (go_at_call 41; exact Calls.of_gr (iHas_is _ P.length c bm (k : Int) true _ HH.out)) | (go_at_call 43; exact Calls.of_gr (iGoodOn_is y m false _ HYS.out HG.out))) | quiet_step (fail))
    exact wpQuiet_nil rfl
  intro w2 hg2
  have G2 := hid ((G1.out.trans (Gr.drew _)).trans hg2)
  clear hg2
  go_wp2
  go_ret
  exact ⟨rfl, G2.out⟩
end Go.Proofs.YtadpoocafhddeaaDoor
namespace Go.Proofs.YtadpoocafhddeaaDoor
open Go.RowKit Go.Sort
/-! one more -/
theorem own_neSd {W : World} {base b n : Nat} {v : Value} {xs : List Value} {cs : Array Value} (h : W.ownsRow base 54 10 v n xs) (hb : W.heap[b]? = some (.cells cs 59)) : v.ownBlock ≠ some b := by
  rcases h.2 with ⟨rfl, _⟩ | ⟨g, cap, cur, rfl, _, h3, _⟩
  · simp [Value.ownBlock]
  · intro he
    have : g = b := by simpa [Value.ownBlock] using he
    subst this
    rw [h3] at hb
    cases hb
theorem own_neMSd {W : World} {base b n : Nat} {v : Value} {xs : List Value} {D : List ByteArray} (h : W.ownsRow base 54 10 v n xs) (hb : W.heap[b]? = some (mapN D)) : v.ownBlock ≠ some b := by
  rcases h.2 with ⟨rfl, _⟩ | ⟨g, cap, cur, rfl, _, h3, _⟩
  · simp [Value.ownBlock]
  · intro he
    have : g = b := by simpa [Value.ownBlock] using he
    subst this
    rw [h3] at hb
    cases hb
theorem own_otherSd {W W' : World} {base b n : Nat} {v : Value} {xs : List Value} (h : W.ownsRow base 54 10 v n xs) (hb : v.ownBlock ≠ some b) (hs : ∀ j, j ≠ b → W'.heap[j]? = W.heap[j]?) : W'.ownsRow base 54 10 v n xs := by
  refine ⟨h.1, ?_⟩
  rcases h.2 with h0 | ⟨g, cap, cur, h1, h2, h3, h4⟩
  · exact .inl h0
  · refine .inr ⟨g, cap, cur, h1, h2, ?_, h4⟩
    rw [hs g fun e => hb (by rw [h1, e]; rfl)]
    exact h3
/-- A new name is written into the map. -/
theorem ix_set {w0 w W : World} {bi bm base c : Nat} {A : Option Addr} {P : List Sdv} (h : Ix w0 w bi bm base A c P) (o : Obj) (hW : W = { w with heap := w.heap.setIfInBounds bm o }) :
    Gr w0 W ∧ W.heap[bi]? = some (.cells #[.slice A P.length c, .map (some bm)] 59) ∧ W.heap[bm]? = some o ∧ W.ownsRow base 54 10 (.slice A P.length c) P.length (flSd P) ∧ W.heap.size = w.heap.size ∧ ∀ j o', j ≠ bm → w.heap[j]? = some o' → W.heap[j]? = some o' := by
  obtain ⟨s1, s2⟩ := MapKept.heap_set (o' := o) h.xm
  have hne : bi ≠ bm := by
    rintro rfl
    have := h.xi
    rw [h.xm] at this
    cases this
  subst hW
  have hs : ∀ j, j ≠ bm → ({ w with heap := w.heap.setIfInBounds bm o } : World).heap[j]? = w.heap[j]? := fun j hj => s2 j hj
  refine ⟨h.g.heap rfl rfl rfl rfl (by simp) fun k hk => hs k (by have := h.hm; omega), (hs bi hne).trans h.xi, s1, own_otherSd h.own (own_neMSd h.own h.xm) hs, by simp, fun j o' hj ho => (hs j hj).trans ho⟩
theorem cSd_news {w : World} {b : Nat} {x : Sdv} {T : TypeId} (h : w.heap[b]? = some (.cells (cSd x).toArray T)) : ∀ (j : Nat) (u : Value), (cSd x)[j]? = some u → w.cell? ((⟨b, 0, none⟩ : Addr).add j) = some u := fun j u hj => by
  rw [add_at]
  simp [World.cell?, h, hj]
theorem ix_new {w0 w : World} {bi bm base c n : Nat} {A B : Option Addr} {cb : Nat} {P : List Sdv} {x : Sdv} (hi : w0.heap.size ≤ bi) (b0 : w0.heap.size ≤ base) (hm : w0.heap.size ≤ bm) (b1 : base ≤ w.heap.size) (hg : Gr w0 w) (hx : w.heap[bi]? = some (.cells #[.slice B n cb, .map (some bm)] 59)) (hm2 : w.heap[bm]? = some (mapN (nms P ++ [x.nm]))) (own : w.ownsRow base 54 10 (.slice A (P.length + 1) c) (P.length + 1) (flSd (P ++ [x]))) (hl : (P ++ [x]).length = P.length + 1) :
    Ix w0 (w.setCell ⟨bi, 0, none⟩ (.slice A (P.length + 1) c)) bi bm base A c (P ++ [x]) := by
  have hne : bm ≠ bi := by
    rintro rfl
    rw [hx] at hm2
    cases hm2
  have hs : ∀ j, j ≠ bi → (w.setCell ⟨bi, 0, none⟩ (.slice A (P.length + 1) c)).heap[j]? = w.heap[j]? := fun j hj => Below.heap_setCell _ _ _ _ hj
  refine ⟨hg.setCell hi _, b0, by simpa using b1, hi, hm, ?_, ?_, ?_⟩
  · rw [hl]
    have := Joins.block_setCell (i := 0) hx (.slice A (P.length + 1) c)
    simpa using this
  · rw [hs bm hne, nms_app]
    exact hm2
  · rw [hl]
    exact own_otherSd own (own_neSd own hx) hs
set_option maxRecDepth 20000 in
set_option maxHeartbeats 2000000 in
theorem iAdd_6 (w0 w : World) (bi bm base c : Nat) (A : Option Addr) (P : List Sdv) (x : Sdv) (X : Hid (Ix w0 w bi bm base A c P)) (h : P.length < 30) (hs : soundB x = true) (hk : x.nm ∉ nms P) (hf : x.f = -1) :
    Calls Tryd.prog 84 #[.pointer (some ⟨bi, 0, none⟩), vSd x] w fun e w' => e = .returned (.bool true) ∧ ∃ A' c', Ix w0 w' bi bm base A' c' (P ++ [x]) := by
  obtain ⟨i0, hi, iz0, iz1, iz2⟩ : ∃ i, Tryd.prog.info? 54 = some i ∧ i.zero = some (vSd zSd) ∧ i.size = 10 ∧ i.bytes = 88 := ⟨_, rfl, rfl, rfl, rfl⟩
  obtain ⟨nm, f, a, b, e, d, p, q, m, g⟩ := x
  simp only at hf hk
  subst hf
  obtain ⟨_, _⟩ := cells2 X.out.xi
  have _ := ltb X.out.xi
  have hp : ((P.length : Int) == 30) = false := by simpa using (show ¬ (P.length : Int) = 30 by omega)
  have HS := hid hs; have HK := hid hk; have HI := hid X.out.hi; have HB0 := hid X.out.b0; have HM := hid X.out.hm
  clear hs hk
  go_enter Tryd.func84, Tryd.ntmps84
  go_wp2_with fail
  refine (iSound_is _ true _ HS.out).mono ?_
  rintro e w1 ⟨rfl, hg1⟩
  obtain ⟨x1_0, hz1, g1⟩ := alloc1 hg1
  obtain ⟨_, _, _, _, _, _, _, _, _, _⟩ := cells10 x1_0
  have _ := fz x1_0
  have _ := ltb x1_0
  have X1_0 := hid x1_0; clear x1_0
  have G1 := hid (g1)
  clear hg1 g1
  have IX1 := hid (X.out.keep G1.out)
  have l1 := lookNo bm HK.out w1.drew (IX1.out.keep (Gr.drew _)).xm
  obtain ⟨_, _⟩ := cells2 IX1.out.xi
  have _ := ltb IX1.out.xi
  go_wp2_with fail
  go_region
  go_wp2_with fail
  refine wp_reg0 26 (by kernel_rfl) (by kernel_rfl) ?_
  apply Exists.intro
  refine ⟨fun wb hb => ?_, ?_⟩
  · simp only [headOps, List.contains, List.elem, reduceIte, Bool.false_eq_true]
    repeat (first | go_big_quiet_step (first | (fail)) | quiet_step (fail))
    exact wpQuiet_nil rfl
  intro w2 hg2
  have IX2 := hid (IX1.out.keep ((Gr.drew _).trans hg2)); have B2 := hid (((Gr.drew w1).trans hg2).keep X1_0.out)
  have hbi : w.heap.size ≠ bm := fun e => by have := ltb X.out.xm; omega
  have hbb : w.heap.size ≠ bi := fun e => by have := ltb X.out.xi; omega
  have IXD := hid (IX2.out.keep (Gr.drew _))
  have up := updN nm (nms P) bm w2.drew IXD.out.xm HK.out
  rw [nms_len] at up
  obtain ⟨W1, hW1⟩ : ∃ W1, W1 = ({ w2.drew with heap := w2.drew.heap.setIfInBounds bm (mapN (nms P ++ [nm])) } : World) := ⟨_, rfl⟩
  obtain ⟨gs, xs1, ms1, os1, zs1, ot1⟩ := ix_set IXD.out _ hW1
  rw [← hW1] at up
  have GS := hid gs; have XS1 := hid xs1; have MS1 := hid ms1; have OS1 := hid os1
  have BX1 := hid (ot1 _ _ hbi ((Gr.drew w2).keep B2.out))
  have hb1 := Nat.le_trans IXD.out.b1 (Nat.le_of_eq zs1.symm)
  have HB1 := hid hb1
  obtain ⟨_, _⟩ := cells2 IX2.out.xi
  have _ := ltb IX2.out.xi
  obtain ⟨_, _, _, _, _, _, _, _, _, _⟩ := cells10 B2.out
  clear hg2 gs xs1 ms1 os1 zs1 ot1 hW1 hb1
  go_wp2_with fail
  go_region
  obtain ⟨_, _⟩ := cells2 XS1.out
  have _ := ltb XS1.out
  obtain ⟨_, _, _, _, _, _, _, _, _, _⟩ := cells10 BX1.out
  have OWN4 := hid (own_gr (own_gr OS1.out (Gr.drew W1)) ((Gr.refl W1.drew).al (.cells #[.string nm, .int .i64 (-1), .int .i64 a, .int .i64 b, .int .i64 e, .int .i64 d, .int .i64 p, .int .i64 q, .int .i64 m, .int .i64 g] 54)))
  have NEW := hid (cSd_news (x := ⟨nm, (-1), a, b, e, d, p, q, m, g⟩) (w := W1.drew.alloc (.cells #[.string nm, .int .i64 (-1), .int .i64 a, .int .i64 b, .int .i64 e, .int .i64 d, .int .i64 p, .int .i64 q, .int .i64 m, .int .i64 g] 54)) (b := W1.heap.size) (T := 54) (alloc1 (w := W1.drew) (A := .cells #[.string nm, .int .i64 (-1), .int .i64 a, .int .i64 b, .int .i64 e, .int .i64 d, .int .i64 p, .int .i64 q, .int .i64 m, .int .i64 g] 54) (Gr.refl _)).1)
  have GA := hid ((GS.out.trans (Gr.drew W1)).al (.cells #[.string nm, .int .i64 (-1), .int .i64 a, .int .i64 b, .int .i64 e, .int .i64 d, .int .i64 p, .int .i64 q, .int .i64 m, .int .i64 g] 54))
  have YA := hid (((Gr.drew W1).al (.cells #[.string nm, .int .i64 (-1), .int .i64 a, .int .i64 b, .int .i64 e, .int .i64 d, .int .i64 p, .int .i64 q, .int .i64 m, .int .i64 g] 54)).keep XS1.out)
  have MA := hid (((Gr.drew W1).al (.cells #[.string nm, .int .i64 (-1), .int .i64 a, .int .i64 b, .int .i64 e, .int .i64 d, .int .i64 p, .int .i64 q, .int .i64 m, .int .i64 g] 54)).keep MS1.out)
  have hsz4 : base ≤ (W1.drew.alloc (.cells #[.string nm, .int .i64 (-1), .int .i64 a, .int .i64 b, .int .i64 e, .int .i64 d, .int .i64 p, .int .i64 q, .int .i64 m, .int .i64 g] 54)).heap.size := by have := HB1.out; simp; omega
  have hne := own_neSd OWN4.out YA.out
  have hnm := own_neMSd OWN4.out MA.out
  clear IX1 IX2 IXD l1 up B2 X G1
  go_wp2_with fail
  go_region_law (first
    | (refine (step_append_gr rfl (.tmp 74) (.tmp 76) 26 rfl base 54 i0 (vSd zSd) 10 88 Tryd.underlying26 hi iz0 iz1 iz2 rfl (by decide) _ P.length _ rfl OWN4.out ⟨W1.heap.size, 0, none⟩ 1 1 (cSd ⟨nm, -1, a, b, e, d, p, q, m, g⟩) rfl rfl NEW.out (cSd_one _) (by decide) (by unfold maxLen; omega) (by omega) hsz4 ?_); intro v' w5 own5 hgb _ hgr; obtain ⟨A2, c2, rfl⟩ := own_form own5; rw [flSd_app] at own5; have y5 := (hgb.block bi (ltb YA.out) (Ne.symm hne)).trans YA.out; have m5 := (hgb.block bm (ltb MA.out) (Ne.symm hnm)).trans MA.out; have OWN5 := hid own5; have Y5 := hid y5; have M5 := hid m5; have G5 := hid (hgr _ GA.out HB0.out); have SZ5 := hid (Nat.le_trans hsz4 hgb.size); obtain ⟨_, _⟩ := cells2 Y5.out; have _ := fz Y5.out; have _ := ltb Y5.out; clear own5 y5 m5 hgb hgr hne hnm hsz4))
  all_goals
    go_wp2_with fail
    go_ret
    refine ⟨rfl, A2, c2, ?_⟩
    exact ix_new HI.out HB0.out HM.out SZ5.out G5.out Y5.out M5.out OWN5.out (by simp)
set_option maxRecDepth 20000 in
set_option maxHeartbeats 2000000 in
theorem iAdd_7 (w0 w : World) (bi bm base c : Nat) (A : Option Addr) (P : List Sdv) (x y : Sdv) (k : Nat) (X : Hid (Ix w0 w bi bm base A c P)) (h : P.length < 30) (hs : soundB x = true) (hk : x.nm ∉ nms P) (hf : x.f = (k : Int)) (hh : hasB P.length (k : Int) = true) (hy : P[k]? = some y) (hys : soundB y = true) (hg : goodB y x.m = true) :
    Calls Tryd.prog 84 #[.pointer (some ⟨bi, 0, none⟩), vSd x] w fun e w' => e = .returned (.bool true) ∧ ∃ A' c', Ix w0 w' bi bm base A' c' (P ++ [x]) := by
  obtain ⟨i0, hi, iz0, iz1, iz2⟩ : ∃ i, Tryd.prog.info? 54 = some i ∧ i.zero = some (vSd zSd) ∧ i.size = 10 ∧ i.bytes = 88 := ⟨_, rfl, rfl, rfl, rfl⟩
  obtain ⟨nm, f, a, b, e, d, p, q, m, g⟩ := x
  simp only at hf hk hg
  subst hf
  obtain ⟨_, _⟩ := cells2 X.out.xi
  have _ := ltb X.out.xi
  have hp : ((P.length : Int) == 30) = false := by simpa using (show ¬ (P.length : Int) = 30 by omega)
  have hf1 : ((k : Int) == -1) = false := by simp
  have hkl : k < P.length := (List.getElem?_eq_some_iff.1 hy).1
  have HH := hid hh; have HYS := hid hys; have HG := hid hg; have HY := hid hy
  have HS := hid hs; have HK := hid hk; have HI := hid X.out.hi; have HB0 := hid X.out.b0; have HM := hid X.out.hm
  clear hs hk hh hys hg hy
  go_enter Tryd.func84, Tryd.ntmps84
  go_wp2_with fail
  refine (iSound_is _ true _ HS.out).mono ?_
  rintro e w1 ⟨rfl, hg1⟩
  obtain ⟨x1_0, hz1, g1⟩ := alloc1 hg1
  obtain ⟨_, _, _, _, _, _, _, _, _, _⟩ := cells10 x1_0
  have _ := fz x1_0
  have _ := ltb x1_0
  have X1_0 := hid x1_0; clear x1_0
  have G1 := hid (g1)
  clear hg1 g1
  have IX1 := hid (X.out.keep G1.out)
  have l1 := lookNo bm HK.out w1.drew (IX1.out.keep (Gr.drew _)).xm
  have XI := hid (IX1.out.keep (Gr.drew _)).xi
  obtain ⟨c0, c1, c2, c3, c4, c5, c6, c7, c8, c9⟩ := cells10 X1_0.out
  have C1 := hid c1; have C8 := hid c8
  obtain ⟨ad, rfl, cy⟩ := (IX1.out.keep (Gr.drew _)).rd k y HY.out
  have CY := hid cy
  obtain ⟨_, _⟩ := cells2 IX1.out.xi
  have _ := ltb IX1.out.xi
  clear cy
  go_wp2_with fail
  go_region
  go_wp2_with fail
  refine wp_reg0 26 (by kernel_rfl) (by kernel_rfl) ?_
  apply Exists.intro
  refine ⟨fun wb hb => ?_, ?_⟩
  · obtain ⟨_, _⟩ := hb.at2 XI.out
    have _ := hb.atF C1.out; have _ := hb.atF C8.out
    have _ := hb.atF CY.out.h0; have _ := hb.atF CY.out.h1; have _ := hb.atF CY.out.h2; have _ := hb.atF CY.out.h3; have _ := hb.atF CY.out.h4; have _ := hb.atF CY.out.h5; have _ := hb.atF CY.out.h6; have _ := hb.atF CY.out.h7; have _ := hb.atF CY.out.h8; have _ := hb.atF CY.out.h9
    simp only [headOps, List.contains, List.elem, reduceIte, Bool.false_eq_true]
    repeat (first | go_big_quiet_step (first | (go_at_call 41; exact Calls.of_gr (iHas_is _ P.length c bm (k : Int) true _ HH.out)) | (go_at_call 43; exact Calls.of_gr (iGoodOn_is y m true _ HYS.out HG.out))) | quiet_step (fail))
    exact wpQuiet_nil rfl
  intro w2 hg2
  have IX2 := hid (IX1.out.keep ((Gr.drew _).trans hg2)); have B2 := hid (((Gr.drew w1).trans hg2).keep X1_0.out)
  have hbi : w.heap.size ≠ bm := fun e => by have := ltb X.out.xm; omega
  have hbb : w.heap.size ≠ bi := fun e => by have := ltb X.out.xi; omega
  have IXD := hid (IX2.out.keep (Gr.drew _))
  have up := updN nm (nms P) bm w2.drew IXD.out.xm HK.out
  rw [nms_len] at up
  obtain ⟨W1, hW1⟩ : ∃ W1, W1 = ({ w2.drew with heap := w2.drew.heap.setIfInBounds bm (mapN (nms P ++ [nm])) } : World) := ⟨_, rfl⟩
  obtain ⟨gs, xs1, ms1, os1, zs1, ot1⟩ := ix_set IXD.out _ hW1
  rw [← hW1] at up
  have GS := hid gs; have XS1 := hid xs1; have MS1 := hid ms1; have OS1 := hid os1
  have BX1 := hid (ot1 _ _ hbi ((Gr.drew w2).keep B2.out))
  have hb1 := Nat.le_trans IXD.out.b1 (Nat.le_of_eq zs1.symm)
  have HB1 := hid hb1
  obtain ⟨_, _⟩ := cells2 IX2.out.xi
  have _ := ltb IX2.out.xi
  obtain ⟨_, _, _, _, _, _, _, _, _, _⟩ := cells10 B2.out
  clear hg2 gs xs1 ms1 os1 zs1 ot1 hW1 hb1
  go_wp2_with fail
  go_region
  obtain ⟨_, _⟩ := cells2 XS1.out
  have _ := ltb XS1.out
  obtain ⟨_, _, _, _, _, _, _, _, _, _⟩ := cells10 BX1.out
  have OWN4 := hid (own_gr (own_gr OS1.out (Gr.drew W1)) ((Gr.refl W1.drew).al (.cells #[.string nm, .int .i64 (k : Int), .int .i64 a, .int .i64 b, .int .i64 e, .int .i64 d, .int .i64 p, .int .i64 q, .int .i64 m, .int .i64 g] 54)))
  have NEW := hid (cSd_news (x := ⟨nm, (k : Int), a, b, e, d, p, q, m, g⟩) (w := W1.drew.alloc (.cells #[.string nm, .int .i64 (k : Int), .int .i64 a, .int .i64 b, .int .i64 e, .int .i64 d, .int .i64 p, .int .i64 q, .int .i64 m, .int .i64 g] 54)) (b := W1.heap.size) (T := 54) (alloc1 (w := W1.drew) (A := .cells #[.string nm, .int .i64 (k : Int), .int .i64 a, .int .i64 b, .int .i64 e, .int .i64 d, .int .i64 p, .int .i64 q, .int .i64 m, .int .i64 g] 54) (Gr.refl _)).1)
  have GA := hid ((GS.out.trans (Gr.drew W1)).al (.cells #[.string nm, .int .i64 (k : Int), .int .i64 a, .int .i64 b, .int .i64 e, .int .i64 d, .int .i64 p, .int .i64 q, .int .i64 m, .int .i64 g] 54))
  have YA := hid (((Gr.drew W1).al (.cells #[.string nm, .int .i64 (k : Int), .int .i64 a, .int .i64 b, .int .i64 e, .int .i64 d, .int .i64 p, .int .i64 q, .int .i64 m, .int .i64 g] 54)).keep XS1.out)
  have MA := hid (((Gr.drew W1).al (.cells #[.string nm, .int .i64 (k : Int), .int .i64 a, .int .i64 b, .int .i64 e, .int .i64 d, .int .i64 p, .int .i64 q, .int .i64 m, .int .i64 g] 54)).keep MS1.out)
  have hsz4 : base ≤ (W1.drew.alloc (.cells #[.string nm, .int .i64 (k : Int), .int .i64 a, .int .i64 b, .int .i64 e, .int .i64 d, .int .i64 p, .int .i64 q, .int .i64 m, .int .i64 g] 54)).heap.size := by have := HB1.out; simp; omega
  have hne := own_neSd OWN4.out YA.out
  have hnm := own_neMSd OWN4.out MA.out
  clear IX1 IX2 IXD l1 up B2 X G1
  go_wp2_with fail
  go_region_law (first
    | (refine (step_append_gr rfl (.tmp 74) (.tmp 76) 26 rfl base 54 i0 (vSd zSd) 10 88 Tryd.underlying26 hi iz0 iz1 iz2 rfl (by decide) _ P.length _ rfl OWN4.out ⟨W1.heap.size, 0, none⟩ 1 1 (cSd ⟨nm, (k : Int), a, b, e, d, p, q, m, g⟩) rfl rfl NEW.out (cSd_one _) (by decide) (by unfold maxLen; omega) (by omega) hsz4 ?_); intro v' w5 own5 hgb _ hgr; obtain ⟨A2, c2, rfl⟩ := own_form own5; rw [flSd_app] at own5; have y5 := (hgb.block bi (ltb YA.out) (Ne.symm hne)).trans YA.out; have m5 := (hgb.block bm (ltb MA.out) (Ne.symm hnm)).trans MA.out; have OWN5 := hid own5; have Y5 := hid y5; have M5 := hid m5; have G5 := hid (hgr _ GA.out HB0.out); have SZ5 := hid (Nat.le_trans hsz4 hgb.size); obtain ⟨_, _⟩ := cells2 Y5.out; have _ := fz Y5.out; have _ := ltb Y5.out; clear own5 y5 m5 hgb hgr hne hnm hsz4))
  all_goals
    go_wp2_with fail
    go_ret
    refine ⟨rfl, A2, c2, ?_⟩
    exact ix_new HI.out HB0.out HM.out SZ5.out G5.out Y5.out M5.out OWN5.out (by simp)
end Go.Proofs.YtadpoocafhddeaaDoor
