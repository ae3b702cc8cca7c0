/- CHAINS: the index of a list, of the program. -/
import Derived.Test.YtadpoocafhddeaaDoorCm
import Derived.Test.YtadpoocafhddeaaDoorCv
import Derived.Test.YtadpoocafhddeaaDoorSa
import Derived.Deep.RegionLaw
namespace Go.Proofs.YtadpoocafhddeaaDoor
open Go.RowKit Go.Sort

def nms (P : List Sdv) : List ByteArray := P.map (·.nm)
/-- An index that holds the standards P. -/
structure Ix (w0 w : World) (bi bm base : Nat) (A : Option Addr) (c : Nat) (P : List Sdv) : Prop where
  g : Gr w0 w
  b0 : w0.heap.size ≤ base
  b1 : base ≤ w.heap.size
  hi : w0.heap.size ≤ bi
  hm : w0.heap.size ≤ bm
  xi : w.heap[bi]? = some (.cells #[.slice A P.length c, .map (some bm)] 59)
  xm : w.heap[bm]? = some (mapN (nms P))
  own : w.ownsRow base 54 10 (.slice A P.length c) P.length (flSd P)
theorem Ix.keep {w0 w w' : World} {bi bm base c : Nat} {A : Option Addr} {P : List Sdv} (h : Ix w0 w bi bm base A c P) (hg : Gr w w') : Ix w0 w' bi bm base A c P :=
  ⟨h.g.trans hg, h.b0, Nat.le_trans h.b1 hg.size, h.hi, h.hm, hg.keep h.xi, hg.keep h.xm, own_gr h.own hg⟩
theorem Ix.rd {w0 w : World} {bi bm base c : Nat} {A : Option Addr} {P : List Sdv} (h : Ix w0 w bi bm base A c P) : RdSd w A P := RdSd.of_own h.own
/-- A standard that may come behind others. -/
def stepP (P : List Sdv) (x : Sdv) : Prop := P.length ≠ 30 ∧ soundB x = true ∧ x.nm ∉ nms P ∧ (x.f = -1 ∨ ∃ (k : Nat) (y : Sdv), x.f = (k : Int) ∧ P[k]? = some y ∧ goodB y x.m = true)
theorem nms_len (P : List Sdv) : (nms P).length = P.length := by simp [nms]
theorem nms_app (P : List Sdv) (x : Sdv) : nms (P ++ [x]) = nms P ++ [x.nm] := by simp [nms]
theorem has_lt {n : Nat} {k : Nat} (h : k < n) : hasB n (k : Int) = true := by unfold hasB; simp; omega
set_option maxRecDepth 20000 in
set_option maxHeartbeats 1000000 in
theorem iAdd_1 (w0 w : World) (bi bm base c : Nat) (A : Option Addr) (P : List Sdv) (x : Sdv) (X : Hid (Ix w0 w bi bm base A c P)) (h : P.length = 30) :
    Calls Tryd.prog 84 #[.pointer (some ⟨bi, 0, none⟩), vSd x] w fun e w' => e = .returned (.bool false) ∧ Gr w w' := by
  obtain ⟨_, _⟩ := cells2 X.out.xi
  have _ := ltb X.out.xi
  have hp : ((P.length : Int) == 30) = true := by simpa using (show (P.length : Int) = 30 by omega)
  clear h
  go_enter Tryd.func84, Tryd.ntmps84
  go_wp2
  go_ret
  exact ⟨rfl, (Gr.refl _).al _⟩
set_option maxRecDepth 20000 in
set_option maxHeartbeats 1000000 in
theorem iAdd_2 (w0 w : World) (bi bm base c : Nat) (A : Option Addr) (P : List Sdv) (x : Sdv) (X : Hid (Ix w0 w bi bm base A c P)) (h : P.length ≠ 30) (hs : soundB x = false) :
    Calls Tryd.prog 84 #[.pointer (some ⟨bi, 0, none⟩), vSd x] w fun e w' => e = .returned (.bool false) ∧ Gr w w' := by
  obtain ⟨_, _⟩ := cells2 X.out.xi
  have _ := ltb X.out.xi
  have hp : ((P.length : Int) == 30) = false := by simpa using (show ¬ (P.length : Int) = 30 by omega)
  have HS := hid hs
  clear h hs
  go_enter Tryd.func84, Tryd.ntmps84
  go_wp2_with fail
  refine (iSound_is x false _ HS.out).mono ?_
  rintro e w1 ⟨rfl, hg1⟩
  obtain ⟨x1_0, hz1, g1⟩ := alloc1 hg1
  obtain ⟨_, _, _, _, _, _, _, _, _, _⟩ := cells10 x1_0
  have _ := fz x1_0
  have _ := ltb x1_0
  have X1_0 := hid x1_0; clear x1_0
  have G1 := hid (g1)
  clear hg1 g1
  go_wp2
  go_ret
  exact ⟨rfl, G1.out⟩
set_option maxRecDepth 20000 in
set_option maxHeartbeats 1000000 in
theorem iAdd_3 (w0 w : World) (bi bm base c : Nat) (A : Option Addr) (P : List Sdv) (x : Sdv) (X : Hid (Ix w0 w bi bm base A c P)) (h : P.length ≠ 30) (hs : soundB x = true) (hk : x.nm ∈ nms P) :
    Calls Tryd.prog 84 #[.pointer (some ⟨bi, 0, none⟩), vSd x] w fun e w' => e = .returned (.bool false) ∧ Gr w w' := by
  obtain ⟨_, _⟩ := cells2 X.out.xi
  have _ := ltb X.out.xi
  have hp : ((P.length : Int) == 30) = false := by simpa using (show ¬ (P.length : Int) = 30 by omega)
  have HS := hid hs
  obtain ⟨j, hj⟩ : ∃ j : Nat, ∀ w : World, w.heap[bm]? = some (mapN (nms P)) → (Instr.lookup 57 (.map (some bm)) (.string x.nm) true).run Tryd.prog w = .ok (.tuple #[.int .i64 (j : Int), .bool true]) w := by
    rcases lookN x.nm (nms P) bm with ⟨j, _, _, h3⟩ | ⟨h1, _⟩
    · exact ⟨j, h3⟩
    · exact absurd hk h1
  have HJ := hid hj
  clear h hs hk hj
  go_enter Tryd.func84, Tryd.ntmps84
  go_wp2_with fail
  refine (iSound_is x true _ HS.out).mono ?_
  rintro e w1 ⟨rfl, hg1⟩
  obtain ⟨x1_0, hz1, g1⟩ := alloc1 hg1
  obtain ⟨_, _, _, _, _, _, _, _, _, _⟩ := cells10 x1_0
  have _ := fz x1_0
  have _ := ltb x1_0
  have X1_0 := hid x1_0; clear x1_0
  have G1 := hid (g1)
  clear hg1 g1
  have IX1 := hid (X.out.keep G1.out)
  have l1 := HJ.out w1.drew (IX1.out.keep (Gr.drew _)).xm
  obtain ⟨_, _⟩ := cells2 IX1.out.xi
  have _ := ltb IX1.out.xi
  go_wp2_with fail
  go_region
  go_wp2_with fail
  refine wp_reg0 26 (by kernel_rfl) (by kernel_rfl) ?_
  apply Exists.intro
  refine ⟨fun wb hb => ?_, ?_⟩
  · simp only [headOps, List.contains, List.elem, reduceIte, Bool.false_eq_true]
    repeat (first | go_big_quiet_step (first | (fail)) | quiet_step (fail))
    exact wpQuiet_nil rfl
  intro w2 hg2
  have G2 := hid ((G1.out.trans (Gr.drew _)).trans hg2)
  clear hg2
  go_wp2
  go_ret
  exact ⟨rfl, G2.out⟩
theorem lookNo {s : ByteArray} {D : List ByteArray} (m : Nat) (h : s ∉ D) (w : World) (hm : w.heap[m]? = some (mapN D)) : (Instr.lookup 57 (.map (some m)) (.string s) true).run Tryd.prog w = .ok (.tuple #[.int .i64 0, .bool false]) w := by
  rcases lookN s D m with ⟨j, h1, _⟩ | ⟨_, h2⟩
  · exact absurd (List.mem_of_getElem? h1) h
  · exact h2 w hm
set_option maxRecDepth 20000 in
set_option maxHeartbeats 1000000 in
theorem iAdd_4 (w0 w : World) (bi bm base c : Nat) (A : Option Addr) (P : List Sdv) (x : Sdv) (X : Hid (Ix w0 w bi bm base A c P)) (h : P.length ≠ 30) (hs : soundB x = true) (hk : x.nm ∉ nms P) (hf : x.f ≠ -1) (hh : hasB P.length x.f = false) :
    Calls Tryd.prog 84 #[.pointer (some ⟨bi, 0, none⟩), vSd x] w fun e w' => e = .returned (.bool false) ∧ Gr w w' := by
  obtain ⟨_, _⟩ := cells2 X.out.xi
  have _ := ltb X.out.xi
  have hp : ((P.length : Int) == 30) = false := by simpa using (show ¬ (P.length : Int) = 30 by omega)
  have hf1 : (x.f == -1) = false := by simpa using hf
  have HS := hid hs; have HK := hid hk; have HH := hid hh
  clear h hs hk hf hh
  go_enter Tryd.func84, Tryd.ntmps84
  go_wp2_with fail
  refine (iSound_is x true _ HS.out).mono ?_
  rintro e w1 ⟨rfl, hg1⟩
  obtain ⟨x1_0, hz1, g1⟩ := alloc1 hg1
  obtain ⟨_, _, _, _, _, _, _, _, _, _⟩ := cells10 x1_0
  have _ := fz x1_0
  have _ := ltb x1_0
  have X1_0 := hid x1_0; clear x1_0
  have G1 := hid (g1)
  clear hg1 g1
  have IX1 := hid (X.out.keep G1.out)
  have l1 := lookNo bm HK.out w1.drew (IX1.out.keep (Gr.drew _)).xm
  have XI := hid (IX1.out.keep (Gr.drew _)).xi
  obtain ⟨c0, c1, c2, c3, c4, c5, c6, c7, c8, c9⟩ := cells10 X1_0.out
  have C1 := hid c1; have C8 := hid c8
  obtain ⟨_, _⟩ := cells2 IX1.out.xi
  have _ := ltb IX1.out.xi
  go_wp2_with fail
  go_region
  go_wp2_with fail
  refine wp_reg0 26 (by kernel_rfl) (by kernel_rfl) ?_
  apply Exists.intro
  refine ⟨fun wb hb => ?_, ?_⟩
  · obtain ⟨_, _⟩ := hb.at2 XI.out
    have _ := hb.atF C1.out
    simp only [headOps, List.contains, List.elem, reduceIte, Bool.false_eq_true]
    repeat (first | go_big_quiet_step (first | (go_at_call 41; exact Calls.of_gr (iHas_is A P.length c bm x.f false _ HH.out))) | quiet_step (fail))
    exact wpQuiet_nil rfl
  intro w2 hg2
  have G2 := hid ((G1.out.trans (Gr.drew _)).trans hg2)
  clear hg2
  go_wp2
  go_ret
  exact ⟨rfl, G2.out⟩
set_option maxRecDepth 20000 in
set_option maxHeartbeats 1000000 in
theorem iAdd_5 (w0 w : World) (bi bm base c : Nat) (A : Option Addr) (P : List Sdv) (x y : Sdv) (k : Nat) (X : Hid (Ix w0 w bi bm base A c P)) (h : P.length ≠ 30) (hs : soundB x = true) (hk : x.nm ∉ nms P) (hf : x.f = (k : Int)) (hh : hasB P.length (k : Int) = true) (hy : P[k]? = some y) (hys : soundB y = true) (hg : goodB y x.m = false) :
    Calls Tryd.prog 84 #[.pointer (some ⟨bi, 0, none⟩), vSd x] w fun e w' => e = .returned (.bool false) ∧ Gr w w' := by
  obtain ⟨nm, f, a, b, e, d, p, q, m, g⟩ := x
  simp only at hf hk hg
  subst hf
  obtain ⟨_, _⟩ := cells2 X.out.xi
  have _ := ltb X.out.xi
  have hp : ((P.length : Int) == 30) = false := by simpa using (show ¬ (P.length : Int) = 30 by omega)
  have hf1 : ((k : Int) == -1) = false := by simp
  have hkl : k < P.length := (List.getElem?_eq_some_iff.1 hy).1
  have HS := hid hs; have HK := hid hk; have HH := hid hh; have HYS := hid hys; have HG := hid hg; have HY := hid hy
  clear h hs hk hh hys hg hy
  go_enter Tryd.func84, Tryd.ntmps84
  go_wp2_with fail
  refine (iSound_is _ true _ HS.out).mono ?_
  rintro e w1 ⟨rfl, hg1⟩
  obtain ⟨x1_0, hz1, g1⟩ := alloc1 hg1
  obtain ⟨_, _, _, _, _, _, _, _, _, _⟩ := cells10 x1_0
  have _ := fz x1_0
  have _ := ltb x1_0
  have X1_0 := hid x1_0; clear x1_0
  have G1 := hid (g1)
  clear hg1 g1
  have IX1 := hid (X.out.keep G1.out)
  have l1 := lookNo bm HK.out w1.drew (IX1.out.keep (Gr.drew _)).xm
  have XI := hid (IX1.out.keep (Gr.drew _)).xi
  obtain ⟨c0, c1, c2, c3, c4, c5, c6, c7, c8, c9⟩ := cells10 X1_0.out
  have C1 := hid c1; have C8 := hid c8
  obtain ⟨ad, rfl, cy⟩ := (IX1.out.keep (Gr.drew _)).rd k y HY.out
  have CY := hid cy
  obtain ⟨_, _⟩ := cells2 IX1.out.xi
  have _ := ltb IX1.out.xi
  clear cy
  go_wp2_with fail
  go_region
  go_wp2_with fail
  refine wp_reg0 26 (by kernel_rfl) (by kernel_rfl) ?_
  apply Exists.intro
  refine ⟨fun wb hb => ?_, ?_⟩
  · obtain ⟨_, _⟩ := hb.at2 XI.out
    have _ := hb.atF C1.out; have _ := hb.atF C8.out
    have _ := hb.atF CY.out.h0; have _ := hb.atF CY.out.h1; have _ := hb.atF CY.out.h2; have _ := hb.atF CY.out.h3; have _ := hb.atF CY.out.h4; have _ := hb.atF CY.out.h5; have _ := hb.atF CY.out.h6; have _ := hb.atF CY.out.h7; have _ := hb.atF CY.out.h8; have _ := hb.atF CY.out.h9
    simp only [headOps, List.contains, List.elem, reduceIte, Bool.false_eq_true]
    repeat (first | go_big_quiet_step (first | (go_at_call 41; exact Calls.of_gr (iHas_is _ P.length c bm (k : Int) true _ HH.out)) | (go_at_call 43; exact Calls.of_gr (iGoodOn_is y m false _ HYS.out HG.out))) | quiet_step (fail))
    exact wpQuiet_nil rfl
  intro w2 hg2
  have G2 := hid ((G1.out.trans (Gr.drew _)).trans hg2)
  clear hg2
  go_wp2
  go_ret
  exact ⟨rfl, G2.out⟩
end Go.Proofs.YtadpoocafhddeaaDoor
