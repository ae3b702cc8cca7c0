/- TEXTS of benches: the lines, as lists of bytes; BenchText of the program. (The seat's ShelfJ.) -/
import Derived.Test.YtgfopfomhgfcaaaGreatDoorJw
import Derived.Test.YtgfopfomhgfcaaaGreatDoorBf
import Derived.Test.YtgfopfomhgfcaaaGreatDoorSa
import Derived.Test.YtgfopfomhgfcaaaGreatDoorRegC
import Derived.Deep.RegionHeldLaw
namespace Go.Proofs.YtgfopfomhgfcaaaGreatDoor
open Go.RowKit Go.Sort

theorem tg_all : ∀ (l : List Tgv) (D : List ByteArray), tgG D l = true → ∀ x ∈ l, tgB x = true
  | [], _, _ => fun x hx => by simp at hx
  | y :: r, D, h => fun x hx => by
    unfold tgG at h
    simp only [Bool.and_eq_true] at h
    rcases List.mem_cons.1 hx with rfl | hx
    · exact h.1
    · exact tg_all r _ h.2.2 x hx
/-- The line of a thing. -/
def tgLn (x : Tgv) : List UInt8 := x.nm.data.toList ++ 32 :: (txtFl x.p x.q ++ 32 :: txtFl x.a x.b)
theorem tg_oks {x : Tgv} (h : tgB x = true) : x.nm.size ≤ 12 ∧ okB x.p x.q = true ∧ okB x.a x.b = true := by
  unfold tgB nmB grB at h
  simp only [Bool.and_eq_true, decide_eq_true_eq] at h
  exact ⟨h.1.1.2, h.2.1, h.2.2.2.1⟩
theorem tgLn_len {x : Tgv} (h : tgB x = true) : (tgLn x).length ≤ 110 := by
  obtain ⟨h1, h2, h3⟩ := tg_oks h
  have a := txtFl_len h2
  have b := txtFl_len h3
  have e : x.nm.data.toList.length = x.nm.size := rfl
  unfold tgLn
  simp only [List.length_append, List.length_cons]
  omega
/-- The line of the vernier. -/
def vnLn (N : Int) (way : List UInt8) (u v : Int) : List UInt8 := Lib.join [Lib.itoa N, way, txtFl u v] [32]
theorem vnLn_is (N : Int) (way : List UInt8) (u v : Int) : vnLn N way u v = Lib.itoa N ++ 32 :: (way ++ 32 :: txtFl u v) := by
  unfold vnLn
  rw [Lib.join_cons]
  simp [Lib.joinTail]
theorem vnLn_len {N u v : Int} {way : List UInt8} (h1 : 0 ≤ N) (h2 : N ≤ 40) (hw : way.length ≤ 4) (h : okB u v = true) : (vnLn N way u v).length ≤ 70 := by
  have a := Lib.itoa_length_le N (by omega) (by omega)
  have b := txtFl_len h
  rw [vnLn_is]
  simp only [List.length_append, List.length_cons]
  omega
/-- The text of a bench with its first k things. -/
def bnT (Sc Hd : List UInt8) (ts : List Tgv) (k : Nat) : List UInt8 := Sc ++ [10] ++ (Hd ++ [10]) ++ ((ts.take k).map fun x => tgLn x ++ [10]).flatten
theorem bnT_zero (Sc Hd : List UInt8) (ts : List Tgv) : bnT Sc Hd ts 0 = Sc ++ [10] ++ (Hd ++ [10]) := by simp [bnT]
theorem bnT_succ {Sc Hd : List UInt8} {ts : List Tgv} {k : Nat} {x : Tgv} (h : ts[k]? = some x) : bnT Sc Hd ts (k + 1) = bnT Sc Hd ts k ++ (tgLn x ++ [10]) := by
  unfold bnT
  rw [List.take_add_one, h]
  simp
theorem bnT_all (Sc Hd : List UInt8) (ts : List Tgv) : bnT Sc Hd ts ts.length = Lib.join (Sc :: Hd :: ts.map tgLn) [10] ++ [10] := by
  rw [jn_end]
  unfold bnT
  rw [List.take_of_length_le (Nat.le_refl _)]
  simp [Function.comp_def]
theorem bnT_len {Sc Hd : List UInt8} {ts : List Tgv} (h1 : Sc.length ≤ 50000) (h2 : Hd.length ≤ 70) (hx : ∀ x ∈ ts, tgB x = true) (hl : ts.length ≤ 10) (k : Nat) : (bnT Sc Hd ts k).length ≤ 60000 := by
  have : ∀ l : List Tgv, (∀ x ∈ l, tgB x = true) → ((l.map fun x => tgLn x ++ [10]).flatten).length ≤ 111 * l.length := by
    intro l
    induction l with
    | nil => intro _; simp
    | cons c r ih =>
      intro hh
      have h1 := tgLn_len (hh c (by simp))
      have h3 := ih fun y hy => hh y (by simp [hy])
      simp only [List.map_cons, List.flatten_cons, List.length_append, List.length_cons, List.length_nil]
      omega
  have h3 := this (ts.take k) fun c hc => hx c (List.mem_of_mem_take hc)
  have h4 : (ts.take k).length ≤ 10 := by simp [List.length_take]; omega
  unfold bnT
  simp only [List.length_append, List.length_cons, List.length_nil]
  omega
theorem ben_ok {a b : Int} {xs : List (Int × Int)} {N u v : Int} {ts : List Tgv} (h : benB a b xs N u v ts = true) : sclB a b xs = true ∧ (2 ≤ N ∧ N ≤ 40) ∧ okB u v = true ∧ ts.length ≤ 10 ∧ ∀ x ∈ ts, tgB x = true := by
  unfold benB inB grB at h
  simp only [Bool.and_eq_true, decide_eq_true_eq] at h
  exact ⟨h.1, h.2.1, h.2.2.1.1, h.2.2.2.1, tg_all ts [] h.2.2.2.2⟩
theorem scT_len {a b : Int} {xs : List (Int × Int)} (h : sclB a b xs = true) : (Lib.join (wds ((a, b) :: xs)) [32]).length ≤ 50000 := by
  obtain ⟨k0, k1, k2, k3⟩ := scl_ok h
  have := scT_size xs.length k0 k3 (by omega)
  rw [scT_all] at this
  have h2 : (Lib.join (wds ((a, b) :: xs)) [32]).toArray.size ≤ 50000 := this
  simpa using h2
theorem tgsL_take {Sc Hd : List UInt8} {ts : List Tgv} {k : Nat} {x : Tgv} (h : ts[k]? = some x) : strL (Sc :: Hd :: (ts.map tgLn).take k) ++ [Value.string ⟨(tgLn x).toArray⟩] = strL (Sc :: Hd :: (ts.map tgLn).take (k + 1)) := by
  rw [List.take_add_one, List.getElem?_map, h]
  simp [strL]
theorem own_twoS (w : World) (s t : ByteArray) (base : Nat) (hb : base ≤ w.heap.size) : (w.alloc (.cells #[.string s, .string t] 9)).ownsRow base 9 1 (.slice (some ⟨w.heap.size, 0, none⟩) 2 2) 2 [.string s, .string t] :=
  ⟨rfl, .inr ⟨w.heap.size, 2, #[.string s, .string t], rfl, hb, al_top w _, Nat.le_refl _, by decide, rfl, rfl⟩⟩
theorem three_get {w : World} {g : Nat} {a b c : ByteArray} {T : TypeId} (h : w.heap[g]? = some (.cells #[.string a, .string b, .string c] T)) : ∀ (j : Nat) (x : ByteArray), [a, b, c][j]? = some x → w.cell? ⟨g, 0 + j, none⟩ = some (.string x) := by
  intro j x hj
  rw [Nat.zero_add]
  match j with
  | 0 => simp at hj; subst hj; simp [World.cell?, h]
  | 1 => simp at hj; subst hj; simp [World.cell?, h]
  | 2 => simp at hj; subst hj; simp [World.cell?, h]
  | j + 3 => simp at hj
theorem CelTg.bl {w w' : World} {a : Addr} {x : Tgv} (h : CelTg w a x) (hb : Bl w w') : CelTg w' a x :=
  ⟨(Below.cell hb h.lt).trans h.h0, (Below.cell hb (p := ⟨a.block, a.off + 1, none⟩) h.lt).trans h.h1, (Below.cell hb (p := ⟨a.block, a.off + 2, none⟩) h.lt).trans h.h2, (Below.cell hb (p := ⟨a.block, a.off + 3, none⟩) h.lt).trans h.h3, (Below.cell hb (p := ⟨a.block, a.off + 4, none⟩) h.lt).trans h.h4⟩
theorem tgLn_ba (x : Tgv) : (x.nm ++ ⟨#[32]⟩) ++ ⟨(Lib.join (wds [(x.p, x.q), (x.a, x.b)]) [32]).toArray⟩ = (⟨(tgLn x).toArray⟩ : ByteArray) := by
  apply ByteArray.ext
  apply Array.ext'
  have e : wds [(x.p, x.q), (x.a, x.b)] = [txtFl x.p x.q, txtFl x.a x.b] := rfl
  rw [e, Lib.join_cons]
  simp [tgLn, Lib.joinTail]
theorem ba_sizeT (a b : ByteArray) : (a ++ b).size = a.size + b.size := ByteArray.size_append
theorem RdF.blT {w w' : World} {A : Option Addr} {xs : List (Int × Int)} (h : RdF w A xs) (hb : Bl w w') : RdF w' A xs := fun k p q hk => by
  obtain ⟨ad, e, c1, c2⟩ := h k p q hk
  exact ⟨ad, e, (Below.cell hb (World.block_lt_of_cell? _ _ c1)).trans c1, (Below.cell hb (World.block_lt_of_cell? _ _ c2)).trans c2⟩
set_option maxRecDepth 20000 in
set_option maxHeartbeats 4000000 in
theorem iBnText_true (a b : Int) (A : Option Addr) (c : Nat) (xs : List (Int × Int)) (N u v : Int) (B : Option Addr) (d : Nat) (ts : List Tgv) (w : World) (X : Hid (RdF w A xs)) (TT : Hid (RdTg w B ts)) (T : Hid (Pow w)) (hn : xs.length ≤ 1048576) (hm : ts.length ≤ 1048576) (h : benB a b xs N u v ts = true) :
    Calls Tryz.prog 10 #[bnc a b A xs.length c N true u v B ts.length d] w fun e w' => e = .returned (.string ⟨(bnT (Lib.join (wds ((a, b) :: xs)) [32]) (vnLn N [98, 97, 99, 107] u v) ts ts.length).toArray⟩) ∧ Bl w w' := by
  obtain ⟨hsc, ⟨hN1, hN2⟩, huv, hl, htg⟩ := ben_ok h
  obtain ⟨i0, hi, iz0, iz1, iz2⟩ : ∃ i, Tryz.prog.info? 9 = some i ∧ i.zero = some (.string ⟨#[]⟩) ∧ i.size = 1 ∧ i.bytes = 16 := ⟨_, rfl, by kernel_rfl, rfl, rfl⟩
  have HV := hid fun (w : World) (X : Hid (RdF w A xs)) (TT : Hid (RdTg w B ts)) => iVB a b A c xs N true u v B d ts true w X TT hn hm h
  have HF := hid fun (w : World) (T : Hid (Pow w)) => iFmt N w T (by omega) (by omega)
  have HT := hid fun (w : World) (T : Hid (Pow w)) => iFracText u v w T huv
  have HS : Hid (∀ (w : World) (_ : Hid (RdF w A xs)) (_ : Hid (Pow w)), Calls Tryz.prog 38 #[scl a b A xs.length c] w fun e w' => e = .returned (.string ⟨(Lib.join (wds ((a, b) :: xs)) [32]).toArray⟩) ∧ Bl w w') := hid fun w X T => by
    have := iScaleText_ok a b A c xs w X T hn hsc
    rwa [scT_all] at this
  have HW : Hid (∀ (x : Tgv) (_ : tgB x = true) (g : Nat) (w : World) (_ : Hid (RdF w (some ⟨g, 0, none⟩) [(x.p, x.q), (x.a, x.b)])) (_ : Hid (Pow w)), Calls Tryz.prog 39 #[.slice (some ⟨g, 0, none⟩) 2 2] w fun e w' => e = .returned (.string ⟨(Lib.join (wds [(x.p, x.q), (x.a, x.b)]) [32]).toArray⟩) ∧ Bl w w') := hid fun x hx g w X T => iWords (some ⟨g, 0, none⟩) 2 2 [(x.p, x.q), (x.a, x.b)] w X T rfl (by omega) (by omega) (by
    obtain ⟨_, h2, h3⟩ := tg_oks hx
    intro y hy
    simp only [List.mem_cons, List.not_mem_nil, or_false] at hy
    rcases hy with rfl | rfl
    · exact h2
    · exact h3)
  have HTG := hid htg
  have hhl : (vnLn N [98, 97, 99, 107] u v).length ≤ 70 := vnLn_len (by omega) hN2 (by decide) huv
  have HTL := hid (bnT_len (scT_len hsc) hhl htg hl ts.length)
  have HTA := hid (bnT_all (Lib.join (wds ((a, b) :: xs)) [32]) (vnLn N [98, 97, 99, 107] u v) ts)
  have HJ3 := hid fun (g : Nat) (w : World) (hg : w.heap[g]? = some (.cells #[.string (txt N), .string ⟨#[98, 97, 99, 107]⟩, .string (txtF u v)] 9)) => (Any.strings_Join_many Tryz.lays156 Tryz.extra156 g 0 3 [txt N, ⟨#[98, 97, 99, 107]⟩, txtF u v] ⟨#[32]⟩ w (three_get hg) (ltb hg) (by simp) (by simp) (by simp) (by
      have e : [txt N, (⟨#[98, 97, 99, 107]⟩ : ByteArray), txtF u v].map (·.data.toList) = [Lib.itoa N, [98, 97, 99, 107], txtFl u v] := by rw [txtF_mk]; rfl
      rw [e]
      exact Nat.le_trans hhl (by omega))).mono (R' := fun e w' => e = .returned (.string ⟨(vnLn N [98, 97, 99, 107] u v).toArray⟩) ∧ Bl w w') fun _ _ hh => by
        have e : [txt N, (⟨#[98, 97, 99, 107]⟩ : ByteArray), txtF u v].map (·.data.toList) = [Lib.itoa N, [98, 97, 99, 107], txtFl u v] := by rw [txtF_mk]; rfl
        rw [e] at hh
        exact hh
  obtain ⟨Sc, hSc⟩ : ∃ Sc, Lib.join (wds ((a, b) :: xs)) [32] = Sc := ⟨_, rfl⟩
  obtain ⟨Hd, hHd⟩ : ∃ Hd, vnLn N [98, 97, 99, 107] u v = Hd := ⟨_, rfl⟩
  rw [hSc, hHd] at HTL HTA
  rw [hSc] at HS
  rw [hHd] at HJ3
  rw [hSc, hHd]
  clear h hsc htg huv hhl hSc hHd
  go_enter Tryz.func10, Tryz.ntmps10
  go_wp2_with fail
  refine (HV.out _ (hid (X.out.keep ((Gr.refl w).al _))) (hid (TT.out.keep ((Gr.refl w).al _)))).mono ?_
  rintro e w1 ⟨rfl, hg1⟩
  have K1 := hid hg1; clear hg1
  have K1b := hid (alloc1 K1.out).1
  obtain ⟨z0, z1, z2, z3, z4, z5, z6, z7⟩ := cells8 K1b.out
  have _ := ltb K1b.out
  go_wp2_with fail
  refine wp_regA (b0 := .cells #[.string (txt N), .string ⟨#[98, 97, 99, 107]⟩, .string (txtF u v)] 9) (fun b => .slice (some ⟨b, 0, none⟩) 3 3) 9 8 22 (by kernel_rfl) (by kernel_rfl) rfl rfl (by simp) ?_
  apply Exists.intro
  refine ⟨fun wb hb => ?_, fun w' => ?_, ?_⟩
  · have _ := hb.atF z3; have _ := hb.atF z5; have _ := hb.atF z6
    have TB : ∀ (m : Nat) (os : Array Obj), Pow (grow (wb.drewN m) os) := fun m os => T.out.keep (((((Gr.refl w).al (.cells (bncA a b A xs.length c N true u v B ts.length d) 41)).trans K1.out).trans hb).trans ⟨⟨m, os⟩, rfl⟩)
    simp only [headOps, List.contains, List.elem, Nat.reduceAdd, Nat.reduceBEq, reduceIte, Bool.false_eq_true, dumOp]
    repeat (first | go_big_quiet_step (first | (go_at_call 36; exact Calls.of_gr (HF.out _ (hid (TB _ _)))) | (go_at_call 37; exact Calls.of_gr (HT.out _ (hid (TB _ _))))) | quiet_step (fail))
    exact wpQuiet_nil rfl
  · kernel_rfl
  intro w2 nb hg2 hb2 xb
  have K2 := hid (K1.out.trans hg2)
  have XB := hid xb
  clear hg2 hb2 xb z0 z1 z2 z3 z4 z5 z6 z7
  simp only [List.drop_succ_cons, List.drop_zero]
  go_wp2_with fail
  refine (HJ3.out nb _ XB.out).mono ?_
  rintro e w3 ⟨rfl, hb⟩
  have B3 := hid (Bl.tr K2.out.below hb); clear hb
  have B30 := hid (Bl.tr ((Gr.refl w).al (.cells (bncA a b A xs.length c N true u v B ts.length d) 41)).below B3.out)
  have K3b := hid (bl_keep B3.out (al_top w (.cells (bncA a b A xs.length c N true u v B ts.length d) 41)))
  obtain ⟨_, _, _, _, _, _, _, _⟩ := cells8 K3b.out
  have _ := ltb K3b.out
  have X3 : Hid (RdF w3 A xs) := hid (RdF.blT X.out B30.out)
  have T3 := hid (Joins.tab_stays pow_at T.out B30.out (Nat.le_refl _) : Pow _)
  go_wp2_with fail
  refine (HS.out _ X3 T3).mono ?_
  rintro e w4 ⟨rfl, hb⟩
  have B4 := hid (Bl.tr B3.out hb); clear hb X3 T3
  have K4b := hid (bl_keep B4.out (al_top w (.cells (bncA a b A xs.length c N true u v B ts.length d) 41)))
  obtain ⟨_, _, _, _, _, _, _, _⟩ := cells8 (((Gr.refl w4).al (.cells #[.string ⟨Sc.toArray⟩, .string ⟨Hd.toArray⟩] 9)).keep K4b.out)
  have _ := ltb (((Gr.refl w4).al (.cells #[.string ⟨Sc.toArray⟩, .string ⟨Hd.toArray⟩] 9)).keep K4b.out)
  go_wp2_with fail
  go_loopw [5, 32] (fun t U wr => ∃ (k : Nat) (A' : Option Addr) (c' : Nat), U = .int .i64 (k : Int) ∧ t = .slice A' (k + 2) c' ∧ k ≤ ts.length ∧ Bl (w.alloc (.cells (bncA a b A xs.length c N true u v B ts.length d) 41)) wr ∧ wr.ownsRow (w.heap.size + 1) 9 1 (.slice A' (k + 2) c') (k + 2) (strL (Sc :: Hd :: (ts.map tgLn).take k))) (fun _ U _ => ts.length - (intOf U).toNat)
  case atStart => exact ⟨0, some ⟨w4.heap.size, 0, none⟩, 2, rfl, rfl, by omega, Bl.tr B4.out ((Gr.refl w4).al _).below, own_twoS w4 _ _ _ (by have := B4.out.size; simpa using this)⟩
  case round =>
    obtain ⟨k, A', c', rfl, rfl, hkn, hb, hown⟩ := hrel
    have BW := hid hb; have OWN := hid hown
    have BW0 := hid (Bl.tr ((Gr.refl w).al (.cells (bncA a b A xs.length c N true u v B ts.length d) 41)).below hb)
    clear hb hown
    by_cases hlt : k < ts.length
    · obtain ⟨x, hx⟩ : ∃ x, ts[k]? = some x := ⟨ts[k], List.getElem?_eq_getElem _⟩
      have HXO := hid (HTG.out x (List.mem_of_getElem? hx))
      have HTK := hid (tgsL_take (Sc := Sc) (Hd := Hd) hx)
      obtain ⟨ad, rfl, hcel⟩ := TT.out k x hx
      have hcel2 := hcel.bl BW0.out
      obtain ⟨_, _, _, _, _⟩ := hcel2
      have HBA := hid (tgLn_ba x)
      have hnm := (tg_oks HXO.out).1
      have hwl : (⟨(Lib.join (wds [(x.p, x.q), (x.a, x.b)]) [32]).toArray⟩ : ByteArray).size ≤ 110 := by
        have h1 := tgLn_len HXO.out
        have h2 := congrArg ByteArray.size HBA.out
        have h3 : (⟨(tgLn x).toArray⟩ : ByteArray).size = (tgLn x).length := by show (tgLn x).toArray.size = _; simp
        rw [h3, ba_sizeT, ba_sizeT] at h2
        omega
      obtain ⟨S, hS⟩ : ∃ S, (⟨(tgLn x).toArray⟩ : ByteArray) = S := ⟨_, rfl⟩
      have HWX := hid fun (g : Nat) (w : World) (X : Hid (RdF w (some ⟨g, 0, none⟩) [(x.p, x.q), (x.a, x.b)])) (T : Hid (Pow w)) => HW.out x HXO.out g w X T
      obtain ⟨J, hJ⟩ : ∃ J, (⟨(Lib.join (wds [(x.p, x.q), (x.a, x.b)]) [32]).toArray⟩ : ByteArray) = J := ⟨_, rfl⟩
      rw [hJ] at HBA hwl HWX
      rw [hS] at HTK HBA
      have Y7 := hid (al_top wr (.cells #[.string x.nm, .int .i64 x.p, .int .i64 x.q, .int .i64 x.a, .int .i64 x.b] 76))
      obtain ⟨_, _, _, _, _⟩ := cells5 Y7.out
      have _ := ltb Y7.out
      have hs0 : x.nm.size ≤ 9223372036854775806 := by omega
      have hs1 : x.nm.size + 1 ≤ 9223372036854775807 := by omega
      have hs2 : x.nm.size + 1 + J.size ≤ 9223372036854775807 := by omega
      have HCALL : Hid (Calls Tryz.prog 39 #[.slice (some ⟨wr.heap.size + 1, 0, none⟩) 2 2] ((wr.alloc (.cells #[.string x.nm, .int .i64 x.p, .int .i64 x.q, .int .i64 x.a, .int .i64 x.b] 76)).alloc (.cells #[.int .i64 x.p, .int .i64 x.q, .int .i64 x.a, .int .i64 x.b] 34)).drew fun e w' => e = .returned (.string J) ∧ Bl ((wr.alloc (.cells #[.string x.nm, .int .i64 x.p, .int .i64 x.q, .int .i64 x.a, .int .i64 x.b] 76)).alloc (.cells #[.int .i64 x.p, .int .i64 x.q, .int .i64 x.a, .int .i64 x.b] 34)).drew w') := hid (HWX.out _ _ (hid (RdF.of_block (xs := [(x.p, x.q), (x.a, x.b)]) (by
        have h := al_top (wr.alloc (.cells #[.string x.nm, .int .i64 x.p, .int .i64 x.q, .int .i64 x.a, .int .i64 x.b] 76)) (.cells #[.int .i64 x.p, .int .i64 x.q, .int .i64 x.a, .int .i64 x.b] 34)
        have e : (wr.alloc (.cells #[.string x.nm, .int .i64 x.p, .int .i64 x.q, .int .i64 x.a, .int .i64 x.b] 76)).heap.size = wr.heap.size + 1 := by simp
        rw [e] at h
        exact (Gr.drew _).keep h))) (hid (Joins.tab_stays pow_at T.out (Bl.tr BW0.out ((((Gr.refl wr).al (.cells #[.string x.nm, .int .i64 x.p, .int .i64 x.q, .int .i64 x.a, .int .i64 x.b] 76)).al (.cells #[.int .i64 x.p, .int .i64 x.q, .int .i64 x.a, .int .i64 x.b] 34)).trans (Gr.drew _)).below) (Nat.le_refl _))))
      clear hcel hx hS hJ
      go_wp2_with fail
      go_region_held_law (fun w' => w'.cell? ⟨wr.heap.size, 0, none⟩ = some (.string x.nm) ∧ w'.cell? ⟨wr.heap.size, 1, none⟩ = some (.int .i64 x.p) ∧ w'.cell? ⟨wr.heap.size, 2, none⟩ = some (.int .i64 x.q) ∧ w'.cell? ⟨wr.heap.size, 3, none⟩ = some (.int .i64 x.a) ∧ w'.cell? ⟨wr.heap.size, 4, none⟩ = some (.int .i64 x.b)) (go_keep) (first | (go_at_call 39; with_reducible refine HCALL.out.mono ?_; rintro e w6 ⟨rfl, hb6⟩; have B6 := hid (Bl.tr (((Gr.refl (wr.alloc (.cells #[.string x.nm, .int .i64 x.p, .int .i64 x.q, .int .i64 x.a, .int .i64 x.b] 76))).al (.cells #[.int .i64 x.p, .int .i64 x.q, .int .i64 x.a, .int .i64 x.b] 34)).trans (Gr.drew _)).below hb6); have Y6 := hid (bl_keep B6.out Y7.out); have BWR := hid (Bl.tr ((Gr.refl wr).al (.cells #[.string x.nm, .int .i64 x.p, .int .i64 x.q, .int .i64 x.a, .int .i64 x.b] 76)).below (Bl.tr B6.out ((Gr.refl w6).al (.cells #[.string (x.nm ++ ⟨#[32]⟩ ++ J)] 9)).below)); have OWN6 := hid (own_bl OWN.out BWR.out); have NEW := hid (one_newsS (w := w6.alloc (.cells #[.string (x.nm ++ ⟨#[32]⟩ ++ J)] 9)) (b := w6.heap.size) (alloc1 (Gr.refl _)).1); have hb7 : w.heap.size + 1 ≤ (w6.alloc (.cells #[.string (x.nm ++ ⟨#[32]⟩ ++ J)] 9)).heap.size := (by have := (Bl.tr BW.out BWR.out).size; simpa using this); have Y6b := hid (((Gr.refl w6).al (.cells #[.string (x.nm ++ ⟨#[32]⟩ ++ J)] 9)).keep Y6.out); obtain ⟨_, _, _, _, _⟩ := cells5 Y6.out; clear hb6) | (have _chk := OWN6; refine (step_append_gr rfl (.tmp 36) (.tmp 47) 73 rfl (w.heap.size + 1) 9 i0 (.string ⟨#[]⟩) 1 16 Tryz.underlying73 hi iz0 iz1 iz2 rfl (by decide) _ (k + 2) _ rfl OWN6.out ⟨w6.heap.size, 0, none⟩ 1 1 [.string (x.nm ++ ⟨#[32]⟩ ++ J)] rfl rfl NEW.out (by simp [Value.oneCell']) (by decide) (by unfold maxLen; omega) (by omega) hb7 ?_); intro v' w9 own9 hgb _ _; have B9 := hid (Below.grown (Bl.tr BW.out BWR.out) hgb (by simpa using hb7) (fun i hi => by have := own_blkT OWN6.out i hi; simpa using this)); have y9 := (hgb.block wr.heap.size (ltb Y6b.out) (Ne.symm (own_neS OWN6.out Y6b.out (by decide)))).trans Y6b.out; obtain ⟨_, _, _, _, _⟩ := cells5 y9; obtain ⟨A2, c2', rfl⟩ := own_form own9; rw [HBA.out, HTK.out] at own9; have OWN9 := hid own9; clear own9 hgb y9))
      all_goals
        go_wp2_with fail
        exact ⟨⟨k + 1, A2, c2', by simp, by simp, by omega, B9.out, OWN9.out⟩, by simp [intOf]; omega⟩
    · have hke : k = ts.length := by omega
      subst hke
      have hte : (ts.map tgLn).take ts.length = ts.map tgLn := List.take_of_length_le (by simp)
      have O2 := hid OWN.out
      rw [hte] at O2
      have hcap := own_le O2.out
      obtain ⟨g, cur, rfl, hbg, hcur, hget⟩ := own_openS O2.out (by omega)
      have hB : ((Sc :: Hd :: ts.map tgLn).map fun d => (⟨d.toArray⟩ : ByteArray)).length = ts.length + 2 := by simp
      have hL : ((Sc :: Hd :: ts.map tgLn).map fun d => (⟨d.toArray⟩ : ByteArray)).map (·.data.toList) = Sc :: Hd :: ts.map tgLn := by
        rw [List.map_map]
        exact (List.map_congr_left fun d _ => rfl).trans (List.map_id _)
      have htl := HTL.out
      rw [HTA.out, List.length_append] at htl
      have hjl : (Lib.join (Sc :: Hd :: ts.map tgLn) [10]).length ≤ 60000 := by omega
      have HJ := hid (Any.strings_Join Tryz.lays156 Tryz.extra156 g 0 c' ((Sc :: Hd :: ts.map tgLn).map fun d => (⟨d.toArray⟩ : ByteArray)) ⟨#[10]⟩ wr (fun j x hj => by
          rw [List.getElem?_map, Option.map_eq_some_iff] at hj
          obtain ⟨d, hd, rfl⟩ := hj
          rw [Nat.zero_add]
          exact str_cell hcur (hget j d hd)) (ltb hcur) (by rw [hB]; omega) (by rw [hB]; exact hcap) (by rw [hL]; exact Nat.le_trans hjl (by omega)))
      rw [hB, hL] at HJ
      have hjs : (⟨(Lib.join (Sc :: Hd :: ts.map tgLn) [10]).toArray⟩ : ByteArray).size ≤ 60000 := by show (Lib.join (Sc :: Hd :: ts.map tgLn) [10]).toArray.size ≤ 60000; simpa using hjl
      have HEND := hid (show (⟨(Lib.join (Sc :: Hd :: ts.map tgLn) [10]).toArray⟩ : ByteArray) ++ ⟨#[10]⟩ = ⟨(bnT Sc Hd ts ts.length).toArray⟩ by rw [HTA.out, ba_app]; simp)
      obtain ⟨J, hJ⟩ : ∃ J, (⟨(Lib.join (Sc :: Hd :: ts.map tgLn) [10]).toArray⟩ : ByteArray) = J := ⟨_, rfl⟩
      rw [hJ] at HJ HEND hjs
      clear hte hcap hcur hget hB hL hjl htl hJ
      go_wp2_with fail
      refine (HJ.out).mono ?_
      rintro e w9 ⟨rfl, hb⟩
      have B9 := hid (Bl.tr BW0.out hb); clear hb
      go_wp2
      go_ret
      exact ⟨by rw [← HEND.out]; rfl, B9.out⟩
set_option maxRecDepth 20000 in
set_option maxHeartbeats 4000000 in
theorem iBnText_false (a b : Int) (A : Option Addr) (c : Nat) (xs : List (Int × Int)) (N u v : Int) (B : Option Addr) (d : Nat) (ts : List Tgv) (w : World) (X : Hid (RdF w A xs)) (TT : Hid (RdTg w B ts)) (T : Hid (Pow w)) (hn : xs.length ≤ 1048576) (hm : ts.length ≤ 1048576) (h : benB a b xs N u v ts = true) :
    Calls Tryz.prog 10 #[bnc a b A xs.length c N false u v B ts.length d] w fun e w' => e = .returned (.string ⟨(bnT (Lib.join (wds ((a, b) :: xs)) [32]) (vnLn N [111, 110] u v) ts ts.length).toArray⟩) ∧ Bl w w' := by
  obtain ⟨hsc, ⟨hN1, hN2⟩, huv, hl, htg⟩ := ben_ok h
  obtain ⟨i0, hi, iz0, iz1, iz2⟩ : ∃ i, Tryz.prog.info? 9 = some i ∧ i.zero = some (.string ⟨#[]⟩) ∧ i.size = 1 ∧ i.bytes = 16 := ⟨_, rfl, by kernel_rfl, rfl, rfl⟩
  have HV := hid fun (w : World) (X : Hid (RdF w A xs)) (TT : Hid (RdTg w B ts)) => iVB a b A c xs N false u v B d ts true w X TT hn hm h
  have HF := hid fun (w : World) (T : Hid (Pow w)) => iFmt N w T (by omega) (by omega)
  have HT := hid fun (w : World) (T : Hid (Pow w)) => iFracText u v w T huv
  have HS : Hid (∀ (w : World) (_ : Hid (RdF w A xs)) (_ : Hid (Pow w)), Calls Tryz.prog 38 #[scl a b A xs.length c] w fun e w' => e = .returned (.string ⟨(Lib.join (wds ((a, b) :: xs)) [32]).toArray⟩) ∧ Bl w w') := hid fun w X T => by
    have := iScaleText_ok a b A c xs w X T hn hsc
    rwa [scT_all] at this
  have HW : Hid (∀ (x : Tgv) (_ : tgB x = true) (g : Nat) (w : World) (_ : Hid (RdF w (some ⟨g, 0, none⟩) [(x.p, x.q), (x.a, x.b)])) (_ : Hid (Pow w)), Calls Tryz.prog 39 #[.slice (some ⟨g, 0, none⟩) 2 2] w fun e w' => e = .returned (.string ⟨(Lib.join (wds [(x.p, x.q), (x.a, x.b)]) [32]).toArray⟩) ∧ Bl w w') := hid fun x hx g w X T => iWords (some ⟨g, 0, none⟩) 2 2 [(x.p, x.q), (x.a, x.b)] w X T rfl (by omega) (by omega) (by
    obtain ⟨_, h2, h3⟩ := tg_oks hx
    intro y hy
    simp only [List.mem_cons, List.not_mem_nil, or_false] at hy
    rcases hy with rfl | rfl
    · exact h2
    · exact h3)
  have HTG := hid htg
  have hhl : (vnLn N [111, 110] u v).length ≤ 70 := vnLn_len (by omega) hN2 (by decide) huv
  have HTL := hid (bnT_len (scT_len hsc) hhl htg hl ts.length)
  have HTA := hid (bnT_all (Lib.join (wds ((a, b) :: xs)) [32]) (vnLn N [111, 110] u v) ts)
  have HJ3 := hid fun (g : Nat) (w : World) (hg : w.heap[g]? = some (.cells #[.string (txt N), .string ⟨#[111, 110]⟩, .string (txtF u v)] 9)) => (Any.strings_Join_many Tryz.lays156 Tryz.extra156 g 0 3 [txt N, ⟨#[111, 110]⟩, txtF u v] ⟨#[32]⟩ w (three_get hg) (ltb hg) (by simp) (by simp) (by simp) (by
      have e : [txt N, (⟨#[111, 110]⟩ : ByteArray), txtF u v].map (·.data.toList) = [Lib.itoa N, [111, 110], txtFl u v] := by rw [txtF_mk]; rfl
      rw [e]
      exact Nat.le_trans hhl (by omega))).mono (R' := fun e w' => e = .returned (.string ⟨(vnLn N [111, 110] u v).toArray⟩) ∧ Bl w w') fun _ _ hh => by
        have e : [txt N, (⟨#[111, 110]⟩ : ByteArray), txtF u v].map (·.data.toList) = [Lib.itoa N, [111, 110], txtFl u v] := by rw [txtF_mk]; rfl
        rw [e] at hh
        exact hh
  obtain ⟨Sc, hSc⟩ : ∃ Sc, Lib.join (wds ((a, b) :: xs)) [32] = Sc := ⟨_, rfl⟩
  obtain ⟨Hd, hHd⟩ : ∃ Hd, vnLn N [111, 110] u v = Hd := ⟨_, rfl⟩
  rw [hSc, hHd] at HTL HTA
  rw [hSc] at HS
  rw [hHd] at HJ3
  rw [hSc, hHd]
  clear h hsc htg huv hhl hSc hHd
  go_enter Tryz.func10, Tryz.ntmps10
  go_wp2_with fail
  refine (HV.out _ (hid (X.out.keep ((Gr.refl w).al _))) (hid (TT.out.keep ((Gr.refl w).al _)))).mono ?_
  rintro e w1 ⟨rfl, hg1⟩
  have K1 := hid hg1; clear hg1
  have K1b := hid (alloc1 K1.out).1
  obtain ⟨z0, z1, z2, z3, z4, z5, z6, z7⟩ := cells8 K1b.out
  have _ := ltb K1b.out
  go_wp2_with fail
  refine wp_regA (b0 := .cells #[.string (txt N), .string ⟨#[111, 110]⟩, .string (txtF u v)] 9) (fun b => .slice (some ⟨b, 0, none⟩) 3 3) 9 8 22 (by kernel_rfl) (by kernel_rfl) rfl rfl (by simp) ?_
  apply Exists.intro
  refine ⟨fun wb hb => ?_, fun w' => ?_, ?_⟩
  · have _ := hb.atF z3; have _ := hb.atF z5; have _ := hb.atF z6
    have TB : ∀ (m : Nat) (os : Array Obj), Pow (grow (wb.drewN m) os) := fun m os => T.out.keep (((((Gr.refl w).al (.cells (bncA a b A xs.length c N false u v B ts.length d) 41)).trans K1.out).trans hb).trans ⟨⟨m, os⟩, rfl⟩)
    simp only [headOps, List.contains, List.elem, Nat.reduceAdd, Nat.reduceBEq, reduceIte, Bool.false_eq_true, dumOp]
    repeat (first | go_big_quiet_step (first | (go_at_call 36; exact Calls.of_gr (HF.out _ (hid (TB _ _)))) | (go_at_call 37; exact Calls.of_gr (HT.out _ (hid (TB _ _))))) | quiet_step (fail))
    exact wpQuiet_nil rfl
  · kernel_rfl
  intro w2 nb hg2 hb2 xb
  have K2 := hid (K1.out.trans hg2)
  have XB := hid xb
  clear hg2 hb2 xb z0 z1 z2 z3 z4 z5 z6 z7
  simp only [List.drop_succ_cons, List.drop_zero]
  go_wp2_with fail
  refine (HJ3.out nb _ XB.out).mono ?_
  rintro e w3 ⟨rfl, hb⟩
  have B3 := hid (Bl.tr K2.out.below hb); clear hb
  have B30 := hid (Bl.tr ((Gr.refl w).al (.cells (bncA a b A xs.length c N false u v B ts.length d) 41)).below B3.out)
  have K3b := hid (bl_keep B3.out (al_top w (.cells (bncA a b A xs.length c N false u v B ts.length d) 41)))
  obtain ⟨_, _, _, _, _, _, _, _⟩ := cells8 K3b.out
  have _ := ltb K3b.out
  have X3 : Hid (RdF w3 A xs) := hid (RdF.blT X.out B30.out)
  have T3 := hid (Joins.tab_stays pow_at T.out B30.out (Nat.le_refl _) : Pow _)
  go_wp2_with fail
  refine (HS.out _ X3 T3).mono ?_
  rintro e w4 ⟨rfl, hb⟩
  have B4 := hid (Bl.tr B3.out hb); clear hb X3 T3
  have K4b := hid (bl_keep B4.out (al_top w (.cells (bncA a b A xs.length c N false u v B ts.length d) 41)))
  obtain ⟨_, _, _, _, _, _, _, _⟩ := cells8 (((Gr.refl w4).al (.cells #[.string ⟨Sc.toArray⟩, .string ⟨Hd.toArray⟩] 9)).keep K4b.out)
  have _ := ltb (((Gr.refl w4).al (.cells #[.string ⟨Sc.toArray⟩, .string ⟨Hd.toArray⟩] 9)).keep K4b.out)
  go_wp2_with fail
  go_loopw [5, 32] (fun t U wr => ∃ (k : Nat) (A' : Option Addr) (c' : Nat), U = .int .i64 (k : Int) ∧ t = .slice A' (k + 2) c' ∧ k ≤ ts.length ∧ Bl (w.alloc (.cells (bncA a b A xs.length c N false u v B ts.length d) 41)) wr ∧ wr.ownsRow (w.heap.size + 1) 9 1 (.slice A' (k + 2) c') (k + 2) (strL (Sc :: Hd :: (ts.map tgLn).take k))) (fun _ U _ => ts.length - (intOf U).toNat)
  case atStart => exact ⟨0, some ⟨w4.heap.size, 0, none⟩, 2, rfl, rfl, by omega, Bl.tr B4.out ((Gr.refl w4).al _).below, own_twoS w4 _ _ _ (by have := B4.out.size; simpa using this)⟩
  case round =>
    obtain ⟨k, A', c', rfl, rfl, hkn, hb, hown⟩ := hrel
    have BW := hid hb; have OWN := hid hown
    have BW0 := hid (Bl.tr ((Gr.refl w).al (.cells (bncA a b A xs.length c N false u v B ts.length d) 41)).below hb)
    clear hb hown
    by_cases hlt : k < ts.length
    · obtain ⟨x, hx⟩ : ∃ x, ts[k]? = some x := ⟨ts[k], List.getElem?_eq_getElem _⟩
      have HXO := hid (HTG.out x (List.mem_of_getElem? hx))
      have HTK := hid (tgsL_take (Sc := Sc) (Hd := Hd) hx)
      obtain ⟨ad, rfl, hcel⟩ := TT.out k x hx
      have hcel2 := hcel.bl BW0.out
      obtain ⟨_, _, _, _, _⟩ := hcel2
      have HBA := hid (tgLn_ba x)
      have hnm := (tg_oks HXO.out).1
      have hwl : (⟨(Lib.join (wds [(x.p, x.q), (x.a, x.b)]) [32]).toArray⟩ : ByteArray).size ≤ 110 := by
        have h1 := tgLn_len HXO.out
        have h2 := congrArg ByteArray.size HBA.out
        have h3 : (⟨(tgLn x).toArray⟩ : ByteArray).size = (tgLn x).length := by show (tgLn x).toArray.size = _; simp
        rw [h3, ba_sizeT, ba_sizeT] at h2
        omega
      obtain ⟨S, hS⟩ : ∃ S, (⟨(tgLn x).toArray⟩ : ByteArray) = S := ⟨_, rfl⟩
      have HWX := hid fun (g : Nat) (w : World) (X : Hid (RdF w (some ⟨g, 0, none⟩) [(x.p, x.q), (x.a, x.b)])) (T : Hid (Pow w)) => HW.out x HXO.out g w X T
      obtain ⟨J, hJ⟩ : ∃ J, (⟨(Lib.join (wds [(x.p, x.q), (x.a, x.b)]) [32]).toArray⟩ : ByteArray) = J := ⟨_, rfl⟩
      rw [hJ] at HBA hwl HWX
      rw [hS] at HTK HBA
      have Y7 := hid (al_top wr (.cells #[.string x.nm, .int .i64 x.p, .int .i64 x.q, .int .i64 x.a, .int .i64 x.b] 76))
      obtain ⟨_, _, _, _, _⟩ := cells5 Y7.out
      have _ := ltb Y7.out
      have hs0 : x.nm.size ≤ 9223372036854775806 := by omega
      have hs1 : x.nm.size + 1 ≤ 9223372036854775807 := by omega
      have hs2 : x.nm.size + 1 + J.size ≤ 9223372036854775807 := by omega
      have HCALL : Hid (Calls Tryz.prog 39 #[.slice (some ⟨wr.heap.size + 1, 0, none⟩) 2 2] ((wr.alloc (.cells #[.string x.nm, .int .i64 x.p, .int .i64 x.q, .int .i64 x.a, .int .i64 x.b] 76)).alloc (.cells #[.int .i64 x.p, .int .i64 x.q, .int .i64 x.a, .int .i64 x.b] 34)).drew fun e w' => e = .returned (.string J) ∧ Bl ((wr.alloc (.cells #[.string x.nm, .int .i64 x.p, .int .i64 x.q, .int .i64 x.a, .int .i64 x.b] 76)).alloc (.cells #[.int .i64 x.p, .int .i64 x.q, .int .i64 x.a, .int .i64 x.b] 34)).drew w') := hid (HWX.out _ _ (hid (RdF.of_block (xs := [(x.p, x.q), (x.a, x.b)]) (by
        have h := al_top (wr.alloc (.cells #[.string x.nm, .int .i64 x.p, .int .i64 x.q, .int .i64 x.a, .int .i64 x.b] 76)) (.cells #[.int .i64 x.p, .int .i64 x.q, .int .i64 x.a, .int .i64 x.b] 34)
        have e : (wr.alloc (.cells #[.string x.nm, .int .i64 x.p, .int .i64 x.q, .int .i64 x.a, .int .i64 x.b] 76)).heap.size = wr.heap.size + 1 := by simp
        rw [e] at h
        exact (Gr.drew _).keep h))) (hid (Joins.tab_stays pow_at T.out (Bl.tr BW0.out ((((Gr.refl wr).al (.cells #[.string x.nm, .int .i64 x.p, .int .i64 x.q, .int .i64 x.a, .int .i64 x.b] 76)).al (.cells #[.int .i64 x.p, .int .i64 x.q, .int .i64 x.a, .int .i64 x.b] 34)).trans (Gr.drew _)).below) (Nat.le_refl _))))
      clear hcel hx hS hJ
      go_wp2_with fail
      go_region_held_law (fun w' => w'.cell? ⟨wr.heap.size, 0, none⟩ = some (.string x.nm) ∧ w'.cell? ⟨wr.heap.size, 1, none⟩ = some (.int .i64 x.p) ∧ w'.cell? ⟨wr.heap.size, 2, none⟩ = some (.int .i64 x.q) ∧ w'.cell? ⟨wr.heap.size, 3, none⟩ = some (.int .i64 x.a) ∧ w'.cell? ⟨wr.heap.size, 4, none⟩ = some (.int .i64 x.b)) (go_keep) (first | (go_at_call 39; with_reducible refine HCALL.out.mono ?_; rintro e w6 ⟨rfl, hb6⟩; have B6 := hid (Bl.tr (((Gr.refl (wr.alloc (.cells #[.string x.nm, .int .i64 x.p, .int .i64 x.q, .int .i64 x.a, .int .i64 x.b] 76))).al (.cells #[.int .i64 x.p, .int .i64 x.q, .int .i64 x.a, .int .i64 x.b] 34)).trans (Gr.drew _)).below hb6); have Y6 := hid (bl_keep B6.out Y7.out); have BWR := hid (Bl.tr ((Gr.refl wr).al (.cells #[.string x.nm, .int .i64 x.p, .int .i64 x.q, .int .i64 x.a, .int .i64 x.b] 76)).below (Bl.tr B6.out ((Gr.refl w6).al (.cells #[.string (x.nm ++ ⟨#[32]⟩ ++ J)] 9)).below)); have OWN6 := hid (own_bl OWN.out BWR.out); have NEW := hid (one_newsS (w := w6.alloc (.cells #[.string (x.nm ++ ⟨#[32]⟩ ++ J)] 9)) (b := w6.heap.size) (alloc1 (Gr.refl _)).1); have hb7 : w.heap.size + 1 ≤ (w6.alloc (.cells #[.string (x.nm ++ ⟨#[32]⟩ ++ J)] 9)).heap.size := (by have := (Bl.tr BW.out BWR.out).size; simpa using this); have Y6b := hid (((Gr.refl w6).al (.cells #[.string (x.nm ++ ⟨#[32]⟩ ++ J)] 9)).keep Y6.out); obtain ⟨_, _, _, _, _⟩ := cells5 Y6.out; clear hb6) | (have _chk := OWN6; refine (step_append_gr rfl (.tmp 36) (.tmp 47) 73 rfl (w.heap.size + 1) 9 i0 (.string ⟨#[]⟩) 1 16 Tryz.underlying73 hi iz0 iz1 iz2 rfl (by decide) _ (k + 2) _ rfl OWN6.out ⟨w6.heap.size, 0, none⟩ 1 1 [.string (x.nm ++ ⟨#[32]⟩ ++ J)] rfl rfl NEW.out (by simp [Value.oneCell']) (by decide) (by unfold maxLen; omega) (by omega) hb7 ?_); intro v' w9 own9 hgb _ _; have B9 := hid (Below.grown (Bl.tr BW.out BWR.out) hgb (by simpa using hb7) (fun i hi => by have := own_blkT OWN6.out i hi; simpa using this)); have y9 := (hgb.block wr.heap.size (ltb Y6b.out) (Ne.symm (own_neS OWN6.out Y6b.out (by decide)))).trans Y6b.out; obtain ⟨_, _, _, _, _⟩ := cells5 y9; obtain ⟨A2, c2', rfl⟩ := own_form own9; rw [HBA.out, HTK.out] at own9; have OWN9 := hid own9; clear own9 hgb y9))
      all_goals
        go_wp2_with fail
        exact ⟨⟨k + 1, A2, c2', by simp, by simp, by omega, B9.out, OWN9.out⟩, by simp [intOf]; omega⟩
    · have hke : k = ts.length := by omega
      subst hke
      have hte : (ts.map tgLn).take ts.length = ts.map tgLn := List.take_of_length_le (by simp)
      have O2 := hid OWN.out
      rw [hte] at O2
      have hcap := own_le O2.out
      obtain ⟨g, cur, rfl, hbg, hcur, hget⟩ := own_openS O2.out (by omega)
      have hB : ((Sc :: Hd :: ts.map tgLn).map fun d => (⟨d.toArray⟩ : ByteArray)).length = ts.length + 2 := by simp
      have hL : ((Sc :: Hd :: ts.map tgLn).map fun d => (⟨d.toArray⟩ : ByteArray)).map (·.data.toList) = Sc :: Hd :: ts.map tgLn := by
        rw [List.map_map]
        exact (List.map_congr_left fun d _ => rfl).trans (List.map_id _)
      have htl := HTL.out
      rw [HTA.out, List.length_append] at htl
      have hjl : (Lib.join (Sc :: Hd :: ts.map tgLn) [10]).length ≤ 60000 := by omega
      have HJ := hid (Any.strings_Join Tryz.lays156 Tryz.extra156 g 0 c' ((Sc :: Hd :: ts.map tgLn).map fun d => (⟨d.toArray⟩ : ByteArray)) ⟨#[10]⟩ wr (fun j x hj => by
          rw [List.getElem?_map, Option.map_eq_some_iff] at hj
          obtain ⟨d, hd, rfl⟩ := hj
          rw [Nat.zero_add]
          exact str_cell hcur (hget j d hd)) (ltb hcur) (by rw [hB]; omega) (by rw [hB]; exact hcap) (by rw [hL]; exact Nat.le_trans hjl (by omega)))
      rw [hB, hL] at HJ
      have hjs : (⟨(Lib.join (Sc :: Hd :: ts.map tgLn) [10]).toArray⟩ : ByteArray).size ≤ 60000 := by show (Lib.join (Sc :: Hd :: ts.map tgLn) [10]).toArray.size ≤ 60000; simpa using hjl
      have HEND := hid (show (⟨(Lib.join (Sc :: Hd :: ts.map tgLn) [10]).toArray⟩ : ByteArray) ++ ⟨#[10]⟩ = ⟨(bnT Sc Hd ts ts.length).toArray⟩ by rw [HTA.out, ba_app]; simp)
      obtain ⟨J, hJ⟩ : ∃ J, (⟨(Lib.join (Sc :: Hd :: ts.map tgLn) [10]).toArray⟩ : ByteArray) = J := ⟨_, rfl⟩
      rw [hJ] at HJ HEND hjs
      clear hte hcap hcur hget hB hL hjl htl hJ
      go_wp2_with fail
      refine (HJ.out).mono ?_
      rintro e w9 ⟨rfl, hb⟩
      have B9 := hid (Bl.tr BW0.out hb); clear hb
      go_wp2
      go_ret
      exact ⟨by rw [← HEND.out]; rfl, B9.out⟩
set_option maxRecDepth 20000 in
set_option maxHeartbeats 1000000 in
theorem iBenchText_no (a b : Int) (A : Option Addr) (c : Nat) (xs : List (Int × Int)) (N : Int) (kb : Bool) (u v : Int) (B : Option Addr) (d : Nat) (ts : List Tgv) (w : World) (X : Hid (RdF w A xs)) (TT : Hid (RdTg w B ts)) (hn : xs.length ≤ 1048576) (hm : ts.length ≤ 1048576) (h : benB a b xs N u v ts = false) :
    Calls Tryz.prog 10 #[bnc a b A xs.length c N kb u v B ts.length d] w fun e w' => e = .returned (.string ⟨#[]⟩) ∧ Bl w w' := by
  have HV := hid fun (w : World) (X : Hid (RdF w A xs)) (TT : Hid (RdTg w B ts)) => iVB a b A c xs N kb u v B d ts false w X TT hn hm h
  clear h
  go_enter Tryz.func10, Tryz.ntmps10
  go_wp2_with fail
  refine (HV.out _ (hid (X.out.keep ((Gr.refl w).al _))) (hid (TT.out.keep ((Gr.refl w).al _)))).mono ?_
  rintro e w1 ⟨rfl, hg1⟩
  obtain ⟨x1_0, hz1, g1⟩ := alloc1 hg1
  obtain ⟨_, _, _, _, _, _, _, _⟩ := cells8 x1_0
  have _ := fz x1_0
  have _ := ltb x1_0
  have X1_0 := hid x1_0; clear x1_0
  have G1 := hid (g1)
  clear hg1 g1
  go_wp2
  go_ret
  exact ⟨rfl, G1.out.below⟩
end Go.Proofs.YtgfopfomhgfcaaaGreatDoor
