/- TEXTS of readers: the line of a reader, of the program. -/
import Derived.Test.YtpadjkgbeijkpaaDoorTv
import Derived.Test.YtpadjkgbeijkpaaDoorShelfJ
import Derived.Test.YtpadjkgbeijkpaaDoorShelfI
import Derived.Test.YtpadjkgbeijkpaaDoorVr
namespace Go.Proofs.YtpadjkgbeijkpaaDoor
open Go.RowKit Go.Sort

/-- The way a reader rounds, as a word. -/
def wayL (o : Bool) : List UInt8 := if o then [117, 112] else [100, 111, 119, 110]
/-- The line of a reader, without its end. -/
def lineL (x : Rqv) : List UInt8 := Lib.join [x.nm.data.toList, Lib.itoa x.b, Lib.itoa x.u, wayL x.o] [32]
theorem lineL_is (x : Rqv) : lineL x = x.nm.data.toList ++ 32 :: (Lib.itoa x.b ++ 32 :: (Lib.itoa x.u ++ 32 :: wayL x.o)) := by
  unfold lineL
  rw [Lib.join_cons]
  simp [Lib.joinTail]
theorem okRd_n {x : Rqv} (h : okRd x = true) : x.nm.size ≤ 12 := by
  unfold okRd rrB nmB at h
  simp only [Bool.and_eq_true, decide_eq_true_eq] at h
  omega
theorem rd_gs {x : Rqv} (h : okRd x = true) : gsB x.b x.u = true := by
  unfold okRd rrB at h
  simp only [Bool.and_eq_true] at h
  exact h.2
theorem lineL_len {x : Rqv} (h : okRd x = true) : (lineL x).length ≤ 70 := by
  obtain ⟨h1, h2, h3, h4⟩ := gsB_bd (rd_gs h)
  have hn := okRd_n h
  have a := Lib.itoa_length_le x.b (by omega) (by omega)
  have b := Lib.itoa_length_le x.u (by omega) (by omega)
  have c : (wayL x.o).length ≤ 4 := by cases x.o <;> decide
  rw [lineL_is]
  simp only [List.length_append, List.length_cons, s_len]
  omega
theorem iItoa (n : Int) (w : World) (T : Hid (Pow w)) (h0 : -9223372036854775808 ≤ n) (h1 : n ≤ 9223372036854775807) :
    Calls Tryd.prog 110 #[.int .i64 n] w fun e w' => e = .returned (.string (txt n)) ∧ Gr w w' :=
  (Any.strconv_Itoa Tryd.laysM171 n h0 h1 w T.out).mono fun _ _ ⟨h, k, os, hw⟩ => ⟨h, ⟨⟨k, os⟩, hw⟩⟩
theorem four_get {w : World} {g : Nat} {a b c d : ByteArray} {T : TypeId} (h : w.heap[g]? = some (.cells #[.string a, .string b, .string c, .string d] T)) : ∀ (j : Nat) (x : ByteArray), [a, b, c, d][j]? = some x → w.cell? ⟨g, 0 + j, none⟩ = some (.string x) := by
  intro j x hj
  rw [Nat.zero_add]
  match j with
  | 0 => simp at hj; subst hj; simp [World.cell?, h]
  | 1 => simp at hj; subst hj; simp [World.cell?, h]
  | 2 => simp at hj; subst hj; simp [World.cell?, h]
  | 3 => simp at hj; subst hj; simp [World.cell?, h]
  | j + 4 => simp at hj
theorem alloc_str4 (w : World) (a b c d : ByteArray) : (w.alloc (.cells #[.string a, .string b, .string c, .string d] 9)).heap[w.heap.size]? = some (.cells #[.string a, .string b, .string c, .string d] 9) := al_top w _
set_option maxRecDepth 20000 in
set_option maxHeartbeats 2000000 in
theorem iLine (x : Rqv) (w : World) (T : Hid (Pow w)) (hx : okRd x = true) :
    Calls Tryd.prog 66 #[rdr x.nm x.b x.u x.o] w fun e w' => e = .returned (.string ⟨(lineL x).toArray⟩) ∧ Bl w w' := by
  obtain ⟨h1, h2, h3, h4⟩ := gsB_bd (rd_gs hx)
  have hll := lineL_len hx
  have hjl : (Lib.join ([x.nm, txt x.b, txt x.u, (⟨(wayL x.o).toArray⟩ : ByteArray)].map (·.data.toList)) [32]).length ≤ 140737488355328 := Nat.le_trans (show (lineL x).length ≤ _ from hll) (by omega)
  have HJ := hid fun (g c : Nat) (w : World) (hg : w.heap[g]? = some (.cells #[.string x.nm, .string (txt x.b), .string (txt x.u), .string ⟨(wayL x.o).toArray⟩] 9)) => (Any.strings_Join_many Tryd.lays156 Tryd.extra156 g 0 4 [x.nm, txt x.b, txt x.u, ⟨(wayL x.o).toArray⟩] ⟨#[32]⟩ w (four_get hg) (ltb hg) (by simp) (by simp) (by simp) hjl).mono (R' := fun e w' => e = .returned (.string ⟨(lineL x).toArray⟩) ∧ Bl w w') fun _ _ hh => hh
  have HB := hid fun (w : World) (T : Hid (Pow w)) => iItoa x.b w T (by omega) (by omega)
  have HU := hid fun (w : World) (T : Hid (Pow w)) => iItoa x.u w T (by omega) (by omega)
  clear hll hjl hx
  cases ho : x.o with
  | true =>
    have HJ2 := hid fun (g c : Nat) (w : World) (hg : w.heap[g]? = some (.cells #[.string x.nm, .string (txt x.b), .string (txt x.u), .string ⟨#[117, 112]⟩] 9)) => HJ.out g c w (by rw [ho]; exact hg)
    clear HJ
    go_enter Tryd.func66, Tryd.ntmps66
    go_wp2_with fail
    refine wp_reg0 11 (by kernel_rfl) (by kernel_rfl) ?_
    apply Exists.intro
    refine ⟨fun wb hb => ?_, ?_⟩
    · obtain ⟨y0, _, _⟩ := alloc1 (Gr.refl _)
      obtain ⟨_, _, _, _⟩ := hb.at4 y0
      clear y0
      have TB : ∀ (m : Nat) (os : Array Obj), Pow (grow (wb.drewN m) os) := fun m os => T.out.keep ((((Gr.refl w).al _).trans hb).trans ⟨⟨m, os⟩, rfl⟩)
      simp only [headOps, List.contains, List.elem, reduceIte, Bool.false_eq_true]
      repeat (first | go_big_quiet_step (first | (go_at_call 110; first | exact Calls.of_gr (HB.out _ (hid (TB _ _))) | exact Calls.of_gr (HU.out _ (hid (TB _ _))))) | quiet_step (fail))
      exact wpQuiet_nil rfl
    intro w1 hg1
    obtain ⟨x1_0, hz1, g1⟩ := alloc1 hg1
    obtain ⟨_, _, _, _⟩ := cells4 x1_0
    have _ := fz x1_0
    have _ := ltb x1_0
    have X1_0 := hid x1_0; clear x1_0
    have G1 := hid (g1)
    clear hg1 g1
    have PB := hid (alloc_str4 w1 x.nm (txt x.b) (txt x.u) ⟨#[117, 112]⟩)
    have G2 := hid (G1.out.al (.cells #[.string x.nm, .string (txt x.b), .string (txt x.u), .string ⟨#[117, 112]⟩] 9))
    go_wp2_with fail
    refine (HJ2.out _ 4 _ PB.out).mono ?_
    rintro e w3 ⟨rfl, hb⟩
    have B3 := hid (Bl.tr G2.out.below hb); clear hb
    go_wp2
    go_ret
    exact ⟨rfl, B3.out⟩
  | false =>
    have HJ2 := hid fun (g c : Nat) (w : World) (hg : w.heap[g]? = some (.cells #[.string x.nm, .string (txt x.b), .string (txt x.u), .string ⟨#[100, 111, 119, 110]⟩] 9)) => HJ.out g c w (by rw [ho]; exact hg)
    clear HJ
    go_enter Tryd.func66, Tryd.ntmps66
    go_wp2_with fail
    refine wp_reg0 11 (by kernel_rfl) (by kernel_rfl) ?_
    apply Exists.intro
    refine ⟨fun wb hb => ?_, ?_⟩
    · obtain ⟨y0, _, _⟩ := alloc1 (Gr.refl _)
      obtain ⟨_, _, _, _⟩ := hb.at4 y0
      clear y0
      have TB : ∀ (m : Nat) (os : Array Obj), Pow (grow (wb.drewN m) os) := fun m os => T.out.keep ((((Gr.refl w).al _).trans hb).trans ⟨⟨m, os⟩, rfl⟩)
      simp only [headOps, List.contains, List.elem, reduceIte, Bool.false_eq_true]
      repeat (first | go_big_quiet_step (first | (go_at_call 110; first | exact Calls.of_gr (HB.out _ (hid (TB _ _))) | exact Calls.of_gr (HU.out _ (hid (TB _ _))))) | quiet_step (fail))
      exact wpQuiet_nil rfl
    intro w1 hg1
    obtain ⟨x1_0, hz1, g1⟩ := alloc1 hg1
    obtain ⟨_, _, _, _⟩ := cells4 x1_0
    have _ := fz x1_0
    have _ := ltb x1_0
    have X1_0 := hid x1_0; clear x1_0
    have G1 := hid (g1)
    clear hg1 g1
    have PB := hid (alloc_str4 w1 x.nm (txt x.b) (txt x.u) ⟨#[100, 111, 119, 110]⟩)
    have G2 := hid (G1.out.al (.cells #[.string x.nm, .string (txt x.b), .string (txt x.u), .string ⟨#[100, 111, 119, 110]⟩] 9))
    go_wp2_with fail
    refine (HJ2.out _ 4 _ PB.out).mono ?_
    rintro e w3 ⟨rfl, hb⟩
    have B3 := hid (Bl.tr G2.out.below hb); clear hb
    go_wp2
    go_ret
    exact ⟨rfl, B3.out⟩
end Go.Proofs.YtpadjkgbeijkpaaDoor
namespace Go.Proofs.YtpadjkgbeijkpaaDoor
open Go.RowKit Go.Sort

theorem CelRq.bl {w w' : World} {a : Addr} {x : Rqv} (h : CelRq w a x) (hb : Bl w w') : CelRq w' a x :=
  ⟨(Below.cell hb h.lt).trans h.h0, (Below.cell hb (p := ⟨a.block, a.off + 1, none⟩) h.lt).trans h.h1, (Below.cell hb (p := ⟨a.block, a.off + 2, none⟩) h.lt).trans h.h2, (Below.cell hb (p := ⟨a.block, a.off + 3, none⟩) h.lt).trans h.h3⟩
/-- The text of the first k readers. -/
def rdT (xs : List Rqv) (k : Nat) : ByteArray := ⟨(((xs.take k).map fun x => lineL x ++ [10]).flatten).toArray⟩
theorem rdT_zero (xs : List Rqv) : rdT xs 0 = ⟨#[]⟩ := by simp [rdT]
theorem rdT_succ {xs : List Rqv} {k : Nat} {x : Rqv} (h : xs[k]? = some x) : rdT xs k ++ (⟨(lineL x).toArray⟩ ++ ⟨#[10]⟩) = rdT xs (k + 1) := by
  unfold rdT
  rw [List.take_add_one, h, ba_app, ba_app]
  simp
theorem line_ba (x : Rqv) : ((((((x.nm ++ ⟨#[32]⟩) ++ txt x.b) ++ ⟨#[32]⟩) ++ txt x.u) ++ ⟨#[32]⟩) ++ ⟨(wayL x.o).toArray⟩) ++ ⟨#[10]⟩ = (⟨(lineL x).toArray⟩ : ByteArray) ++ ⟨#[10]⟩ := by
  apply ByteArray.ext
  apply Array.ext'
  rw [lineL_is]
  simp [txt]
theorem rdT_size {xs : List Rqv} (k : Nat) (hk : xs.all okRd = true) (hn : xs.length ≤ 1000) : (rdT xs k).size ≤ 100000 := by
  have : ∀ l : List Rqv, (∀ x ∈ l, okRd x = true) → ((l.map fun x => lineL x ++ [10]).flatten).length ≤ 71 * l.length := by
    intro l
    induction l with
    | nil => intro _; simp
    | cons x r ih =>
      intro h
      have h1 := lineL_len (h x (by simp))
      have h2 := ih fun y hy => h y (by simp [hy])
      simp only [List.map_cons, List.flatten_cons, List.length_append, List.length_cons, List.length_nil]
      omega
  have h1 := this (xs.take k) fun x hx => List.all_eq_true.1 hk x (List.mem_of_mem_take hx)
  have h3 : (xs.take k).length ≤ xs.length := by simp; omega
  show (((xs.take k).map fun x => lineL x ++ [10]).flatten).toArray.size ≤ 100000
  simp only [List.size_toArray]
  omega
set_option maxRecDepth 20000 in
set_option maxHeartbeats 4000000 in
theorem sRdsText (g c : Nat) (xs : List Rqv) (w : World) (X : Hid (RdRq w (some ⟨g, 0, none⟩) xs)) (hn : xs.length ≤ 12) (hk : xs.all okRd = true) :
    Calls Tryd.prog 63 #[.slice (some ⟨g, 0, none⟩) xs.length c] w fun e w' => e = .returned (.string (rdT xs xs.length)) ∧ Gr w w' := by
  have HK := hid hk
  have SZ := hid fun k => rdT_size (xs := xs) k hk (by omega)
  have HZ := hid (rdT_zero xs)
  clear hk
  go_enter Tryd.func63, Tryd.ntmps63
  go_wp2_with fail
  go_loopw [3, 4] (fun t u wr => ∃ (k : Nat), u = .int .i64 (k : Int) ∧ t = .string (rdT xs k) ∧ k ≤ xs.length ∧ Gr w wr) (fun _ u _ => xs.length - (intOf u).toNat)
  case atStart => exact ⟨0, rfl, by rw [HZ.out], by omega, Gr.refl _⟩
  case round =>
    obtain ⟨k, rfl, rfl, hkn, hg⟩ := hrel
    have GW := hid hg; clear hg
    by_cases hlt : k < xs.length
    · obtain ⟨x, hp⟩ : ∃ x, xs[k]? = some x := ⟨xs[k], List.getElem?_eq_getElem _⟩
      obtain ⟨ad, he, c1⟩ := (X.out.keep GW.out) k x hp
      cases he
      rw [add_at] at c1
      have C1 := hid c1
      obtain ⟨f0, f1, f2, f3⟩ := c1.blk
      have hx := allRq_get hp HK.out
      obtain ⟨h1, h2, h3, h4⟩ := gsB_bd (rd_gs hx)
      have hnm := okRd_n hx
      have TK := hid (rdT_succ hp)
      have LB := hid (line_ba x)
      have s1 : (txt x.b).size ≤ 21 := txt_size (by omega) (by omega)
      have s2 : (txt x.u).size ≤ 21 := txt_size (by omega) (by omega)
      have s3 := SZ.out k
      have HB := hid fun (w : World) => sSigned x.b w (by omega) (by omega)
      have HU : Hid (∀ w : World, Calls Tryd.prog 94 #[.int .i64 x.u] w fun e w' => e = .returned (.string (txt x.u)) ∧ Gr w w') := hid fun w => by
        obtain ⟨n, hn⟩ := Int.eq_ofNat_of_zero_le (show 0 ≤ x.u by omega)
        rw [hn, txt_nat]
        exact sDec n w (by omega)
      obtain ⟨S, hS⟩ : ∃ S, rdT xs k = S := ⟨_, rfl⟩
      rw [hS] at TK s3
      rw [hS]
      clear hp hS hx c1
      cases ho : x.o with
      | true =>
        rw [ho] at LB f3
        go_wp2_with fail
        refine wp_reg0 25 (by kernel_rfl) (by kernel_rfl) ?_
        apply Exists.intro
        refine ⟨fun wb hb => ?_, ?_⟩
        · have _ := hb.atF f0; have _ := hb.atF f1; have _ := hb.atF f2
          simp only [headOps, List.contains, List.elem, reduceIte, Bool.false_eq_true]
          repeat (first | go_big_quiet_step (first | (go_at_call 95; exact Calls.of_gr (HB.out _)) | (go_at_call 94; exact Calls.of_gr (HU.out _))) | quiet_step (fail))
          exact wpQuiet_nil rfl
        intro w5 hg5
        have G5 := hid (GW.out.trans hg5); clear hg5
        go_wp2_with fail
        exact ⟨⟨k + 1, by simp, by rw [← TK.out, ← LB.out]; rfl, by omega, G5.out⟩, by simp [intOf]; omega⟩
      | false =>
        rw [ho] at LB f3
        go_wp2_with fail
        refine wp_reg0 25 (by kernel_rfl) (by kernel_rfl) ?_
        apply Exists.intro
        refine ⟨fun wb hb => ?_, ?_⟩
        · have _ := hb.atF f0; have _ := hb.atF f1; have _ := hb.atF f2
          simp only [headOps, List.contains, List.elem, reduceIte, Bool.false_eq_true]
          repeat (first | go_big_quiet_step (first | (go_at_call 95; exact Calls.of_gr (HB.out _)) | (go_at_call 94; exact Calls.of_gr (HU.out _))) | quiet_step (fail))
          exact wpQuiet_nil rfl
        intro w5 hg5
        have G5 := hid (GW.out.trans hg5); clear hg5
        go_wp2_with fail
        exact ⟨⟨k + 1, by simp, by rw [← TK.out, ← LB.out]; rfl, by omega, G5.out⟩, by simp [intOf]; omega⟩
    · have hke : k = xs.length := by omega
      subst hke
      go_wp2_with fail
      go_ret
      exact ⟨rfl, GW.out⟩
set_option maxRecDepth 20000 in
set_option maxHeartbeats 2000000 in
theorem iRdsText (g c : Nat) (xs : List Rqv) (w : World) (X : Hid (RdRq w (some ⟨g, 0, none⟩) xs)) (T : Hid (Pow w)) (hn : xs.length ≤ 12) (hw : xs.all wfR = true) (hk : xs.all okRd = true) :
    Calls Tryd.prog 30 #[.slice (some ⟨g, 0, none⟩) xs.length c] w fun e w' => e = .returned (.string (rdT xs xs.length)) ∧ Bl w w' := by
  have HV := hid fun (w : World) (X : Hid (RdRq w (some ⟨g, 0, none⟩) xs)) => iVRs (some ⟨g, 0, none⟩) c xs true w X (by omega) hw hk
  have HK := hid hk
  have SZ := hid fun k => rdT_size (xs := xs) k hk (by omega)
  have HZ := hid (rdT_zero xs)
  have d1 : ¬ (12 : Int) < (xs.length : Int) := by omega
  clear hk hw
  go_enter Tryd.func30, Tryd.ntmps30
  go_wp2_with fail
  refine (HV.out _ X).mono ?_
  rintro e w1 ⟨rfl, hg⟩
  have G1 := hid hg; clear hg d1
  go_wp2_with fail
  go_loopw [3, 16] (fun t u wr => ∃ (k : Nat), u = .int .i64 (k : Int) ∧ t = .string (rdT xs k) ∧ k ≤ xs.length ∧ Bl w wr) (fun _ u _ => xs.length - (intOf u).toNat)
  case atStart => exact ⟨0, rfl, by rw [HZ.out], by omega, G1.out.below⟩
  case round =>
    obtain ⟨k, rfl, rfl, hkn, hg⟩ := hrel
    have BW := hid hg; clear hg
    by_cases hlt : k < xs.length
    · obtain ⟨x, hp⟩ : ∃ x, xs[k]? = some x := ⟨xs[k], List.getElem?_eq_getElem _⟩
      obtain ⟨ad, he, c1⟩ := X.out k x hp
      cases he
      rw [add_at] at c1
      have c2 := c1.bl BW.out
      obtain ⟨f0, f1, f2, f3⟩ := c2.blk
      have hx := hid (allRq_get hp HK.out)
      have TK := hid (rdT_succ hp)
      have s1 : (⟨(lineL x).toArray⟩ : ByteArray).size ≤ 70 := by show (lineL x).toArray.size ≤ 70; simpa using lineL_len hx.out
      have s3 := SZ.out k
      obtain ⟨S, hS⟩ : ∃ S, rdT xs k = S := ⟨_, rfl⟩
      obtain ⟨Ln, hLn⟩ : ∃ Ln : ByteArray, ⟨(lineL x).toArray⟩ = Ln := ⟨_, rfl⟩
      have HL := hid fun (w : World) (T : Hid (Pow w)) => iLine x w T hx.out
      rw [hS] at TK s3
      rw [hLn] at TK s1 HL
      rw [hS]
      have BA := hid (BW.out.alloc (Below.size BW.out) (.cells #[.string x.nm, .int .i16 x.b, .int .i16 x.u, .bool x.o] 116))
      have PW := hid (Joins.tab_stays pow_at T.out BA.out (Nat.le_refl _) : Pow _)
      clear hp hS hLn c1 c2
      go_wp2_with fail
      refine (HL.out _ PW).mono ?_
      rintro e w5 ⟨rfl, hb⟩
      have B5 := hid (Bl.tr BA.out hb); clear hb
      go_wp2_with fail
      exact ⟨⟨k + 1, by simp, by rw [← TK.out], by omega, B5.out⟩, by simp [intOf]; omega⟩
    · have hke : k = xs.length := by omega
      subst hke
      go_wp2_with fail
      go_ret
      exact ⟨rfl, BW.out⟩
set_option maxRecDepth 20000 in
set_option maxHeartbeats 1000000 in
theorem iRdt_1 (A : Option Addr) (n c : Nat) (w : World) (hn : 12 < n) :
    Calls Tryd.prog 30 #[.slice A n c] w fun e w' => e = .returned (.string ⟨#[]⟩) ∧ Bl w w' := by
  have d1 : (12 : Int) < (n : Int) := by omega
  go_enter Tryd.func30, Tryd.ntmps30
  go_wp2
  go_ret
  exact ⟨rfl, Below.refl _ _⟩
set_option maxRecDepth 20000 in
set_option maxHeartbeats 1000000 in
theorem iRdt_2 (A : Option Addr) (c : Nat) (xs : List Rqv) (w : World) (X : Hid (RdRq w A xs)) (hn : xs.length ≤ 12) (hw : xs.all wfR = true) (hk : xs.all okRd = false) :
    Calls Tryd.prog 30 #[.slice A xs.length c] w fun e w' => e = .returned (.string ⟨#[]⟩) ∧ Bl w w' := by
  have HV := hid fun (w : World) (X : Hid (RdRq w A xs)) => iVRs A c xs false w X (by omega) hw hk
  have d1 : ¬ (12 : Int) < (xs.length : Int) := by omega
  clear hk hw
  go_enter Tryd.func30, Tryd.ntmps30
  go_wp2_with fail
  refine (HV.out _ X).mono ?_
  rintro e w1 ⟨rfl, hg⟩
  have G1 := hid hg; clear hg
  go_wp2
  go_ret
  exact ⟨rfl, G1.out.below⟩
set_option maxRecDepth 20000 in
set_option maxHeartbeats 1000000 in
theorem sRdt_1 (g c : Nat) (xs : List Rqv) (w : World) (X : Hid (RdRq w (some ⟨g, 0, none⟩) xs)) (hn : xs.length ≤ 1048576) (hw : xs.all wfR = true) (hk : xs.all okRd = false) :
    Calls Tryd.prog 28 #[.slice (some ⟨g, 0, none⟩) xs.length c] w fun e w' => e = .returned (.string ⟨#[]⟩) ∧ Gr w w' := by
  have HV := hid fun (w : World) (X : Hid (RdRq w (some ⟨g, 0, none⟩) xs)) => sVRs g c xs false w X hn hw hk
  clear hk hw
  go_enter Tryd.func28, Tryd.ntmps28
  go_wp2_with fail
  refine (HV.out _ X).mono ?_
  rintro e w1 ⟨rfl, hg1⟩
  have G1 := hid (hg1)
  clear hg1
  go_wp2
  go_ret
  exact ⟨rfl, G1.out⟩
set_option maxRecDepth 20000 in
set_option maxHeartbeats 1000000 in
theorem sRdt_2 (g c : Nat) (xs : List Rqv) (w : World) (X : Hid (RdRq w (some ⟨g, 0, none⟩) xs)) (hn : xs.length ≤ 1048576) (h12 : 12 < xs.length) (hw : xs.all wfR = true) (hk : xs.all okRd = true) :
    Calls Tryd.prog 28 #[.slice (some ⟨g, 0, none⟩) xs.length c] w fun e w' => e = .returned (.string ⟨#[]⟩) ∧ Gr w w' := by
  have HV := hid fun (w : World) (X : Hid (RdRq w (some ⟨g, 0, none⟩) xs)) => sVRs g c xs true w X hn hw hk
  have d1 : (12 : Int) < (xs.length : Int) := by omega
  clear hk hw
  go_enter Tryd.func28, Tryd.ntmps28
  go_wp2_with fail
  refine (HV.out _ X).mono ?_
  rintro e w1 ⟨rfl, hg1⟩
  have G1 := hid (hg1)
  clear hg1
  go_wp2
  go_ret
  exact ⟨rfl, G1.out⟩
set_option maxRecDepth 20000 in
set_option maxHeartbeats 1000000 in
theorem sRdt_3 (g c : Nat) (xs : List Rqv) (w : World) (X : Hid (RdRq w (some ⟨g, 0, none⟩) xs)) (h12 : xs.length ≤ 12) (hw : xs.all wfR = true) (hk : xs.all okRd = true) :
    Calls Tryd.prog 28 #[.slice (some ⟨g, 0, none⟩) xs.length c] w fun e w' => e = .returned (.string (rdT xs xs.length)) ∧ Gr w w' := by
  have HV := hid fun (w : World) (X : Hid (RdRq w (some ⟨g, 0, none⟩) xs)) => sVRs g c xs true w X (by omega) hw hk
  have HT := hid fun (w : World) (X : Hid (RdRq w (some ⟨g, 0, none⟩) xs)) => sRdsText g c xs w X h12 hk
  have d1 : ¬ (12 : Int) < (xs.length : Int) := by omega
  clear hk hw
  go_enter Tryd.func28, Tryd.ntmps28
  go_wp2_with fail
  refine (HV.out _ X).mono ?_
  rintro e w1 ⟨rfl, hg1⟩
  have G1 := hid (hg1)
  clear hg1
  go_wp2_with fail
  refine (HT.out _ (hid (X.out.keep G1.out))).mono ?_
  rintro e w2 ⟨rfl, hg2⟩
  have G2 := hid (G1.out.trans hg2)
  clear hg2
  go_wp2
  go_ret
  exact ⟨rfl, G2.out⟩
/-- What ReadersText gives. -/
theorem bothReadersText (xs : List Rqv) (hn : xs.length ≤ 1048576) (hw : xs.all wfR = true) : ∃ S : ByteArray,
    (∀ (g c : Nat) (w : World), Hid (RdRq w (some ⟨g, 0, none⟩) xs) → Calls Tryd.prog 28 #[.slice (some ⟨g, 0, none⟩) xs.length c] w fun e w' => e = .returned (.string S) ∧ Gr w w') ∧
    (∀ (g c : Nat) (w : World), Hid (RdRq w (some ⟨g, 0, none⟩) xs) → Hid (Pow w) → Calls Tryd.prog 30 #[.slice (some ⟨g, 0, none⟩) xs.length c] w fun e w' => e = .returned (.string S) ∧ Bl w w') := by
  by_cases h12 : xs.length ≤ 12
  · cases hk : xs.all okRd with
    | false => exact ⟨_, fun g c w X => sRdt_1 g c xs w X hn hw hk, fun g c w X _ => iRdt_2 _ c xs w X h12 hw hk⟩
    | true => exact ⟨_, fun g c w X => sRdt_3 g c xs w X h12 hw hk, fun g c w X T => iRdsText g c xs w X T h12 hw hk⟩
  · cases hk : xs.all okRd with
    | false => exact ⟨_, fun g c w X => sRdt_1 g c xs w X hn hw hk, fun g c w X _ => iRdt_1 _ _ c w (by omega)⟩
    | true => exact ⟨_, fun g c w X => sRdt_2 g c xs w X hn (by omega) hw hk, fun g c w X _ => iRdt_1 _ _ c w (by omega)⟩
end Go.Proofs.YtpadjkgbeijkpaaDoor
