/- TEXTS READ: ReadSpan of both sides. -/
import Derived.Test.YtpadjkgbeijkpaaDoorTw
import Derived.Test.YtpadjkgbeijkpaaDoorN
namespace Go.Proofs.YtpadjkgbeijkpaaDoor
open Go.RowKit Go.Sort

theorem no46 (p : Int) : (46 : UInt8) ∉ Lib.itoa p := itoa_no p (by decide) (by decide)
theorem no46F (p q : Int) : (46 : UInt8) ∉ txtFl p q := by
  unfold txtFl
  split
  · exact no46 p
  · intro h
    simp only [List.mem_append, List.mem_cons] at h
    rcases h with h | h | h
    · exact no46 p h
    · exact absurd h (by decide)
    · exact no46 q h
theorem txtFl_ne {p q : Int} : txtFl p q ≠ [] := by
  have h : Lib.itoa p ≠ [] := by
    by_cases hp : p < 0
    · rw [itoa_neg hp]; simp
    · rw [itoa_pos hp]
      intro h0
      have := (dd_num p.natAbs).2.1
      rw [h0] at this
      simp at this
  unfold txtFl
  split
  · exact h
  · simp
/-- The text of a span. -/
def txtSl (a b c d : Int) : List UInt8 := txtFl a b ++ 46 :: 46 :: txtFl c d
/-- What a reader of spans has to say of a text. -/
def RdSp (s : List UInt8) (a b c d : Int) (r : Bool) : Prop := (r = true → spB a b c d = true ∧ s = txtSl a b c d) ∧ (r = false → ∀ p q p' q', spB p q p' q' = true → s ≠ txtSl p q p' q')
theorem rdsp_of {x z : List UInt8} {e : UInt8} {a b c d : Int} {r1 r2 : Bool} (h1 : RdOk x a b r1) (h2 : RdOk z c d r2) (hx : (46 : UInt8) ∉ x) : RdSp (x ++ 46 :: e :: z) a b c d (decide (e = 46) && r1 && r2 && spB a b c d) := by
  constructor
  · intro h
    simp only [Bool.and_eq_true, decide_eq_true_eq] at h
    obtain ⟨⟨⟨rfl, rfl⟩, rfl⟩, hs⟩ := h
    refine ⟨hs, ?_⟩
    rw [(h1.1 rfl).2, (h2.1 rfl).2]
    rfl
  · intro h p q p' q' hs he
    obtain ⟨k1, k2, _⟩ := spB_ok hs
    obtain ⟨rfl, e2⟩ := part_eq hx (no46F p q) he
    simp only [List.cons.injEq] at e2
    obtain ⟨rfl, rfl⟩ := e2
    cases r1 with
    | false => exact h1.2 rfl p q k1 rfl
    | true =>
      cases r2 with
      | false => exact h2.2 rfl p' q' k2 rfl
      | true =>
        obtain ⟨n1, e1⟩ := h1.1 rfl
        obtain ⟨n2, e2⟩ := h2.1 rfl
        obtain ⟨rfl, rfl⟩ := txtFl_inj k1 n1 e1
        obtain ⟨rfl, rfl⟩ := txtFl_inj k2 n2 e2
        rw [hs] at h
        simp at h
theorem rdsp_no {s : List UInt8} (h : (46 : UInt8) ∉ s.take (s.length - 1)) (a b c d : Int) : RdSp s a b c d false := by
  refine ⟨(fun h => by cases h), ?_⟩
  rintro _ p q p' q' _ rfl
  refine h ?_
  have hl : (txtSl p q p' q').length = (txtFl p q).length + (txtFl p' q').length + 2 := by unfold txtSl; simp; omega
  rw [hl]
  unfold txtSl
  rw [List.take_append]
  refine List.mem_append_right _ ?_
  rw [show (txtFl p q).length + (txtFl p' q').length + 2 - 1 - (txtFl p q).length = (txtFl p' q').length + 1 by omega, List.take_succ_cons]
  simp
theorem txtSl_cut {p q p' q' : Int} : Lib.cut (txtSl p q p' q') [46, 46] = (txtFl p q, txtFl p' q', true) := by
  have := cut_some (x := txtFl p q) (y := txtFl p' q') (sub := [46]) (no46F p q)
  rw [← this]
  unfold txtSl
  simp
/-- What ReadFrac of the program gives, by what it reads. -/
theorem iRdF (s : ByteArray) (hs : s.size ≤ 1048576) : ∃ a b r, RdOk s.data.toList a b r ∧ ∀ w, Hid (TxW w) → Calls Tryd.prog 10 #[.string s] w fun e w' => e = .returned (.tuple #[fr a b, .int .i64 (if r then 0 else 5)]) ∧ Bl w w' := by
  by_cases hF : ∃ a b, okB a b = true ∧ s.data.toList = txtFl a b
  · obtain ⟨a, b, hk, he⟩ := hF
    refine ⟨a, b, true, ⟨fun _ => ⟨hk, he⟩, (fun h => by cases h)⟩, fun w T => (iReadFrac s w hs T).mono ?_⟩
    rintro e w' ⟨⟨a', b', ⟨hk', he', rfl⟩ | ⟨hno, _⟩⟩, hg⟩
    · obtain ⟨rfl, rfl⟩ := txtFl_inj hk hk' (he.symm.trans he')
      exact ⟨rfl, hg⟩
    · exact absurd he (hno a b hk)
  · refine ⟨0, 0, false, ⟨(fun h => by cases h), fun _ p q hk he => hF ⟨p, q, hk, he⟩⟩, fun w T => (iReadFrac s w hs T).mono ?_⟩
    rintro e w' ⟨⟨a', b', ⟨hk', he', rfl⟩ | ⟨hno, rfl⟩⟩, hg⟩
    · exact absurd ⟨a', b', hk', he'⟩ hF
    · exact ⟨rfl, hg⟩
theorem keepO {w wb : World} {b j : Nat} {cs : Array Value} {o : Obj} (hb : Gr w wb ∨ Gr (w.setRow b cs) wb) (h : w.heap[j]? = some o) (hn : j ≠ b) : ∀ (m : Nat) (os : Array Obj), (grow (wb.drewN m) os).heap[j]? = some o := by
  intro m os
  refine Gr.keep (w := wb) ⟨⟨m, os⟩, rfl⟩ ?_
  rcases hb with g | g
  · exact g.keep h
  · exact g.keep (row_old h hn)
/-- What the reference's reader of spans has to give. -/
def RsP (w : World) (s : ByteArray) (e : Ending) (w' : World) : Prop := ∃ a b c d r, e = .returned (.tuple #[sp a b c d, .bool r]) ∧ RdSp s.data.toList a b c d r ∧ Gr w w'
set_option maxRecDepth 20000 in
set_option maxHeartbeats 2000000 in
theorem sRdSp (s : ByteArray) (w : World) (hs : s.size ≤ 1048576) : Calls Tryd.prog 36 #[.string s] w fun e w' => RsP w s e w' := by
  go_enter Tryd.func36, Tryd.ntmps36
  go_wp2_with fail
  go_loopw [4] (fun u wr => ∃ (k : Nat), u = .int .i64 (k : Int) ∧ k ≤ s.size ∧ Gr w wr ∧ wr.heap[w.heap.size]? = some (.cells #[.int .i64 0, .int .i64 0, .int .i64 0, .int .i64 0] 29) ∧ (46 : UInt8) ∉ s.data.toList.take k) (fun u _ => s.size - (intOf u).toNat)
  case atStart => exact ⟨0, rfl, by omega, (Gr.refl _).al _, (alloc1 (Gr.refl _)).1, by simp⟩
  case round =>
    obtain ⟨k, rfl, hk, g0, hz, hn⟩ := hrel
    have GW := hid g0; have Z := hid hz; have HN := hid hn; clear g0 hz hn
    by_cases hlt : k + 1 < s.size
    · have HA := hid (s_at s k (by omega))
      have HA1 := hid (s_at s (k + 1) hlt)
      have hkl : k < s.size := by omega
      by_cases h46 : s[k].toNat = 46
      · have hI : ((s[k].toNat : Int) == 46) = true := by simpa using (by omega : (s[k].toNat : Int) = 46)
        have hI2 : ((s[k].toNat : Int) != 46) = false := by simpa using (by omega : (s[k].toNat : Int) = 46)
        have eL : (s.extract 0 k).data.toList = s.data.toList.take k := by rw [ext_list]; simp
        have eR : (s.extract (k + 2) s.size).data.toList = s.data.toList.drop (k + 2) := by rw [ext_list, List.take_of_length_le (by simp)]
        have HL := hid fun (w : World) => sRdF (s.extract 0 k) w (by simp; omega)
        have HM := hid fun (w : World) => sRdF (s.extract (k + 2) s.size) w (by simp; omega)
        rw [eL] at HL
        rw [eR] at HM
        have es : s.data.toList = s.data.toList.take k ++ 46 :: s[k + 1] :: s.data.toList.drop (k + 2) := by
          have e46 : s[k] = 46 := UInt8.toNat_inj.1 (by rw [h46]; rfl)
          conv => lhs; rw [← List.take_append_drop k s.data.toList]
          congr 1
          rw [List.drop_eq_getElem_cons (by rw [s_len]; omega), List.drop_eq_getElem_cons (by rw [s_len]; omega)]
          have h1 := (List.getElem?_eq_some_iff.1 HA.out).2
          have h2 := (List.getElem?_eq_some_iff.1 HA1.out).2
          rw [h1, h2, e46]
        have ES := hid es
        have hk2 : (k : Int) + 2 ≤ (s.size : Int) := by omega
        have hk1 : (k : Int) + 1 < (s.size : Int) := by omega
        have hbeq : decide (s[k + 1] = 46) = decide (s[k + 1].toNat = 46) := by
          by_cases h : s[k + 1] = 46
          · rw [h]; rfl
          · rw [decide_eq_false h, decide_eq_false (fun e => h (UInt8.toNat_inj.1 (by rw [e]; rfl)))]
        have HBQ := hid hbeq
        clear es eL eR hbeq h46
        obtain ⟨_, _, _, _⟩ := cells4 Z.out
        have _ := fz Z.out
        have _ := ltb Z.out
        go_wp2_with fail
        refine (HL.out _).mono ?_
        rintro e w6 ⟨a, b, r1, rfl, k1, hg6⟩
        have G6 := hid (GW.out.trans hg6); have Z6 := hid (hg6.keep Z.out); have K1 := hid k1; clear hg6 k1
        obtain ⟨_, _, _, _⟩ := cells4 Z6.out
        have _ := fz Z6.out
        have _ := ltb Z6.out
        go_wp2_with fail
        refine (HM.out _).mono ?_
        rintro e w7 ⟨c, d, r2, rfl, k2, hg7⟩
        obtain ⟨x7, hz7, g7⟩ := alloc1 hg7
        have L7 := hid x7; have Z7 := hid (g7.keep Z6.out); have G7 := hid (G6.out.trans g7); have K2 := hid k2; clear hg7 x7 g7 k2
        obtain ⟨x8, x9, _, _⟩ := alloc2 (Gr.refl ((w7.alloc (.cells #[.int .i64 c, .int .i64 d] 23)).alloc (.cells #[.int .i64 a, .int .i64 b, .int .i64 c, .int .i64 d] 29)))
        have Y9 := hid x9; have G8 := hid ((G7.out.al (.cells #[.int .i64 c, .int .i64 d] 23)).al (.cells #[.int .i64 a, .int .i64 b, .int .i64 c, .int .i64 d] 29))
        have Z8 := hid (((((Gr.refl w7).al (.cells #[.int .i64 c, .int .i64 d] 23)).al (.cells #[.int .i64 a, .int .i64 b, .int .i64 c, .int .i64 d] 29))).keep Z7.out)
        clear x8 x9
        have Y9s : Hid (((w7.alloc (.cells #[.int .i64 c, .int .i64 d] 23)).alloc (.cells #[.int .i64 a, .int .i64 b, .int .i64 c, .int .i64 d] 29)).heap[w7.heap.size + 1]? = some (.cells #[.int .i64 a, .int .i64 b, .int .i64 c, .int .i64 d] 29)) := hid (by simpa using Y9.out)
        obtain ⟨_, _, _, _⟩ := cells4 Z7.out
        have _ := fz Z7.out
        have _ := ltb Z7.out
        obtain ⟨_, _⟩ := cells2 L7.out
        have _ := fz L7.out
        have _ := ltb L7.out
        go_wp2_with fail
        have RS := hid (rdsp_of K1.out K2.out HN.out (e := s[k + 1]))
        rw [← ES.out, HBQ.out] at RS
        by_cases h461 : s[k + 1].toNat = 46
        · have hJ : ((s[k + 1].toNat : Int) == 46) = true := by simpa using (by omega : (s[k + 1].toNat : Int) = 46)
          cases r1 with
          | false =>
            have RF : Hid (RdSp s.data.toList a b c d (false)) := hid (by simpa [h461] using RS.out)
            obtain ⟨_, _, _, _⟩ := cells4 Z8.out
            have _ := fz Z8.out
            have _ := ltb Z8.out
            obtain ⟨_, _, _, _⟩ := cells4 Y9.out
            have _ := fz Y9.out
            have _ := ltb Y9.out
            have M1 := hid (ne_of Y9.out Z8.out (by first | omega))
            refine wp_regO 16 15 2 39 (by kernel_rfl) (by kernel_rfl) rfl (by decide) rfl rfl rfl rfl (by kernel_rfl) Z8.out (by kernel_rfl) ?_
            apply Exists.intro; apply Exists.intro
            refine ⟨fun wb hb => ?_, ?_⟩
            · obtain ⟨_, _, _, _⟩ := atO4 hb Y9.out M1.out
              simp only [headOps, List.contains, List.elem, Nat.reduceAdd, Nat.reduceBEq, reduceIte, Bool.false_eq_true, dumOp]
              repeat (first | go_big_quiet_step (first | (fail)) | quiet_step (fail))
              exact wpQuiet_nil rfl
            refine ⟨rfl, ⟨rfl, by simp [Value.oneCell']⟩, fun w10 hg10 => ?_⟩
            have x10_0 := hg10.keep (row_new Z8.out)
            have x10_1 := hg10.keep (row_old Y9.out M1.out)
            obtain ⟨_, _, _, _⟩ := cells4 x10_0
            have _ := fz x10_0
            have _ := ltb x10_0
            obtain ⟨_, _, _, _⟩ := cells4 x10_1
            have _ := fz x10_1
            have _ := ltb x10_1
            have X10_0 := hid x10_0; clear x10_0
            have X10_1 := hid x10_1; clear x10_1
            have G10 := hid ((G8.out.setRow (by first | omega | (simp; done) | (simp; omega)) _).trans hg10); clear hg10
            go_wp2
            refine bodyPost_ret (v := .tuple #[sp a b c d, .bool (false)]) (by simp [results, Tryd.results36, go_sem, *]) rfl ⟨a, b, c, d, _, rfl, RF.out, ?_⟩
            exact G10.out
          | true =>
            cases r2 with
            | false =>
              have RF : Hid (RdSp s.data.toList a b c d (false)) := hid (by simpa [h461] using RS.out)
              obtain ⟨_, _, _, _⟩ := cells4 Z8.out
              have _ := fz Z8.out
              have _ := ltb Z8.out
              obtain ⟨_, _, _, _⟩ := cells4 Y9.out
              have _ := fz Y9.out
              have _ := ltb Y9.out
              have M1 := hid (ne_of Y9.out Z8.out (by first | omega))
              refine wp_regO 16 15 2 39 (by kernel_rfl) (by kernel_rfl) rfl (by decide) rfl rfl rfl rfl (by kernel_rfl) Z8.out (by kernel_rfl) ?_
              apply Exists.intro; apply Exists.intro
              refine ⟨fun wb hb => ?_, ?_⟩
              · obtain ⟨_, _, _, _⟩ := atO4 hb Y9.out M1.out
                simp only [headOps, List.contains, List.elem, Nat.reduceAdd, Nat.reduceBEq, reduceIte, Bool.false_eq_true, dumOp]
                repeat (first | go_big_quiet_step (first | (fail)) | quiet_step (fail))
                exact wpQuiet_nil rfl
              refine ⟨rfl, ⟨rfl, by simp [Value.oneCell']⟩, fun w10 hg10 => ?_⟩
              have x10_0 := hg10.keep (row_new Z8.out)
              have x10_1 := hg10.keep (row_old Y9.out M1.out)
              obtain ⟨_, _, _, _⟩ := cells4 x10_0
              have _ := fz x10_0
              have _ := ltb x10_0
              obtain ⟨_, _, _, _⟩ := cells4 x10_1
              have _ := fz x10_1
              have _ := ltb x10_1
              have X10_0 := hid x10_0; clear x10_0
              have X10_1 := hid x10_1; clear x10_1
              have G10 := hid ((G8.out.setRow (by first | omega | (simp; done) | (simp; omega)) _).trans hg10); clear hg10
              go_wp2
              refine bodyPost_ret (v := .tuple #[sp a b c d, .bool (false)]) (by simp [results, Tryd.results36, go_sem, *]) rfl ⟨a, b, c, d, _, rfl, RF.out, ?_⟩
              exact G10.out
            | true =>
              obtain ⟨r, hr⟩ : ∃ r, spB a b c d = r := ⟨_, rfl⟩
              rw [hr] at RS
              have HO := hid fun (w : World) (g : Nat) (x : w.heap[g]? = some (.cells #[.int .i64 a, .int .i64 b, .int .i64 c, .int .i64 d] 29)) => (sSpanAt a b c d w g x).mono (R' := fun e w' => e = .returned (.bool r) ∧ Gr w w') fun e w' h => ⟨by rw [h.1, hr], h.2⟩
              clear hr
              have RF : Hid (RdSp s.data.toList a b c d (r)) := hid (by simpa [h461] using RS.out)
              obtain ⟨_, _, _, _⟩ := cells4 Z8.out
              have _ := fz Z8.out
              have _ := ltb Z8.out
              obtain ⟨_, _, _, _⟩ := cells4 Y9.out
              have _ := fz Y9.out
              have _ := ltb Y9.out
              have M1 := hid (ne_of Y9.out Z8.out (by first | omega))
              refine wp_regO 16 15 2 39 (by kernel_rfl) (by kernel_rfl) rfl (by decide) rfl rfl rfl rfl (by kernel_rfl) Z8.out (by kernel_rfl) ?_
              apply Exists.intro; apply Exists.intro
              refine ⟨fun wb hb => ?_, ?_⟩
              · have HSP := keepO hb Y9s.out (by omega)
                obtain ⟨_, _, _, _⟩ := atO4 hb Y9.out M1.out
                simp only [headOps, List.contains, List.elem, Nat.reduceAdd, Nat.reduceBEq, reduceIte, Bool.false_eq_true, dumOp]
                repeat (first | go_big_quiet_step (first | (go_at_call 76; exact Calls.of_gr (HO.out _ _ (HSP _ _)))) | quiet_step (fail))
                exact wpQuiet_nil rfl
              refine ⟨rfl, ⟨rfl, by simp [Value.oneCell']⟩, fun w10 hg10 => ?_⟩
              have x10_0 := hg10.keep (row_new Z8.out)
              have x10_1 := hg10.keep (row_old Y9.out M1.out)
              obtain ⟨_, _, _, _⟩ := cells4 x10_0
              have _ := fz x10_0
              have _ := ltb x10_0
              obtain ⟨_, _, _, _⟩ := cells4 x10_1
              have _ := fz x10_1
              have _ := ltb x10_1
              have X10_0 := hid x10_0; clear x10_0
              have X10_1 := hid x10_1; clear x10_1
              have G10 := hid ((G8.out.setRow (by first | omega | (simp; done) | (simp; omega)) _).trans hg10); clear hg10
              go_wp2
              refine bodyPost_ret (v := .tuple #[sp a b c d, .bool (r)]) (by simp [results, Tryd.results36, go_sem, *]) rfl ⟨a, b, c, d, _, rfl, RF.out, ?_⟩
              exact G10.out
        · obtain ⟨v, hv⟩ : ∃ v, s[k + 1].toNat = v := ⟨_, rfl⟩
          rw [hv] at h461
          have hJ : ((v : Int) == 46) = false := by simpa using (by omega : ¬ (v : Int) = 46)
          rw [hv] at RS
          have RF : Hid (RdSp s.data.toList a b c d (false)) := hid (by simpa [h461] using RS.out)
          obtain ⟨_, _, _, _⟩ := cells4 Z8.out
          have _ := fz Z8.out
          have _ := ltb Z8.out
          obtain ⟨_, _, _, _⟩ := cells4 Y9.out
          have _ := fz Y9.out
          have _ := ltb Y9.out
          have M1 := hid (ne_of Y9.out Z8.out (by first | omega))
          refine wp_regO 16 15 2 39 (by kernel_rfl) (by kernel_rfl) rfl (by decide) rfl rfl rfl rfl (by kernel_rfl) Z8.out (by kernel_rfl) ?_
          apply Exists.intro; apply Exists.intro
          refine ⟨fun wb hb => ?_, ?_⟩
          · obtain ⟨_, _, _, _⟩ := atO4 hb Y9.out M1.out
            simp only [headOps, List.contains, List.elem, Nat.reduceAdd, Nat.reduceBEq, reduceIte, Bool.false_eq_true, dumOp]
            repeat (first | go_big_quiet_step (first | (fail)) | quiet_step (fail))
            exact wpQuiet_nil rfl
          refine ⟨rfl, ⟨rfl, by simp [Value.oneCell']⟩, fun w10 hg10 => ?_⟩
          have x10_0 := hg10.keep (row_new Z8.out)
          have x10_1 := hg10.keep (row_old Y9.out M1.out)
          obtain ⟨_, _, _, _⟩ := cells4 x10_0
          have _ := fz x10_0
          have _ := ltb x10_0
          obtain ⟨_, _, _, _⟩ := cells4 x10_1
          have _ := fz x10_1
          have _ := ltb x10_1
          have X10_0 := hid x10_0; clear x10_0
          have X10_1 := hid x10_1; clear x10_1
          have G10 := hid ((G8.out.setRow (by first | omega | (simp; done) | (simp; omega)) _).trans hg10); clear hg10
          go_wp2
          refine bodyPost_ret (v := .tuple #[sp a b c d, .bool (false)]) (by simp [results, Tryd.results36, go_sem, *]) rfl ⟨a, b, c, d, _, rfl, RF.out, ?_⟩
          exact G10.out
      · have hI : ((s[k].toNat : Int) == 46) = false := by simpa using (by omega : ¬ (s[k].toNat : Int) = 46)
        have hI2 : ((s[k].toNat : Int) != 46) = true := by simpa using (by omega : ¬ (s[k].toNat : Int) = 46)
        have HN2 : Hid ((46 : UInt8) ∉ s.data.toList.take (k + 1)) := hid (by
          rw [List.take_add_one, HA.out]
          simp only [Option.toList_some, List.mem_append, List.mem_singleton, not_or]
          exact ⟨HN.out, fun e => h46 (by rw [← e]; rfl)⟩)
        clear h46
        go_wp2_with fail
        exact ⟨⟨k + 1, by simp, by omega, GW.out, Z.out, HN2.out⟩, by simp [intOf]; omega⟩
    · have hnk : ¬ (k : Int) + 1 < (s.size : Int) := by omega
      have RK := hid (rdsp_no (s := s.data.toList) (by rw [s_len]; intro hm; exact HN.out (List.take_subset_take_left _ (by omega) hm)) 0 0 0 0)
      clear hlt
      obtain ⟨_, _, _, _⟩ := cells4 Z.out
      have _ := fz Z.out
      have _ := ltb Z.out
      go_wp2
      refine bodyPost_ret (v := .tuple #[sp 0 0 0 0, .bool false]) (by simp [results, Tryd.results36, go_sem, *]) rfl ⟨0, 0, 0, 0, _, rfl, RK.out, ?_⟩
      exact ((((GW.out).setCell (by simp <;> omega) _).setCell (by simp <;> omega) _).setCell (by simp <;> omega) _).setCell (by simp <;> omega) _
set_option maxRecDepth 20000 in
set_option maxHeartbeats 1000000 in
theorem sReadSpan (s : ByteArray) (w : World) (hs : s.size ≤ 1048576) : Calls Tryd.prog 12 #[.string s] w fun e w' => (∃ a b c d, spB a b c d = true ∧ s.data.toList = txtSl a b c d ∧ e = .returned (.tuple #[sp a b c d, .int .i64 0]) ∨ (∀ p q p' q', spB p q p' q' = true → s.data.toList ≠ txtSl p q p' q') ∧ e = .returned (.tuple #[sp 0 0 0 0, .int .i64 5])) ∧ Gr w w' := by
  have HC := hid fun (w : World) => sRdSp s w hs
  go_enter Tryd.func12, Tryd.ntmps12
  go_wp2_with fail
  refine (HC.out _).mono ?_
  rintro e w1 ⟨a, b, c, d, r, rfl, rk, hg⟩
  obtain ⟨x, hz, g⟩ := alloc1 hg
  have X1 := hid x; have G1 := hid g; have RK := hid rk
  clear hg g x rk HC
  cases r with
  | true =>
    obtain ⟨hk, he⟩ := RK.out.1 rfl
    have HK := hid hk; have HE := hid he
    clear hk he RK
    obtain ⟨_, _, _, _⟩ := cells4 X1.out
    have _ := fz X1.out
    have _ := ltb X1.out
    go_wp2
    refine bodyPost_ret (v := .tuple #[sp a b c d, .int .i64 0]) (by simp [results, Tryd.results12, go_sem, *]) rfl ⟨⟨a, b, c, d, .inl ⟨HK.out, HE.out, rfl⟩⟩, ?_⟩
    exact (((((G1.out).setCell (by simp <;> omega) _).setCell (by simp <;> omega) _).setCell (by simp <;> omega) _).setCell (by simp <;> omega) _).al _
  | false =>
    have hn := hid (RK.out.2 rfl)
    clear RK
    obtain ⟨_, _, _, _⟩ := cells4 X1.out
    have _ := fz X1.out
    have _ := ltb X1.out
    go_wp2
    refine bodyPost_ret (v := .tuple #[sp 0 0 0 0, .int .i64 5]) (by simp [results, Tryd.results12, go_sem, *]) rfl ⟨⟨0, 0, 0, 0, .inr ⟨hn.out, rfl⟩⟩, ?_⟩
    exact (((((G1.out).setCell (by simp <;> omega) _).setCell (by simp <;> omega) _).setCell (by simp <;> omega) _).setCell (by simp <;> omega) _).al _
end Go.Proofs.YtpadjkgbeijkpaaDoor
