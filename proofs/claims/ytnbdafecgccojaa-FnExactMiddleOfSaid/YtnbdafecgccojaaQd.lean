/- WALKS: MiddleOf: the reference's sorted list; both sides joined. -/
import Derived.Test.YtnbdafecgccojaaQb
namespace Go.Proofs.Ytnbdafecgccojaa
open Go.RowKit Go.Sort

theorem add_succ1 (ad : Addr) (k : Nat) : (⟨(ad.add k).block, (ad.add k).off + 1, none⟩ : Addr) = ad.add (k + 1) := by
  unfold Addr.add
  by_cases h : k = 0
  · subst h; simp
  · simp [h]; omega
theorem add_add2 (ad : Addr) (a b : Nat) : (ad.add a).add b = ad.add (a + b) := by
  unfold Addr.add
  by_cases ha : a = 0
  · subst ha; simp
  · by_cases hb : b = 0
    · subst hb; simp [ha]
    · simp [ha, hb]; omega
theorem RdF.news {w : World} {ad : Addr} {ys : List (Int × Int)} (h : RdF w (some ad) ys) (j : Nat) (u : Value) (hj : (flatL ys)[j]? = some u) : w.cell? (ad.add j) = some u := by
  have hjl : j < ys.length * 2 := by have := (List.getElem?_eq_some_iff.1 hj).1; rwa [flatL_len] at this
  obtain ⟨⟨p, q⟩, hk⟩ : ∃ x, ys[j / 2]? = some x := ⟨ys[j / 2]'(by omega), List.getElem?_eq_getElem _⟩
  obtain ⟨ad', e, c1, c2⟩ := h _ p q hk
  cases e
  obtain ⟨a1, a2⟩ := flatL_get ys _ p q hk
  rcases Nat.mod_two_eq_zero_or_one j with hm | hm
  · have ej : j / 2 * 2 = j := by omega
    rw [ej] at a1 c1
    rw [hj] at a1
    cases a1
    exact c1
  · have ej : j / 2 * 2 + 1 = j := by omega
    rw [ej, hj] at a2
    cases a2
    rw [add_succ1, ej] at c2
    exact c2
set_option maxRecDepth 100000 in
theorem wpList_appF {w : World} {ops : Array Oper} {rest : List Oper} {o : Oper} {a : Act} {Q : Exit → Act → World → Prop} (hgd : o.guard = none) (s x : Operand)
    (ho : o.op = .call { callee := .builtin .append, args := #[s, x], argTypes := #[35, 35] }) (base n c : Nat) (A : Option Addr) (xs : List (Int × Int)) (hs : a.eval s = .slice A n c) (hown : w.ownsRow base 30 2 (.slice A n c) n (flatL xs))
    (B : Option Addr) (m cx : Nat) (ys : List (Int × Int)) (hx : a.eval x = .slice B m cx) (hys : ys.length = m) (hR : RdF w B ys) (h64 : n + m ≤ 4096) (hbase : base ≤ w.heap.size)
    (h : ∀ A' c' w', w'.ownsRow base 30 2 (.slice A' (n + m) c') (n + m) (flatL (xs ++ ys)) → (∀ W0, Gr W0 w → W0.heap.size ≤ base → Gr W0 w') → wpList Try.prog ops Q rest (a.put o.dst (.slice A' (n + m) c')) w') : wpList Try.prog ops Q (o :: rest) a w := by
  obtain ⟨i0, hi, iz0, iz1, iz2⟩ : ∃ i, Try.prog.info? 30 = some i ∧ i.zero = some (fr 0 0) ∧ i.size = 2 ∧ i.bytes = 16 := ⟨_, rfl, rfl, rfl, rfl⟩
  by_cases hm : m = 0
  · have hy : ys = [] := List.length_eq_zero_iff.1 (by omega)
    subst hy
    subst hm
    exact wpList_append_zero hgd s x 35 ho 30 i0 Try.underlying35 hi A n c (own_le hown) B 0 cx rfl hs hx (h A c w (by simpa using hown) fun _ h _ => h)
  · obtain ⟨⟨p, q⟩, hp⟩ : ∃ y, ys[0]? = some y := ⟨ys[0]'(by omega), List.getElem?_eq_getElem _⟩
    obtain ⟨ad, rfl, _⟩ := hR 0 p q hp
    refine wpList_append_gr hgd s x 35 ho base 30 i0 (fr 0 0) 2 16 Try.underlying35 hi iz0 iz1 iz2 rfl (by decide) _ n _ hs hown ad m cx (flatL ys) hx (by rw [flatL_len, hys]) hR.news (fun u hu => ?_) (by omega) (by unfold maxLen; omega) (by omega) hbase ?_
    · unfold flatL at hu
      obtain ⟨z, _, hz⟩ := List.mem_flatMap.1 hu
      simp only [List.mem_cons, List.not_mem_nil, or_false] at hz
      rcases hz with rfl | rfl <;> rfl
    · intro v' w' own _ _ hgr
      obtain ⟨A', c', rfl⟩ := own_form own
      rw [← flatL_append2] at own
      exact h A' c' w' own hgr
theorem RdF.tail {w : World} {A : Option Addr} {xs : List (Int × Int)} (h : RdF w A xs) (k : Nat) : RdF w (A.map fun ad => ad.add (k * 2)) (xs.drop k) := fun j p q hj => by
  rw [List.getElem?_drop] at hj
  obtain ⟨ad, rfl, c1, c2⟩ := h _ p q hj
  rw [show (k + j) * 2 = k * 2 + j * 2 by omega, ← add_add2] at c1 c2
  exact ⟨_, rfl, c1, c2⟩
theorem RdF.take {w : World} {A : Option Addr} {xs : List (Int × Int)} (h : RdF w A xs) (k : Nat) : RdF w A (xs.take k) := fun j p q hj => by
  rw [List.getElem?_take] at hj
  split at hj
  · exact h j p q hj
  · cases hj
theorem own_some {w : World} {base sz n c : Nat} {e : TypeId} {A : Option Addr} {xs : List Value} (h : w.ownsRow base e sz (.slice A n c) n xs) (h0 : 0 < n) : ∃ ad, A = some ad := by
  rcases h.2 with ⟨_, h2⟩ | ⟨g, cap, cur, h1, _⟩
  · omega
  · injection h1 with e1 _ _
    exact ⟨_, e1⟩
/-! to put in its place -/
def insF (O : List (Int × Int)) (at' : Nat) (x : Int × Int) : List (Int × Int) := O.take at' ++ ([x] ++ O.drop at')
theorem insF_perm (O : List (Int × Int)) (k : Nat) (x : Int × Int) : (insF O k x).Perm (O ++ [x]) := by
  unfold insF
  have e : O ++ [x] = O.take k ++ (O.drop k ++ [x]) := by rw [← List.append_assoc, List.take_append_drop]
  rw [e]
  exact List.Perm.append_left _ List.perm_append_comm
theorem insF_sorted {O : List (Int × Int)} {k : Nat} {x : Int × Int} (h : O.Pairwise leF) (hp : ∀ y ∈ O, 0 < y.2) (hx : 0 < x.2) (h1 : ∀ i y, i < k → O[i]? = some y → leF y x) (h2 : ∀ y, O[k]? = some y → leF x y) : (insF O k x).Pairwise leF := by
  unfold insF
  have hO := h
  rw [← List.take_append_drop k O, List.pairwise_append] at hO
  obtain ⟨t1, t2, t3⟩ := hO
  rw [List.pairwise_append]
  have hd : ∀ y ∈ O.drop k, leF x y := fun y hy => by
    cases hdk : O.drop k with
    | nil => rw [hdk] at hy; cases hy
    | cons z r =>
      have hz : O[k]? = some z := by
        have : (O.drop k)[0]? = some z := by rw [hdk]; rfl
        rwa [List.getElem?_drop, Nat.add_zero] at this
      have hxz := h2 z hz
      rw [hdk] at hy t2
      rcases List.mem_cons.1 hy with rfl | hy'
      · exact hxz
      · have hzm := hp z (List.mem_of_getElem? hz)
        have hym : y ∈ O := List.mem_of_mem_drop (hdk ▸ hy)
        exact leF_trans hx hzm (hp y hym) hxz ((List.pairwise_cons.1 t2).1 y hy')
  refine ⟨t1, ?_, ?_⟩
  · rw [List.singleton_append, List.pairwise_cons]
    exact ⟨hd, t2⟩
  · intro y hy z hz
    rw [List.singleton_append] at hz
    have hyx : leF y x := by
      obtain ⟨i, hi⟩ := List.mem_iff_getElem?.1 hy
      rw [List.getElem?_take] at hi
      split at hi
      · exact h1 i y (by assumption) hi
      · cases hi
    rcases List.mem_cons.1 hz with rfl | hz'
    · exact hyx
    · exact t3 y hy z hz'
set_option maxRecDepth 20000 in
set_option maxHeartbeats 2000000 in
theorem sSortedF (A : Option Addr) (c : Nat) (xs : List (Int × Int)) (w : World) (X : Hid (RdF w A xs)) (hn : xs.length ≤ 64) (hall : ∀ x ∈ xs, okB x.1 x.2 = true) :
    Calls Try.prog 169 #[.slice A xs.length c] w fun e w' => ∃ S A' c', e = .returned (.slice A' xs.length c') ∧ S.Perm xs ∧ S.Pairwise leF ∧ w'.ownsRow w.heap.size 30 2 (.slice A' xs.length c') xs.length (flatL S) ∧ Gr w w' := by
  have HALL := hid hall; clear hall
  go_enter Try.func169, Try.ntmps169
  go_wp2_with fail
  go_loopw [3, 4] (fun v u wr => ∃ (k : Nat) (O : List (Int × Int)) (ao : Addr) (c' : Nat), u = .int .i64 (k : Int) ∧ v = .slice (some ao) k c' ∧ k ≤ xs.length ∧ O.Perm (xs.take k) ∧ O.Pairwise leF ∧ Gr w wr ∧ wr.ownsRow w.heap.size 30 2 (.slice (some ao) k c') k (flatL O)) (fun _ u _ => xs.length - (intOf u).toNat)
  case atStart => exact ⟨0, [], _, _, rfl, rfl, by omega, by simp, by simp, (Gr.refl _).al _, World.ownsRow_made _ #[] 0 (Nat.le_refl _) (by simp [maxLen]) (by simp)⟩
  case round =>
    obtain ⟨k, O, ao, c', rfl, rfl, hk, hper, hsor, hg, hown⟩ := hrel
    have GW := hid hg; have OWN := hid hown; have HPER := hid hper; have HSOR := hid hsor
    have hol : O.length = k := by rw [hper.length_eq, List.length_take]; omega
    have HOL := hid hol
    clear hg hown hper hsor hol
    by_cases hlt : k < xs.length
    · obtain ⟨⟨p, q⟩, hp⟩ : ∃ x, xs[k]? = some x := ⟨xs[k], List.getElem?_eq_getElem _⟩
      have HX := hid (HALL.out (p, q) (List.mem_of_getElem? hp))
      have HOK : Hid (∀ (i : Nat) (r s : Int), O[i]? = some (r, s) → okB r s = true) := hid fun i r s hi => HALL.out (r, s) (List.mem_of_mem_take (HPER.out.mem_iff.1 (List.mem_of_getElem? hi)))
      have HP := hid hp
      have RO := hid (RdF.of_ownF OWN.out)
      clear hp
      go_wp2_with fail
      obtain ⟨W4, hW4⟩ : ∃ W4, W4 = wr := ⟨_, rfl⟩
      subst hW4
      go_loopw [5] (fun u wi => ∃ (t : Nat), u = .int .i64 (t : Int) ∧ t ≤ k ∧ Gr W4 wi ∧ (∀ i y, i < t → O[i]? = some y → leF y (p, q))) (fun u _ => k - (intOf u).toNat)
      case atStart => exact ⟨0, rfl, by omega, Gr.refl _, fun i y hi => by omega⟩
      case round =>
        obtain ⟨t, rfl, ht, hgi, hle⟩ := hrel
        have GI := hid hgi; have HLE := hid hle
        clear hgi hle
        obtain ⟨ax, hax, x1, x2⟩ := (X.out.keep (GW.out.trans GI.out)) k p q HP.out
        have X1 := hid x1; have X2 := hid x2; have HAX := hid hax
        clear x1 x2
        by_cases htk : t < k
        · obtain ⟨⟨r, s⟩, hr⟩ : ∃ y, O[t]? = some y := ⟨O[t]'(by rw [HOL.out]; exact htk), List.getElem?_eq_getElem _⟩
          obtain ⟨ao2, hao, o1, o2⟩ := (RO.out.keep GI.out) t r s hr
          cases hao
          have O1 := hid o1; have O2 := hid o2
          obtain ⟨q1, q2, q3, q4⟩ := okB_bd HX.out
          obtain ⟨s1, s2, s3, s4⟩ := okB_bd (HOK.out t r s hr)
          obtain ⟨m1, m2⟩ := mul_bd (x := r) (y := q) s3 s4 (by omega) q2
          obtain ⟨m3, m4⟩ := mul_bd (x := p) (y := s) q3 q4 (by omega) s2
          have HC := hid fun w => scmp r s p q w m1 m2 m3 m4
          have HR := hid hr
          clear o1 o2 q1 q2 q3 q4 s1 s2 s3 s4 m1 m2 m3 m4 hr
          subst hax
          by_cases hcm : cmpI r s p q ≤ 0
          · have hc2 : leF (r, s) (p, q) := by
              unfold leF
              have : ¬ p * s < r * q := fun h => by unfold cmpI at hcm; rw [if_neg (by omega), if_pos h] at hcm; omega
              show r * q ≤ p * s
              omega
            have HC2 := hid hc2
            obtain ⟨z, hz⟩ : ∃ z, cmpI r s p q = z := ⟨_, rfl⟩
            rw [hz] at hcm HC
            clear hc2 hz
            go_wp2_with fail
            refine wp_reg0 15 (by kernel_rfl) (by kernel_rfl) ?_
            apply Exists.intro
            refine ⟨fun wb hb => ?_, ?_⟩
            · have _ := hb.atF X1.out; have _ := hb.atF X2.out; have _ := hb.atF O1.out; have _ := hb.atF O2.out
              simp only [headOps, List.contains, List.elem, reduceIte, Bool.false_eq_true]
              repeat (first | go_big_quiet_step (first | (go_at_call 220; exact Calls.of_gr (HC.out _))) | quiet_step (fail))
              exact wpQuiet_nil rfl
            intro w5 hg5
            have G5 := hid (GI.out.trans hg5)
            clear hg5
            go_wp2_with fail
            refine ⟨⟨t + 1, by simp, by omega, G5.out, fun i y hi hy => ?_⟩, by simp [intOf]; omega⟩
            by_cases hit : i = t
            · subst hit
              rw [HR.out] at hy
              cases hy
              exact HC2.out
            · exact HLE.out i y (by omega) hy
          · have hc2 : leF (p, q) (r, s) := by
              unfold leF
              have : ¬ r * q < p * s := fun h => by unfold cmpI at hcm; rw [if_pos h] at hcm; omega
              show p * s ≤ r * q
              omega
            have HC2 := hid hc2
            obtain ⟨z, hz⟩ : ∃ z, cmpI r s p q = z := ⟨_, rfl⟩
            rw [hz] at hcm HC
            clear hc2 hz
            go_wp2_with fail
            refine wp_reg0 15 (by kernel_rfl) (by kernel_rfl) ?_
            apply Exists.intro
            refine ⟨fun wb hb => ?_, ?_⟩
            · have _ := hb.atF X1.out; have _ := hb.atF X2.out; have _ := hb.atF O1.out; have _ := hb.atF O2.out
              simp only [headOps, List.contains, List.elem, reduceIte, Bool.false_eq_true]
              repeat (first | go_big_quiet_step (first | (go_at_call 220; exact Calls.of_gr (HC.out _))) | quiet_step (fail))
              exact wpQuiet_nil rfl
            intro w5 hg5
            have G5 := hid (GI.out.trans hg5)
            clear hg5
            go_wp2_with fail
            have H2 : Hid (∀ y, O[t]? = some y → leF (p, q) y) := hid fun y hy => by rw [HR.out] at hy; cases hy; exact HC2.out
            obtain ⟨ax2, hax2, y1, y2⟩ := (X.out.keep ((GW.out.trans G5.out))) k p q HP.out
            cases hax2
            have Y1 := hid y1; have Y2 := hid y2
            clear y1 y2 HC HC2 HR hcm O1 O2 X1 X2 HAX
            have hkc := own_le OWN.out
            refine wp_regA (b0 := .cells #[.int .i64 p, .int .i64 q] 30) (fun b => .slice (some ⟨b, 0, none⟩) 1 1) 8 4 36 (by kernel_rfl) (by kernel_rfl) rfl rfl (by simp) ?_
            apply Exists.intro
            refine ⟨fun wb hb => ?_, fun w' => ?_, ?_⟩
            · have _ := (Gr.trans G5.out hb); have _ := hb.atF Y1.out; have _ := hb.atF Y2.out
              simp only [headOps, List.contains, List.elem, Nat.reduceAdd, Nat.reduceBEq, reduceIte, Bool.false_eq_true, dumOp]
              repeat (first | go_big_quiet_step (first | (fail)) | quiet_step (fail))
              exact wpQuiet_nil rfl
            · kernel_rfl
            intro w6 nb hg6 hb6 xb
            have RO6 := hid (RO.out.keep ((G5.out).trans hg6))
            simp only [List.drop_succ_cons, List.drop_zero]
            refine wpList_appF rfl _ _ rfl w5.heap.size 1 1 (some ⟨nb, 0, none⟩) [(p, q)] rfl (own_closeF (ys := [(p, q)]) (rest := []) hb6 xb (by simp [maxLen]) (by simp)) (some (ao.add (t * 2))) (k - t) (c' - t) (O.drop t) rfl (by rw [List.length_drop, HOL.out]) (RO6.out.tail t) (by omega) hg6.size ?_
            intro A2 c2 w7 own7 hgr7
            have G7 := hid (hgr7 w5 hg6 (Nat.le_refl _)); have R7 := hid (RdF.of_ownF own7)
            have RO7 := hid (RO.out.keep ((G5.out).trans G7.out))
            clear hg6 hb6 xb own7 hgr7 RO6
            go_wp2_with (at_builtin; refine (wpList_appF rfl _ _ rfl w7.heap.size 0 0 (some ⟨w7.heap.size, 0, none⟩) [] rfl (World.ownsRow_made _ #[] 0 (Nat.le_refl _) (by simp [maxLen]) (by simp)) (some ao) t c' (O.take t) rfl (by rw [List.length_take, HOL.out]; omega) ((RO7.out.keep ((Gr.refl _).al _)).take t) (by omega) (by simp) ?_))
            intro A3 c3 w8 own8 hgr8
            have G8 := hid (hgr8 w7 ((Gr.refl _).al _) (Nat.le_refl _))
            try simp only [List.nil_append, Nat.zero_add] at own8 ⊢
            go_wp2_with (at_builtin; refine (wpList_appF rfl _ _ rfl w7.heap.size t c3 A3 (O.take t) rfl own8 A2 (1 + (k - t)) c2 ([(p, q)] ++ O.drop t) rfl (by simp [HOL.out]; omega) (R7.out.keep G8.out) (by omega) G8.out.size ?_))
            intro A4 c4 w9 own9 hgr9
            have G9 := hid (hgr9 w7 G8.out (Nat.le_refl _))
            rw [show t + (1 + (k - t)) = k + 1 by omega] at own9 ⊢
            have G10 := hid (((GW.out.trans G5.out).trans G7.out).trans G9.out)
            obtain ⟨a4, rfl⟩ := own_some own9 (by omega)
            have O9 := hid (own_base own9 (((GW.out.trans G5.out).trans G7.out).size))
            clear own8 own9 hgr8 hgr9
            go_wp2_with fail
            refine ⟨⟨k + 1, insF O t (p, q), a4, c4, by simp, rfl, by omega, ?_, ?_, G10.out, O9.out⟩, by simp [intOf]; omega⟩
            · refine (insF_perm O t (p, q)).trans ?_
              rw [List.take_add_one, HP.out]
              exact HPER.out.append_right _
            · exact insF_sorted HSOR.out (fun y hy => by obtain ⟨i, hi⟩ := List.mem_iff_getElem?.1 hy; have := (okB_bd (HOK.out i y.1 y.2 hi)).1; omega) (by have := (okB_bd HX.out).1; exact Int.lt_of_lt_of_le (by omega) this) (fun i y hi hy => HLE.out i y hi hy) H2.out
        · have hte : t = k := by omega
          subst hte
          have H2 : Hid (∀ y, O[t]? = some y → leF (p, q) y) := hid fun y hy => by rw [List.getElem?_eq_none (by rw [HOL.out]; exact Nat.le_refl _)] at hy; cases hy
          subst hax
          clear ht htk
          go_wp2_with fail
          refine wp_reg0 15 (by kernel_rfl) (by kernel_rfl) ?_
          apply Exists.intro
          refine ⟨fun wb hb => ?_, ?_⟩
          · simp only [headOps, List.contains, List.elem, reduceIte, Bool.false_eq_true]
            repeat (first | go_big_quiet_step (first | (fail)) | quiet_step (fail))
            exact wpQuiet_nil rfl
          intro w5 hg5
          have G5 := hid (GI.out.trans hg5)
          clear hg5
          obtain ⟨ax2, hax2, y1, y2⟩ := (X.out.keep ((GW.out.trans G5.out))) t p q HP.out
          cases hax2
          have Y1 := hid y1; have Y2 := hid y2
          clear y1 y2 X1 X2 HAX
          go_wp2_with fail
          have hkc := own_le OWN.out
          have hdr : O.drop t = [] := List.drop_eq_nil_of_le (by rw [HOL.out]; exact Nat.le_refl _)
          have htk : O.take t = O := List.take_of_length_le (by rw [HOL.out]; exact Nat.le_refl _)
          have HDR := hid hdr; have HTK := hid htk
          clear hdr htk
          refine wp_regA (b0 := .cells #[.int .i64 p, .int .i64 q] 30) (fun b => .slice (some ⟨b, 0, none⟩) 1 1) 8 4 36 (by kernel_rfl) (by kernel_rfl) rfl rfl (by simp) ?_
          apply Exists.intro
          refine ⟨fun wb hb => ?_, fun w' => ?_, ?_⟩
          · have _ := hb.atF Y1.out; have _ := hb.atF Y2.out
            simp only [headOps, List.contains, List.elem, Nat.reduceAdd, Nat.reduceBEq, reduceIte, Bool.false_eq_true, dumOp]
            repeat (first | go_big_quiet_step (first | (fail)) | quiet_step (fail))
            exact wpQuiet_nil rfl
          · kernel_rfl
          intro w6 nb hg6 hb6 xb
          simp only [List.drop_succ_cons, List.drop_zero]
          refine wpList_appF rfl _ _ rfl w5.heap.size 1 1 (some ⟨nb, 0, none⟩) [(p, q)] rfl (own_closeF (ys := [(p, q)]) (rest := []) hb6 xb (by simp [maxLen]) (by simp)) (if c' = t then some ao else some (ao.add (t * 2))) 0 (c' - t) [] rfl rfl RdF.nil (by omega) hg6.size ?_
          intro A2 c2 w7 own7 hgr7
          have G7 := hid (hgr7 w5 hg6 (Nat.le_refl _)); have R7 := hid (RdF.of_ownF own7)
          generalize (if c' = t then some ao else some (ao.add (t * 2))) = B
          have RO7 := hid (RO.out.keep ((G5.out).trans G7.out))
          clear hg6 hb6 xb own7 hgr7
          go_wp2_with (at_builtin; refine (wpList_appF rfl _ _ rfl w7.heap.size 0 0 (some ⟨w7.heap.size, 0, none⟩) [] rfl (World.ownsRow_made _ #[] 0 (Nat.le_refl _) (by simp [maxLen]) (by simp)) (some ao) t c' O rfl HOL.out (RO7.out.keep ((Gr.refl _).al _)) (by omega) (by simp) ?_))
          intro A3 c3 w8 own8 hgr8
          have G8 := hid (hgr8 w7 ((Gr.refl _).al _) (Nat.le_refl _))
          try simp only [List.nil_append, Nat.zero_add] at own8 ⊢
          go_wp2_with (at_builtin; refine (wpList_appF rfl _ _ rfl w7.heap.size t c3 A3 O rfl own8 A2 1 c2 [(p, q)] rfl rfl (R7.out.keep G8.out) (by omega) G8.out.size ?_))
          intro A4 c4 w9 own9 hgr9
          have G9 := hid (hgr9 w7 G8.out (Nat.le_refl _))
          have G10 := hid (((GW.out.trans G5.out).trans G7.out).trans G9.out)
          obtain ⟨a4, rfl⟩ := own_some own9 (by omega)
          have O9 := hid (own_base own9 (((GW.out.trans G5.out).trans G7.out).size))
          clear own8 own9 hgr8 hgr9
          go_wp2_with fail
          have hins : insF O t (p, q) = O ++ [(p, q)] := by unfold insF; rw [HDR.out, HTK.out]; rfl
          refine ⟨⟨t + 1, insF O t (p, q), a4, c4, by simp, rfl, by omega, ?_, ?_, G10.out, by rw [hins]; exact O9.out⟩, by simp [intOf]; omega⟩
          · refine (insF_perm O t (p, q)).trans ?_
            rw [List.take_add_one, HP.out]
            exact HPER.out.append_right _
          · exact insF_sorted HSOR.out (fun y hy => by obtain ⟨i, hi⟩ := List.mem_iff_getElem?.1 hy; have := (okB_bd (HOK.out i y.1 y.2 hi)).1; omega) (by have := (okB_bd HX.out).1; exact Int.lt_of_lt_of_le (by omega) this) (fun i y hi hy => HLE.out i y hi hy) H2.out
    · have hke : k = xs.length := by omega
      subst hke
      have h1 := HPER.out
      rw [List.take_length] at h1
      have H1 := hid h1
      clear h1
      go_wp2_with fail
      go_ret
      exact ⟨O, some ao, c', rfl, H1.out, HSOR.out, OWN.out, GW.out⟩
set_option maxRecDepth 20000 in
set_option maxHeartbeats 1000000 in
/-- spec.l01Sum -/
theorem ssumR (Ad : Option Addr) (cc : Nat) (xs : List (Int × Int)) (w : World) (X : Hid (RdF w Ad xs)) (hn : xs.length ≤ 1048576) (hall : xs.all (fun x => okB x.1 x.2) = true) :
    Calls Try.prog 117 #[.slice Ad xs.length cc] w fun e w' => e = .returned (smV (sm xs 0 1)) ∧ Gr w w' := by
  obtain ⟨r, hr⟩ : ∃ r, sm xs 0 1 = r := ⟨_, rfl⟩
  rw [hr]
  have HR := hid hr; clear hr
  have HALL := hid hall; clear hall
  go_enter Try.func117, Try.ntmps117
  go_wp2_with fail
  refine (swhole1 _ _).mono ?_
  rintro e w1 ⟨rfl, hg1⟩
  obtain ⟨x1_0, hz1, g1⟩ := alloc1 hg1
  obtain ⟨_, _⟩ := cells2 x1_0
  have _ := fz x1_0
  have _ := ltb x1_0
  have X1_0 := hid x1_0; clear x1_0
  have G1 := hid (g1)
  clear hg1 g1
  go_wp2_with fail
  go_loopw [5] (fun u wr => ∃ (k : Nat) (P Q : Int), u = .int .i64 (k : Int) ∧ k ≤ xs.length ∧ Gr w wr ∧ wr.heap[w.heap.size]? = some (.cells #[.int .i64 0, .int .i64 0] 30) ∧ wr.heap[w1.heap.size]? = some (.cells #[.int .i64 P, .int .i64 Q] 30) ∧ okB P Q = true ∧ sm (xs.drop k) P Q = r) (fun u _ => xs.length - (intOf u).toNat)
  case atStart => exact ⟨0, 0, 1, rfl, by omega, (G1.out).al _, ((Gr.refl _).al _).keep X1_0.out, (alloc1 (Gr.refl _)).1, ok01, HR.out⟩
  case round =>
    obtain ⟨k, P, Q, rfl, hk, g0, y2, y3, hok, hs⟩ := hrel
    have GW := hid g0; have Y2 := hid y2; have Y3 := hid y3; have HOK := hid hok
    clear g0 y2 y3 hok
    by_cases hlt : k < xs.length
    · obtain ⟨⟨p, q⟩, hpq⟩ : ∃ pq, xs[k]? = some pq := ⟨xs[k], List.getElem?_eq_getElem _⟩
      have hx := hid (all_get hpq HALL.out)
      obtain ⟨ad, rfl, c1, c2⟩ := (X.out.keep GW.out) k p q hpq
      have D1 := hid c1; have D2 := hid c2
      clear c1 c2
      rw [sm_step hpq] at hs
      cases hb2 : okB (redP (P*q+p*Q) (Q*q)) (redQ (P*q+p*Q) (Q*q)) with
      | true =>
        rw [hb2, if_pos rfl] at hs
        have HB := hid hb2; have HS := hid hs
        clear hb2 hs hpq
        obtain ⟨P2, eP⟩ : ∃ P2, redP (P*q+p*Q) (Q*q) = P2 := ⟨_, rfl⟩
        obtain ⟨Q2, eQ⟩ : ∃ Q2, redQ (P*q+p*Q) (Q*q) = Q2 := ⟨_, rfl⟩
        have AD : ∀ w, Calls Try.prog 82 #[fr P Q, fr p q] w fun e w' => e = .returned (.tuple #[fr P2 Q2, .int .i64 0]) ∧ Gr w w' := fun w => eP ▸ eQ ▸ sadd_t P Q p q w HOK.out hx.out HB.out
        have HB2 : okB P2 Q2 = true := eP ▸ eQ ▸ HB.out
        have HS2 : sm (xs.drop (k + 1)) P2 Q2 = r := eP ▸ eQ ▸ HS.out
        have AD := hid AD; have HB2 := hid HB2; have HS2 := hid HS2
        clear eP eQ HB HS
        obtain ⟨_, _⟩ := cells2 Y2.out
        have _ := fz Y2.out
        have _ := ltb Y2.out
        obtain ⟨_, _⟩ := cells2 Y3.out
        have _ := fz Y3.out
        have _ := ltb Y3.out
        go_wp2_with fail
        refine wp_reg1s #[.int .i64 0, .int .i64 0] 11 9 6 10 22 (by kernel_rfl) (by kernel_rfl) rfl rfl (by simp) rfl rfl (by decide) (fun _ _ => by kernel_rfl) (by kernel_rfl) ?_
        apply Exists.intro; apply Exists.intro
        refine ⟨fun wb hb => ?_, ?_⟩
        · obtain ⟨_, _⟩ := hb.at2 Y2.out
          obtain ⟨_, _⟩ := hb.at2 Y3.out
          have _ := hb.atF D1.out; have _ := hb.atF D2.out
          simp only [headOps, List.contains, List.elem, Nat.reduceAdd, Nat.reduceBEq, reduceIte, Bool.false_eq_true, dumOp]
          repeat (first | go_big_quiet_step (first | (go_at_call 82; exact Calls.of_gr (AD.out _))) | quiet_step (fail))
          exact wpQuiet_nil rfl
        refine ⟨rfl, ⟨rfl, by simp [Value.oneCell']⟩, fun w6 b6 hg6 _ xb6 => ?_⟩
        have x6_1 := hg6.keep Y2.out
        have x6_2 := hg6.keep Y3.out
        obtain ⟨_, _⟩ := cells2 x6_1
        have _ := fz x6_1
        have _ := ltb x6_1
        obtain ⟨_, _⟩ := cells2 x6_2
        have _ := fz x6_2
        have _ := ltb x6_2
        obtain ⟨_, _⟩ := cells2 xb6
        have _ := fz xb6
        have _ := ltb xb6
        have X6_1 := hid x6_1; clear x6_1
        have X6_2 := hid x6_2; clear x6_2
        have Xb6 := hid xb6; clear xb6
        have G6 := hid (GW.out.trans hg6)
        clear hg6
        go_wp2_with fail
        exact ⟨⟨k + 1, P2, Q2, by simp, by omega, (G6.out.setCell (by simp; omega) _).setCell (by simp; omega) _, set2_old X6_1.out (by omega), set2_new X6_2.out, HB2.out, HS2.out⟩, by simp [intOf]; omega⟩
      | false =>
        rw [hb2, if_neg (by decide)] at hs
        have HS := hid hs
        have AD : ∀ w, Calls Try.prog 82 #[fr P Q, fr p q] w fun e w' => e = .returned (.tuple #[fr 0 0, .int .i64 3]) ∧ Gr w w' := fun w => sadd_f P Q p q w HOK.out hx.out hb2
        have AD := hid AD
        clear hb2 hs hpq
        obtain ⟨_, _⟩ := cells2 Y2.out
        have _ := fz Y2.out
        have _ := ltb Y2.out
        obtain ⟨_, _⟩ := cells2 Y3.out
        have _ := fz Y3.out
        have _ := ltb Y3.out
        go_wp2_with fail
        refine wp_reg1s #[.int .i64 0, .int .i64 0] 11 9 6 10 22 (by kernel_rfl) (by kernel_rfl) rfl rfl (by simp) rfl rfl (by decide) (fun _ _ => by kernel_rfl) (by kernel_rfl) ?_
        apply Exists.intro; apply Exists.intro
        refine ⟨fun wb hb => ?_, ?_⟩
        · obtain ⟨_, _⟩ := hb.at2 Y2.out
          obtain ⟨_, _⟩ := hb.at2 Y3.out
          have _ := hb.atF D1.out; have _ := hb.atF D2.out
          simp only [headOps, List.contains, List.elem, Nat.reduceAdd, Nat.reduceBEq, reduceIte, Bool.false_eq_true, dumOp]
          repeat (first | go_big_quiet_step (first | (go_at_call 82; exact Calls.of_gr (AD.out _))) | quiet_step (fail))
          exact wpQuiet_nil rfl
        refine ⟨rfl, ⟨rfl, by simp [Value.oneCell']⟩, fun w6 b6 hg6 _ xb6 => ?_⟩
        have x6_1 := hg6.keep Y2.out
        have x6_2 := hg6.keep Y3.out
        obtain ⟨_, _⟩ := cells2 x6_1
        have _ := fz x6_1
        have _ := ltb x6_1
        obtain ⟨_, _⟩ := cells2 x6_2
        have _ := fz x6_2
        have _ := ltb x6_2
        obtain ⟨_, _⟩ := cells2 xb6
        have _ := fz xb6
        have _ := ltb xb6
        have X6_1 := hid x6_1; clear x6_1
        have X6_2 := hid x6_2; clear x6_2
        have Xb6 := hid xb6; clear xb6
        have G6 := hid (GW.out.trans hg6)
        clear hg6
        go_wp2
        refine bodyPost_ret (v := .tuple #[fr 0 0, .int .i64 3]) (by simp [results, Try.results117, go_sem, *]) rfl ⟨(by rw [← HS.out]; rfl), ?_⟩
        exact ((G6.out).setCell (by simp <;> omega) _).setCell (by simp <;> omega) _
    · have hke : xs.drop k = [] := List.drop_eq_nil_of_le (by omega)
      rw [hke] at hs
      have HS := hid hs; clear hs hke
      obtain ⟨_, _⟩ := cells2 Y2.out
      have _ := fz Y2.out
      have _ := ltb Y2.out
      obtain ⟨_, _⟩ := cells2 Y3.out
      have _ := fz Y3.out
      have _ := ltb Y3.out
      go_wp2
      refine bodyPost_ret (v := .tuple #[fr P Q, .int .i64 0]) (by simp [results, Try.results117, go_sem, *]) rfl ⟨(by rw [← HS.out]; rfl), ?_⟩
      exact ((GW.out).setCell (by simp <;> omega) _).setCell (by simp <;> omega) _
set_option maxRecDepth 20000 in
set_option maxHeartbeats 400000 in
/-- spec.l01Mean, where the sum can't be told -/
theorem smeanR_0 (Ad : Option Addr) (cc : Nat) (xs : List (Int × Int)) (w : World) (X : Hid (RdF w Ad xs))
    (hs : ∀ w, Hid (RdF w Ad xs) → Calls Try.prog 117 #[.slice Ad xs.length cc] w fun e w' => e = .returned (.tuple #[fr 0 0, .int .i64 3]) ∧ Gr w w') :
    Calls Try.prog 170 #[.slice Ad xs.length cc] w fun e w' => e = .returned (.tuple #[fr 0 0, .int .i64 3]) ∧ Gr w w' := by
  have HS := hid hs; clear hs
  go_enter Try.func170, Try.ntmps170
  go_wp2_with fail
  refine (HS.out _ (hid (X.out.keep ((Gr.refl w).al _)))).mono ?_
  rintro e w1 ⟨rfl, hg1⟩
  obtain ⟨x1_0, hz1, g1⟩ := alloc1 hg1
  obtain ⟨_, _⟩ := cells2 x1_0
  have _ := fz x1_0
  have _ := ltb x1_0
  have X1_0 := hid x1_0; clear x1_0
  have G1 := hid (g1)
  clear hg1 g1
  go_wp2
  refine bodyPost_ret (v := .tuple #[fr 0 0, .int .i64 3]) (by simp [results, Try.results170, go_sem, *]) rfl ⟨rfl, ?_⟩
  exact (((G1.out).setCell (by simp <;> omega) _).setCell (by simp <;> omega) _).al _
set_option maxRecDepth 20000 in
set_option maxHeartbeats 400000 in
/-- spec.l01Mean, where it can -/
theorem smeanR_1 (Ad : Option Addr) (cc n : Nat) (xs : List (Int × Int)) (A B P Q C : Int) (w : World) (X : Hid (RdF w Ad xs))
    (hs : ∀ w, Hid (RdF w Ad xs) → Calls Try.prog 117 #[.slice Ad n cc] w fun e w' => e = .returned (.tuple #[fr A B, .int .i64 0]) ∧ Gr w w')
    (hd : ∀ w, Calls Try.prog 144 #[fr A B, fr (n : Int) 1] w fun e w' => e = .returned (.tuple #[fr P Q, .int .i64 C]) ∧ Gr w w') :
    Calls Try.prog 170 #[.slice Ad n cc] w fun e w' => e = .returned (.tuple #[fr P Q, .int .i64 C]) ∧ Gr w w' := by
  have HS := hid hs; have HD := hid hd; clear hs hd
  go_enter Try.func170, Try.ntmps170
  go_wp2_with fail
  refine (HS.out _ (hid (X.out.keep ((Gr.refl w).al _)))).mono ?_
  rintro e w1 ⟨rfl, hg1⟩
  obtain ⟨x1_0, hz1, g1⟩ := alloc1 hg1
  obtain ⟨_, _⟩ := cells2 x1_0
  have _ := fz x1_0
  have _ := ltb x1_0
  have X1_0 := hid x1_0; clear x1_0
  have G1 := hid (g1)
  clear hg1 g1
  go_wp2_with fail
  refine wp_reg0 7 (by kernel_rfl) (by kernel_rfl) ?_
  apply Exists.intro
  refine ⟨fun wb hb => ?_, ?_⟩
  · obtain ⟨_, _⟩ := hb.at2 (((Gr.refl _).al _).keep X1_0.out)
    obtain ⟨_, _⟩ := hb.at2 (alloc1 (Gr.refl _)).1
    simp only [headOps, List.contains, List.elem, reduceIte, Bool.false_eq_true]
    repeat (first | go_big_quiet_step (first | (go_at_call 123; exact Calls.of_gr (swhole1 _ _)) | (go_at_call 144; exact Calls.of_gr (HD.out _))) | quiet_step (fail))
    exact wpQuiet_nil rfl
  intro w2 hg2
  obtain ⟨x2_0, hz2, g2⟩ := alloc1 hg2
  have x2_1 := g2.keep X1_0.out
  obtain ⟨_, _⟩ := cells2 x2_1
  have _ := fz x2_1
  have _ := ltb x2_1
  obtain ⟨_, _⟩ := cells2 x2_0
  have _ := fz x2_0
  have _ := ltb x2_0
  have X2_1 := hid x2_1; clear x2_1
  have X2_0 := hid x2_0; clear x2_0
  have G2 := hid (G1.out.trans g2)
  clear hg2 g2
  go_wp2
  refine bodyPost_ret (v := .tuple #[fr P Q, .int .i64 C]) (by simp [results, Try.results170, go_sem, *]) rfl ⟨rfl, ?_⟩
  exact ((G2.out).setCell (by simp <;> omega) _).setCell (by simp <;> omega) _
theorem sMeanR (Ad : Option Addr) (cc : Nat) (xs : List (Int × Int)) (P Q C : Int) (w : World) (X : Hid (RdF w Ad xs)) (n1 : 1 ≤ (xs.length : Int)) (n2 : (xs.length : Int) ≤ 64) (hall : xs.all (fun x => okB x.1 x.2) = true) (hv : smV (mn xs.length (sm xs 0 1)) = .tuple #[fr P Q, .int .i64 C]) :
    Calls Try.prog 170 #[.slice Ad xs.length cc] w fun e w' => e = .returned (.tuple #[fr P Q, .int .i64 C]) ∧ Gr w w' := by
  have SM : ∀ w, Hid (RdF w Ad xs) → Calls Try.prog 117 #[.slice Ad xs.length cc] w fun e w' => e = .returned (smV (sm xs 0 1)) ∧ Gr w w' := fun w X => ssumR Ad cc xs w X (by omega) hall
  rw [← hv]
  cases hs : sm xs 0 1 with
  | some r =>
    obtain ⟨A, B⟩ := r
    rw [hs] at SM
    have hAB := sm_ok xs 0 1 A B ok01 hs
    cases hk : okB (meP xs.length A B) (meQ xs.length A B) with
    | true =>
      have e : mn xs.length (some (A, B)) = some (meP xs.length A B, meQ xs.length A B) := if_pos hk
      rw [e]
      exact smeanR_1 Ad cc xs.length xs A B _ _ 0 w X SM fun w => mdiv_t A B _ 1 w hAB (ok_count n1 n2) (by omega) hk
    | false =>
      have e : mn xs.length (some (A, B)) = none := if_neg (by rw [hk]; decide)
      rw [e]
      exact smeanR_1 Ad cc xs.length xs A B _ _ 3 w X SM fun w => mdiv_f A B _ 1 w hAB (ok_count n1 n2) (by omega) hk
  | none =>
    rw [hs] at SM
    exact smeanR_0 Ad cc xs w X SM
/-! the middle -/
set_option maxRecDepth 20000 in
set_option maxHeartbeats 1000000 in
theorem smid_odd (A : Option Addr) (c : Nat) (xs S : List (Int × Int)) (w : World) (X : Hid (RdF w A xs)) (hn : xs.length ≤ 64) (hall : ∀ x ∈ xs, okB x.1 x.2 = true) (hp : S.Perm xs) (hs : S.Pairwise leF) (ho : xs.length % 2 = 1) (p q : Int) (hm : S[xs.length / 2]? = some (p, q)) :
    Calls Try.prog 95 #[.slice A xs.length c] w fun e w' => e = .returned (.tuple #[fr p q, .int .i64 0]) ∧ Gr w w' := by
  have HS := hid fun (w : World) (X : Hid (RdF w A xs)) => sSortedF A c xs w X hn hall
  have HU := hid fun (S' : List (Int × Int)) (hp' : S'.Perm xs) (hs' : S'.Pairwise leF) => leF_unique (fun x hx => hall x (hp'.mem_iff.1 hx)) (hp'.trans hp.symm) hs' hs
  have e1 : (xs.length : Int).tmod 2 = 1 := by rw [Int.tmod_eq_emod_of_nonneg (by omega)]; omega
  have e2 : (xs.length : Int).tdiv 2 = ((xs.length / 2 : Nat) : Int) := by rw [Int.tdiv_eq_ediv_of_nonneg (by omega)]; omega
  have hlt : xs.length / 2 < xs.length := by omega
  have HM := hid hm
  obtain ⟨h, hh⟩ : ∃ h, xs.length / 2 = h := ⟨_, rfl⟩
  rw [hh] at e2 hlt HM
  clear hall hp hs hm hh ho
  go_enter Try.func95, Try.ntmps95
  go_wp2_with fail
  refine (HS.out _ (hid (X.out.keep ((Gr.refl w).al _)))).mono ?_
  rintro e w1 ⟨S', A', c', rfl, hp', hs', own, hg⟩
  have hS := HU.out S' hp' hs'
  subst hS
  have RS := hid (RdF.of_ownF own)
  obtain ⟨x0, _, G1⟩ := alloc1 hg
  obtain ⟨_, _⟩ := cells2 x0
  have _ := fz x0
  have _ := ltb x0
  have G1 := hid G1
  obtain ⟨ad, rfl, c1, c2⟩ := RS.out h p q HM.out
  clear hg x0 own hp' hs'
  go_wp2_with fail
  refine bodyPost_ret (v := .tuple #[fr p q, .int .i64 0]) (by simp [results, Try.results95, go_sem, *]) rfl ⟨rfl, ?_⟩
  exact (G1.out.setCell (by simp) _).setCell (by simp) _
set_option maxRecDepth 20000 in
set_option maxHeartbeats 1000000 in
theorem smid_even (A : Option Addr) (c : Nat) (xs S : List (Int × Int)) (w : World) (X : Hid (RdF w A xs)) (h0 : 0 < xs.length) (hn : xs.length ≤ 64) (hall : ∀ x ∈ xs, okB x.1 x.2 = true) (hp : S.Perm xs) (hs : S.Pairwise leF) (ho : xs.length % 2 = 0) (h : Nat) (hh : xs.length = 2 * (h + 1)) (x y : Int × Int) (hx : S[h]? = some x) (hy : S[h + 1]? = some y) (P Q C : Int) (hv : smV (mn (2 : Nat) (sm [x, y] 0 1)) = .tuple #[fr P Q, .int .i64 C]) :
    Calls Try.prog 95 #[.slice A xs.length c] w fun e w' => e = .returned (.tuple #[fr P Q, .int .i64 C]) ∧ Gr w w' := by
  have HS := hid fun (w : World) (X : Hid (RdF w A xs)) => sSortedF A c xs w X hn hall
  have HU := hid fun (S' : List (Int × Int)) (hp' : S'.Perm xs) (hs' : S'.Pairwise leF) => leF_unique (fun x hx => hall x (hp'.mem_iff.1 hx)) (hp'.trans hp.symm) hs' hs
  have hok : ∀ z ∈ S, okB z.1 z.2 = true := fun z hz => hall z (hp.mem_iff.1 hz)
  have HM2 := hid fun (A : Option Addr) (c : Nat) (w : World) (X : Hid (RdF w A [x, y])) => sMeanR A c [x, y] P Q C w X (by simp) (by simp) (by simp [hok x (List.mem_of_getElem? hx), hok y (List.mem_of_getElem? hy)]) hv
  have e1 : (xs.length : Int).tmod 2 = 0 := by rw [Int.tmod_eq_emod_of_nonneg (by omega)]; omega
  have e2 : (xs.length : Int).tdiv 2 = (h : Int) + 1 := by rw [Int.tdiv_eq_ediv_of_nonneg (by omega)]; omega
  have hl1 : h + 2 ≤ xs.length := by omega
  have HX := hid hx; have HY := hid hy
  have hSl : S.length = xs.length := hp.length_eq
  have HSL := hid hSl
  clear hall hp hs hx hy ho hok hSl hh hv
  go_enter Try.func95, Try.ntmps95
  go_wp2_with fail
  refine (HS.out _ (hid (X.out.keep ((Gr.refl w).al _)))).mono ?_
  rintro e w1 ⟨S', A', c', rfl, hp', hs', own, hg⟩
  have hS := HU.out S' hp' hs'
  subst hS
  have own' := own
  rw [← HSL.out] at own'
  obtain ⟨g, rest, rfl, _, hg1, _, _⟩ := own_openF own' (by rw [HSL.out]; exact h0)
  have hle := own_le own
  obtain ⟨x0, _, G1⟩ := alloc1 hg
  obtain ⟨_, _⟩ := cells2 x0
  have _ := fz x0
  have _ := ltb x0
  have G1 := hid G1; have X1 := hid hg1; have X0 := hid x0
  clear hg x0 own own' hp' hs' hg1
  go_wp2_with fail
  have h2 : h + 1 + 1 - h = 2 := by omega
  rw [h2]
  have R : RdF w1 (some ⟨g, h * 2, none⟩) [x, y] := rd_two X1.out HX.out HY.out
  refine (HM2.out _ _ _ (hid R)).mono ?_
  rintro e w2 ⟨rfl, hg2⟩
  have X2 := hid (hg2.keep X0.out); have G2 := hid (G1.out.trans hg2)
  clear hg2 R
  obtain ⟨_, _⟩ := cells2 X2.out
  have _ := fz X2.out
  have _ := ltb X2.out
  go_wp2_with fail
  refine bodyPost_ret (v := .tuple #[fr P Q, .int .i64 C]) (by simp [results, Try.results95, go_sem, *]) rfl ⟨rfl, ?_⟩
  exact (G2.out.setCell (by simp) _).setCell (by simp) _
theorem smiddle (A : Option Addr) (c : Nat) (xs S : List (Int × Int)) (w : World) (X : Hid (RdF w A xs)) (h0 : 0 < xs.length) (hn : xs.length ≤ 64) (hall : ∀ x ∈ xs, okB x.1 x.2 = true) (hp : S.Perm xs) (hs : S.Pairwise leF) (P Q C : Int) (hv : smV (midO S) = .tuple #[fr P Q, .int .i64 C]) :
    Calls Try.prog 95 #[.slice A xs.length c] w fun e w' => e = .returned (.tuple #[fr P Q, .int .i64 C]) ∧ Gr w w' := by
  have hl : S.length = xs.length := hp.length_eq
  unfold midO at hv
  rw [hl] at hv
  by_cases ho : xs.length % 2 = 1
  · rw [if_pos ho] at hv
    rw [← hv]
    exact smid_odd A c xs S w X hn hall hp hs ho _ _ (getD_lt2 (by omega))
  · rw [if_neg ho] at hv
    obtain ⟨h, hh⟩ : ∃ h, xs.length = 2 * (h + 1) := ⟨xs.length / 2 - 1, by omega⟩
    have e1 : xs.length / 2 - 1 = h := by omega
    have e2 : xs.length / 2 = h + 1 := by omega
    rw [e1, e2] at hv
    exact smid_even A c xs S w X h0 hn hall hp hs (by omega) h hh _ _ (getD_lt2 (by omega)) (getD_lt2 (by omega)) P Q C hv
/-! both sides -/
set_option maxRecDepth 20000 in
set_option maxHeartbeats 400000 in
theorem sMid_no (g : Nat) (xs : List (Int × Int)) (c : Int) (w : World) (T : TypeId) (X1 : Hid (w.heap[g]? = some (.cells (flatA xs) T))) (hn : xs.length ≤ 1048576) (hc : lstC xs 1 = c) (h0 : c ≠ 0) :
    Calls Try.prog 34 #[sl g xs.length] w fun e w' => e = .returned (.tuple #[fr 0 0, .int .i64 c]) ∧ Gr w w' := by
  have SL : ∀ w, Hid (w.heap[g]? = some (.cells (flatA xs) T)) → Calls Try.prog 94 #[sl g xs.length, .int .i64 1] w fun e w' => e = .returned (.int .i64 c) ∧ Gr w w' := fun w X => (slist g xs 1 w T X hn (by omega) (by omega)).mono fun e w' ⟨he, hg⟩ => ⟨by rw [he, hc], hg⟩
  have SL := hid SL
  have c1 : ((c : Int) == 0) = false := by simpa using h0
  have c2 : ((c : Int) != 0) = true := by simpa using h0
  clear hc h0
  go_enter Try.func34, Try.ntmps34
  have _ := ltb X1.out
  go_wp2_with fail
  refine (SL.out _ (hid (((Gr.refl _).al _).keep X1.out))).mono ?_
  rintro e w1 ⟨rfl, hg1⟩
  obtain ⟨x1_0, hz1, g1⟩ := alloc1 hg1
  have x1_1 := g1.keep X1.out
  obtain ⟨_, _⟩ := cells2 x1_0
  have _ := fz x1_0
  have _ := ltb x1_0
  have _ := ltb x1_1
  have X1_0 := hid x1_0; clear x1_0
  have X1_1 := hid x1_1; clear x1_1
  have G1 := hid (g1)
  clear hg1 g1
  go_wp2
  refine bodyPost_ret (v := .tuple #[fr 0 0, .int .i64 c]) (by simp [results, Try.results34, go_sem, *]) rfl ⟨rfl, ?_⟩
  exact ((G1.out).setCell (by simp <;> omega) _).setCell (by simp <;> omega) _
set_option maxRecDepth 20000 in
set_option maxHeartbeats 400000 in
theorem sMid_yes (g : Nat) (xs : List (Int × Int)) (P Q C : Int) (w : World) (T : TypeId) (X1 : Hid (w.heap[g]? = some (.cells (flatA xs) T))) (hn : xs.length ≤ 1048576) (hc : lstC xs 1 = 0)
    (hm : ∀ w, Hid (w.heap[g]? = some (.cells (flatA xs) T)) → Calls Try.prog 95 #[sl g xs.length] w fun e w' => e = .returned (.tuple #[fr P Q, .int .i64 C]) ∧ Gr w w') :
    Calls Try.prog 34 #[sl g xs.length] w fun e w' => e = .returned (.tuple #[fr P Q, .int .i64 C]) ∧ Gr w w' := by
  have SL : ∀ w, Hid (w.heap[g]? = some (.cells (flatA xs) T)) → Calls Try.prog 94 #[sl g xs.length, .int .i64 1] w fun e w' => e = .returned (.int .i64 0) ∧ Gr w w' := fun w X => (slist g xs 1 w T X hn (by omega) (by omega)).mono fun e w' ⟨he, hg⟩ => ⟨by rw [he, hc], hg⟩
  have SL := hid SL; have HM := hid hm; clear hc hm
  go_enter Try.func34, Try.ntmps34
  have _ := ltb X1.out
  go_wp2_with fail
  refine (SL.out _ (hid (((Gr.refl _).al _).keep X1.out))).mono ?_
  rintro e w1 ⟨rfl, hg1⟩
  obtain ⟨x1_0, hz1, g1⟩ := alloc1 hg1
  have x1_1 := g1.keep X1.out
  obtain ⟨_, _⟩ := cells2 x1_0
  have _ := fz x1_0
  have _ := ltb x1_0
  have _ := ltb x1_1
  have X1_0 := hid x1_0; clear x1_0
  have X1_1 := hid x1_1; clear x1_1
  have G1 := hid (g1)
  clear hg1 g1
  go_wp2_with fail
  refine (HM.out _ (hid X1_1.out)).mono ?_
  rintro e w2 ⟨rfl, hg2⟩
  have x2_1 := hg2.keep X1_0.out
  have x2_2 := hg2.keep X1_1.out
  obtain ⟨_, _⟩ := cells2 x2_1
  have _ := fz x2_1
  have _ := ltb x2_1
  have _ := ltb x2_2
  have X2_1 := hid x2_1; clear x2_1
  have X2_2 := hid x2_2; clear x2_2
  have G2 := hid (G1.out.trans hg2)
  clear hg2
  go_wp2
  refine bodyPost_ret (v := .tuple #[fr P Q, .int .i64 C]) (by simp [results, Try.results34, go_sem, *]) rfl ⟨rfl, ?_⟩
  exact ((G2.out).setCell (by simp <;> omega) _).setCell (by simp <;> omega) _
set_option maxRecDepth 20000 in
set_option maxHeartbeats 400000 in
theorem iMiddleOf (g n : Nat) (P Q C : Int) (w : World) (h : ∀ w', Gr w w' → Calls Try.prog 96 #[sl g n, .int .i64 1, .func (.func 97) #[] #[]] w' fun e w'' => e = .returned (.tuple #[fr P Q, .int .i64 C]) ∧ Gr w' w'') :
    Calls Try.prog 35 #[sl g n] w fun e w' => e = .returned (.tuple #[fr P Q, .int .i64 C]) ∧ Gr w w' := by
  have H := hid h; clear h
  go_enter Try.func35, Try.ntmps35
  go_wp2_with fail
  refine (H.out _ ((Gr.refl _).al _)).mono ?_
  rintro e w1 ⟨rfl, hg1⟩
  obtain ⟨x1_0, hz1, g1⟩ := alloc1 hg1
  obtain ⟨_, _⟩ := cells2 x1_0
  have _ := fz x1_0
  have _ := ltb x1_0
  have X1_0 := hid x1_0; clear x1_0
  have G1 := hid (g1)
  clear hg1 g1
  go_wp2
  refine bodyPost_ret (v := .tuple #[fr P Q, .int .i64 C]) (by simp [results, Try.results35, go_sem, *]) rfl ⟨rfl, ?_⟩
  exact ((G1.out).setCell (by simp <;> omega) _).setCell (by simp <;> omega) _
theorem told_middle (g : Nat) (xs S : List (Int × Int)) (P Q C : Int) (w : World) (k1 k2 : Nat) (T T1 T2 : TypeId) (X1 : Hid (w.heap[k1]? = some (.cells #[.func (.func 97) #[] #[]] T1))) (X2 : Hid (w.heap[k2]? = some (.cells #[sl g xs.length] T2))) (X3 : Hid (w.heap[g]? = some (.cells (flatA xs) T)))
    (h0 : 0 < xs.length) (hn : xs.length ≤ 64) (hall : ∀ x ∈ xs, okB x.1 x.2 = true) (hp : S.Perm xs) (hs : S.Pairwise leF) (hv : smV (midO S) = .tuple #[fr P Q, .int .i64 C]) :
    Calls Try.prog 75 #[.func (.func 172) #[] #[.pointer (some ⟨k1, 0, none⟩), .pointer (some ⟨k2, 0, none⟩)]] w fun e w' => e = .returned (.tuple #[fr P Q, .int .i64 C]) ∧ Gr w w' := by
  have HM := fun (w3 : World) (hg : Gr w w3) => imiddle (some ⟨g, 0, none⟩) xs.length xs S w3 (hid (RdF.of_block (hg.keep X3.out))) h0 hn hall hp hs
  rw [← hv]
  cases ho : midO S with
  | some r =>
    obtain ⟨A, B⟩ := r
    rw [ho] at HM
    exact told_ok_F 172 _ _ _ w (fun _ => by kernel_rfl) fun w' hg' => clist_ok 97 g xs.length _ _ w' k1 k2 T1 T2 (hid (hg'.keep X1.out)) (hid (hg'.keep X2.out)) (fun _ => by kernel_rfl) fun w'' hg'' => OutF.yes (HM w'' (hg'.trans hg''))
  | none =>
    rw [ho] at HM
    exact told_great_F 172 _ w (fun _ => by kernel_rfl) fun w' hg' => clist_bad 97 g xs.length w' k1 k2 T1 T2 (hid (hg'.keep X1.out)) (hid (hg'.keep X2.out)) (fun _ => by kernel_rfl) fun w'' hg'' => OutF.no (HM w'' (hg'.trans hg''))
theorem sorted_ex (xs : List (Int × Int)) (hall : ∀ x ∈ xs, okB x.1 x.2 = true) : ∃ S : List (Int × Int), S.Perm xs ∧ S.Pairwise leF := by
  have pos : ∀ x ∈ xs, 0 < x.2 := fun x hx => by have := (okB_bd (hall x hx)).1; omega
  clear hall
  induction xs with
  | nil => exact ⟨[], by simp, by simp⟩
  | cons x r ih =>
    obtain ⟨S, h1, h2⟩ := ih fun y hy => pos y (List.mem_cons_of_mem _ hy)
    have hx := pos x (by simp)
    have hS : ∀ y ∈ S, 0 < y.2 := fun y hy => pos y (List.mem_cons_of_mem _ (h1.mem_iff.1 hy))
    have key : ∀ T : List (Int × Int), T.Pairwise leF → (∀ y ∈ T, 0 < y.2) → ∃ U : List (Int × Int), U.Perm (x :: T) ∧ U.Pairwise leF := by
      intro T
      induction T with
      | nil => intro _ _; exact ⟨[x], by simp, by simp⟩
      | cons z t iht =>
        intro ht hp
        obtain ⟨hz, ht2⟩ := List.pairwise_cons.1 ht
        have hzp := hp z (by simp)
        by_cases hxz : leF x z
        · refine ⟨x :: z :: t, List.Perm.refl _, List.pairwise_cons.2 ⟨fun y hy => ?_, ht⟩⟩
          rcases List.mem_cons.1 hy with rfl | hy
          · exact hxz
          · exact leF_trans hx hzp (hp y (by simp [hy])) hxz (hz y hy)
        · obtain ⟨U, u1, u2⟩ := iht ht2 fun y hy => hp y (List.mem_cons_of_mem _ hy)
          refine ⟨z :: U, (u1.cons z).trans (List.Perm.swap x z t), List.pairwise_cons.2 ⟨fun y hy => ?_, u2⟩⟩
          rcases List.mem_cons.1 (u1.mem_iff.1 hy) with rfl | hy
          · unfold leF at *; omega
          · exact hz y hy
    obtain ⟨U, u1, u2⟩ := key S h2 hS
    exact ⟨U, u1.trans (h1.cons x), u2⟩
theorem bothMiddleOf (xs : List (Int × Int)) (hn : xs.length ≤ 1048576) : ∃ P Q C : Int,
    (∀ (w : World) (g : Nat) (T : TypeId), Hid (w.heap[g]? = some (.cells (flatA xs) T)) → Calls Try.prog 34 #[sl g xs.length] w fun e w' => e = .returned (.tuple #[fr P Q, .int .i64 C]) ∧ Gr w w') ∧
    (∀ (w : World) (g : Nat) (T : TypeId), Hid (w.heap[g]? = some (.cells (flatA xs) T)) → Calls Try.prog 35 #[sl g xs.length] w fun e w' => e = .returned (.tuple #[fr P Q, .int .i64 C]) ∧ Gr w w') := by
  by_cases hc : lstC xs 1 = 0
  · have hall := fun x hx => List.all_eq_true.1 (lst_all hc) x hx
    obtain ⟨n1, n2⟩ := lst_len hc
    obtain ⟨S, hp, hs⟩ := sorted_ex xs hall
    obtain ⟨P, Q, C, hv⟩ := smV_form (midO S)
    exact ⟨P, Q, C, fun w g T X => sMid_yes g xs P Q C w T X hn hc fun w X => smiddle _ _ xs S w (hid (RdF.of_block X.out)) (by omega) (by omega) hall hp hs P Q C hv, fun w g T X => iMiddleOf g xs.length P Q C w fun w' hg => olist_yes 97 g xs 1 P Q C w' T (hid (hg.keep X.out)) hn (by omega) (by omega) hc fun w k1 k2 T1 T2 X1 X2 X3 => told_middle g xs S P Q C w k1 k2 T T1 T2 X1 X2 X3 (by omega) (by omega) hall hp hs hv⟩
  · exact ⟨0, 0, _, fun w g T X => sMid_no g xs _ w T X hn rfl hc, fun w g T X => iMiddleOf g xs.length 0 0 _ w fun w' hg => olist_no 97 g xs 1 _ w' T (hid (hg.keep X.out)) hn (by omega) (by omega) rfl hc⟩
end Go.Proofs.Ytnbdafecgccojaa
