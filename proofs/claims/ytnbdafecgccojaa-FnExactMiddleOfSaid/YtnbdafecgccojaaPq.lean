/- SORTED: the reference's sort of integers is List.mergeSort. -/
import Derived.Test.YtnbdafecgccojaaIv
import Derived.Test.YtnbdafecgccojaaReg
namespace Go.Proofs.Ytnbdafecgccojaa
open Go.RowKit Go.Sort

/-! pure -/
def sw (xs : List Int) (k : Nat) : List Int := (xs.set (k + 1) (xs.getD k 0)).set k (xs.getD (k + 1) 0)
def sink : Nat → List Int → List Int
  | 0, xs => xs
  | k + 1, xs => if xs.getD (k + 1) 0 < xs.getD k 0 then sink k (sw xs k) else xs
def isrt : Nat → List Int → List Int
  | 0, xs => xs
  | k + 1, xs => sink (k + 1) (isrt k xs)
theorem sw_len (xs : List Int) (k : Nat) : (sw xs k).length = xs.length := by simp [sw]
theorem sink_len : ∀ (k : Nat) (xs : List Int), (sink k xs).length = xs.length
  | 0, _ => rfl
  | k + 1, xs => by
    unfold sink
    split
    · rw [sink_len k, sw_len]
    · rfl
theorem isrt_len : ∀ (k : Nat) (xs : List Int), (isrt k xs).length = xs.length
  | 0, _ => rfl
  | k + 1, xs => by unfold isrt; rw [sink_len, isrt_len k]
theorem getD_lt {xs : List Int} {k : Nat} (h : k < xs.length) : xs.getD k 0 = xs[k] := by simp [List.getD_eq_getElem?_getD, h]
theorem sw_perm {xs : List Int} {k : Nat} (h : k + 1 < xs.length) : (sw xs k).Perm xs := by
  unfold sw
  rw [getD_lt h, getD_lt (Nat.lt_of_succ_lt h)]
  exact List.set_set_perm h (Nat.lt_of_succ_lt h)
theorem sink_perm : ∀ (k : Nat) (xs : List Int), k < xs.length → (sink k xs).Perm xs
  | 0, _, _ => .refl _
  | k + 1, xs, h => by
    unfold sink
    split
    · exact (sink_perm k _ (by rw [sw_len]; omega)).trans (sw_perm h)
    · exact .refl _
theorem isrt_perm : ∀ (k : Nat) (xs : List Int), k < xs.length → (isrt k xs).Perm xs
  | 0, _, _ => .refl _
  | k + 1, xs, h => by
    unfold isrt
    exact (sink_perm _ _ (by rw [isrt_len]; exact h)).trans (isrt_perm k xs (Nat.lt_of_succ_lt h))
theorem sw_get {xs : List Int} {k : Nat} (h : k + 1 < xs.length) (i : Nat) : (sw xs k).getD i 0 = if i = k then xs.getD (k + 1) 0 else if i = k + 1 then xs.getD k 0 else xs.getD i 0 := by
  unfold sw
  simp only [List.getD_eq_getElem?_getD, List.getElem?_set, List.length_set]
  by_cases h1 : i = k
  · subst h1
    have : i < xs.length := by omega
    simp [this]
  · by_cases h2 : i = k + 1
    · subst h2; simp [h]
    · rw [if_neg (fun e => h1 e.symm), if_neg (fun e => h2 e.symm), if_neg h1, if_neg h2]
theorem sink_sorted (m : Nat) : ∀ (k : Nat) (xs : List Int), k < m → m ≤ xs.length → (∀ a b, a < b → b < m → a ≠ k → b ≠ k → xs.getD a 0 ≤ xs.getD b 0) → (∀ b, k < b → b < m → xs.getD k 0 ≤ xs.getD b 0) →
    ∀ a b, a < b → b < m → (sink k xs).getD a 0 ≤ (sink k xs).getD b 0
  | 0, xs, _, _, h1, h2, a, b, hab, hb => by
    unfold sink
    by_cases ha : a = 0
    · subst ha; exact h2 b hab hb
    · exact h1 a b hab hb ha (by omega)
  | k + 1, xs, hk, hm, h1, h2, a, b, hab, hb => by
    unfold sink
    split
    next hlt =>
      have hs := sw_get (xs := xs) (k := k) (by omega)
      refine sink_sorted m k (sw xs k) (by omega) (by rw [sw_len]; exact hm) ?_ ?_ a b hab hb
      · intro a b hab hb ha hb'
        rw [hs a, hs b, if_neg ha, if_neg hb']
        by_cases ha1 : a = k + 1
        · rw [if_pos ha1, if_neg (by omega)]
          exact h1 k b (by omega) hb (by omega) (by omega)
        · rw [if_neg ha1]
          by_cases hb1 : b = k + 1
          · rw [if_pos hb1]
            exact h1 a k (by omega) (by omega) ha1 (by omega)
          · rw [if_neg hb1]
            exact h1 a b hab hb ha1 hb1
      · intro b hkb hb
        rw [hs k, hs b, if_pos rfl, if_neg (by omega)]
        by_cases hb1 : b = k + 1
        · rw [if_pos hb1]; omega
        · rw [if_neg hb1]
          exact h2 b (by omega) hb
    next hge =>
      by_cases ha : a = k + 1
      · subst ha; exact h2 b hab hb
      · by_cases hb1 : b = k + 1
        · subst hb1
          by_cases hak : a = k
          · subst hak; omega
          · have := h1 a k (by omega) (by omega) ha (by omega)
            omega
        · exact h1 a b hab hb ha hb1
theorem isrt_sorted : ∀ (k : Nat) (xs : List Int), k < xs.length → ∀ a b, a < b → b < k + 1 → (isrt k xs).getD a 0 ≤ (isrt k xs).getD b 0
  | 0, _, _, a, b, _, _ => by omega
  | k + 1, xs, h, a, b, hab, hb => by
    unfold isrt
    exact sink_sorted (k + 2) (k + 1) _ (by omega) (by rw [isrt_len]; omega) (fun a b hab hb ha hb' => isrt_sorted k xs (by omega) a b hab (by omega)) (fun b hb hb' => by omega) a b hab hb
/-- The sorted list. -/
def srt (xs : List Int) : List Int := isrt (xs.length - 1) xs
theorem srt_len (xs : List Int) : (srt xs).length = xs.length := isrt_len _ _
theorem srt_perm (xs : List Int) : (srt xs).Perm xs := by
  unfold srt
  cases xs with
  | nil => exact .refl _
  | cons x r => exact isrt_perm _ _ (by simp)
theorem srt_pair (xs : List Int) : (srt xs).Pairwise (· ≤ ·) := by
  rw [List.pairwise_iff_getElem]
  intro i j hi hj hij
  rw [srt_len] at hi hj
  have h := isrt_sorted (xs.length - 1) xs (by omega) i j hij (by omega)
  rw [getD_lt (by rw [isrt_len]; exact hi), getD_lt (by rw [isrt_len]; exact hj)] at h
  exact h
theorem sorted_unique {xs ys : List Int} (hp : xs.Perm ys) (h1 : xs.Pairwise (· ≤ ·)) (h2 : ys.Pairwise (· ≤ ·)) : xs = ys :=
  List.Perm.eq_of_pairwise (le := (· ≤ ·)) (fun a b _ _ h h' => by omega) h1 h2 hp
theorem srt_merge (xs : List Int) : srt xs = xs.mergeSort (fun x y => decide (x ≤ y)) := by
  refine sorted_unique ((srt_perm xs).trans (List.mergeSort_perm _ _).symm) (srt_pair xs) ?_
  have := List.pairwise_mergeSort (le := fun (x y : Int) => decide (x ≤ y)) (fun a b c => by simp; omega) (fun a b => by simp; omega) xs
  exact this.imp (by simp)
theorem srt_mem {xs : List Int} {x : Int} (h : x ∈ srt xs) : x ∈ xs := (srt_perm xs).mem_iff.1 h

/-! the walk -/
set_option maxRecDepth 20000 in
set_option maxHeartbeats 2000000 in
theorem sSorted (A : Option Addr) (c : Nat) (xs : List Int) (w : World) (X : Hid (RdI w A xs)) (h0 : 0 < xs.length) (hn : xs.length ≤ 1048576) :
    Calls Try.prog 177 #[.slice A xs.length c] w fun e w' => ∃ A' c', e = .returned (.slice A' xs.length c') ∧ w'.ownsRow w.heap.size 2 1 (.slice A' xs.length c') xs.length ((srt xs).map (.int .i64 ·)) ∧ Gr w w' := by
  obtain ⟨i0, hi, iz0, iz1, iz2⟩ : ∃ i, Try.prog.info? 2 = some i ∧ i.zero = some (.int .i64 0) ∧ i.size = 1 ∧ i.bytes = 8 := ⟨_, rfl, rfl, rfl, rfl⟩
  obtain ⟨ad, rfl, _⟩ := X.out 0 xs[0] (List.getElem?_eq_getElem _)
  have NEW : Hid (∀ (j : Nat) (u : Value), (xs.map (Value.int .i64 ·))[j]? = some u → (w.alloc (.cells #[] 2)).cell? (ad.add j) = some u) := fun j u hj => by
    rw [List.getElem?_map, Option.map_eq_some_iff] at hj
    obtain ⟨p, hp, rfl⟩ := hj
    obtain ⟨ad', e, hc⟩ := (X.out.keep ((Gr.refl w).al (.cells #[] 2))) j p hp
    cases e
    exact hc
  go_enter Try.func177, Try.ntmps177
  go_wp2_with (at_builtin; refine wpList_append_gr rfl _ _ 59 rfl w.heap.size 2 i0 (.int .i64 0) 1 8 Try.underlying59 hi iz0 iz1 iz2 rfl (by decide) _ 0 [] rfl (World.ownsRow_made _ #[] 0 (Nat.le_refl _) (by simp [maxLen]) (by simp)) ad xs.length c (xs.map (Value.int .i64 ·)) rfl (by simp) NEW.out (by simp [Value.oneCell']) h0 (by unfold maxLen; omega) (by omega) (by simp) ?_)
  intro v' w2 own2 _ _ hgr
  obtain ⟨A2, c2, rfl⟩ := own_form own2
  have own3 : w2.ownsRow w.heap.size 2 1 (.slice A2 xs.length c2) xs.length (xs.map (Value.int .i64 ·)) := by simpa using own2
  obtain ⟨g, rest, rfl, hbg, hg, hc, hl⟩ := own_open own3 h0
  have G2 := hid (hgr w ((Gr.refl w).al _) (Nat.le_refl _)); have XG := hid hg
  clear own2 own3 hgr hg NEW X
  go_wp2_with fail
  go_loopw [4] (fun u wr => ∃ (k : Nat), u = .int .i64 ((k : Int) + 1) ∧ k + 1 ≤ xs.length ∧ Gr w wr ∧ wr.heap[g]? = some (.cells (intR (isrt k xs) rest) 2)) (fun u _ => xs.length - (intOf u).toNat)
  case atStart => exact ⟨0, rfl, by omega, G2.out, XG.out⟩
  case round =>
    obtain ⟨k, rfl, hk, hgr, hx0⟩ := hrel
    have GR := hid hgr; have X0 := hid hx0
    clear hgr hx0
    obtain ⟨W4, hW4⟩ : ∃ W4, W4 = wr := ⟨_, rfl⟩
    subst hW4
    by_cases hlt : k + 1 < xs.length
    · go_wp2_with fail
      have hd : decide ((k : Int) + 1 < (xs.length : Int)) = true := by simp; omega
      simp only [hd]
      go_loopw [5] (fun u wr => ∃ (j : Nat) (ys : List Int), u = .int .i64 (j : Int) ∧ j < xs.length ∧ ys.length = xs.length ∧ sink j ys = isrt (k + 1) xs ∧ Gr w wr ∧ wr.heap[g]? = some (.cells (intR ys rest) 2)) (fun u _ => (intOf u).toNat)
      case atStart => exact ⟨k + 1, isrt k xs, by simp, hlt, isrt_len _ _, rfl, GR.out, X0.out⟩
      case round =>
        obtain ⟨j, ys, rfl, hj, hyl, hsk, hgr1, hx1⟩ := hrel
        have GR1 := hid hgr1; have X1 := hid hx1; have SK := hid hsk; have YL := hid hyl
        clear hgr1 hx1 hsk hyl
        cases j with
        | zero =>
          go_wp2_with fail
          refine wp_reg0 13 (by kernel_rfl) (by kernel_rfl) ?_
          apply Exists.intro
          refine ⟨fun wb hb => ?_, ?_⟩
          · simp only [headOps, List.contains, List.elem, reduceIte, Bool.false_eq_true]
            repeat (first | go_big_quiet_step (first | (fail)) | quiet_step (fail))
            exact wpQuiet_nil rfl
          intro w5 hg5
          have X5 := hid (hg5.keep X1.out); have G5 := hid (GR1.out.trans hg5)
          clear hg5
          go_wp2_with fail
          exact ⟨⟨k + 1, by simp, by omega, G5.out, by rw [← SK.out]; exact X5.out⟩, by simp [intOf]; omega⟩
        | succ j =>
          obtain ⟨p, hp⟩ : ∃ p, ys[j]? = some p := ⟨ys[j]'(by rw [YL.out]; omega), List.getElem?_eq_getElem _⟩
          obtain ⟨q, hq⟩ : ∃ q, ys[j + 1]? = some q := ⟨ys[j + 1]'(by rw [YL.out]; omega), List.getElem?_eq_getElem _⟩
          have C1 := hid (intR_cell X1.out hp); have C2 := hid (intR_cell X1.out hq)
          have hgp : ys.getD j 0 = p := by simp [List.getD_eq_getElem?_getD, hp]
          have hgq : ys.getD (j + 1) 0 = q := by simp [List.getD_eq_getElem?_getD, hq]
          by_cases hpq : q < p
          · have hs : sink j (sw ys j) = isrt (k + 1) xs := by rw [← SK.out]; show _ = sink (j + 1) ys; unfold sink; rw [hgp, hgq, if_pos hpq]; cases j <;> rfl
            have hsw : sw ys j = (ys.set (j + 1) p).set j q := by unfold sw; rw [hgp, hgq]
            have HS := hid hs; have HSW := hid hsw; have HP := hid hp; have HQ := hid hq
            clear hs hsw hgp hgq hp hq
            go_wp2_with fail
            refine wp_reg0 13 (by kernel_rfl) (by kernel_rfl) ?_
            apply Exists.intro
            refine ⟨fun wb hb => ?_, ?_⟩
            · have _ := hb.atA C1.out
              have _ := hb.atA C2.out
              simp only [headOps, List.contains, List.elem, reduceIte, Bool.false_eq_true]
              repeat (first | go_big_quiet_step (first | (fail)) | quiet_step (fail))
              exact wpQuiet_nil rfl
            intro w5 hg5
            have X5 := hid (hg5.keep X1.out); have G5 := hid (GR1.out.trans hg5)
            clear hg5
            have c1 := intR_cell X5.out HP.out; have c2 := intR_cell X5.out HQ.out
            have f5 := fz X5.out
            have s2 := intR_store q (intR_store p X5.out (k := j + 1) (by rw [YL.out]; omega)) (k := j) (by rw [List.length_set, YL.out]; omega)
            rw [← HSW.out] at s2
            have S2 := hid s2
            clear s2
            go_wp2_with fail
            exact ⟨⟨j, sw ys j, by simp, by omega, by rw [sw_len, YL.out], HS.out, (G5.out.setCell (by simp; omega) _).setCell (by simp; omega) _, S2.out⟩, by simp [intOf]⟩
          · have hs : ys = isrt (k + 1) xs := by rw [← SK.out]; show _ = sink (j + 1) ys; unfold sink; rw [hgp, hgq, if_neg hpq]
            have HS := hid hs
            clear hs hgp hgq hp hq
            go_wp2_with fail
            refine wp_reg0 13 (by kernel_rfl) (by kernel_rfl) ?_
            apply Exists.intro
            refine ⟨fun wb hb => ?_, ?_⟩
            · have _ := hb.atA C1.out
              have _ := hb.atA C2.out
              simp only [headOps, List.contains, List.elem, reduceIte, Bool.false_eq_true]
              repeat (first | go_big_quiet_step (first | (fail)) | quiet_step (fail))
              exact wpQuiet_nil rfl
            intro w5 hg5
            have X5 := hid (hg5.keep X1.out); have G5 := hid (GR1.out.trans hg5)
            clear hg5
            go_wp2_with fail
            exact ⟨⟨k + 1, by simp, by omega, G5.out, by rw [← HS.out]; exact X5.out⟩, by simp [intOf]; omega⟩
    · have hke : k = xs.length - 1 := by omega
      subst hke
      go_wp2_with fail
      go_ret
      have h := X0.out
      have e2 : xs.length = (isrt (xs.length - 1) xs).length := (isrt_len _ _).symm
      refine ⟨some ⟨g, 0, none⟩, c2, rfl, ?_, GR.out⟩
      have h2 := own_close (ys := isrt (xs.length - 1) xs) hbg h hc (by rw [isrt_len]; exact hl)
      rw [isrt_len] at h2
      exact h2
end Go.Proofs.Ytnbdafecgccojaa
namespace Go.Proofs.Ytnbdafecgccojaa
open Go.RowKit Go.Sort

def bdI (xs : List Int) : Prop := ∀ x ∈ xs, -2305843009213693952 ≤ x ∧ x ≤ 2305843009213693952
/-- Two times the median. -/
def twM (xs : List Int) : Int := (srt xs).getD ((xs.length - 1) / 2) 0 + (srt xs).getD (xs.length / 2) 0
theorem half_of (n : Nat) : (n : Int).tdiv 2 = ((n / 2 : Nat) : Int) := by simp
theorem srt_at {xs : List Int} {k : Nat} (h : k < xs.length) (hb : bdI xs) : ∃ p, (srt xs)[k]? = some p ∧ (srt xs).getD k 0 = p ∧ -2305843009213693952 ≤ p ∧ p ≤ 2305843009213693952 := by
  have hk : k < (srt xs).length := by rw [srt_len]; exact h
  refine ⟨(srt xs)[k], List.getElem?_eq_getElem _, getD_lt hk, ?_⟩
  exact hb _ (srt_mem (List.getElem_mem hk))
set_option maxRecDepth 20000 in
set_option maxHeartbeats 2000000 in
theorem sTwice (A : Option Addr) (c : Nat) (xs : List Int) (w : World) (X : Hid (RdI w A xs)) (h0 : 0 < xs.length) (hn : xs.length ≤ 1048576) (hb : bdI xs) :
    Calls Try.prog 100 #[.slice A xs.length c] w fun e w' => e = .returned (.int .i64 (twM xs)) ∧ Gr w w' := by
  obtain ⟨p, hp, gp, bp1, bp2⟩ := srt_at (xs := xs) (k := (xs.length - 1) / 2) (by omega) hb
  obtain ⟨q, hq, gq, bq1, bq2⟩ := srt_at (xs := xs) (k := xs.length / 2) (by omega) hb
  have e : twM xs = p + q := by unfold twM; rw [gp, gq]
  rw [e]
  have HP := hid hp; have HQ := hid hq
  clear gp gq e hp hq hb
  go_enter Try.func100, Try.ntmps100
  go_wp2_with fail
  refine (sSorted A c xs _ X h0 hn).mono ?_
  rintro e w1 ⟨A', c', rfl, own, hg⟩
  have R := RdI.of_own own
  obtain ⟨a1, e1, c1⟩ := R _ _ HP.out
  obtain ⟨a2, e2, c2⟩ := R _ _ HQ.out
  subst e1
  injection e2 with e2
  subst e2
  have G := hid hg; have C1 := hid c1; have C2 := hid c2
  clear own hg R c1 c2
  have i1 : ((xs.length : Int) - 1).tdiv 2 = (((xs.length - 1) / 2 : Nat) : Int) := by
    have : ((xs.length : Int) - 1) = ((xs.length - 1 : Nat) : Int) := by omega
    rw [this, half_of]
  have i2 : (xs.length : Int).tdiv 2 = ((xs.length / 2 : Nat) : Int) := half_of _
  obtain ⟨m1, hm1⟩ : ∃ m, (xs.length - 1) / 2 = m := ⟨_, rfl⟩
  obtain ⟨m2, hm2⟩ : ∃ m, xs.length / 2 = m := ⟨_, rfl⟩
  have l1 : m1 < xs.length := by omega
  have l2 : m2 < xs.length := by omega
  rw [hm1] at i1 C1; rw [hm2] at i2 C2
  clear hm1 hm2 HP HQ
  go_wp2_with fail
  refine wp_reg0 11 (by kernel_rfl) (by kernel_rfl) ?_
  apply Exists.intro
  refine ⟨fun wb hb => ?_, ?_⟩
  · have _ := hb.atA C1.out
    have _ := hb.atA C2.out
    simp only [headOps, List.contains, List.elem, reduceIte, Bool.false_eq_true]
    repeat (first | go_big_quiet_step (first | (fail)) | quiet_step (fail))
    exact wpQuiet_nil rfl
  intro w5 hg5
  have G5 := hid (G.out.trans hg5)
  clear hg5
  go_wp2_with fail
  go_ret
  exact ⟨rfl, G5.out⟩
end Go.Proofs.Ytnbdafecgccojaa
